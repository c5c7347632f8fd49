/-
  graph.Right.
  graph: isPlace, Ahead, Apart, count, Find.
  graph.Find.
  Own slices with their blocks as a footprint.
  graph.past: what is marked, as a map.
  graph.Past.
  The reference: Find, In, SameInts.
  The reference: turn.
  The reference: Past.
  The reference: SameInts, Member, Less.
  The reference: kind.
  What the reference's Right asks, and what the program's asks: the same.
  The first nodes of a graph, as a slice of it.
  The reference: SameKeys.
  The reference: Great.
  Keys in order: the comparison is the order of lists; sorted lists are told by their members.
  cabalref11.Right: what it asks of an operation.
  slices.Clone at numbers, keys, boxes: what is copied lies in new memory.
  deep.Op: an operation, copied into new memory.
  deep.Nodes: a graph, copied into new memory.
  What holds of right graphs: pasts, authors, heads.
  cabalref15.Right: is it a graph?
  Keys sorted: the insertion sort of the library, for at most twelve of them.
  graph.Heads.
-/
import Derived.Test.YtdeccbjdhcifiaaKD
import Derived.Test.YtdeccbjdhcifiaaKB
import Derived.Test.YtdeccbjdhcifiaaTabK
import Derived.Test.YtdeccbjdhcifiaaKC
namespace Go.Proofs.Ytdeccbjdhcifiaa
open Go Go.RowKit
set_option linter.unusedSimpArgs false
set_option linter.unusedVariables false
set_option maxRecDepth 100000
set_option maxHeartbeats 4000000
section
def inB (l : List NodeD) (n : Nat) (ps : List (List Int)) (k : Nat) : Bool := ps.any fun p => match findN l n p with | some a => decide (a = k) || decide ((k : Int) ∈ (nd l a).past) | none => false
def pastL (l : List NodeD) (n : Nat) (ps : List (List Int)) : List Int := ((List.range n).filter (inB l n ps)).map fun k : Nat => (k : Int)
def autN (l : List NodeD) (n : Nat) (x : Int) : Nat := ((List.range n).filter fun a => (nd l a).op.author == x).length
def autA (l : List NodeD) (n : Nat) (x : Int) (past : List Int) : Bool := (List.range n).all fun a => !((nd l a).op.author == x) || decide ((a : Int) ∈ past)
def turnB (l : List NodeD) (n : Nat) (o : OpD) (past : List Int) : Bool := (decide (o.kind = 1) == decide (n = 0)) && (autA l n o.author past && decide (o.seq = 1 + (autN l n o.author : Nat)))
def stepB (l : List NodeD) (i : Nat) : Bool := (nd l i).op.parents.all (fun p => (findN l i p).isSome) && (rightO (nd l i).op && ((findN l i (nd l i).id).isNone && (decide ((nd l i).past = pastL l i (nd l i).op.parents) && turnB l i (nd l i).op (nd l i).past)))
def rightG (l : List NodeD) : Bool := decide (l.length ≤ 96) && (List.range l.length).all (stepB l)
theorem mem_pastL {l : List NodeD} {n k : Nat} {ps : List (List Int)} : (k : Int) ∈ pastL l n ps ↔ k < n ∧ inB l n ps k = true := by
 unfold pastL
 rw [List.mem_map]
 constructor
 ·rintro ⟨a, ha, e⟩
  obtain rfl : a = k := by omega
  rw [List.mem_filter, List.mem_range] at ha
  exact ha
 ·rintro ⟨h1, h2⟩
  exact ⟨k, by rw [List.mem_filter, List.mem_range]; exact ⟨h1, h2⟩, rfl⟩
def Mk (l : List NodeD) (W : List Nat) (i : Nat) : Prop := ∀ r k, r < 96 → k < 128 → hasW W r k = (decide (r < i) && decide ((k : Int) ∈ (nd l r).past))
theorem own_in {l : List NodeD} {W : List Nat} {i k : Nat} {ps : List (List Int)} (hM : Mk l W i) (hi : i ≤ 96) (hk : k < 128) : ownB l W i ps k = inB l i ps k := by
 unfold ownB inB
 congr 1
 funext p
 cases hf : findN l i p with
 | none => rfl
 | some a =>
  have := findN_lt hf
  simp only []
  rw [hM a k (by omega) hk]
  simp [this]
theorem mk_row {l : List NodeD} {W W' : List Nat} {i : Nat} (hM : Mk l W i) (hi : i < 96) (h : ∀ r k, r < 96 → k < 128 → hasW W' r k = (hasW W r k || (decide (r = i) && ownB l W i (nd l i).op.parents k))) : ∀ k, k < 128 → hasW W' i k = inB l i (nd l i).op.parents k := fun k hk => by
 rw [h i k hi hk, hM i k hi hk, own_in hM (by omega) hk]
 simp
theorem mark_past {l : List NodeD} {W : List Nat} {i : Nat} {ps : List (List Int)} (h : ∀ k, k < 128 → hasW W i k = inB l i ps k) (hi : i ≤ 96) : markL W i i = pastL l i ps := by
 unfold markL pastL
 congr 1
 refine List.filter_congr fun k hk => ?_
 rw [List.mem_range] at hk
 exact h k (by omega)
theorem seq_turn {l : List NodeD} {W : List Nat} {i : Nat} (h : ∀ k, k < 128 → hasW W i k = inB l i (nd l i).op.parents k) (hi : i ≤ 96) (hp : (nd l i).past = pastL l i (nd l i).op.parents) (hk : (decide ((nd l i).op.kind = 1) == decide (i = 0)) = true) : seqB l W i = turnB l i (nd l i).op (nd l i).past := by
 unfold turnB seqB
 rw [hk, Bool.true_and]
 congr 1
 unfold seqA autA
 rw [Bool.eq_iff_iff, List.all_eq_true, List.all_eq_true]
 refine forall_congr' fun a => ?_
 refine imp_congr_right fun ha => ?_
 rw [List.mem_range] at ha
 rw [h a (by omega), hp]
 have : decide ((a : Int) ∈ pastL l i (nd l i).op.parents) = inB l i (nd l i).op.parents a := by
  rw [Bool.eq_iff_iff, decide_eq_true_eq, mem_pastL]
  exact ⟨fun h => h.2, fun h => ⟨ha, h⟩⟩
 rw [this]
theorem mk_next {l : List NodeD} {W W' : List Nat} {i : Nat} (hM : Mk l W i) (hi : i < 96) (h : ∀ r k, r < 96 → k < 128 → hasW W' r k = (hasW W r k || (decide (r = i) && ownB l W i (nd l i).op.parents k))) (hp : (nd l i).past = pastL l i (nd l i).op.parents) (hall : ∀ a, a < i → (nd l a).past = pastL l a (nd l a).op.parents) : Mk l W' (i + 1) := fun r k hr hk => by
 rw [h r k hr hk, hM r k hr hk]
 by_cases e : r = i
 ·subst e
  rw [own_in hM (by omega) hk, hp]
  simp only [Nat.lt_irrefl, decide_false, Bool.false_and, Bool.false_or, decide_true, Bool.true_and, Nat.lt_succ_self]
  rw [Bool.eq_iff_iff, decide_eq_true_eq, mem_pastL]
  refine ⟨fun hin => ⟨?_, hin⟩, fun h => h.2⟩
  unfold inB at hin
  rw [List.any_eq_true] at hin
  obtain ⟨p, _, hin⟩ := hin
  cases hf : findN l r p with
  | none => rw [hf] at hin; cases hin
  | some a =>
   have hlt := findN_lt hf
   rw [hf] at hin
   simp only [Bool.or_eq_true, decide_eq_true_eq] at hin
   rcases hin with rfl | hin
   ·exact hlt
   ·rw [hall a hlt, mem_pastL] at hin
    omega
 ·have e1 : decide (r = i) = false := by simpa using e
  have e2 : decide (r < i + 1) = decide (r < i) := by
   by_cases h : r < i
   ·have : r < i + 1 := by omega
    simp [h, this]
   ·have : ¬ r < i + 1 := by omega
    simp [h, this]
  rw [e1, e2]
  simp
theorem rightG_bad {l : List NodeD} {i : Nat} (hi : i < l.length) (h : stepB l i = false) : rightG l = false := by
 unfold rightG
 have : (List.range l.length).all (stepB l) = false := by
  rw [List.all_eq_false]
  exact ⟨i, List.mem_range.2 hi, by rw [h]; decide⟩
 rw [this, Bool.and_false]
theorem wv_zero : wv (List.replicate 192 0) = iv .u64 (zl 192) := by kernel_rfl
theorem wzero_has (r k : Nat) : hasW (List.replicate 192 0) r k = false := by
 unfold hasW
 have : (List.replicate 192 0).getD (2 * r + k / 64) 0 = 0 := by
  rw [List.getD_eq_getElem?_getD, List.getElem?_replicate]
  split <;> rfl
 rw [this]
 exact Nat.zero_testBit _
theorem put_map {nro : Nat} {H : AH} {mi : Nat} {E : List (Value × Value)} {l : List NodeD} {i : Nat} {k : List Int} (hm : hget H mi = some (mblk 110 E)) (hE : MapP E l i) (hk : k.length = 32) (hn : nro ≤ mi) : xmapUpd Try.prog nro 110 (.map (some mi)) (.agg (iv .u8 k).toArray) (.int .i64 (i : Nat)) H = some (undef, H.set mi (some (mblk 110 (mput (kyv k) (.int .i64 (i : Nat)) E)))) := by
 have h1 : und Try.prog 110 = .map 38 3 := by kernel_rfl
 have h3 := kyv_ok hk
 unfold kyv at h3 ⊢
 unfold xmapUpd
 simp only [h1, hm, ents_mblk, h3, hE.ok]
 rw [if_pos ⟨hn, trivial, trivial, rfl⟩, mblk_ty]
theorem make_map (n : Nat) (H : AH) : xmakeMap Try.prog 110 (some (.int .i64 (n : Nat))) H = some (.map (some H.length), H ++ [some (mblk 110 [])]) := by
 have h1 : und Try.prog 110 = .map 38 3 := by kernel_rfl
 unfold xmakeMap
 simp only [h1]
attribute [local simp] wb_bool wb_undef with_lit XL_nil XL_cons XLc_val XLc_call step1_eq stepW_t stepW_f stepC_n stepC_s stepX_s stepX_n stepN_s calleeX xrecv oneV xop_eq xopR_s xopR_n wantedA_eq wantedG_n wantedG_s plain1_int plain1_bool plain1_string bits_i64 bits_u64 bits_u32 bits_u16 bits_u8 xeqA xagg xcmp xarr allK_iv num_iv calleeOf xread xeff xbin xint xnil xun xstr xload xconv xpart xfield xfieldAddr xindexAddr xindex bnd asInt? xslice xlen xmin xmax xbuild xfill xappend xapp2 xappstr xappmk xcap xcopy xcells eval_tmp eval_const put_at put_none fr0_at cells_agg cells_int cells_bool cells_string cells_ptr cells_slice notTuple tab iv_all hget_app hget_app0 hget_cons0 hget_cons set_app set_app0 setR setR_one QL_nil QL_cons QLc_val stepQ_t stepQ_f stepQC_n stepQC_s stepQX_s SL_nil SL_cons SLc_val stepS_t stepS_f ltT ltF leT leF eqT eqF ltTn ltFn leTn leFn eqTn eqFn beqT beqF bneT bneF wi64 wu64 wu32 wu16 wu8 tmodP tdivP hgetL hgetNe hgetEq setL nums_def nums_len Nat.succ_le_of_lt List.getElem?_cons_zero List.getElem?_cons_succ Option.getD_some Int.toNat_add Int.toNat_mul agM okM agB agI agS agP agL agA okB okI okS okP okSl okA
theorem graph_right_rc {γ : Nat → Option Nat} {H : AH} {nv : Value} {l : List NodeD} (hN : NdA H nv l) :
  AC Try.prog H.length γ 30 #[nv] H (fun v' _ => v' = .bool (rightG l)) := by
 obtain ⟨hnt, hvc, hxl, hwf, hat⟩ := hN
 have hN' : NdA H nv l := ⟨hnt, hvc, hxl, hwf, hat⟩
 refine ac_of_aw Try.func30 rfl Try.ntmps30 Try.results30 (by simp) ?_
 refine aw_seq ?_
 (refine aw_ops (by kernel_rfl) (fun K hK => ?_); simp (disch := first | omega | (simp only [lnS]; try omega)) [-getElem?_pos, -getElem?_neg]; refine hK _ _ ?_; clear hK K)
 refine aw_seq ?_
 refine aw_seq ?_
 by_cases hl : 96 < l.length
 case pos =>
  (refine aw_ops (by kernel_rfl) (fun K hK => ?_); simp (disch := first | omega | (simp only [lnS]; try omega)) [-getElem?_pos, -getElem?_neg, -notTuple, hnt, hvc, nt_intG, -xlen, hxl, hl]; refine hK _ _ ?_; clear hK K)
  refine aw_t (by (first | (simp [eval_tmp, put_at]; done) | (simp [eval_tmp, put_at]; omega))) (by kernel_rfl) ?_
  refine aw_seq ?_
  (refine aw_ops (by kernel_rfl) (fun K hK => ?_); simp (disch := first | omega | (simp only [lnS]; try omega)) [-getElem?_pos, -getElem?_neg]; refine hK _ _ ?_; clear hK K)
  (refine aw_ret ?_; simp (disch := first | omega | (simp only [lnS]; try omega)) [-getElem?_pos, -getElem?_neg, thenQ_ret, scopeQ_ret, inBlockQ_ret, RQ, resL, resV])
  have : ¬ l.length ≤ 96 := by omega
  simp [rightG, this]
 (refine aw_ops (by kernel_rfl) (fun K hK => ?_); simp (disch := first | omega | (simp only [lnS]; try omega)) [-getElem?_pos, -getElem?_neg, -notTuple, hnt, hvc, nt_intG, -xlen, hxl, hl]; refine hK _ _ ?_; clear hK K)
 refine aw_f (by (first | (simp [eval_tmp, put_at]; done) | (simp [eval_tmp, put_at]; omega))) (by kernel_rfl) ?_
 refine aw_skip ?_
 refine aw_seq ?_
 have hmm := make_map l.length H
 have hp0 : plain1 (.slice none 0 0) = true := rfl
 have hpm : plain1 (.map none) = true := rfl
 have hntm : notTuple (.map (some H.length)) = true := rfl
 have hmc : (Value.map (some H.length)).cells = #[.map (some H.length)] := rfl
 have hset : ∀ Z : List Value, Z.length = 194 → setR Z 0 (nv :: .map (some H.length) :: iv .u64 (zl 192)) = nv :: .map (some H.length) :: iv .u64 (zl 192) := fun Z hZ => setR_all _ _ (by simp [hZ])
 have hsr : setR (nv :: Value.map none :: iv .u64 (zl 192)) 1 [.map (some H.length)] = nv :: .map (some H.length) :: iv .u64 (zl 192) := by simp [setR_one]
 (refine aw_ops (by kernel_rfl) (fun K hK => ?_); simp (disch := first | omega | (simp only [lnS]; try omega)) [-getElem?_pos, -getElem?_neg, -notTuple, hnt, hvc, nt_intG, nt_aggG, -xlen, hxl, hl, hmm, hp0, hpm, hntm, hmc, hset, hsr, mblk_ty]; refine hK _ _ ?_; clear hK K)
 have hwz : lkC nv H.length (List.replicate 192 0) = nv :: .map (some H.length) :: iv .u64 (zl 192) := by rw [lkC, wv_zero]; rfl
 refine aw_seq ?_
 refine aw_seq ?_
 (refine aw_ops (by kernel_rfl) (fun K hK => ?_); simp (disch := first | omega | (simp only [lnS]; try omega)) [-getElem?_pos, -getElem?_neg, -notTuple, hnt, hvc, nt_intG, -xlen, hxl]; refine hK _ _ ?_; clear hK K)
 refine aw_block ?_
 have hlb : l.length ≤ 96 := by omega
 refine aw_loop (fun c α G => ∃ (i : Nat) (W : List Nat) (E : List (Value × Value)), i + c = l.length ∧ α 3 = .pointer (some ⟨H.length + 1, 0, none⟩) ∧ α 16 = nv ∧ α 17 = .int .i64 (l.length : Nat) ∧ α 18 = .int .i64 (i : Nat) ∧ Low H.length H G ∧ hget G (H.length + 1) = some ⟨lkC nv H.length W, 116, none⟩ ∧ hget G H.length = some (mblk 110 E) ∧ MapP E l i ∧ Wd W ∧ W.length = 192 ∧ Mk l W i ∧ ∀ a, a < i → stepB l a = true) l.length ?_ ?_
 ·refine ⟨0, List.replicate 192 0, [], by omega, by (first | (simp [put_at, put_none, fr0_at]; done) | rfl), by (first | (simp [put_at, put_none, fr0_at]; done) | rfl), by (first | (simp [put_at, put_none, fr0_at]; done) | rfl), by (first | (simp [put_at, put_none, fr0_at]; done) | rfl), ?_, ?_, ?_, MapP.zero l, ?_, by simp, fun r k _ _ => by rw [wzero_has]; simp, fun a ha => by omega⟩
  ·exact Low.push (Nat.le_refl _) _
  ·rw [hget_app, hwz]; rfl
  ·rw [hget_app0]; rfl
  ·intro x hx
   rw [List.eq_of_mem_replicate hx]; decide
 rintro c α G ⟨i, W, E, hic, h3, h16, h17, h18, hlow, hb, hm, hE, hw, hW, hM, hall⟩
 refine aw_seq ?_
 by_cases hi : i < l.length
 case neg =>
  (refine aw_ops (by kernel_rfl) (fun K hK => ?_); simp (disch := first | omega | (simp only [lnS]; try omega)) [-getElem?_pos, -getElem?_neg, h17, h18, hi]; refine hK _ _ ?_; clear hK K)
  refine aw_seq ?_
  refine aw_f (by (first | (simp [eval_tmp, put_at, hi]; done) | (simp [eval_tmp, put_at, hi]; omega))) (by kernel_rfl) ?_
  refine aw_exit ?_
  obtain rfl : i = l.length := by omega
  refine aw_seq ?_
  (refine aw_ops (by kernel_rfl) (fun K hK => ?_); simp (disch := first | omega | (simp only [lnS]; try omega)) [-getElem?_pos, -getElem?_neg]; refine hK _ _ ?_; clear hK K)
  (refine aw_ret ?_; simp (disch := first | omega | (simp only [lnS]; try omega)) [-getElem?_pos, -getElem?_neg, thenQ_ret, scopeQ_ret, inBlockQ_ret, RQ, resL, resV])
  have : (List.range l.length).all (stepB l) = true := List.all_eq_true.2 fun a ha => hall a (List.mem_range.1 ha)
  simp [rightG, this, hlb]
 obtain ⟨j, q, bb, us, pv, wv', bv, qv, hx, hbb, hq, hcell, hus, hC⟩ := hat i _ (nd_get hi)
 have hwfi := hwf _ (List.mem_of_getElem? (nd_get hi))
 have hbG : hget G j = some bb := (hlow.1 j (hget_lt hbb)).trans hbb
 have hul := hC.len
 have hle0 := hlow.2
 (refine aw_ops (by kernel_rfl) (fun K hK => ?_); simp (disch := first | omega | (simp only [lnS]; try omega)) [-getElem?_pos, -getElem?_neg, h17, h18, hi]; refine hK _ _ ?_; clear hK K)
 refine aw_seq ?_
 refine aw_t (by (first | (simp [eval_tmp, put_at, hi]; done) | (simp [eval_tmp, put_at, hi]; omega))) (by kernel_rfl) ?_
 refine aw_skip ?_
 refine aw_seq ?_
 refine aw_block ?_
 refine aw_seq ?_
 have hset2 : ∀ Z : List Value, Z.length = 104 → setR Z 0 us = us := fun Z hZ => setR_all _ _ (by omega)
 have hus' := hus.symm
 clear hus
 (refine aw_ops (by kernel_rfl) (fun K hK => ?_); simp (disch := first | omega | (simp only [lnS]; try omega)) [-getElem?_pos, -getElem?_neg, h16, h18, -notTuple, hnt, hvc, nt_intG, nt_aggG, -xindexAddr, hx, hbG, hus', hul, hq, hle0, hp0, all_zl, hset2]; refine hK _ _ ?_; clear hK K)
 obtain ⟨hlow2, hb2⟩ := boxed (H := G) us 50
 have hbV2 := hget_left' (L := [some ⟨us, 50, none⟩]) hb
 have hmG2 := hget_left' (L := [some ⟨us, 50, none⟩]) hm
 obtain ⟨g, hg⟩ : ∃ g, g = G.length := ⟨_, rfl⟩
 rw [← hg] at hb2 ⊢
 generalize G ++ [some ⟨us, 50, none⟩] = G2 at *
 have hlowG2 : Low H.length H G2 := ⟨fun j hj => (hlow2.1 j (by omega)).trans (hlow.1 j hj), by have := hlow2.2; omega⟩
 have hlG2 := hlowG2.2
 have hid := hC.id
 have hwl : (iv .u8 (nd l i).id).length = 32 := by rw [iv_length]; exact hwfi.id.1
 obtain ⟨CW, hCW⟩ : ∃ C, C = lkC nv H.length W := ⟨_, rfl⟩
 have hv1 : CW[1]? = some (.map (some H.length)) := by rw [hCW]; rfl
 have hvl : CW.length = 194 := by rw [hCW]; simp [lkC, wv_len, hW]
 have hbV3 := hbV2
 rw [← hCW] at hbV3
 refine aw_seq ?_
 refine aw_seq ?_
 cases hf : findN l i (nd l i).id with
 | some a =>
  have hlk := look_some hmG2 hE hwfi.id.1 hf
  (refine aw_ops (by kernel_rfl) (fun K hK => ?_); simp (disch := first | omega | (simp only [lnS]; try omega)) [-getElem?_pos, -getElem?_neg, h3, hbV3, hv1, hvl, hb2, hul, hid, hwl, hlk, nt_aggG]; refine hK _ _ ?_; clear hK K)
  refine aw_seq ?_
  refine aw_ops (by kernel_rfl) (fun K hK => ?_)
  simp (disch := first | omega | (simp only [lnS]; try omega)) [-getElem?_pos, -getElem?_neg, hb2, hul]
  refine hK _ _ ?_; clear hK K
  refine aw_t (by (first | (simp [eval_tmp, put_at]; done) | (simp [eval_tmp, put_at]; omega))) (by kernel_rfl) ?_
  refine aw_seq ?_
  (refine aw_ops (by kernel_rfl) (fun K hK => ?_); simp (disch := first | omega | (simp only [lnS]; try omega)) [-getElem?_pos, -getElem?_neg]; refine hK _ _ ?_; clear hK K)
  (refine aw_ret ?_; simp (disch := first | omega | (simp only [lnS]; try omega)) [-getElem?_pos, -getElem?_neg, thenQ_ret, scopeQ_ret, inBlockQ_ret, RQ, resL, resV])
  refine rightG_bad hi ?_
  simp [stepB, hf]
 | none =>
  have hlk := look_none hmG2 hE hwfi.id.1 hf
  (refine aw_ops (by kernel_rfl) (fun K hK => ?_); simp (disch := first | omega | (simp only [lnS]; try omega)) [-getElem?_pos, -getElem?_neg, h3, hbV3, hv1, hvl, hb2, hul, hid, hwl, hlk, nt_aggG]; refine hK _ _ ?_; clear hK K)
  refine aw_seq ?_
  have hO : OpC G2 ((us.drop 32).take 71) (nd l i).op pv wv' bv := hC.op.low (fun j hj => hlowG2.1 j hj)
  have c3 : us[35]? = some (.int .i64 (nd l i).op.kind) := by
   have := hO.c3
   rwa [List.getElem?_take_of_lt (by omega), List.getElem?_drop] at this
  have hrr := right_rc (γ := γ) hO hwfi.op
  obtain ⟨u7, hu7⟩ : ∃ u, u = (us.drop 32).take 71 := ⟨_, rfl⟩
  have hu7l := hO.len
  rw [← hu7] at hrr hu7l
  have hu7' := hu7.symm
  refine aw_ops (by kernel_rfl) (fun K hK => ?_)
  simp (disch := first | omega | (simp only [lnS]; try omega)) [-getElem?_pos, -getElem?_neg, hb2, hul, hu7', hu7l, nt_aggG]
  refine ⟨by kernel_rfl, ac_of_rc hrr (by simp [pv_iv, pv_int, pv_bool, pv_string, pv_tup2, pv_tup3, iv_plain, p2_int, p2_bool, p2_string]) ?_⟩
  cases hro : rightO (nd l i).op with
  | false =>
   try simp (disch := first | omega | (simp only [lnS]; try omega)) [-getElem?_pos, -getElem?_neg, hb2, hul]
   refine hK _ _ ?_; clear hK K
   refine aw_t (by (first | (simp [eval_tmp, put_at]; done) | (simp [eval_tmp, put_at]; omega))) (by kernel_rfl) ?_
   refine aw_seq ?_
   (refine aw_ops (by kernel_rfl) (fun K hK => ?_); simp (disch := first | omega | (simp only [lnS]; try omega)) [-getElem?_pos, -getElem?_neg]; refine hK _ _ ?_; clear hK K)
   (refine aw_ret ?_; simp (disch := first | omega | (simp only [lnS]; try omega)) [-getElem?_pos, -getElem?_neg, thenQ_ret, scopeQ_ret, inBlockQ_ret, RQ, resL, resV])
   refine rightG_bad hi ?_
   simp [stepB, hro]
  | true =>
  have htb : (decide ((nd l i).op.kind = 1) == decide (i = 0)) = !(((nd l i).op.kind == 1) != ((i : Int) == 0)) := by
   have e1 : ((nd l i).op.kind == 1) = decide ((nd l i).op.kind = 1) := rfl
   have e2 : ((i : Int) == 0) = decide (i = 0) := by rw [Bool.eq_iff_iff]; simp
   rw [e1, e2]
   cases decide ((nd l i).op.kind = 1) <;> cases decide (i = 0) <;> rfl
  generalize hkd : (nd l i).op.kind = kd at *
  generalize hb1 : (kd == 1) = b1 at *
  generalize hb4 : ((i : Int) == 0) = b4 at *
  cases hbn : (b1 != b4) with
  | true =>
   simp (disch := first | omega | (simp only [lnS]; try omega)) [-getElem?_pos, -getElem?_neg, hb2, hul, c3, hb1, hb4, hbn]
   refine hK _ _ ?_; clear hK K
   refine aw_t (by (first | (simp [eval_tmp, put_at]; done) | (simp [eval_tmp, put_at]; omega))) (by kernel_rfl) ?_
   refine aw_seq ?_
   (refine aw_ops (by kernel_rfl) (fun K hK => ?_); simp (disch := first | omega | (simp only [lnS]; try omega)) [-getElem?_pos, -getElem?_neg]; refine hK _ _ ?_; clear hK K)
   (refine aw_ret ?_; simp (disch := first | omega | (simp only [lnS]; try omega)) [-getElem?_pos, -getElem?_neg, thenQ_ret, scopeQ_ret, inBlockQ_ret, RQ, resL, resV])
   refine rightG_bad hi ?_
   rw [hbn] at htb
   simp [stepB, turnB, hkd, htb]
  | false =>
  simp (disch := first | omega | (simp only [lnS]; try omega)) [-getElem?_pos, -getElem?_neg, hb2, hul, c3, hb1, hb4, hbn]
  refine hK _ _ ?_; clear hK K
  refine aw_f (by (first | (simp [eval_tmp, put_at]; done) | (simp [eval_tmp, put_at]; omega))) (by kernel_rfl) ?_
  refine aw_skip ?_
  rw [hbn] at htb
  have htk : (decide ((nd l i).op.kind = 1) == decide (i = 0)) = true := by rw [hkd]; simpa using htb
  refine aw_seq ?_
  refine aw_seq ?_
  refine aw_ops (by kernel_rfl) (fun K hK => ?_)
  simp (disch := first | omega | (simp only [lnS]; try omega)) [-getElem?_pos, -getElem?_neg, h3]
  refine ⟨by kernel_rfl, (parents_ac (γ := γ) hN' hlowG2 (by omega) (by omega) hbV2 hmG2 hE hw hW hi hlb).mono ?_⟩
  rintro _ G3 ⟨hone3, ok, rfl, hok, hpar⟩
  cases ok with
  | false =>
   try simp (disch := first | omega | (simp only [lnS]; try omega)) [-getElem?_pos, -getElem?_neg]
   refine hK _ _ ?_; clear hK K
   refine aw_t (by (first | (simp [eval_tmp, put_at]; done) | (simp [eval_tmp, put_at]; omega))) (by kernel_rfl) ?_
   refine aw_seq ?_
   (refine aw_ops (by kernel_rfl) (fun K hK => ?_); simp (disch := first | omega | (simp only [lnS]; try omega)) [-getElem?_pos, -getElem?_neg]; refine hK _ _ ?_; clear hK K)
   (refine aw_ret ?_; simp (disch := first | omega | (simp only [lnS]; try omega)) [-getElem?_pos, -getElem?_neg, thenQ_ret, scopeQ_ret, inBlockQ_ret, RQ, resL, resV])
   refine rightG_bad hi ?_
   unfold stepB
   rw [← hok, Bool.false_and]
  | true =>
  obtain ⟨W', hbV4, hw', hW', hrow⟩ := hpar rfl
  have hlowG3 : Low H.length H G3 := hone3.low (by omega) hlowG2 hlowG2.2
  have hmk := mk_row hM (by omega) hrow
  simp (disch := first | omega | (simp only [lnS]; try omega)) [-getElem?_pos, -getElem?_neg, h3]
  refine ⟨by kernel_rfl, (past_rc (γ := γ) (mi := H.length) hN' hlowG3 hbV4 hw' hW' hi hlb).mono ?_⟩
  rintro _ G4 ⟨e4, rfl⟩
  subst G4
  rw [mark_past hmk (by omega)]
  by_cases hpp : (nd l i).past = pastL l i (nd l i).op.parents
  case neg =>
   try simp (disch := first | omega | (simp only [lnS]; try omega)) [-getElem?_pos, -getElem?_neg, hpp]
   refine hK _ _ ?_; clear hK K
   refine aw_t (by (first | (simp [eval_tmp, put_at]; done) | (simp [eval_tmp, put_at]; omega))) (by kernel_rfl) ?_
   refine aw_seq ?_
   (refine aw_ops (by kernel_rfl) (fun K hK => ?_); simp (disch := first | omega | (simp only [lnS]; try omega)) [-getElem?_pos, -getElem?_neg]; refine hK _ _ ?_; clear hK K)
   (refine aw_ret ?_; simp (disch := first | omega | (simp only [lnS]; try omega)) [-getElem?_pos, -getElem?_neg, thenQ_ret, scopeQ_ret, inBlockQ_ret, RQ, resL, resV])
   refine rightG_bad hi ?_
   simp [stepB, hpp]
  simp (disch := first | omega | (simp only [lnS]; try omega)) [-getElem?_pos, -getElem?_neg, h3, hpp]
  refine ⟨by kernel_rfl, (seq_ac (γ := γ) (mi := H.length) hN' hlowG3 hbV4 hw' hW' hi hlb).mono ?_⟩
  rintro _ G5 ⟨⟨A, e5⟩, rfl⟩
  subst e5
  rw [seq_turn hmk (by omega) hpp htk]
  cases htu : turnB l i (nd l i).op (nd l i).past with
  | false =>
   try simp (disch := first | omega | (simp only [lnS]; try omega)) [-getElem?_pos, -getElem?_neg]
   refine hK _ _ ?_; clear hK K
   refine aw_t (by (first | (simp [eval_tmp, put_at]; done) | (simp [eval_tmp, put_at]; omega))) (by kernel_rfl) ?_
   refine aw_seq ?_
   (refine aw_ops (by kernel_rfl) (fun K hK => ?_); simp (disch := first | omega | (simp only [lnS]; try omega)) [-getElem?_pos, -getElem?_neg]; refine hK _ _ ?_; clear hK K)
   (refine aw_ret ?_; simp (disch := first | omega | (simp only [lnS]; try omega)) [-getElem?_pos, -getElem?_neg, thenQ_ret, scopeQ_ret, inBlockQ_ret, RQ, resL, resV])
   refine rightG_bad hi ?_
   simp [stepB, htu]
  | true =>
  try simp (disch := first | omega | (simp only [lnS]; try omega)) [-getElem?_pos, -getElem?_neg]
  refine hK _ _ ?_; clear hK K
  refine aw_f (by (first | (simp [eval_tmp, put_at]; done) | (simp [eval_tmp, put_at]; omega))) (by kernel_rfl) ?_
  refine aw_skip ?_
  have hgl := hget_lt hb2
  have hone5 : One (H.length + 1) G2 (G3 ++ [some A]) := hone3.trans (One.push G3 _)
  have hbV5 := hget_left' (L := [some A]) hbV4
  have hbg : H.length + 1 < g := by have := hget_lt hb; omega
  have hg5 : hget (G3 ++ [some A]) g = some ⟨us, 50, none⟩ := (hone5.2 g hgl (by omega)).trans hb2
  have hm5 : hget (G3 ++ [some A]) H.length = some (mblk 110 E) := (hone5.2 _ (hget_lt hmG2) (by omega)).trans hmG2
  have hlowG5 : Low H.length H (G3 ++ [some A]) := hone5.low (by omega) hlowG2 hlowG2.2
  generalize G3 ++ [some A] = G5 at *
  obtain ⟨CV, hCV⟩ : ∃ C, C = lkC nv H.length W' := ⟨_, rfl⟩
  have hv1 : CV[1]? = some (.map (some H.length)) := by rw [hCV]; rfl
  have hvl : CV.length = 194 := by rw [hCV]; simp [lkC, wv_len, hW']
  have hbV6 := hbV5
  rw [← hCV] at hbV6
  have hpm5 := put_map (nro := H.length) hm5 hE hwfi.id.1 (Nat.le_refl _)
  have hPut := hE.put hwfi.id.1 hf
  have hbS : hget (G5.set H.length (some (mblk 110 (mput (kyv (nd l i).id) (.int .i64 (i : Nat)) E)))) (H.length + 1) = some ⟨lkC nv H.length W', 116, none⟩ := by rw [hget_set_ne (by omega)]; exact hbV5
  have hmS : hget (G5.set H.length (some (mblk 110 (mput (kyv (nd l i).id) (.int .i64 (i : Nat)) E)))) H.length = some (mblk 110 (mput (kyv (nd l i).id) (.int .i64 (i : Nat)) E)) := hget_set_eq (hget_lt hm5)
  have hlS : Low H.length H (G5.set H.length (some (mblk 110 (mput (kyv (nd l i).id) (.int .i64 (i : Nat)) E)))) := ⟨fun j hj => (hget_set_ne (by omega)).trans (hlowG5.1 j hj), by rw [List.length_set]; exact hlowG5.2⟩
  generalize mput (kyv (nd l i).id) (.int .i64 (i : Nat)) E = E' at *
  (refine aw_ops (by kernel_rfl) (fun K hK => ?_); simp (disch := first | omega | (simp only [lnS]; try omega)) [-getElem?_pos, -getElem?_neg, h3, hbV6, hv1, hvl, hg5, hul, hid, hwl, hpm5, nt_aggG]; refine hK _ _ ?_; clear hK K)
  generalize G5.set H.length (some (mblk 110 E')) = G6 at *
  (refine aw_ops (by kernel_rfl) (fun K hK => ?_); simp (disch := first | omega | (simp only [lnS]; try omega)) [-getElem?_pos, -getElem?_neg, h18]; refine hK _ _ ?_; clear hK K)
  refine ⟨c - 1, by omega, i + 1, W', E', by omega, by (first | (simp [put_at, put_none, fr0_at, h3]; done) | rfl), by (first | (simp [put_at, put_none, fr0_at, h16]; done) | rfl), by (first | (simp [put_at, put_none, fr0_at, h17]; done) | rfl), by (first | (simp [put_at, put_none, fr0_at]; done) | rfl), hlS, hbS, hmS, hPut, hw', hW', mk_next hM (by omega) hrow hpp (fun a ha => ?_), fun a ha => ?_⟩
  ·have := hall a ha
   simp only [stepB, Bool.and_eq_true, decide_eq_true_eq] at this
   exact this.2.2.2.1
  ·by_cases e : a = i
   ·subst e
    simp [stepB, ← hok, hro, hf, ← hpp, htu]
   ·exact hall a (by omega)
end
section
theorem InV.lowG {H G : AH} {v : Value} {l : List Int} (h : InV H v l) (hlow : Low H.length H G) : InV G v l := CD.Val.low (fun j hj => hlow.1 j hj) h
attribute [local simp] wb_bool wb_undef with_lit XL_nil XL_cons XLc_val XLc_call step1_eq stepW_t stepW_f stepC_n stepC_s stepX_s stepX_n stepN_s calleeX xrecv oneV xop_eq xopR_s xopR_n wantedA_eq wantedG_n wantedG_s plain1_int plain1_bool plain1_string bits_i64 bits_u64 bits_u32 bits_u16 bits_u8 xeqA xagg xcmp xarr allK_iv num_iv calleeOf xread xeff xbin xint xnil xun xstr xload xconv xpart xfield xfieldAddr xindexAddr xindex bnd asInt? xslice xlen xmin xmax xbuild xfill xappend xapp2 xappstr xappmk xcap xcopy xcells eval_tmp eval_const put_at put_none fr0_at cells_agg cells_int cells_bool cells_string cells_ptr cells_slice notTuple tab iv_all hget_app hget_app0 hget_cons0 hget_cons set_app set_app0 setR setR_one QL_nil QL_cons QLc_val stepQ_t stepQ_f stepQC_n stepQC_s stepQX_s SL_nil SL_cons SLc_val stepS_t stepS_f ltT ltF leT leF eqT eqF ltTn ltFn leTn leFn eqTn eqFn beqT beqF bneT bneF wi64 wu64 wu32 wu16 wu8 tmodP tdivP hgetL hgetNe hgetEq setL nums_def nums_len Nat.succ_le_of_lt List.getElem?_cons_zero List.getElem?_cons_succ Option.getD_some Int.toNat_add Int.toNat_mul agM okM agB agI agS agP agL agA okB okI okS okP okSl okA
theorem autN_succ (l : List NodeD) (t : Nat) (x : Int) : autN l (t + 1) x = autN l t x + if (nd l t).op.author = x then 1 else 0 := by
 unfold autN
 rw [List.range_succ, List.filter_append, List.length_append]
 by_cases h : (nd l t).op.author = x
 ·simp [h]
 ·have : ((nd l t).op.author == x) = false := by simpa using h
  simp [this, h]
end
section
attribute [local simp] wb_bool wb_undef with_lit XL_nil XL_cons XLc_val XLc_call step1_eq stepW_t stepW_f stepC_n stepC_s stepX_s stepX_n stepN_s calleeX xrecv oneV xop_eq xopR_s xopR_n wantedA_eq wantedG_n wantedG_s plain1_int plain1_bool plain1_string bits_i64 bits_u64 bits_u32 bits_u16 bits_u8 xeqA xagg xcmp xarr allK_iv num_iv calleeOf xread xeff xbin xint xnil xun xstr xload xconv xpart xfield xfieldAddr xindexAddr xindex bnd asInt? xslice xlen xmin xmax xbuild xfill xappend xapp2 xappstr xappmk xcap xcopy xcells eval_tmp eval_const put_at put_none fr0_at cells_agg cells_int cells_bool cells_string cells_ptr cells_slice notTuple tab iv_all hget_app hget_app0 hget_cons0 hget_cons set_app set_app0 setR setR_one QL_nil QL_cons QLc_val stepQ_t stepQ_f stepQC_n stepQC_s stepQX_s SL_nil SL_cons SLc_val stepS_t stepS_f ltT ltF leT leF eqT eqF ltTn ltFn leTn leFn eqTn eqFn beqT beqF bneT bneF wi64 wu64 wu32 wu16 wu8 tmodP tdivP hgetL hgetNe hgetEq setL nums_def nums_len Nat.succ_le_of_lt List.getElem?_cons_zero List.getElem?_cons_succ Option.getD_some Int.toNat_add Int.toNat_mul agM okM agB agI agS agP agL agA okB okI okS okP okSl okA
theorem find1_rc {nro : Nat} {γ : Nat → Option Nat} {G : AH} {us : List Value} {x : NodeD} {id : List Int} {g : Nat} (hul : us.length = 104) (hid : us.take 32 = iv .u8 x.id) (hxl : x.id.length = 32) (hil : id.length = 32) (hg : hget G g = some ⟨iv .u8 id, 38, none⟩) :
  AC Try.prog nro γ 130 #[.agg us.toArray, .pointer (some ⟨g, 0, none⟩)] G (fun v' H' => Low G.length G H' ∧ v' = .bool (decide (x.id = id))) := by
 have hgl := hget_lt hg
 have hivl : (iv .u8 id).length = 32 := by rw [iv_length, hil]
 have hta : (iv .u8 id).take 32 = iv .u8 id := List.take_of_length_le (by omega)
 have hivx : (iv .u8 x.id).length = 32 := by rw [iv_length, hxl]
 refine ac_of_aw Try.func130 rfl Try.ntmps130 Try.results130 (by simp) ?_
 refine aw_seq ?_
 (refine aw_ops (by kernel_rfl) (fun K hK => ?_); simp (disch := first | omega | (simp only [lnS]; try omega)) [-getElem?_pos, -getElem?_neg, hul]; refine hK _ _ ?_; clear hK K)
 obtain ⟨hlow2, hb2⟩ := boxed (H := G) us 50
 obtain ⟨b, hb⟩ : ∃ b, b = G.length := ⟨_, rfl⟩
 have hg2 := hget_left' (L := [some ⟨us, 50, none⟩]) hg
 rw [← hb] at hb2 ⊢
 generalize G ++ [some ⟨us, 50, none⟩] = G2 at *
 refine aw_seq ?_
 (refine aw_ops (by kernel_rfl) (fun K hK => ?_); simp (disch := first | omega | (simp only [lnS]; try omega)) [-getElem?_pos, -getElem?_neg, hb2, hul, hid, hivx, hg2, hta, hivl, nt_aggG]; refine hK _ _ ?_; clear hK K)
 have hd : decide (x.id = id) = (x.id == id) := by rw [Bool.eq_iff_iff]; simp
 rw [hd]
 (refine aw_ret ?_; simp (disch := first | omega | (simp only [lnS]; try omega)) [-getElem?_pos, -getElem?_neg, thenQ_ret, scopeQ_ret, inBlockQ_ret, RQ, resL, resV])
 all_goals (subst hb; exact hlow2)
theorem find1_callable : callable Try.prog 130 = true := by kernel_rfl
theorem indexFn_rc {γ : Nat → Option Nat} {H : AH} {nv : Value} {l : List NodeD} (hN : NdA H nv l) (hl : l.length ≤ maxLen) {f : Nat} {cs : Array Value} {p : Nat → Bool} (hcal : callable Try.prog f = true)
  (hf : ∀ (G : AH) (i : Nat) (us : List Value) (pv wv bv qv : Value), Low H.length H G → i < l.length → us.length = 104 → NodeC H us (nd l i) pv wv bv qv → AC Try.prog G.length γ f (#[.agg us.toArray] ++ cs) G (fun v' _ => v' = .bool (p i))) :
  AC Try.prog H.length γ 129 #[nv, .func (.func f) #[] cs] H (fun v' _ => v' = .int .i64 (firstI l.length p)) := by
 obtain ⟨hnt, hvc, hxl, hwf, hat⟩ := hN
 have hm63 : l.length ≤ 9223372036854775807 := by simp only [maxLen] at hl; omega
 have hfn : notTuple (.func (.func f) #[] cs) = true := rfl
 have hfc : (Value.func (.func f) #[] cs).cells = #[.func (.func f) #[] cs] := rfl
 refine ac_of_aw Try.func129 rfl Try.ntmps129 Try.results129 (by simp) ?_
 refine aw_seq ?_
 (refine aw_ops (by kernel_rfl) (fun K hK => ?_); simp (disch := first | omega | (simp only [lnS]; try omega)) [-getElem?_pos, -getElem?_neg]; refine hK _ _ ?_; clear hK K)
 refine aw_seq ?_
 refine aw_seq ?_
 (refine aw_ops (by kernel_rfl) (fun K hK => ?_); simp (disch := first | omega | (simp only [lnS]; try omega)) [-getElem?_pos, -getElem?_neg, -notTuple, hnt, hvc, nt_intG, -xlen, hxl]; refine hK _ _ ?_; clear hK K)
 refine aw_block ?_
 refine aw_loop (fun c α G => ∃ i : Nat, i + c = l.length ∧ Low H.length H G ∧ α 0 = nv ∧ α 1 = .func (.func f) #[] cs ∧ α 7 = .int .i64 (l.length : Nat) ∧ α 8 = .int .i64 (i : Nat) ∧ ∀ k, k < i → p k = false) l.length ?_ ?_
 ·exact ⟨0, by omega, Low.refl (Nat.le_refl _), by (first | (simp [put_at, put_none, fr0_at]; done) | rfl), by (first | (simp [put_at, put_none, fr0_at]; done) | rfl), by (first | (simp [put_at, put_none, fr0_at]; done) | rfl), by (first | (simp [put_at, put_none, fr0_at]; done) | rfl), fun k hk => by omega⟩
 rintro c α G ⟨i, hic, hlow, h0, h1, h7, h8, hpre⟩
 refine aw_seq ?_
 by_cases hi : i < l.length
 case neg =>
  (refine aw_ops (by kernel_rfl) (fun K hK => ?_); simp (disch := first | omega | (simp only [lnS]; try omega)) [-getElem?_pos, -getElem?_neg, h7, h8, hi]; refine hK _ _ ?_; clear hK K)
  refine aw_seq ?_
  refine aw_f (by (first | (simp [eval_tmp, put_at, hi]; done) | (simp [eval_tmp, put_at, hi]; omega))) (by kernel_rfl) ?_
  refine aw_exit ?_
  refine aw_seq ?_
  (refine aw_ops (by kernel_rfl) (fun K hK => ?_); simp (disch := first | omega | (simp only [lnS]; try omega)) [-getElem?_pos, -getElem?_neg]; refine hK _ _ ?_; clear hK K)
  (refine aw_ret ?_; simp (disch := first | omega | (simp only [lnS]; try omega)) [-getElem?_pos, -getElem?_neg, thenQ_ret, scopeQ_ret, inBlockQ_ret, RQ, resL, resV])
  exact (firstI_none (fun k hk => hpre k (by omega))).symm
 obtain ⟨j, q, bb, us, pv, wv', bv, qv, hx, hbb, hq, hcell, hus, hC⟩ := hat i _ (nd_get hi)
 have hbG : hget G j = some bb := (hlow.1 j (hget_lt hbb)).trans hbb
 have hul := hC.len
 have hus' := hus.symm
 clear hus
 have hc := hf G i us pv wv' bv qv hlow hi hul hC
 (refine aw_ops (by kernel_rfl) (fun K hK => ?_); simp (disch := first | omega | (simp only [lnS]; try omega)) [-getElem?_pos, -getElem?_neg, h7, h8, hi]; refine hK _ _ ?_; clear hK K)
 refine aw_seq ?_
 refine aw_t (by (first | (simp [eval_tmp, put_at, hi]; done) | (simp [eval_tmp, put_at, hi]; omega))) (by kernel_rfl) ?_
 refine aw_skip ?_
 refine aw_seq ?_
 refine aw_block ?_
 refine aw_seq ?_
 (refine aw_ops (by kernel_rfl) (fun K hK => ?_); simp (disch := first | omega | (simp only [lnS]; try omega)) [-getElem?_pos, -getElem?_neg, h8]; refine hK _ _ ?_; clear hK K)
 refine aw_seq ?_
 refine aw_ops (by kernel_rfl) (fun K hK => ?_)
 simp (disch := first | omega | (simp only [lnS]; try omega)) [-getElem?_pos, -getElem?_neg, h0, h1, -notTuple, hnt, hvc, hfn, hfc, nt_intG, nt_aggG, -xindexAddr, hx, hbG, hus', hul, hq]
 refine ⟨hcal, ac_of_rc hc (by simp [pv_iv, pv_int, pv_bool, pv_string, pv_tup2, pv_tup3, iv_plain, p2_int, p2_bool, p2_string]) ?_⟩
 cases hp : p i with
 | true =>
  try simp (disch := first | omega | (simp only [lnS]; try omega)) [-getElem?_pos, -getElem?_neg]
  refine hK _ _ ?_; clear hK K
  refine aw_t (by (first | (simp [eval_tmp, put_at]; done) | (simp [eval_tmp, put_at]; omega))) (by kernel_rfl) ?_
  refine aw_seq ?_
  (refine aw_ops (by kernel_rfl) (fun K hK => ?_); simp (disch := first | omega | (simp only [lnS]; try omega)) [-getElem?_pos, -getElem?_neg]; refine hK _ _ ?_; clear hK K)
  (refine aw_ret ?_; simp (disch := first | omega | (simp only [lnS]; try omega)) [-getElem?_pos, -getElem?_neg, thenQ_ret, scopeQ_ret, inBlockQ_ret, RQ, resL, resV])
  exact (firstI_some hi hpre hp).symm
 | false =>
  try simp (disch := first | omega | (simp only [lnS]; try omega)) [-getElem?_pos, -getElem?_neg]
  refine hK _ _ ?_; clear hK K
  refine aw_f (by (first | (simp [eval_tmp, put_at]; done) | (simp [eval_tmp, put_at]; omega))) (by kernel_rfl) ?_
  refine aw_skip ?_
  (refine aw_ops (by kernel_rfl) (fun K hK => ?_); simp (disch := first | omega | (simp only [lnS]; try omega)) [-getElem?_pos, -getElem?_neg, h8]; refine hK _ _ ?_; clear hK K)
  refine ⟨c - 1, by omega, i + 1, by omega, hlow, by (first | (simp [put_at, put_none, fr0_at, h0]; done) | rfl), by (first | (simp [put_at, put_none, fr0_at, h1]; done) | rfl), by (first | (simp [put_at, put_none, fr0_at, h7]; done) | rfl), by (first | (simp [put_at, put_none, fr0_at]; done) | rfl), fun k hk => ?_⟩
  by_cases e : k = i
  ·subst e; exact hp
  ·exact hpre k (by omega)
def findI (l : List NodeD) (n : Nat) (id : List Int) : Int := match findN l n id with | some a => (a : Nat) | none => -1
theorem findI_first (l : List NodeD) (n : Nat) (id : List Int) : findI l n id = firstI n fun a => decide ((nd l a).id = id) := by
 have : (fun a => decide ((nd l a).id = id)) = fun a => (nd l a).id == id := by
  funext a
  rw [Bool.eq_iff_iff]; simp
 rw [this]
 rfl
theorem find_rc {γ : Nat → Option Nat} {H : AH} {nv : Value} {l : List NodeD} (hN : NdA H nv l) (hl : l.length ≤ maxLen) {id : List Int} (hil : id.length = 32) : AC Try.prog H.length γ 78 #[nv, .agg (iv .u8 id).toArray] H (fun v' _ => v' = .int .i64 (findI l l.length id)) := by
 have hnt := hN.nt
 have hvc := hN.cs
 have hivl : (iv .u8 id).length = 32 := by rw [iv_length, hil]
 refine ac_of_aw Try.func78 rfl Try.ntmps78 Try.results78 (by simp) ?_
 refine aw_seq ?_
 (refine aw_ops (by kernel_rfl) (fun K hK => ?_); simp (disch := first | omega | (simp only [lnS]; try omega)) [-getElem?_pos, -getElem?_neg, hivl]; refine hK _ _ ?_; clear hK K)
 obtain ⟨hlow2, hb2⟩ := boxed (H := H) (iv .u8 id) 38
 generalize H ++ [some ⟨iv .u8 id, 38, none⟩] = G at *
 have hNG : NdA G nv l := ⟨hN.nt, hN.cs, hN.len, hN.wf, fun i x hx => by
  obtain ⟨j, q, bb, us, pv, wv', bv, qv, h1, h2, h3, h4, h5, h6⟩ := hN.at_ i x hx
  exact ⟨j, q, bb, us, pv, wv', bv, qv, h1, (hlow2.1 j (hget_lt h2)).trans h2, h3, h4, h5, h6.low hlow2.1⟩⟩
 have hix := indexFn_rc (γ := γ) hNG hl (f := 130) (cs := #[.pointer (some ⟨H.length, 0, none⟩)]) (p := fun a => decide ((nd l a).id = id)) find1_callable (fun G2 i us pv wv' bv qv hg hi hul hC => (find1_rc (nro := G2.length) (γ := γ) hul hC.id (hN.wf _ (List.mem_of_getElem? (nd_get hi))).id.1 hil ((hg.1 _ (hget_lt hb2)).trans hb2)).mono (fun v' H' h => h.2))
 rw [← findI_first] at hix
 refine aw_seq ?_
 refine aw_ops (by kernel_rfl) (fun K hK => ?_)
 simp (disch := first | omega | (simp only [lnS]; try omega)) [-getElem?_pos, -getElem?_neg, -notTuple, hnt, hvc, nt_intG]
 refine ⟨by kernel_rfl, ac_of_rc hix (by simp [pv_iv, pv_int, pv_bool, pv_string, pv_tup2, pv_tup3, iv_plain, p2_int, p2_bool, p2_string]) ?_⟩
 try simp (disch := first | omega | (simp only [lnS]; try omega)) [-getElem?_pos, -getElem?_neg]
 refine hK _ _ ?_; clear hK K
 (refine aw_ret ?_; simp (disch := first | omega | (simp only [lnS]; try omega)) [-getElem?_pos, -getElem?_neg, thenQ_ret, scopeQ_ret, inBlockQ_ret, RQ, resL, resV])
end
section
def OwnF (H : AH) (v : Value) (e : TypeId) (sz : Nat) (cells : List Value) (F : List Nat) : Prop :=
 (v = .slice none 0 0 ∧ cells = [] ∧ F = []) ∨ ∃ j len, v = .slice (some ⟨j, 0, none⟩) len len ∧ hget H j = some ⟨cells, e, some sz⟩ ∧ cells.length = len * sz ∧ F = [j]
theorem OwnF.low {H H' : AH} {v : Value} {e : TypeId} {sz : Nat} {cells : List Value} {F : List Nat} (h : OwnF H v e sz cells F) (hl : ∀ j ∈ F, hget H' j = hget H j) : OwnF H' v e sz cells F := by
 rcases h with h | ⟨j, len, h1, h2, h3, rfl⟩
 ·exact .inl h
 ·exact .inr ⟨j, len, h1, by rw [hl j (by simp)]; exact h2, h3, rfl⟩
theorem OwnF.len {P : Program} {H : AH} {v : Value} {e t : TypeId} {sz : Nat} {cells : List Value} {F : List Nat} (h : OwnF H v e sz cells F) (ht : und P t = .slice e) {n : Nat} (hn : cells.length = n * sz) (h0 : 0 < sz) : xlen P t v = some (.int .i64 n) := by
 rcases h with ⟨rfl, rfl, rfl⟩ | ⟨j, len, rfl, h2, h3, rfl⟩
 ·have : n = 0 := by
   have : n * sz = 0 := hn.symm
   rcases Nat.mul_eq_zero.1 this with h | h <;> omega
  subst this
  simp [xlen, ht]
 ·have : len = n := Nat.eq_of_mul_eq_mul_right h0 (h3.symm.trans hn)
  subst this
  simp [xlen, ht]
theorem ownF_append {P : Program} {nro : Nat} {t e : TypeId} {H : AH} {v x : Value} {sz : Nat} {cells news : List Value} {F : List Nat} (hu : und P t = .slice e) (hs : szt P e = sz) (h0 : 0 < sz) (hz : (zer P e).map (·.cells.size) = some sz)
  (hv : OwnF H v e sz cells F) (hnro : ∀ j ∈ F, nro ≤ j) (hstr : ∀ s, x ≠ .string s) (hx : xcells sz x H = some news) (hn : news ≠ []) (hd : news.length % sz = 0) (hb : (cells.length + news.length) * byt P e ≤ 140737488355328) (hm : cells.length + news.length ≤ maxLen) :
  ∃ v' H', xappend P nro t v x H = some (v', H') ∧ OwnF H' v' e sz (cells ++ news) [H.length] ∧ H'.length = H.length + 1 ∧ ∀ j, j < H.length → j ∉ F → hget H' j = hget H j := by
 subst hs
 have hdm : news.length / szt P e * szt P e = news.length := Nat.div_mul_cancel (Nat.dvd_of_mod_eq_zero hd)
 rcases hv with ⟨rfl, rfl, rfl⟩ | ⟨j, len, rfl, h3, h4, rfl⟩
 ·refine ⟨.slice (some ⟨H.length, 0, none⟩) (news.length / szt P e) (news.length / szt P e), H ++ [some ⟨news, e, some (szt P e)⟩], ?_, .inr ⟨H.length, news.length / szt P e, rfl, ?_, ?_, rfl⟩, by simp, fun i hi _ => hget_left hi⟩
  ·simp only [List.length_nil, Nat.zero_add] at hb hm
   unfold xappend
   cases x <;> first | (exact absurd rfl (hstr _)) | (simp only [hu, hx]; rw [if_pos ⟨h0, hz, hb, hm⟩, if_neg hn])
  ·rw [hget_app0, hget_cons0]; rfl
  ·rw [hdm]; rfl
 ·have hj := hget_lt h3
  refine ⟨.slice (some ⟨H.length, 0, none⟩) (len + news.length / szt P e) (len + news.length / szt P e), H.set j none ++ [some ⟨cells ++ news, e, some (szt P e)⟩], ?_, .inr ⟨H.length, len + news.length / szt P e, rfl, ?_, ?_, rfl⟩, by simp, fun i hi hni => ?_⟩
  ·have hc : True ∧ 0 < szt P e ∧ (zer P e).map (·.cells.size) = some (szt P e) ∧ nro ≤ j ∧ True ∧ True ∧ len * szt P e ≤ cells.length ∧ (len * szt P e + news.length) * byt P e ≤ 140737488355328 ∧ len * szt P e + news.length ≤ maxLen :=
    ⟨trivial, h0, hz, hnro j (by simp), trivial, trivial, by omega, by rw [← h4]; exact hb, by rw [← h4]; exact hm⟩
   unfold xappend
   cases x <;> first | (exact absurd rfl (hstr _)) | (simp only [hu, hx, h3]; rw [if_pos hc, ← h4, List.take_length])
  ·have : (H.set j none).length = H.length := by simp
   rw [← this, hget_app0, hget_cons0]
  ·rw [List.length_append, Nat.add_mul, ← h4, hdm]
  ·rw [hget_left (by simp; omega), hget_set_ne (fun e => hni (by simp [e]))]
theorem OwnF.new {H : AH} {v : Value} {e : TypeId} {sz j : Nat} {cells : List Value} (h : OwnF H v e sz cells [j]) : ∃ len, v = .slice (some ⟨j, 0, none⟩) len len := by
 rcases h with ⟨_, _, h⟩ | ⟨i, len, rfl, _, _, h⟩
 ·cases h
 ·cases h; exact ⟨len, rfl⟩
theorem OwnF.lt {H : AH} {v : Value} {e : TypeId} {sz : Nat} {cells : List Value} {F : List Nat} (h : OwnF H v e sz cells F) : ∀ j ∈ F, j < H.length := by
 rcases h with ⟨_, _, rfl⟩ | ⟨i, len, _, h2, _, rfl⟩
 ·intro j hj; cases hj
 ·intro j hj; rw [List.mem_singleton] at hj; subst hj; exact hget_lt h2
end
section
def inZ (l : List NodeD) (n : Nat) (ps : List (List Int)) (y : Int) : Prop := ∃ p ∈ ps, ∃ a, findN l n p = some a ∧ (y = (a : Int) ∨ y ∈ (nd l a).past)
theorem inZ_B {l : List NodeD} {n : Nat} {ps : List (List Int)} {k : Nat} : inB l n ps k = true ↔ inZ l n ps (k : Int) := by
 unfold inB inZ
 rw [List.any_eq_true]
 refine exists_congr fun p => ?_
 refine and_congr_right fun _ => ?_
 cases hf : findN l n p with
 | none => simp
 | some a =>
  simp only [Bool.or_eq_true, decide_eq_true_eq, Option.some.injEq, exists_eq_left']
  refine or_congr ?_ Iff.rfl
  omega
theorem NdA.lowG {H G : AH} {nv : Value} {l : List NodeD} (hN : NdA H nv l) (hlow : Low H.length H G) : NdA G nv l := ⟨hN.nt, hN.cs, hN.len, hN.wf, fun i x hx => by
 obtain ⟨j, q, bb, us, pv, wv', bv, qv, h1, h2, h3, h4, h5, h6⟩ := hN.at_ i x hx
 exact ⟨j, q, bb, us, pv, wv', bv, qv, h1, (hlow.1 j (hget_lt h2)).trans h2, h3, h4, h5, h6.low hlow.1⟩⟩
end
section
theorem rightG_len {l : List NodeD} (h : rightG l = true) : l.length ≤ 96 := by
 unfold rightG at h
 rw [Bool.and_eq_true, decide_eq_true_eq] at h
 exact h.1
theorem own_nt {H : AH} {v : Value} {e : TypeId} {sz : Nat} {cells : List Value} {F : List Nat} (h : OwnF H v e sz cells F) : notTuple v = true ∧ v.cells = #[v] := by
 rcases h with ⟨rfl, _, _⟩ | ⟨j, n, rfl, _⟩ <;> exact ⟨rfl, rfl⟩
end
section
theorem own_inv {H : AH} {v : Value} {e : TypeId} {L : List Int} {F : List Nat} (h : OwnF H v e 1 (iv .i64 L) F) : InV H v L := by
 unfold InV
 rcases h with ⟨rfl, h, _⟩ | ⟨j, n, rfl, hb, hl, _⟩
 ·have : L = [] := by
   cases L with
   | nil => rfl
   | cons a L => simp [iv] at h
  subst this
  exact .nil (fun x hx => by cases hx)
 ·rw [iv_length, Nat.mul_one] at hl
  subst hl
  have := CD.Val.sl (H := H) (sz := 1) (j := j) (rows := L.map fun z => [CD.int .i64 z]) hb (by simp [iv_length]) (fun row hr => by
   obtain ⟨y, _, rfl⟩ := List.mem_map.1 hr; rfl) (fun i row c d x hr hc hx => by
   rw [List.getElem?_map] at hr
   cases hL : L[i]? with
   | none => rw [hL] at hr; cases hr
   | some z =>
    rw [hL] at hr
    cases hr
    cases c with
    | succ c => cases c <;> cases hc
    | zero =>
     cases hc
     have hx2 : (iv .i64 L)[i]? = some x := by simpa using hx
     rw [iv, List.getElem?_map, hL] at hx2
     cases hx2
     exact .int)
  rw [List.length_map] at this
  exact this
theorem autA_succ (l : List NodeD) (t : Nat) (x : Int) (P : List Int) : autA l (t + 1) x P = (autA l t x P && (!((nd l t).op.author == x) || decide ((t : Int) ∈ P))) := by
 unfold autA
 rw [List.range_succ, List.all_append]
 simp
end
section
theorem list_getD_ext {a b : List Int} (hl : a.length = b.length) (h : ∀ k, k < a.length → a.getD k 0 = b.getD k 0) : a = b := by
 refine List.ext_getElem hl fun k h1 h2 => ?_
 have := h k h1
 rw [List.getD_eq_getElem?_getD, List.getD_eq_getElem?_getD, List.getElem?_eq_getElem h1, List.getElem?_eq_getElem h2] at this
 exact this
end
section
def kind1B (o : OpD) (inn : Bool) : Bool := if o.kind = 1 then inn && (decide (o.parents.length = 0) && decide (o.seq = 1)) else decide (0 < o.parents.length)
def kind2B (o : OpD) (inn : Bool) : Bool := if o.kind = 2 ∨ o.kind = 3 then !inn && decide (o.who.length = 1) else if 3 < o.kind then decide (o.who.length = 0) else true
def kind3B (o : OpD) : Bool := decide (o.kind = 5 ∨ o.kind = 6) == !decide (o.of = zl 32)
def kind4B (o : OpD) : Bool := if o.kind = 7 then decide (o.check = zl 32) && decide (0 < o.text.size) else !decide (o.check = zl 32) && decide (o.text.size = 0)
def kindB (o : OpD) (inn : Bool) : Bool := kind1B o inn && (kind2B o inn && (kind3B o && kind4B o))
attribute [local simp] wb_bool wb_undef with_lit XL_nil XL_cons XLc_val XLc_call step1_eq stepW_t stepW_f stepC_n stepC_s stepX_s stepX_n stepN_s calleeX xrecv oneV xop_eq xopR_s xopR_n wantedA_eq wantedG_n wantedG_s plain1_int plain1_bool plain1_string bits_i64 bits_u64 bits_u32 bits_u16 bits_u8 xeqA xagg xcmp xarr allK_iv num_iv calleeOf xread xeff xbin xint xnil xun xstr xload xconv xpart xfield xfieldAddr xindexAddr xindex bnd asInt? xslice xlen xmin xmax xbuild xfill xappend xapp2 xappstr xappmk xcap xcopy xcells eval_tmp eval_const put_at put_none fr0_at cells_agg cells_int cells_bool cells_string cells_ptr cells_slice notTuple tab iv_all hget_app hget_app0 hget_cons0 hget_cons set_app set_app0 setR setR_one QL_nil QL_cons QLc_val stepQ_t stepQ_f stepQC_n stepQC_s stepQX_s SL_nil SL_cons SLc_val stepS_t stepS_f ltT ltF leT leF eqT eqF ltTn ltFn leTn leFn eqTn eqFn beqT beqF bneT bneF wi64 wu64 wu32 wu16 wu8 tmodP tdivP hgetL hgetNe hgetEq setL nums_def nums_len Nat.succ_le_of_lt List.getElem?_cons_zero List.getElem?_cons_succ Option.getD_some Int.toNat_add Int.toNat_mul agM okM agB agI agS agP agL agA okB okI okS okP okSl okA
theorem rkind_rc {γ : Nat → Option Nat} {H : AH} {us : List Value} {o : OpD} {pv wv bv : Value} (h : OpC H us o pv wv bv) (hw : o.Wf) (inn : Bool) : AC Try.prog H.length γ 114 #[.agg us.toArray, .bool inn] H (fun v' _ => v' = .bool (kindB o inn)) := by
 have hlen := h.len
 have c1 := h.c1
 have c2 := h.c2
 have c3 := h.c3
 have c4 := h.c4
 have c5 := h.of
 have c6 := h.check
 have c69 := h.c69
 have l5 := hw.of.1
 have l6 := hw.check.1
 have pa := h.parents.acc (fun k hk => (hw.parents k hk).1)
 have wa := h.who.acc
 have p1 := pa.nt
 have p2 := pa.cs
 have p3 := pa.len
 have w1 := wa.nt
 have w2 := wa.cs
 have w3 := wa.len
 obtain ⟨np, hnp⟩ : ∃ n, n = o.parents.length := ⟨_, rfl⟩
 obtain ⟨nw, hnw⟩ : ∃ n, n = o.who.length := ⟨_, rfl⟩
 rw [← hnp] at p3
 rw [← hnw] at w3
 have hK1 : kind1B o inn = if o.kind = 1 then inn && (decide (np = 0) && decide (o.seq = 1)) else decide (0 < np) := by rw [hnp]; rfl
 have hK2 : kind2B o inn = if o.kind = 2 ∨ o.kind = 3 then !inn && decide (nw = 1) else if 3 < o.kind then decide (nw = 0) else true := by rw [hnw]; rfl
 have bad1 : kind1B o inn = false → kindB o inn = false := fun e => by unfold kindB; rw [e]; rfl
 have bad2 : kind2B o inn = false → kindB o inn = false := fun e => by unfold kindB; rw [e]; simp
 have bad3 : kind3B o = false → kindB o inn = false := fun e => by unfold kindB; rw [e]; simp
 refine ac_of_aw Try.func114 rfl Try.ntmps114 Try.results114 (by simp) ?_
 refine aw_seq ?_
 (refine aw_ops (by kernel_rfl) (fun K hK => ?_); simp (disch := first | omega | (simp only [lnS]; try omega)) [-getElem?_pos, -getElem?_neg, hlen]; refine hK _ _ ?_; clear hK K)
 obtain ⟨hlow, hb⟩ := boxed (H := H) us 41
 generalize H ++ [some ⟨us, 41, none⟩] = G at *
 have hlowl := hlow.2
 refine aw_seq ?_
 have hz1 : setR (iv .u8 (zl 32)) 0 (iv .u8 (zl 32)) = iv .u8 (zl 32) := setR_all _ _ rfl
 (refine aw_ops (by kernel_rfl) (fun K hK => ?_); simp (disch := first | omega | (simp only [lnS]; try omega)) [-getElem?_pos, -getElem?_neg, all_zl, hz1, hlowl]; refine hK _ _ ?_; clear hK K)
 have hb1 : hget (G ++ [some ⟨iv .u8 (zl 32), 38, none⟩]) H.length = some ⟨us, 41, none⟩ := hget_left' hb
 have hb2 : hget (G ++ [some ⟨iv .u8 (zl 32), 38, none⟩]) G.length = some ⟨iv .u8 (zl 32), 38, none⟩ := by rw [hget_app0]; rfl
 generalize G ++ [some ⟨iv .u8 (zl 32), 38, none⟩] = G2 at *
 generalize G.length = g at *
 have hz2 : (zl 32).length = 32 := rfl
 have hz3 : (iv .u8 (zl 32)).take 32 = iv .u8 (zl 32) := rfl
 obtain ⟨b, hbe⟩ : ∃ b, b = H.length := ⟨_, rfl⟩
 rw [← hbe] at hb1 ⊢
 refine aw_seq ?_
 refine aw_seq ?_
 refine aw_cut (fun α G' => G2 = G' ∧ α 1 = .bool inn ∧ α 2 = .pointer (some ⟨b, 0, none⟩) ∧ α 5 = .pointer (some ⟨g, 0, none⟩) ∧ α 35 = .bool (!kind1B o inn)) ?_ ?_
 ·rw [hK1]
  by_cases k1 : o.kind = 1
  ·cases inn with
   | false =>
    (refine aw_ops (by kernel_rfl) (fun K hK => ?_); simp (disch := first | omega | (simp only [lnS]; try omega)) [-getElem?_pos, -getElem?_neg, hb1, hlen, c3, k1]; refine hK _ _ ?_; clear hK K)
    exact ⟨rfl, by (first | (simp [put_at, put_none, fr0_at]; done) | rfl), by (first | (simp [put_at, put_none, fr0_at]; done) | rfl), by (first | (simp [put_at, put_none, fr0_at]; done) | rfl), by simp [put_at, k1]⟩
   | true =>
    by_cases n0 : 0 < np
    ·have n0' : ¬ np = 0 := by omega
     (refine aw_ops (by kernel_rfl) (fun K hK => ?_); simp (disch := first | omega | (simp only [lnS]; try omega)) [-getElem?_pos, -getElem?_neg, hb1, hlen, c3, c2, k1, -notTuple, p1, p2, nt_intG, -xlen, p3, n0]; refine hK _ _ ?_; clear hK K)
     exact ⟨rfl, by (first | (simp [put_at, put_none, fr0_at]; done) | rfl), by (first | (simp [put_at, put_none, fr0_at]; done) | rfl), by (first | (simp [put_at, put_none, fr0_at]; done) | rfl), by simp [put_at, k1, n0']⟩
    ·have n0' : np = 0 := by omega
     clear hK1
     subst n0'
     by_cases hs : o.seq = 1
     ·have hs' : (o.seq == 1) = true := by simp [hs]
      (refine aw_ops (by kernel_rfl) (fun K hK => ?_); simp (disch := first | omega | (simp only [lnS]; try omega)) [-getElem?_pos, -getElem?_neg, hb1, hlen, c3, c2, c1, k1, -notTuple, p1, p2, nt_intG, -xlen, p3, hs']; refine hK _ _ ?_; clear hK K)
      exact ⟨rfl, by (first | (simp [put_at, put_none, fr0_at]; done) | rfl), by (first | (simp [put_at, put_none, fr0_at]; done) | rfl), by (first | (simp [put_at, put_none, fr0_at]; done) | rfl), by simp [put_at, k1, hs]⟩
     ·have hs' : (o.seq == 1) = false := by simp [hs]
      (refine aw_ops (by kernel_rfl) (fun K hK => ?_); simp (disch := first | omega | (simp only [lnS]; try omega)) [-getElem?_pos, -getElem?_neg, hb1, hlen, c3, c2, c1, k1, -notTuple, p1, p2, nt_intG, -xlen, p3, hs']; refine hK _ _ ?_; clear hK K)
      exact ⟨rfl, by (first | (simp [put_at, put_none, fr0_at]; done) | rfl), by (first | (simp [put_at, put_none, fr0_at]; done) | rfl), by (first | (simp [put_at, put_none, fr0_at]; done) | rfl), by simp [put_at, k1, hs]⟩
  ·have k1' : (o.kind == 1) = false := by simp [k1]
   (refine aw_ops (by kernel_rfl) (fun K hK => ?_); simp (disch := first | omega | (simp only [lnS]; try omega)) [-getElem?_pos, -getElem?_neg, hb1, hlen, c3, c2, k1, k1', -notTuple, p1, p2, nt_intG, -xlen, p3]; refine hK _ _ ?_; clear hK K)
   refine ⟨rfl, by (first | (simp [put_at, put_none, fr0_at]; done) | rfl), by (first | (simp [put_at, put_none, fr0_at]; done) | rfl), by (first | (simp [put_at, put_none, fr0_at]; done) | rfl), ?_⟩
   simp [put_at, k1]
   rw [Bool.eq_iff_iff]
   simp
 rintro α G' ⟨rfl, h1, h2, h5, h35⟩
 cases q1 : kind1B o inn with
 | false =>
  rw [q1] at h35
  refine aw_t (by (first | (simp [eval_tmp, put_at, h35]; done) | (simp [eval_tmp, put_at, h35]; omega))) (by kernel_rfl) ?_
  refine aw_seq ?_
  (refine aw_ops (by kernel_rfl) (fun K hK => ?_); simp (disch := first | omega | (simp only [lnS]; try omega)) [-getElem?_pos, -getElem?_neg]; refine hK _ _ ?_; clear hK K)
  (refine aw_ret ?_; simp (disch := first | omega | (simp only [lnS]; try omega)) [-getElem?_pos, -getElem?_neg, thenQ_ret, scopeQ_ret, inBlockQ_ret, RQ, resL, resV])
  rw [bad1 q1]
 | true =>
 rw [q1] at h35
 refine aw_f (by (first | (simp [eval_tmp, put_at, h35]; done) | (simp [eval_tmp, put_at, h35]; omega))) (by kernel_rfl) ?_
 refine aw_skip ?_
 refine aw_seq ?_
 refine aw_seq ?_
 refine aw_cut (fun α G' => G2 = G' ∧ α 2 = .pointer (some ⟨b, 0, none⟩) ∧ α 5 = .pointer (some ⟨g, 0, none⟩) ∧ α 63 = .bool (!kind2B o inn)) ?_ ?_
 ·rw [hK2]
  obtain ⟨kk, hkk⟩ : ∃ k, k = o.kind := ⟨_, rfl⟩
  rw [← hkk] at c3 ⊢
  by_cases k23 : kk = 2 ∨ kk = 3
  ·have hor : (kk == 2 || kk == 3) = true := by simpa using k23
   have k3f : ¬ 3 < kk := by omega
   have k3i : ¬ (kk > 3) := by omega
   cases inn with
   | true =>
    rcases k23 with e | e
    ·rw [e] at c3
     (refine aw_ops (by kernel_rfl) (fun K hK => ?_); simp (disch := first | omega | (simp only [lnS]; try omega)) [-getElem?_pos, -getElem?_neg, h1, h2, hb1, hlen, c3, -notTuple]; refine hK _ _ ?_; clear hK K)
     exact ⟨rfl, by (first | (simp [put_at, put_none, fr0_at, h2]; done) | rfl), by (first | (simp [put_at, put_none, fr0_at, h5]; done) | rfl), by simp [put_at, e]⟩
    ·rw [e] at c3
     (refine aw_ops (by kernel_rfl) (fun K hK => ?_); simp (disch := first | omega | (simp only [lnS]; try omega)) [-getElem?_pos, -getElem?_neg, h1, h2, hb1, hlen, c3, -notTuple]; refine hK _ _ ?_; clear hK K)
     exact ⟨rfl, by (first | (simp [put_at, put_none, fr0_at, h2]; done) | rfl), by (first | (simp [put_at, put_none, fr0_at, h5]; done) | rfl), by simp [put_at, e]⟩
   | false =>
    by_cases n1 : nw = 1
    ·clear hK2
     subst n1
     rcases k23 with e | e
     ·rw [e] at c3
      (refine aw_ops (by kernel_rfl) (fun K hK => ?_); simp (disch := first | omega | (simp only [lnS]; try omega)) [-getElem?_pos, -getElem?_neg, h1, h2, hb1, hlen, c3, c4, -notTuple, w1, w2, nt_intG, -xlen, w3]; refine hK _ _ ?_; clear hK K)
      exact ⟨rfl, by (first | (simp [put_at, put_none, fr0_at, h2]; done) | rfl), by (first | (simp [put_at, put_none, fr0_at, h5]; done) | rfl), by simp [put_at, e]⟩
     ·rw [e] at c3
      (refine aw_ops (by kernel_rfl) (fun K hK => ?_); simp (disch := first | omega | (simp only [lnS]; try omega)) [-getElem?_pos, -getElem?_neg, h1, h2, hb1, hlen, c3, c4, -notTuple, w1, w2, nt_intG, -xlen, w3]; refine hK _ _ ?_; clear hK K)
      exact ⟨rfl, by (first | (simp [put_at, put_none, fr0_at, h2]; done) | rfl), by (first | (simp [put_at, put_none, fr0_at, h5]; done) | rfl), by simp [put_at, e]⟩
    ·have n1' : ((nw : Int) == 1) = false := by
      rw [Bool.eq_false_iff]; simp; omega
     rcases k23 with e | e
     ·rw [e] at c3
      (refine aw_ops (by kernel_rfl) (fun K hK => ?_); simp (disch := first | omega | (simp only [lnS]; try omega)) [-getElem?_pos, -getElem?_neg, h1, h2, hb1, hlen, c3, c4, -notTuple, w1, w2, nt_intG, -xlen, w3, n1']; refine hK _ _ ?_; clear hK K)
      exact ⟨rfl, by (first | (simp [put_at, put_none, fr0_at, h2]; done) | rfl), by (first | (simp [put_at, put_none, fr0_at, h5]; done) | rfl), by simp [put_at, e, n1]⟩
     ·rw [e] at c3
      (refine aw_ops (by kernel_rfl) (fun K hK => ?_); simp (disch := first | omega | (simp only [lnS]; try omega)) [-getElem?_pos, -getElem?_neg, h1, h2, hb1, hlen, c3, c4, -notTuple, w1, w2, nt_intG, -xlen, w3, n1']; refine hK _ _ ?_; clear hK K)
      exact ⟨rfl, by (first | (simp [put_at, put_none, fr0_at, h2]; done) | rfl), by (first | (simp [put_at, put_none, fr0_at, h5]; done) | rfl), by simp [put_at, e, n1]⟩
  ·have e2 : (kk == 2) = false := by rw [Bool.eq_false_iff]; simp; omega
   have e3 : (kk == 3) = false := by rw [Bool.eq_false_iff]; simp; omega
   by_cases k3 : 3 < kk
   ·by_cases n0 : 0 < nw
    ·have n0' : ¬ nw = 0 := by omega
     (refine aw_ops (by kernel_rfl) (fun K hK => ?_); simp (disch := first | omega | (simp only [lnS]; try omega)) [-getElem?_pos, -getElem?_neg, h1, h2, hb1, hlen, c3, c4, e2, e3, k3, -notTuple, w1, w2, nt_intG, -xlen, w3, n0]; refine hK _ _ ?_; clear hK K)
     exact ⟨rfl, by (first | (simp [put_at, put_none, fr0_at, h2]; done) | rfl), by (first | (simp [put_at, put_none, fr0_at, h5]; done) | rfl), by simp [put_at, k23, k3, n0']⟩
    ·have n0' : nw = 0 := by omega
     clear hK2
     subst n0'
     (refine aw_ops (by kernel_rfl) (fun K hK => ?_); simp (disch := first | omega | (simp only [lnS]; try omega)) [-getElem?_pos, -getElem?_neg, h1, h2, hb1, hlen, c3, c4, e2, e3, k3, -notTuple, w1, w2, nt_intG, -xlen, w3]; refine hK _ _ ?_; clear hK K)
     exact ⟨rfl, by (first | (simp [put_at, put_none, fr0_at, h2]; done) | rfl), by (first | (simp [put_at, put_none, fr0_at, h5]; done) | rfl), by simp [put_at, k23, k3]⟩
   ·(refine aw_ops (by kernel_rfl) (fun K hK => ?_); simp (disch := first | omega | (simp only [lnS]; try omega)) [-getElem?_pos, -getElem?_neg, h1, h2, hb1, hlen, c3, c4, e2, e3, k3, -notTuple, w1, w2, nt_intG, -xlen, w3]; refine hK _ _ ?_; clear hK K)
    exact ⟨rfl, by (first | (simp [put_at, put_none, fr0_at, h2]; done) | rfl), by (first | (simp [put_at, put_none, fr0_at, h5]; done) | rfl), by simp [put_at, k23, k3]⟩
 clear h1 h2 h5 h35 α
 rintro α G' ⟨rfl, h2, h5, h63⟩
 cases q2 : kind2B o inn with
 | false =>
  rw [q2] at h63
  refine aw_t (by (first | (simp [eval_tmp, put_at, h63]; done) | (simp [eval_tmp, put_at, h63]; omega))) (by kernel_rfl) ?_
  refine aw_seq ?_
  (refine aw_ops (by kernel_rfl) (fun K hK => ?_); simp (disch := first | omega | (simp only [lnS]; try omega)) [-getElem?_pos, -getElem?_neg]; refine hK _ _ ?_; clear hK K)
  (refine aw_ret ?_; simp (disch := first | omega | (simp only [lnS]; try omega)) [-getElem?_pos, -getElem?_neg, thenQ_ret, scopeQ_ret, inBlockQ_ret, RQ, resL, resV])
  rw [bad2 q2]
 | true =>
 rw [q2] at h63
 refine aw_f (by (first | (simp [eval_tmp, put_at, h63]; done) | (simp [eval_tmp, put_at, h63]; omega))) (by kernel_rfl) ?_
 refine aw_skip ?_
 refine aw_seq ?_
 refine aw_seq ?_
 have e5 := zl32_key o.of
 have e6 := zl32_key o.check
 have hk3 : kind3B o = (decide (o.kind = 5 ∨ o.kind = 6) == !decide (o.of = zl 32)) := rfl
 have hk4 : kind4B o = if o.kind = 7 then decide (o.check = zl 32) && decide (0 < o.text.size) else !decide (o.check = zl 32) && decide (o.text.size = 0) := rfl
 have hall : kindB o inn = (kind3B o && kind4B o) := by unfold kindB; rw [q1, q2]; rfl
 rw [hall]
 obtain ⟨B5, hB5⟩ : ∃ B, B = decide (o.of = zl 32) := ⟨_, rfl⟩
 obtain ⟨B6, hB6⟩ : ∃ B, B = decide (o.check = zl 32) := ⟨_, rfl⟩
 rw [← hB5] at e5 hk3
 rw [← hB6] at e6 hk4
 clear hB5 hB6 hall bad1 bad2 bad3 hK1 hK2 q1 q2
 obtain ⟨K3, hK3⟩ : ∃ k, k = kind3B o := ⟨_, rfl⟩
 obtain ⟨K4, hK4⟩ : ∃ k, k = kind4B o := ⟨_, rfl⟩
 rw [← hK3] at hk3 ⊢
 rw [← hK4] at hk4 ⊢
 clear hK3 hK4
 obtain ⟨ts, hts⟩ : ∃ t, t = o.text := ⟨_, rfl⟩
 have htz : ts.size ≤ 9223372036854775807 := by rw [hts]; have := hw.text; simp only [maxLen] at this; omega
 rw [← hts] at c69 hk4
 obtain ⟨kk, hkk⟩ : ∃ k, k = o.kind := ⟨_, rfl⟩
 rw [← hkk] at c3 hk3 hk4
 refine aw_cut (fun α G' => G2 = G' ∧ α 2 = .pointer (some ⟨b, 0, none⟩) ∧ α 5 = .pointer (some ⟨g, 0, none⟩) ∧ α 76 = .bool (!K3)) ?_ ?_
 ·by_cases k5 : kk = 5
  ·rw [k5] at c3 hk3
   cases B5 <;>
   ·(refine aw_plan [] [] [0, 1, 2, 3, 4, 5, 6, 7, 8, 9, 10, 11, 12] 13 0 (by kernel_rfl) (by kernel_rfl) (by kernel_rfl) (fun K hK => ?_)); simp only [sel, List.getElem?_cons_succ, List.getElem?_cons_zero, List.drop_succ_cons, List.drop_zero]; simp (disch := first | omega | (simp only [lnS]; try omega)) [-getElem?_pos, -getElem?_neg, h2, h5, hb1, hb2, hlen, c3, c5, l5, hz2, hz3, e5, PL_nil, plainB_lit, PL_cons, PLc_val, PLc_new, stepP_t, stepP_f, stepPC_n, stepPC_s, stepPX_s, stepPX_n, stepPV_n, stepPV_s, stepPA_t, stepPA_c, stepPA_l, stepPN_s, allocOp, reloc_sl, reloc_ptr, List.map_cons, List.map_nil, List.nil_append, List.append_assoc, List.cons_append, Nat.add_assoc]
    refine hK _ _ ?_; clear hK K
    exact ⟨rfl, by (first | (simp [put_at, put_none, fr0_at, h2]; done) | rfl), by (first | (simp [put_at, put_none, fr0_at, h5]; done) | rfl), by rw [hk3]; simp [put_at]⟩
  ·have k5' : (kk == 5) = false := by simp [k5]
   by_cases k6 : kk = 6
   ·rw [k6] at c3 hk3
    cases B5 <;>
    ·(refine aw_plan [] [] [0, 1, 2, 3, 4, 5, 6, 7, 8, 9, 10, 11, 12] 13 0 (by kernel_rfl) (by kernel_rfl) (by kernel_rfl) (fun K hK => ?_)); simp only [sel, List.getElem?_cons_succ, List.getElem?_cons_zero, List.drop_succ_cons, List.drop_zero]; simp (disch := first | omega | (simp only [lnS]; try omega)) [-getElem?_pos, -getElem?_neg, h2, h5, hb1, hb2, hlen, c3, c5, l5, hz2, hz3, e5, PL_nil, plainB_lit, PL_cons, PLc_val, PLc_new, stepP_t, stepP_f, stepPC_n, stepPC_s, stepPX_s, stepPX_n, stepPV_n, stepPV_s, stepPA_t, stepPA_c, stepPA_l, stepPN_s, allocOp, reloc_sl, reloc_ptr, List.map_cons, List.map_nil, List.nil_append, List.append_assoc, List.cons_append, Nat.add_assoc]
     refine hK _ _ ?_; clear hK K
     exact ⟨rfl, by (first | (simp [put_at, put_none, fr0_at, h2]; done) | rfl), by (first | (simp [put_at, put_none, fr0_at, h5]; done) | rfl), by rw [hk3]; simp [put_at]⟩
   ·have k6' : (kk == 6) = false := by simp [k6]
    cases B5 <;>
    ·(refine aw_plan [] [] [0, 1, 2, 3, 4, 5, 6, 7, 8, 9, 10, 11, 12] 13 0 (by kernel_rfl) (by kernel_rfl) (by kernel_rfl) (fun K hK => ?_)); simp only [sel, List.getElem?_cons_succ, List.getElem?_cons_zero, List.drop_succ_cons, List.drop_zero]; simp (disch := first | omega | (simp only [lnS]; try omega)) [-getElem?_pos, -getElem?_neg, h2, h5, hb1, hb2, hlen, c3, c5, l5, hz2, hz3, e5, k5, k5', k6, k6', PL_nil, plainB_lit, PL_cons, PLc_val, PLc_new, stepP_t, stepP_f, stepPC_n, stepPC_s, stepPX_s, stepPX_n, stepPV_n, stepPV_s, stepPA_t, stepPA_c, stepPA_l, stepPN_s, allocOp, reloc_sl, reloc_ptr, List.map_cons, List.map_nil, List.nil_append, List.append_assoc, List.cons_append, Nat.add_assoc]
     refine hK _ _ ?_; clear hK K
     exact ⟨rfl, by (first | (simp [put_at, put_none, fr0_at, h2]; done) | rfl), by (first | (simp [put_at, put_none, fr0_at, h5]; done) | rfl), by rw [hk3]; simp [put_at, k5, k6]⟩
 clear h2 h5 h63 α
 rintro α G' ⟨rfl, h2, h5, h76⟩
 cases K3 with
 | false =>
  refine aw_t (by (first | (simp [eval_tmp, put_at, h76]; done) | (simp [eval_tmp, put_at, h76]; omega))) (by kernel_rfl) ?_
  refine aw_seq ?_
  (refine aw_ops (by kernel_rfl) (fun K hK => ?_); simp (disch := first | omega | (simp only [lnS]; try omega)) [-getElem?_pos, -getElem?_neg]; refine hK _ _ ?_; clear hK K)
  (refine aw_ret ?_; simp (disch := first | omega | (simp only [lnS]; try omega)) [-getElem?_pos, -getElem?_neg, thenQ_ret, scopeQ_ret, inBlockQ_ret, RQ, resL, resV])
 | true =>
 refine aw_f (by (first | (simp [eval_tmp, put_at, h76]; done) | (simp [eval_tmp, put_at, h76]; omega))) (by kernel_rfl) ?_
 refine aw_skip ?_
 refine aw_seq ?_
 refine aw_seq ?_
 by_cases k7 : kk = 7
 ·rw [if_pos k7] at hk4
  (refine aw_ops (by kernel_rfl) (fun K hK => ?_); simp (disch := first | omega | (simp only [lnS]; try omega)) [-getElem?_pos, -getElem?_neg, h2, hb1, hlen, c3, k7]; refine hK _ _ ?_; clear hK K)
  refine aw_t (by (first | (simp [eval_tmp, put_at]; done) | (simp [eval_tmp, put_at]; omega))) (by kernel_rfl) ?_
  refine aw_seq ?_
  cases B6 with
  | false =>
   (refine aw_ops (by kernel_rfl) (fun K hK => ?_); simp (disch := first | omega | (simp only [lnS]; try omega)) [-getElem?_pos, -getElem?_neg, h2, h5, hb1, hb2, hlen, c6, l6, hz2, hz3, e6]; refine hK _ _ ?_; clear hK K)
   (refine aw_ret ?_; simp (disch := first | omega | (simp only [lnS]; try omega)) [-getElem?_pos, -getElem?_neg, thenQ_ret, scopeQ_ret, inBlockQ_ret, RQ, resL, resV])
   rw [hk4]; rfl
  | true =>
   by_cases n0 : 0 < ts.size
   ·(refine aw_ops (by kernel_rfl) (fun K hK => ?_); simp (disch := first | omega | (simp only [lnS]; try omega)) [-getElem?_pos, -getElem?_neg, h2, h5, hb1, hb2, hlen, c6, c69, l6, hz2, hz3, e6, n0, htz]; refine hK _ _ ?_; clear hK K)
    (refine aw_ret ?_; simp (disch := first | omega | (simp only [lnS]; try omega)) [-getElem?_pos, -getElem?_neg, thenQ_ret, scopeQ_ret, inBlockQ_ret, RQ, resL, resV])
    rw [hk4]; simp [n0]
   ·(refine aw_ops (by kernel_rfl) (fun K hK => ?_); simp (disch := first | omega | (simp only [lnS]; try omega)) [-getElem?_pos, -getElem?_neg, h2, h5, hb1, hb2, hlen, c6, c69, l6, hz2, hz3, e6, n0, htz]; refine hK _ _ ?_; clear hK K)
    (refine aw_ret ?_; simp (disch := first | omega | (simp only [lnS]; try omega)) [-getElem?_pos, -getElem?_neg, thenQ_ret, scopeQ_ret, inBlockQ_ret, RQ, resL, resV])
    rw [hk4]; simp [n0]
 ·have k7' : (kk == 7) = false := by simp [k7]
  rw [if_neg k7] at hk4
  (refine aw_ops (by kernel_rfl) (fun K hK => ?_); simp (disch := first | omega | (simp only [lnS]; try omega)) [-getElem?_pos, -getElem?_neg, h2, hb1, hlen, c3, k7, k7']; refine hK _ _ ?_; clear hK K)
  refine aw_f (by (first | (simp [eval_tmp, put_at]; done) | (simp [eval_tmp, put_at]; omega))) (by kernel_rfl) ?_
  refine aw_skip ?_
  refine aw_seq ?_
  cases B6 with
  | true =>
   (refine aw_ops (by kernel_rfl) (fun K hK => ?_); simp (disch := first | omega | (simp only [lnS]; try omega)) [-getElem?_pos, -getElem?_neg, h2, h5, hb1, hb2, hlen, c6, l6, hz2, hz3, e6]; refine hK _ _ ?_; clear hK K)
   (refine aw_ret ?_; simp (disch := first | omega | (simp only [lnS]; try omega)) [-getElem?_pos, -getElem?_neg, thenQ_ret, scopeQ_ret, inBlockQ_ret, RQ, resL, resV])
   rw [hk4]; rfl
  | false =>
   by_cases n0 : ts.size = 0
   ·(refine aw_ops (by kernel_rfl) (fun K hK => ?_); simp (disch := first | omega | (simp only [lnS]; try omega)) [-getElem?_pos, -getElem?_neg, h2, h5, hb1, hb2, hlen, c6, c69, l6, hz2, hz3, e6, n0, htz]; refine hK _ _ ?_; clear hK K)
    (refine aw_ret ?_; simp (disch := first | omega | (simp only [lnS]; try omega)) [-getElem?_pos, -getElem?_neg, thenQ_ret, scopeQ_ret, inBlockQ_ret, RQ, resL, resV])
    rw [hk4]; simp [n0]
   ·have n0' : ((ts.size : Int) == 0) = false := beq_eq_false_iff_ne.2 (by omega)
    (refine aw_ops (by kernel_rfl) (fun K hK => ?_); simp (disch := first | omega | (simp only [lnS]; try omega)) [-getElem?_pos, -getElem?_neg, h2, h5, hb1, hb2, hlen, c6, c69, l6, hz2, hz3, e6, n0, n0', htz]; refine hK _ _ ?_; clear hK K)
    (refine aw_ret ?_; simp (disch := first | omega | (simp only [lnS]; try omega)) [-getElem?_pos, -getElem?_neg, thenQ_ret, scopeQ_ret, inBlockQ_ret, RQ, resL, resV])
    rw [hk4]; simp [n0]
end
section
theorem cmpI_lt {a b : Int} : cmpI a b < 0 ↔ a < b := by
 unfold cmpI
 split
 ·simp; omega
 ·split <;> simp <;> omega
theorem rise_len {l : List Int} (h1 : ∀ z ∈ l, memI z = true) (h2 : ∀ i, i + 1 < l.length → l.getD i 0 < l.getD (i + 1) 0) : l.length ≤ 8 := by
 have hlo : ∀ i, i < l.length → (i : Int) ≤ l.getD i 0 := by
  intro i
  induction i with
  | zero =>
   intro hi
   have := h1 (l.getD 0 0) (by rw [List.getD_eq_getElem?_getD, List.getElem?_eq_getElem hi]; exact List.getElem_mem hi)
   unfold memI at this
   rw [Bool.and_eq_true, decide_eq_true_eq, decide_eq_true_eq] at this
   omega
  | succ i ih =>
   intro hi
   have := ih (by omega)
   have := h2 i hi
   omega
 by_cases h : l.length = 0
 ·omega
 ·have hi : l.length - 1 < l.length := by omega
  have a := hlo (l.length - 1) hi
  have b := h1 (l.getD (l.length - 1) 0) (by rw [List.getD_eq_getElem?_getD, List.getElem?_eq_getElem hi]; exact List.getElem_mem hi)
  unfold memI at b
  rw [Bool.and_eq_true, decide_eq_true_eq, decide_eq_true_eq] at b
  omega
def refO (o : OpD) : Bool := memI o.author && (decide (o.seq ≠ 0) && (decide (1 ≤ o.kind) && (decide (o.kind ≤ 7) && (decide (o.parents.length ≤ 8) && (decide (o.boxes.length ≤ 8) && (decide (o.text.size ≤ 256) && (risesK o.parents && ((o.who.all memI && risesI o.who) && (boxesB o && kindB o (decide (o.author ∈ o.who)))))))))))
theorem boxes_len {o : OpD} (h : boxesB o = true) : o.boxes.length ≤ 8 := by
 unfold boxesB risesX at h
 rw [Bool.and_eq_true, List.all_eq_true, List.all_eq_true] at h
 have := rise_len (l := o.boxes.map BoxD.to) (fun z hz => by
  obtain ⟨b, hb, rfl⟩ := List.mem_map.1 hz
  have := h.1 b hb
  unfold boxB at this
  rw [Bool.and_eq_true] at this
  exact this.1) (fun i hi => by
  rw [List.length_map] at hi
  have := h.2 i (List.mem_range.2 (by omega))
  rw [decide_eq_true_eq, cmpI_lt] at this
  exact this)
 rwa [List.length_map] at this
theorem risesK_nil {ps : List (List Int)} (h : ps.length = 0) : risesK ps = true := by
 unfold risesK
 rw [h]; rfl
theorem refO_eq (o : OpD) : refO o = rightO o := by
 unfold refO rightO
 by_cases hb : boxesB o = true
 case neg =>
  have : boxesB o = false := by simpa using hb
  rw [this]; simp
 have hbl := boxes_len hb
 rw [hb]
 by_cases g1 : 1 ≤ o.kind
 case neg => simp [g1]
 by_cases g2 : o.kind ≤ 7
 case neg => simp [g2]
 cases g3 : memI o.author with
 | false => simp
 | true =>
 have g4 : o.boxes.length ≤ 8 := hbl
 have d8 : decide (o.boxes.length ≤ 8) = true := by simpa using g4
 have dg1 : decide (1 ≤ o.kind) = true := by simpa using g1
 have dg2 : decide (o.kind ≤ 7) = true := by simpa using g2
 rw [d8, dg1, dg2]
 unfold kindB kind1B kind2B kind3B kind4B placeB whoB keysB textOk
 have r1 : decide (0 < o.parents.length) = !decide (o.parents.length = 0) := by
  by_cases h : o.parents.length = 0
  ·simp [h]
  ·have : 0 < o.parents.length := by omega
   simp [h, this]
 have r2 : decide (o.seq ≠ 0) = !decide (o.seq = 0) := by simp
 have r3 : decide (0 < o.text.size) = !decide (o.text.size = 0) := by
  by_cases h : o.text.size = 0
  ·rw [h]; rfl
  ·have : 0 < o.text.size := by omega
   rw [decide_eq_true this, decide_eq_false h]; rfl
 have r4 : decide (o.of ≠ zl 32) = !decide (o.of = zl 32) := by simp
 have i1 : (!decide (o.parents.length = 0) || decide (o.parents.length ≤ 8)) = true := by
  by_cases h : o.parents.length = 0
  ·rw [h]; rfl
  ·rw [decide_eq_false h]; rfl
 have i2 : (!decide (o.parents.length = 0) || risesK o.parents) = true := by
  by_cases h : o.parents.length = 0
  ·rw [risesK_nil h, Bool.or_true]
  ·rw [decide_eq_false h]; rfl
 have i3 : (!decide (o.seq = 1) || !decide (o.seq = 0)) = true := by
  by_cases h : o.seq = 1
  ·rw [h]; rfl
  ·rw [decide_eq_false h]; rfl
 have i4 : (!decide (o.who.length = 0) || (o.who.all memI && risesI o.who)) = true := by
  by_cases h : o.who.length = 0
  ·have := List.eq_nil_of_length_eq_zero h
   rw [this]; rfl
  ·rw [decide_eq_false h]; rfl
 have i6 : (!decide (o.text.size = 0) || decide (o.text.size ≤ 256)) = true := by
  by_cases h : o.text.size = 0
  ·rw [h]; rfl
  ·rw [decide_eq_false h]; rfl
 rw [r1, r2, r3, r4]
 generalize decide (o.parents.length = 0) = P0 at *
 generalize decide (o.parents.length ≤ 8) = P8 at *
 generalize risesK o.parents = RK at *
 generalize decide (o.seq = 1) = S1 at *
 generalize decide (o.seq = 0) = S0 at *
 generalize decide (o.who.length = 0) = W0 at *
 generalize decide (o.who.length = 1) = W1 at *
 generalize (o.who.all memI && risesI o.who) = WA at *
 generalize decide (o.author ∈ o.who) = IN at *
 generalize decide (o.text.size = 0) = T0 at *
 generalize decide (o.text.size ≤ 256) = T8 at *
 generalize decide (o.of = zl 32) = OF at *
 generalize decide (o.check = zl 32) = C0 at *
 have hk : o.kind = 1 ∨ o.kind = 2 ∨ o.kind = 3 ∨ o.kind = 4 ∨ o.kind = 5 ∨ o.kind = 6 ∨ o.kind = 7 := by omega
 clear r1 r2 r3 r4 d8 dg1 dg2 g1 g2 g3 g4 hbl hb
 rcases hk with hk | hk | hk | hk | hk | hk | hk <;> rw [hk] <;> clear hk <;> revert P0 P8 RK S1 S0 W0 W1 WA IN T0 T8 OF C0 <;> decide +kernel
end
section
theorem nd_take {l : List NodeD} {i a : Nat} (h : a < i) : nd (l.take i) a = nd l a := by
 unfold nd
 rw [List.getD_eq_getElem?_getD, List.getD_eq_getElem?_getD, List.getElem?_take_of_lt h]
theorem find_congr {l m : List NodeD} {n : Nat} (h : ∀ a, a < n → nd l a = nd m a) (k : List Int) : findN l n k = findN m n k := by
 induction n with
 | zero => rfl
 | succ n ih => rw [findN_succ, findN_succ, ih (fun a ha => h a (by omega)), h n (by omega)]
theorem inB_congr {l m : List NodeD} {n : Nat} (h : ∀ a, a < n → nd l a = nd m a) (ps : List (List Int)) (k : Nat) : inB l n ps k = inB m n ps k := by
 unfold inB
 congr 1
 funext p
 rw [find_congr h p]
 cases hf : findN m n p with
 | none => rfl
 | some a =>
  simp only []
  rw [h a (findN_lt hf)]
theorem pastL_congr {l m : List NodeD} {n : Nat} (h : ∀ a, a < n → nd l a = nd m a) (ps : List (List Int)) : pastL l n ps = pastL m n ps := by
 unfold pastL
 congr 1
 exact List.filter_congr fun k _ => inB_congr h ps k
theorem autN_congr {l m : List NodeD} {n : Nat} (h : ∀ a, a < n → nd l a = nd m a) (x : Int) : autN l n x = autN m n x := by
 induction n with
 | zero => rfl
 | succ n ih => rw [autN_succ, autN_succ, ih (fun a ha => h a (by omega)), h n (by omega)]
theorem autA_congr {l m : List NodeD} {n : Nat} (h : ∀ a, a < n → nd l a = nd m a) (x : Int) (P : List Int) : autA l n x P = autA m n x P := by
 induction n with
 | zero => rfl
 | succ n ih => rw [autA_succ, autA_succ, ih (fun a ha => h a (by omega)), h n (by omega)]
theorem turnB_congr {l m : List NodeD} {n : Nat} (h : ∀ a, a < n → nd l a = nd m a) (o : OpD) (P : List Int) : turnB l n o P = turnB m n o P := by
 unfold turnB
 rw [autN_congr h, autA_congr h]
attribute [local simp] wb_bool wb_undef with_lit XL_nil XL_cons XLc_val XLc_call step1_eq stepW_t stepW_f stepC_n stepC_s stepX_s stepX_n stepN_s calleeX xrecv oneV xop_eq xopR_s xopR_n wantedA_eq wantedG_n wantedG_s plain1_int plain1_bool plain1_string bits_i64 bits_u64 bits_u32 bits_u16 bits_u8 xeqA xagg xcmp xarr allK_iv num_iv calleeOf xread xeff xbin xint xnil xun xstr xload xconv xpart xfield xfieldAddr xindexAddr xindex bnd asInt? xslice xlen xmin xmax xbuild xfill xappend xapp2 xappstr xappmk xcap xcopy xcells eval_tmp eval_const put_at put_none fr0_at cells_agg cells_int cells_bool cells_string cells_ptr cells_slice notTuple tab iv_all hget_app hget_app0 hget_cons0 hget_cons set_app set_app0 setR setR_one QL_nil QL_cons QLc_val stepQ_t stepQ_f stepQC_n stepQC_s stepQX_s SL_nil SL_cons SLc_val stepS_t stepS_f ltT ltF leT leF eqT eqF ltTn ltFn leTn leFn eqTn eqFn beqT beqF bneT bneF wi64 wu64 wu32 wu16 wu8 tmodP tdivP hgetL hgetNe hgetEq setL nums_def nums_len Nat.succ_le_of_lt List.getElem?_cons_zero List.getElem?_cons_succ Option.getD_some Int.toNat_add Int.toNat_mul agM okM agB agI agS agP agL agA okB okI okS okP okSl okA
theorem NdV.take {H : AH} {v : Value} {l : List NodeD} (h : NdV H v l) (hl : ∀ x ∈ l, x.Wf) {i : Nat} (hi : i < l.length) : ∃ v', NdA H v' (l.take i) ∧ ∀ G : AH, xslice Try.prog 22 v none (some (.int .i64 (i : Nat))) G = some v' := by
 have hrow : ∀ row ∈ l.map NodeD.row, row.length = 104 := fun row hr => by
  obtain ⟨y, hy, rfl⟩ := List.mem_map.1 hr
  have h1 := (hl y hy).id.1
  have h2 := (hl y hy).op.of.1
  have h3 := (hl y hy).op.check.1
  simp [NodeD.row, OpD.row, kd, h1, h2, h3]
 obtain ⟨j, b, us, hv, hb, hle, hx, hus, hul, hle2, hc, hval⟩ := val_at (P := Try.prog) (t := 22) (e := 50) (sz := 104) h (by simp) (by simp) (by omega) hrow (i := i) (row := (nd l i).row) (by rw [List.getElem?_map, nd_get hi]; rfl)
 rw [List.length_map] at hv
 have hlt : (l.take i).length = i := by rw [List.length_take]; omega
 refine ⟨.slice (some ⟨j, 0, none⟩) i i, ⟨rfl, rfl, ?_, fun x hx => hl x (List.mem_of_mem_take hx), fun k x hk => ?_⟩, fun G => ?_⟩
 ·rw [hlt]
  unfold xlen
  simp
 ·have hki : k < i := by have := (List.getElem?_eq_some_iff.1 hk).1; omega
  rw [List.getElem?_take_of_lt hki] at hk
  obtain ⟨j', b', us', hv', hb', hle', hx', hus', hul', hle2', hc', hval'⟩ := val_at (P := Try.prog) (t := 22) (e := 50) (sz := 104) h (by simp) (by simp) (by omega) hrow (i := k) (row := x.row) (by rw [List.getElem?_map, hk]; rfl)
  rw [List.length_map] at hv'
  rw [hv] at hv'
  cases hv'
  obtain ⟨pv, wv, bv, qv, hcc⟩ := node_c (hl x (List.mem_of_getElem? hk)) hval'
  refine ⟨j, k * 104, b', us', pv, wv, bv, qv, ?_, hb', hle2', hc', hus', hcc⟩
  unfold xindexAddr
  simp
  omega
 ·rw [hv]
  unfold xslice
  simp [bnd]
  omega
end
section
theorem keys_getD_ext {a b : List (List Int)} (hl : a.length = b.length) (h : ∀ k, k < a.length → a.getD k [] = b.getD k []) : a = b := by
 refine List.ext_getElem hl fun k h1 h2 => ?_
 have := h k h1
 rw [List.getD_eq_getElem?_getD, List.getD_eq_getElem?_getD, List.getElem?_eq_getElem h1, List.getElem?_eq_getElem h2] at this
 exact this
theorem key_getD {a : List (List Int)} (h : ∀ k ∈ a, k.length = 32) {i : Nat} (hi : i < a.length) : (a.getD i []).length = 32 := by
 rw [List.getD_eq_getElem?_getD, List.getElem?_eq_getElem hi]
 exact h _ (List.getElem_mem hi)
attribute [local simp] wb_bool wb_undef with_lit XL_nil XL_cons XLc_val XLc_call step1_eq stepW_t stepW_f stepC_n stepC_s stepX_s stepX_n stepN_s calleeX xrecv oneV xop_eq xopR_s xopR_n wantedA_eq wantedG_n wantedG_s plain1_int plain1_bool plain1_string bits_i64 bits_u64 bits_u32 bits_u16 bits_u8 xeqA xagg xcmp xarr allK_iv num_iv calleeOf xread xeff xbin xint xnil xun xstr xload xconv xpart xfield xfieldAddr xindexAddr xindex bnd asInt? xslice xlen xmin xmax xbuild xfill xappend xapp2 xappstr xappmk xcap xcopy xcells eval_tmp eval_const put_at put_none fr0_at cells_agg cells_int cells_bool cells_string cells_ptr cells_slice notTuple tab iv_all hget_app hget_app0 hget_cons0 hget_cons set_app set_app0 setR setR_one QL_nil QL_cons QLc_val stepQ_t stepQ_f stepQC_n stepQC_s stepQX_s SL_nil SL_cons SLc_val stepS_t stepS_f ltT ltF leT leF eqT eqF ltTn ltFn leTn leFn eqTn eqFn beqT beqF bneT bneF wi64 wu64 wu32 wu16 wu8 tmodP tdivP hgetL hgetNe hgetEq setL nums_def nums_len Nat.succ_le_of_lt List.getElem?_cons_zero List.getElem?_cons_succ Option.getD_some Int.toNat_add Int.toNat_mul agM okM agB agI agS agP agL agA okB okI okS okP okSl okA
theorem sameKeys_rc {γ : Nat → Option Nat} {H : AH} {u v : Value} {a b : List (List Int)} (ha : KsV H u a) (hb : KsV H v b) (ka : ∀ k ∈ a, k.length = 32) (kb : ∀ k ∈ b, k.length = 32) (hm : a.length ≤ maxLen) : AC Try.prog H.length γ 50 #[u, v] H (fun v' _ => v' = .bool (decide (a = b))) := by
 obtain ⟨hnt, hvc, hxl, hat⟩ := ha.acc ka
 obtain ⟨hnt2, hvc2, hxl2, hat2⟩ := hb.acc kb
 have hm63 : a.length ≤ 9223372036854775807 := by simp only [maxLen] at hm; omega
 refine ac_of_aw Try.func50 rfl Try.ntmps50 Try.results50 (by simp) ?_
 refine aw_seq ?_
 (refine aw_ops (by kernel_rfl) (fun K hK => ?_); simp (disch := first | omega | (simp only [lnS]; try omega)) [-getElem?_pos, -getElem?_neg]; refine hK _ _ ?_; clear hK K)
 refine aw_seq ?_
 refine aw_seq ?_
 by_cases hab : a.length = b.length
 case neg =>
  have hne : ((a.length : Int) == (b.length : Int)) = false := by
   rw [Bool.eq_false_iff]; simp; omega
  (refine aw_ops (by kernel_rfl) (fun K hK => ?_); simp (disch := first | omega | (simp only [lnS]; try omega)) [-getElem?_pos, -getElem?_neg, -notTuple, hnt, hvc, hnt2, hvc2, nt_intG, -xlen, hxl, hxl2, hab, hne]; refine hK _ _ ?_; clear hK K)
  refine aw_t (by (first | (simp [eval_tmp, put_at]; done) | (simp [eval_tmp, put_at]; omega))) (by kernel_rfl) ?_
  refine aw_seq ?_
  (refine aw_ops (by kernel_rfl) (fun K hK => ?_); simp (disch := first | omega | (simp only [lnS]; try omega)) [-getElem?_pos, -getElem?_neg]; refine hK _ _ ?_; clear hK K)
  (refine aw_ret ?_; simp (disch := first | omega | (simp only [lnS]; try omega)) [-getElem?_pos, -getElem?_neg, thenQ_ret, scopeQ_ret, inBlockQ_ret, RQ, resL, resV])
  all_goals exact fun h => hab (congrArg List.length h)
 (refine aw_ops (by kernel_rfl) (fun K hK => ?_); simp (disch := first | omega | (simp only [lnS]; try omega)) [-getElem?_pos, -getElem?_neg, -notTuple, hnt, hvc, hnt2, hvc2, nt_intG, -xlen, hxl, hxl2, hab]; refine hK _ _ ?_; clear hK K)
 refine aw_f (by (first | (simp [eval_tmp, put_at]; done) | (simp [eval_tmp, put_at]; omega))) (by kernel_rfl) ?_
 refine aw_skip ?_
 refine aw_seq ?_
 refine aw_seq ?_
 (refine aw_ops (by kernel_rfl) (fun K hK => ?_); simp (disch := first | omega | (simp only [lnS]; try omega)) [-getElem?_pos, -getElem?_neg]; refine hK _ _ ?_; clear hK K)
 refine aw_block ?_
 refine aw_loop (fun c α G => ∃ i : Nat, i + c = a.length ∧ H = G ∧ α 0 = u ∧ α 1 = v ∧ α 5 = .int .i64 (i : Nat) ∧ ∀ k, k < i → a.getD k [] = b.getD k []) a.length ?_ ?_
 ·exact ⟨0, by omega, rfl, by (first | (simp [put_at, put_none, fr0_at]; done) | rfl), by (first | (simp [put_at, put_none, fr0_at]; done) | rfl), by (first | (simp [put_at, put_none, fr0_at]; done) | rfl), fun k hk => by omega⟩
 rintro c α G ⟨i, hic, rfl, h0, h1, h5, hpre⟩
 refine aw_seq ?_
 refine aw_seq ?_
 rw [← hab] at hxl2
 by_cases hi : i < a.length
 case neg =>
  (refine aw_ops (by kernel_rfl) (fun K hK => ?_); simp (disch := first | omega | (simp only [lnS]; try omega)) [-getElem?_pos, -getElem?_neg, h0, h5, -notTuple, hnt, hvc, nt_intG, -xlen, hxl, hi]; refine hK _ _ ?_; clear hK K)
  refine aw_f (by (first | (simp [eval_tmp, put_at, hi]; done) | (simp [eval_tmp, put_at, hi]; omega))) (by kernel_rfl) ?_
  refine aw_exit ?_
  refine aw_seq ?_
  (refine aw_ops (by kernel_rfl) (fun K hK => ?_); simp (disch := first | omega | (simp only [lnS]; try omega)) [-getElem?_pos, -getElem?_neg]; refine hK _ _ ?_; clear hK K)
  (refine aw_ret ?_; simp (disch := first | omega | (simp only [lnS]; try omega)) [-getElem?_pos, -getElem?_neg, thenQ_ret, scopeQ_ret, inBlockQ_ret, RQ, resL, resV])
  exact keys_getD_ext hab (fun k hk => hpre k (by omega))
 (refine aw_ops (by kernel_rfl) (fun K hK => ?_); simp (disch := first | omega | (simp only [lnS]; try omega)) [-getElem?_pos, -getElem?_neg, h0, h5, -notTuple, hnt, hvc, nt_intG, -xlen, hxl, hi]; refine hK _ _ ?_; clear hK K)
 refine aw_t (by (first | (simp [eval_tmp, put_at, hi]; done) | (simp [eval_tmp, put_at, hi]; omega))) (by kernel_rfl) ?_
 refine aw_skip ?_
 refine aw_seq ?_
 refine aw_block ?_
 obtain ⟨p, x, q1, q2, q3, rfl, q4⟩ := hat i hi
 obtain ⟨p2, x2, q12, q22, q32, rfl, q42⟩ := hat2 i (by omega)
 have q4 := q4 H (Low.refl (Nat.le_refl _))
 have q42 := q42 H (Low.refl (Nat.le_refl _))
 have ly := key_getD ka hi
 have lz := key_getD kb (i := i) (by omega)
 obtain ⟨y, hy⟩ : ∃ y, y = a.getD i [] := ⟨_, rfl⟩
 obtain ⟨z, hz⟩ : ∃ z, z = b.getD i [] := ⟨_, rfl⟩
 rw [← hy] at q4 ly
 rw [← hz] at q42 lz
 refine aw_seq ?_
 by_cases hyz : y = z
 case neg =>
  have hyb : (y == z) = false := by simp [hyz]
  (refine aw_plan [] [] [0, 1, 2, 3, 4, 5, 6, 7, 8] 9 0 (by kernel_rfl) (by kernel_rfl) (by kernel_rfl) (fun K hK => ?_)); simp only [sel, List.getElem?_cons_succ, List.getElem?_cons_zero, List.drop_succ_cons, List.drop_zero]; simp (disch := first | omega | (simp only [lnS]; try omega)) [-getElem?_pos, -getElem?_neg, h0, h1, h5, -notTuple, hnt, hvc, hnt2, hvc2, q1, q12, nt_intG, nt_aggG, -xindexAddr, q2, q22, -xload, q4, q42, ly, lz, hyz, hyb, PL_nil, plainB_lit, PL_cons, PLc_val, PLc_new, stepP_t, stepP_f, stepPC_n, stepPC_s, stepPX_s, stepPX_n, stepPV_n, stepPV_s, stepPA_t, stepPA_c, stepPA_l, stepPN_s, allocOp, reloc_sl, reloc_ptr, List.map_cons, List.map_nil, List.nil_append, List.append_assoc, List.cons_append, Nat.add_assoc]
  refine hK _ _ ?_; clear hK K
  refine aw_t (by (first | (simp [eval_tmp, put_at]; done) | (simp [eval_tmp, put_at]; omega))) (by kernel_rfl) ?_
  refine aw_seq ?_
  (refine aw_ops (by kernel_rfl) (fun K hK => ?_); simp (disch := first | omega | (simp only [lnS]; try omega)) [-getElem?_pos, -getElem?_neg]; refine hK _ _ ?_; clear hK K)
  (refine aw_ret ?_; simp (disch := first | omega | (simp only [lnS]; try omega)) [-getElem?_pos, -getElem?_neg, thenQ_ret, scopeQ_ret, inBlockQ_ret, RQ, resL, resV])
  intro h
  rw [hy, hz, h] at hyz
  exact hyz rfl
 have hyb : (y == z) = true := by simp [hyz]
 (refine aw_plan [] [] [0, 1, 2, 3, 4, 5, 6, 7, 8] 9 0 (by kernel_rfl) (by kernel_rfl) (by kernel_rfl) (fun K hK => ?_)); simp only [sel, List.getElem?_cons_succ, List.getElem?_cons_zero, List.drop_succ_cons, List.drop_zero]; simp (disch := first | omega | (simp only [lnS]; try omega)) [-getElem?_pos, -getElem?_neg, h0, h1, h5, -notTuple, hnt, hvc, hnt2, hvc2, q1, q12, nt_intG, nt_aggG, -xindexAddr, q2, q22, -xload, q4, q42, ly, lz, hyz, hyb, PL_nil, plainB_lit, PL_cons, PLc_val, PLc_new, stepP_t, stepP_f, stepPC_n, stepPC_s, stepPX_s, stepPX_n, stepPV_n, stepPV_s, stepPA_t, stepPA_c, stepPA_l, stepPN_s, allocOp, reloc_sl, reloc_ptr, List.map_cons, List.map_nil, List.nil_append, List.append_assoc, List.cons_append, Nat.add_assoc]
 refine hK _ _ ?_; clear hK K
 refine aw_f (by (first | (simp [eval_tmp, put_at]; done) | (simp [eval_tmp, put_at]; omega))) (by kernel_rfl) ?_
 refine aw_skip ?_
 (refine aw_ops (by kernel_rfl) (fun K hK => ?_); simp (disch := first | omega | (simp only [lnS]; try omega)) [-getElem?_pos, -getElem?_neg, h5]; refine hK _ _ ?_; clear hK K)
 refine ⟨c - 1, by omega, i + 1, by omega, rfl, by (first | (simp [put_at, put_none, fr0_at, h0]; done) | rfl), by (first | (simp [put_at, put_none, fr0_at, h1]; done) | rfl), by (first | (simp [put_at, put_none, fr0_at]; done) | rfl), fun k hk => ?_⟩
 by_cases e : k = i
 ·subst e
  rw [← hy, ← hz, hyz]
 ·exact hpre k (by omega)
end
section
def bodyAt (l : List BoxD) (k : Nat) : ByteArray := ((l[k]?).map BoxD.body).getD ByteArray.empty
def greatO (o : OpD) : Bool := decide (30 < o.parents.length) || (decide (30 < o.who.length) || (decide (30 < o.boxes.length) || (decide (600 < o.text.size) || (List.range o.boxes.length).any fun k => decide (600 < (bodyAt o.boxes k).size))))
theorem any_none {n : Nat} {p : Nat → Bool} (h : ∀ k, k < n → p k = false) : (List.range n).any p = false := by
 rw [List.any_eq_false]
 intro k hk
 rw [h k (List.mem_range.1 hk)]
 decide
theorem any_some {n k : Nat} {p : Nat → Bool} (hk : k < n) (h : p k = true) : (List.range n).any p = true := List.any_eq_true.2 ⟨k, List.mem_range.2 hk, h⟩
attribute [local simp] wb_bool wb_undef with_lit XL_nil XL_cons XLc_val XLc_call step1_eq stepW_t stepW_f stepC_n stepC_s stepX_s stepX_n stepN_s calleeX xrecv oneV xop_eq xopR_s xopR_n wantedA_eq wantedG_n wantedG_s plain1_int plain1_bool plain1_string bits_i64 bits_u64 bits_u32 bits_u16 bits_u8 xeqA xagg xcmp xarr allK_iv num_iv calleeOf xread xeff xbin xint xnil xun xstr xload xconv xpart xfield xfieldAddr xindexAddr xindex bnd asInt? xslice xlen xmin xmax xbuild xfill xappend xapp2 xappstr xappmk xcap xcopy xcells eval_tmp eval_const put_at put_none fr0_at cells_agg cells_int cells_bool cells_string cells_ptr cells_slice notTuple tab iv_all hget_app hget_app0 hget_cons0 hget_cons set_app set_app0 setR setR_one QL_nil QL_cons QLc_val stepQ_t stepQ_f stepQC_n stepQC_s stepQX_s SL_nil SL_cons SLc_val stepS_t stepS_f ltT ltF leT leF eqT eqF ltTn ltFn leTn leFn eqTn eqFn beqT beqF bneT bneF wi64 wu64 wu32 wu16 wu8 tmodP tdivP hgetL hgetNe hgetEq setL nums_def nums_len Nat.succ_le_of_lt List.getElem?_cons_zero List.getElem?_cons_succ Option.getD_some Int.toNat_add Int.toNat_mul agM okM agB agI agS agP agL agA okB okI okS okP okSl okA
theorem BxV.body_at {H : AH} {v : Value} {l : List BoxD} (h : BxV H v l) (hl : ∀ b ∈ l, b.Wf) {i : Nat} (hi : i < l.length) : ∃ j q bb, xindexAddr Try.prog 39 v (.int .i64 (i : Nat)) = some (.pointer (some ⟨j, q, none⟩)) ∧ hget H j = some bb ∧ bb.cells[q + 35]? = some (.string (bodyAt l i)) ∧ (bodyAt l i).size ≤ maxLen := by
 obtain ⟨z, hz⟩ : ∃ z, l[i]? = some z := ⟨_, List.getElem?_eq_getElem hi⟩
 have hzw := hl z (List.mem_of_getElem? hz)
 obtain ⟨j, b, us, hv, hb, hle, hx, hus, hul, hle2, hc, hval⟩ := val_at (P := Try.prog) (t := 39) (e := 107) (sz := 36) h (by simp) (by simp) (by omega) (fun row hr => by
  obtain ⟨y, hy, rfl⟩ := List.mem_map.1 hr
  have := (hl y hy).pub.1
  simp [BoxD.row, kd, this]) (i := i) (row := z.row) (by rw [List.getElem?_map, hz]; rfl)
 have hbody : bodyAt l i = z.body := by simp [bodyAt, hz]
 rw [hbody]
 exact ⟨j, i * 36, b, hx, hb, (hc 35 (by omega)).trans (box_c hzw hval).c35, hzw.body⟩
theorem greatO_rc {γ : Nat → Option Nat} {H : AH} {us : List Value} {o : OpD} {pv wv bv : Value} (h : OpC H us o pv wv bv) (hw : o.Wf) : AC Try.prog H.length γ 26 #[.agg us.toArray] H (fun v' _ => v' = .bool (greatO o)) := by
 have hlen := h.len
 have c2 := h.c2
 have c4 := h.c4
 have c69 := h.c69
 have c70 := h.c70
 have pa := h.parents.acc (fun k hk => (hw.parents k hk).1)
 have wa := h.who.acc
 have ba := h.boxes.acc hw.boxes
 have p1 := pa.nt
 have p2 := pa.cs
 have p3 := pa.len
 have w1 := wa.nt
 have w2 := wa.cs
 have w3 := wa.len
 have b1 := ba.nt
 have b2 := ba.cs
 have b3 := ba.len
 have hbx := h.boxes
 obtain ⟨np, hnp⟩ : ∃ n, n = o.parents.length := ⟨_, rfl⟩
 obtain ⟨nw, hnw⟩ : ∃ n, n = o.who.length := ⟨_, rfl⟩
 obtain ⟨nb, hnb⟩ : ∃ n, n = o.boxes.length := ⟨_, rfl⟩
 obtain ⟨ts, hts⟩ : ∃ t, t = o.text := ⟨_, rfl⟩
 have htz : ts.size ≤ 9223372036854775807 := by rw [hts]; have := hw.text; simp only [maxLen] at this; omega
 have hnb63 : nb ≤ 9223372036854775807 := by rw [hnb]; have := hw.blen; simp only [maxLen] at this; omega
 have hG : greatO o = (decide (30 < np) || (decide (30 < nw) || (decide (30 < nb) || (decide (600 < ts.size) || (List.range nb).any fun k => decide (600 < (bodyAt o.boxes k).size))))) := by rw [hnp, hnw, hnb, hts]; rfl
 rw [hG]
 rw [← hnp] at p3
 rw [← hnw] at w3
 rw [← hnb] at b3
 rw [← hts] at c69
 refine ac_of_aw Try.func26 rfl Try.ntmps26 Try.results26 (by simp) ?_
 refine aw_seq ?_
 (refine aw_ops (by kernel_rfl) (fun K hK => ?_); simp (disch := first | omega | (simp only [lnS]; try omega)) [-getElem?_pos, -getElem?_neg, hlen]; refine hK _ _ ?_; clear hK K)
 obtain ⟨hlow, hb⟩ := boxed (H := H) us 41
 generalize H ++ [some ⟨us, 41, none⟩] = G at *
 obtain ⟨g, hg⟩ : ∃ g, g = H.length := ⟨_, rfl⟩
 rw [← hg] at hb ⊢
 refine aw_seq ?_
 refine aw_seq ?_
 refine aw_cut (fun α G' => G = G' ∧ α 1 = .pointer (some ⟨g, 0, none⟩) ∧ α 25 = .bool (decide (30 < np) || (decide (30 < nw) || (decide (30 < nb) || decide (600 < ts.size))))) ?_ ?_
 ·by_cases h1 : 30 < np
  ·(refine aw_ops (by kernel_rfl) (fun K hK => ?_); simp (disch := first | omega | (simp only [lnS]; try omega)) [-getElem?_pos, -getElem?_neg, hb, hlen, c2, -notTuple, p1, p2, nt_intG, -xlen, p3, h1]; refine hK _ _ ?_; clear hK K)
   exact ⟨rfl, by (first | (simp [put_at, put_none, fr0_at]; done) | rfl), by simp [put_at, h1]⟩
  ·by_cases h2 : 30 < nw
   ·(refine aw_ops (by kernel_rfl) (fun K hK => ?_); simp (disch := first | omega | (simp only [lnS]; try omega)) [-getElem?_pos, -getElem?_neg, hb, hlen, c2, c4, -notTuple, p1, p2, w1, w2, nt_intG, -xlen, p3, w3, h1, h2]; refine hK _ _ ?_; clear hK K)
    exact ⟨rfl, by (first | (simp [put_at, put_none, fr0_at]; done) | rfl), by simp [put_at, h2]⟩
   ·by_cases h3 : 30 < nb
    ·(refine aw_ops (by kernel_rfl) (fun K hK => ?_); simp (disch := first | omega | (simp only [lnS]; try omega)) [-getElem?_pos, -getElem?_neg, hb, hlen, c2, c4, c70, -notTuple, p1, p2, w1, w2, b1, b2, nt_intG, -xlen, p3, w3, b3, h1, h2, h3]; refine hK _ _ ?_; clear hK K)
     exact ⟨rfl, by (first | (simp [put_at, put_none, fr0_at]; done) | rfl), by simp [put_at, h3]⟩
    ·have hxt : xlen Try.prog 9 (.string ts) = some (.int .i64 ts.size) := by simp [xlen]
     by_cases h4 : 600 < ts.size
     ·(refine aw_ops (by kernel_rfl) (fun K hK => ?_); simp (disch := first | omega | (simp only [lnS]; try omega)) [-getElem?_pos, -getElem?_neg, hb, hlen, c2, c4, c70, c69, -notTuple, p1, p2, w1, w2, b1, b2, nt_intG, nt_strG, -xlen, p3, w3, b3, hxt, h1, h2, h3, h4]; refine hK _ _ ?_; clear hK K)
      exact ⟨rfl, by (first | (simp [put_at, put_none, fr0_at]; done) | rfl), by simp [put_at, h4]⟩
     ·(refine aw_ops (by kernel_rfl) (fun K hK => ?_); simp (disch := first | omega | (simp only [lnS]; try omega)) [-getElem?_pos, -getElem?_neg, hb, hlen, c2, c4, c70, c69, -notTuple, p1, p2, w1, w2, b1, b2, nt_intG, nt_strG, -xlen, p3, w3, b3, hxt, h1, h2, h3, h4]; refine hK _ _ ?_; clear hK K)
      exact ⟨rfl, by (first | (simp [put_at, put_none, fr0_at]; done) | rfl), by simp [put_at, h1, h2, h3, h4]⟩
 rintro α G' ⟨rfl, h1, h25⟩
 obtain ⟨B, hB⟩ : ∃ B, B = (decide (30 < np) || (decide (30 < nw) || (decide (30 < nb) || decide (600 < ts.size)))) := ⟨_, rfl⟩
 have hGB : (decide (30 < np) || (decide (30 < nw) || (decide (30 < nb) || (decide (600 < ts.size) || (List.range nb).any fun k => decide (600 < (bodyAt o.boxes k).size))))) = (B || (List.range nb).any fun k => decide (600 < (bodyAt o.boxes k).size)) := by
  rw [hB, Bool.or_assoc, Bool.or_assoc, Bool.or_assoc]
 rw [hGB]
 rw [← hB] at h25
 clear hB hGB hG
 cases B with
 | true =>
  refine aw_t (by (first | (simp [eval_tmp, put_at, h25]; done) | (simp [eval_tmp, put_at, h25]; omega))) (by kernel_rfl) ?_
  refine aw_seq ?_
  (refine aw_ops (by kernel_rfl) (fun K hK => ?_); simp (disch := first | omega | (simp only [lnS]; try omega)) [-getElem?_pos, -getElem?_neg]; refine hK _ _ ?_; clear hK K)
  (refine aw_ret ?_; simp (disch := first | omega | (simp only [lnS]; try omega)) [-getElem?_pos, -getElem?_neg, thenQ_ret, scopeQ_ret, inBlockQ_ret, RQ, resL, resV])
 | false =>
 rw [Bool.false_or]
 refine aw_f (by (first | (simp [eval_tmp, put_at, h25]; done) | (simp [eval_tmp, put_at, h25]; omega))) (by kernel_rfl) ?_
 refine aw_skip ?_
 refine aw_seq ?_
 refine aw_seq ?_
 (refine aw_ops (by kernel_rfl) (fun K hK => ?_); simp (disch := first | omega | (simp only [lnS]; try omega)) [-getElem?_pos, -getElem?_neg]; refine hK _ _ ?_; clear hK K)
 refine aw_block ?_
 refine aw_loop (fun c α G' => ∃ i : Nat, i + c = nb ∧ G = G' ∧ α 1 = .pointer (some ⟨g, 0, none⟩) ∧ α 3 = .int .i64 (i : Nat) ∧ ∀ k, k < i → decide (600 < (bodyAt o.boxes k).size) = false) nb ?_ ?_
 ·exact ⟨0, by omega, rfl, by (first | (simp [put_at, put_none, fr0_at, h1]; done) | rfl), by (first | (simp [put_at, put_none, fr0_at]; done) | rfl), fun k hk => by omega⟩
 clear h1 h25 α
 rintro c α G' ⟨i, hic, rfl, h1, h3, hpre⟩
 refine aw_seq ?_
 refine aw_seq ?_
 by_cases hi : i < nb
 case neg =>
  (refine aw_ops (by kernel_rfl) (fun K hK => ?_); simp (disch := first | omega | (simp only [lnS]; try omega)) [-getElem?_pos, -getElem?_neg, h1, h3, hb, hlen, c70, -notTuple, b1, b2, nt_intG, -xlen, b3, hi]; refine hK _ _ ?_; clear hK K)
  refine aw_f (by (first | (simp [eval_tmp, put_at, hi]; done) | (simp [eval_tmp, put_at, hi]; omega))) (by kernel_rfl) ?_
  refine aw_exit ?_
  refine aw_seq ?_
  (refine aw_ops (by kernel_rfl) (fun K hK => ?_); simp (disch := first | omega | (simp only [lnS]; try omega)) [-getElem?_pos, -getElem?_neg]; refine hK _ _ ?_; clear hK K)
  (refine aw_ret ?_; simp (disch := first | omega | (simp only [lnS]; try omega)) [-getElem?_pos, -getElem?_neg, thenQ_ret, scopeQ_ret, inBlockQ_ret, RQ, resL, resV])
  intro k hk
  have := hpre k (by omega)
  simp at this
  exact this
 obtain ⟨j, q, bb, hx, hbb, hcb, hbm⟩ := hbx.body_at hw.boxes (i := i) (by omega)
 have hbG : hget G j = some bb := (hlow.1 j (hget_lt hbb)).trans hbb
 (refine aw_ops (by kernel_rfl) (fun K hK => ?_); simp (disch := first | omega | (simp only [lnS]; try omega)) [-getElem?_pos, -getElem?_neg, h1, h3, hb, hlen, c70, -notTuple, b1, b2, nt_intG, -xlen, b3, hi]; refine hK _ _ ?_; clear hK K)
 refine aw_t (by (first | (simp [eval_tmp, put_at, hi]; done) | (simp [eval_tmp, put_at, hi]; omega))) (by kernel_rfl) ?_
 refine aw_skip ?_
 refine aw_seq ?_
 refine aw_block ?_
 obtain ⟨bd, hbd⟩ : ∃ b, b = bodyAt o.boxes i := ⟨_, rfl⟩
 rw [← hbd] at hcb hbm
 have hbz : bd.size ≤ 9223372036854775807 := by simp only [maxLen] at hbm; omega
 have hxt : xlen Try.prog 9 (.string bd) = some (.int .i64 bd.size) := by simp [xlen]
 refine aw_seq ?_
 by_cases h6 : 600 < bd.size
 ·(refine aw_ops (by kernel_rfl) (fun K hK => ?_); simp (disch := first | omega | (simp only [lnS]; try omega)) [-getElem?_pos, -getElem?_neg, h1, h3, hb, hlen, c70, -notTuple, b1, b2, nt_intG, nt_strG, -xindexAddr, hx, hbG, hcb, -xlen, hxt, h6]; refine hK _ _ ?_; clear hK K)
  refine aw_t (by (first | (simp [eval_tmp, put_at, h6]; done) | (simp [eval_tmp, put_at, h6]; omega))) (by kernel_rfl) ?_
  refine aw_seq ?_
  (refine aw_ops (by kernel_rfl) (fun K hK => ?_); simp (disch := first | omega | (simp only [lnS]; try omega)) [-getElem?_pos, -getElem?_neg]; refine hK _ _ ?_; clear hK K)
  (refine aw_ret ?_; simp (disch := first | omega | (simp only [lnS]; try omega)) [-getElem?_pos, -getElem?_neg, thenQ_ret, scopeQ_ret, inBlockQ_ret, RQ, resL, resV])
  exact ⟨i, hi, by rw [← hbd]; exact h6⟩
 ·(refine aw_ops (by kernel_rfl) (fun K hK => ?_); simp (disch := first | omega | (simp only [lnS]; try omega)) [-getElem?_pos, -getElem?_neg, h1, h3, hb, hlen, c70, -notTuple, b1, b2, nt_intG, nt_strG, -xindexAddr, hx, hbG, hcb, -xlen, hxt, h6]; refine hK _ _ ?_; clear hK K)
  refine aw_f (by (first | (simp [eval_tmp, put_at, h6]; done) | (simp [eval_tmp, put_at, h6]; omega))) (by kernel_rfl) ?_
  refine aw_skip ?_
  (refine aw_ops (by kernel_rfl) (fun K hK => ?_); simp (disch := first | omega | (simp only [lnS]; try omega)) [-getElem?_pos, -getElem?_neg, h3]; refine hK _ _ ?_; clear hK K)
  refine ⟨c - 1, by omega, i + 1, by omega, rfl, by (first | (simp [put_at, put_none, fr0_at, h1]; done) | rfl), by (first | (simp [put_at, put_none, fr0_at]; done) | rfl), fun k hk => ?_⟩
  by_cases e : k = i
  ·subst e
   rw [← hbd]
   simpa using h6
  ·exact hpre k (by omega)
end
section
theorem first_diff : ∀ {a b : List Int}, a.length = b.length → a ≠ b → ∃ p x y r s, a = p ++ x :: r ∧ b = p ++ y :: s ∧ x ≠ y
 | [], [], _, h => absurd rfl h
 | [], _ :: _, h, _ => by cases h
 | _ :: _, [], h, _ => by cases h
 | u :: a, v :: b, hl, h => by
  by_cases e : u = v
  ·subst e
   obtain ⟨p, x, y, r, s, rfl, rfl, hxy⟩ := first_diff (a := a) (b := b) (by simpa using hl) (fun e => h (by rw [e]))
   exact ⟨u :: p, x, y, r, s, rfl, rfl, hxy⟩
  ·exact ⟨[], u, v, a, b, rfl, rfl, e⟩
theorem lt_at (p : List Int) (x y : Int) (r s : List Int) (h : x ≠ y) : p ++ x :: r < p ++ y :: s ↔ x < y := by
 induction p with
 | nil =>
  rw [List.nil_append, List.nil_append, List.cons_lt_cons_iff]
  exact ⟨fun h2 => h2.elim id (fun h3 => absurd h3.1 h), Or.inl⟩
 | cons u p ih =>
  rw [List.cons_append, List.cons_append, List.cons_lt_cons_iff]
  exact ⟨fun h2 => h2.elim (fun h3 => absurd h3 (Int.lt_irrefl _)) (fun h3 => ih.1 h3.2), fun h2 => .inr ⟨rfl, ih.2 h2⟩⟩
theorem cmpL_lt {a b : List Int} (ha : By a) (hb : By b) (hl : a.length = b.length) : cmpL a b < 0 ↔ a < b := by
 by_cases e : a = b
 ·subst e
  rw [cmpL_eq]
  exact ⟨fun h => absurd h (by omega), fun h => absurd h (List.lt_irrefl a)⟩
 ·obtain ⟨p, x, y, r, s, rfl, rfl, hxy⟩ := first_diff hl e
  rw [lt_at p x y r s hxy, cmpL_at ha hb hl (i := p.length) (x := x) (y := y) (by simp) (by simp) hxy (by simp)]
  split
  ·exact ⟨fun _ => by assumption, fun _ => by omega⟩
  ·exact ⟨fun h => by omega, fun h => by contradiction⟩
theorem cmpL_gt {a b : List Int} (ha : By a) (hb : By b) (hl : a.length = b.length) : 0 < cmpL a b ↔ b < a := by
 by_cases e : a = b
 ·subst e
  rw [cmpL_eq]
  exact ⟨fun h => absurd h (by omega), fun h => absurd h (List.lt_irrefl a)⟩
 ·obtain ⟨p, x, y, r, s, rfl, rfl, hxy⟩ := first_diff hl e
  rw [lt_at p y x s r (fun e => hxy e.symm), cmpL_at ha hb hl (i := p.length) (x := x) (y := y) (by simp) (by simp) hxy (by simp)]
  split
  ·exact ⟨fun h => by omega, fun h => by omega⟩
  ·exact ⟨fun h => by omega, fun h => by omega⟩
theorem lt_tri {a b : List Int} (h1 : ¬ a < b) (h2 : a ≠ b) : b < a := by
 rcases List.le_total a b with h | h
 ·exact Decidable.byContradiction fun h3 => h2 (List.le_antisymm h (List.not_lt.1 h1))
 ·exact Decidable.byContradiction fun h3 => h2 (List.le_antisymm (List.not_lt.1 h3) (List.not_lt.1 h1))
abbrev Rise (l : List (List Int)) : Prop := l.Pairwise (· < ·)
theorem rise_put {S : List (List Int)} {x : List Int} {j : Nat} (hS : Rise S) (hj : j ≤ S.length) (hgt : ∀ s ∈ S.drop j, x < s) (hle : ∀ s, j ≠ 0 → S[j - 1]? = some s → ¬ x < s) (hx : x ∉ S) : Rise (S.take j ++ x :: S.drop j) := by
 have hS' := hS
 rw [← List.take_append_drop j S] at hS'
 obtain ⟨h1, h2, h3⟩ := List.pairwise_append.1 hS'
 refine List.pairwise_append.2 ⟨h1, List.pairwise_cons.2 ⟨hgt, h2⟩, fun a ha b hb => ?_⟩
 rcases List.mem_cons.1 hb with rfl | hb
 ·cases j with
  | zero => simp at ha
  | succ j =>
   have hjl : j < S.length := by omega
   obtain ⟨s, hs⟩ : ∃ s, S[j]? = some s := ⟨_, List.getElem?_eq_getElem hjl⟩
   have hsx : s < b := lt_tri (hle s (by omega) (by simpa using hs)) (fun e => hx (by rw [e]; exact List.mem_of_getElem? hs))
   rw [List.take_add_one, hs] at ha h1
   rcases List.mem_append.1 ha with ha | ha
   ·exact List.lt_trans ((List.pairwise_append.1 h1).2.2 a ha s (by simp)) hsx
   ·simp at ha; subst ha; exact hsx
 ·exact h3 a ha b hb
theorem put_perm {S : List (List Int)} (x : List Int) (j : Nat) : (S.take j ++ x :: S.drop j).Perm (S ++ [x]) := by
 refine List.perm_middle.trans ?_
 rw [List.take_append_drop]
 exact (List.perm_append_comm (l₁ := S) (l₂ := [x])).symm
def sortK (l : List (List Int)) : List (List Int) := l.mergeSort fun a b => !decide (b < a)
theorem sortK_perm (l : List (List Int)) : (sortK l).Perm l := List.mergeSort_perm _ _
theorem sortK_le (l : List (List Int)) : (sortK l).Pairwise fun a b => ¬ b < a := by
 have := List.pairwise_mergeSort (le := fun a b : List Int => !decide (b < a)) (fun a b c h1 h2 => by
  simp only [Bool.not_eq_true', decide_eq_false_iff_not] at h1 h2 ⊢
  intro h3
  by_cases e : b = c
  ·subst e; exact h1 h3
  ·exact h1 (List.lt_trans (lt_tri h2 (fun e2 => e e2.symm)) h3)) (fun a b => by
  by_cases h : b < a
  ·have := List.lt_asymm h
   simp [h, this]
  ·simp [h]) l
 exact this.imp (fun h => by simpa using h)
theorem sortK_eq {L l : List (List Int)} (hp : L.Perm l) (hs : Rise L) : L = sortK l := by
 refine List.Perm.eq_of_pairwise (le := fun a b => ¬ b < a) (fun a b _ _ h1 h2 => Decidable.byContradiction fun e => h1 (lt_tri h2 e)) (hs.imp fun h => List.lt_asymm h) (sortK_le l) (hp.trans (sortK_perm l).symm)
end
section
def hdO (o : OpD) : Bool := memI o.author && (decide (o.seq ≠ 0) && (decide (1 ≤ o.kind) && (decide (o.kind ≤ 7) && (decide (o.parents.length ≤ 8) && (decide (o.boxes.length ≤ 8) && decide (o.text.size ≤ 256))))))
theorem refO_hd (o : OpD) : refO o = (hdO o && (risesK o.parents && ((o.who.all memI && risesI o.who) && (boxesB o && kindB o (decide (o.author ∈ o.who)))))) := by
 unfold refO hdO
 simp only [Bool.and_assoc]
theorem BxV.row_at {H : AH} {v : Value} {l : List BoxD} (h : BxV H v l) (hl : ∀ b ∈ l, b.Wf) {i : Nat} {z : BoxD} (hz : l[i]? = some z) : ∃ j q bb ws, xindexAddr Try.prog 39 v (.int .i64 (i : Nat)) = some (.pointer (some ⟨j, q, none⟩)) ∧ hget H j = some bb ∧ q + 36 ≤ bb.cells.length ∧ ws = (bb.cells.drop q).take 36 ∧ (∀ c, c < 36 → bb.cells[q + c]? = ws[c]?) ∧ BoxC H ws z := by
 have hzw := hl z (List.mem_of_getElem? hz)
 obtain ⟨j, b, us, hv, hb, hle, hx, hus, hul, hle2, hc, hval⟩ := val_at (P := Try.prog) (t := 39) (e := 107) (sz := 36) h (by kernel_rfl) (by kernel_rfl) (by omega) (fun row hr => by
  obtain ⟨y, hy, rfl⟩ := List.mem_map.1 hr
  have := (hl y hy).pub.1
  simp [BoxD.row, kd, this]) (i := i) (row := z.row) (by rw [List.getElem?_map, hz]; rfl)
 exact ⟨j, i * 36, b, us, hx, hb, hle2, hus, hc, box_c hzw hval⟩
theorem all_false {β : Type} {l : List β} {p : β → Bool} {i : Nat} {z : β} (hz : l[i]? = some z) (h : p z = false) : l.all p = false := by
 rw [List.all_eq_false]
 exact ⟨z, List.mem_of_getElem? hz, by rw [h]; decide⟩
theorem all_take {β : Type} {l : List β} {p : β → Bool} (h : ∀ (k : Nat) (z : β), l[k]? = some z → p z = true) : l.all p = true := by
 rw [List.all_eq_true]
 intro z hz
 obtain ⟨k, hk⟩ := List.getElem?_of_mem hz
 exact h k z hk
theorem range_false {n i : Nat} {p : Nat → Bool} (hi : i < n) (h : p i = false) : (List.range n).all p = false := by
 rw [List.all_eq_false]
 exact ⟨i, List.mem_range.2 hi, by rw [h]; decide⟩
theorem range_true {n : Nat} {p : Nat → Bool} (h : ∀ i, i < n → p i = true) : (List.range n).all p = true := by
 rw [List.all_eq_true]
 exact fun i hi => h i (List.mem_range.1 hi)
theorem getD_of {β : Type} {l : List β} {i : Nat} {z d : β} (h : l[i]? = some z) : l.getD i d = z := by rw [List.getD_eq_getElem?_getD, h]; rfl
attribute [local simp] wb_bool wb_undef with_lit XL_nil XL_cons XLc_val XLc_call step1_eq stepW_t stepW_f stepC_n stepC_s stepX_s stepX_n stepN_s calleeX xrecv oneV xop_eq xopR_s xopR_n wantedA_eq wantedG_n wantedG_s plain1_int plain1_bool plain1_string bits_i64 bits_u64 bits_u32 bits_u16 bits_u8 xeqA xagg xcmp xarr allK_iv num_iv calleeOf xread xeff xbin xint xnil xun xstr xload xconv xpart xfield xfieldAddr xindexAddr xindex bnd asInt? xslice xlen xmin xmax xbuild xfill xappend xapp2 xappstr xappmk xcap xcopy xcells eval_tmp eval_const put_at put_none fr0_at cells_agg cells_int cells_bool cells_string cells_ptr cells_slice notTuple tab iv_all hget_app hget_app0 hget_cons0 hget_cons set_app set_app0 setR setR_one QL_nil QL_cons QLc_val stepQ_t stepQ_f stepQC_n stepQC_s stepQX_s SL_nil SL_cons SLc_val stepS_t stepS_f ltT ltF leT leF eqT eqF ltTn ltFn leTn leFn eqTn eqFn beqT beqF bneT bneF wi64 wu64 wu32 wu16 wu8 tmodP tdivP hgetL hgetNe hgetEq setL nums_def nums_len Nat.succ_le_of_lt List.getElem?_cons_zero List.getElem?_cons_succ Option.getD_some Int.toNat_add Int.toNat_mul agM okM agB agI agS agP agL agA okB okI okS okP okSl okA
theorem member_vc (z : Int) : VC Try.prog 112 #[.int .i64 z] (.bool (memI z)) := by
 refine vc_of_ac (by simp [pv_iv, pv_int, pv_bool, pv_string, pv_tup2, pv_tup3, iv_plain, p2_int, p2_bool, p2_string]) (by simp [pv_iv, pv_int, pv_bool, pv_string, pv_tup2, pv_tup3, iv_plain, p2_int, p2_bool, p2_string]) ?_
 refine ac_of_aw Try.func112 rfl Try.ntmps112 Try.results112 (by simp) ?_
 refine aw_seq ?_
 (refine aw_ops (by kernel_rfl) (fun K hK => ?_); simp (disch := first | omega | (simp only [lnS]; try omega)) [-getElem?_pos, -getElem?_neg]; refine hK _ _ ?_; clear hK K)
 refine aw_seq ?_
 by_cases h : 0 ≤ z
 ·by_cases h2 : z ≤ 7
  ·(refine aw_ops (by kernel_rfl) (fun K hK => ?_); simp (disch := first | omega | (simp only [lnS]; try omega)) [-getElem?_pos, -getElem?_neg, h, h2]; refine hK _ _ ?_; clear hK K)
   (refine aw_ret ?_; simp (disch := first | omega | (simp only [lnS]; try omega)) [-getElem?_pos, -getElem?_neg, thenQ_ret, scopeQ_ret, inBlockQ_ret, RQ, resL, resV])
   simp [memI, h]; omega
  ·(refine aw_ops (by kernel_rfl) (fun K hK => ?_); simp (disch := first | omega | (simp only [lnS]; try omega)) [-getElem?_pos, -getElem?_neg, h, h2]; refine hK _ _ ?_; clear hK K)
   (refine aw_ret ?_; simp (disch := first | omega | (simp only [lnS]; try omega)) [-getElem?_pos, -getElem?_neg, thenQ_ret, scopeQ_ret, inBlockQ_ret, RQ, resL, resV])
   simp [memI, h]; omega
 ·(refine aw_ops (by kernel_rfl) (fun K hK => ?_); simp (disch := first | omega | (simp only [lnS]; try omega)) [-getElem?_pos, -getElem?_neg, h]; refine hK _ _ ?_; clear hK K)
  (refine aw_ret ?_; simp (disch := first | omega | (simp only [lnS]; try omega)) [-getElem?_pos, -getElem?_neg, thenQ_ret, scopeQ_ret, inBlockQ_ret, RQ, resL, resV])
  simp [memI, h]
theorem rRight_rc {γ : Nat → Option Nat} {H : AH} {us : List Value} {o : OpD} {pv wv bv : Value} (h : OpC H us o pv wv bv) (hw : o.Wf) : AC Try.prog H.length γ 66 #[.agg us.toArray] H (fun v' _ => v' = .bool (refO o)) := by
 have hul := h.len
 have htu : us.take 71 = us := List.take_of_length_le (by omega)
 have hps := hw.plen
 have hws := hw.wlen
 have hbs := hw.blen
 have hts := hw.text
 have hm63 : o.parents.length ≤ 9223372036854775807 ∧ o.who.length ≤ 9223372036854775807 ∧ o.boxes.length ≤ 9223372036854775807 ∧ o.text.size ≤ 9223372036854775807 := by simp only [maxLen] at hps hws hbs hts; omega
 obtain ⟨m1, m2, m3, m4⟩ := hm63
 refine ac_of_aw Try.func66 rfl Try.ntmps66 Try.results66 (by simp) ?_
 refine aw_seq ?_
 (refine aw_ops (by kernel_rfl) (fun K hK => ?_); simp (disch := first | omega | (simp only [lnS]; try omega)) [-getElem?_pos, -getElem?_neg, hul, nt_aggG]; refine hK _ _ ?_; clear hK K)
 obtain ⟨hlow, hb⟩ := boxed (H := H) us 41
 obtain ⟨n, hn⟩ : ∃ n, n = H.length := ⟨_, rfl⟩
 rw [← hn] at hb hlow ⊢
 generalize H ++ [some ⟨us, 41, none⟩] = G at *
 have hG : OpC G us o pv wv bv := h.low (fun j hj => hlow.1 j (by omega))
 have hpacc := hG.parents.acc (fun k hk => (hw.parents k hk).1)
 have hwacc := hG.who.acc
 have hbx := hG.boxes
 have hbnt := val_nt hbx
 have hblen := val_len (P := Try.prog) (t := 39) (e := 107) hbx (by kernel_rfl)
 rw [List.length_map] at hblen
 have c0 := hG.c0
 have c1 := hG.c1
 have c2 := hG.c2
 have c3 := hG.c3
 have c4 := hG.c4
 have c69 := hG.c69
 have c70 := hG.c70
 have p1 := hpacc.nt
 have p2 := hpacc.cs
 have p3 := hpacc.len
 have w1 := hwacc.nt
 have w2 := hwacc.cs
 have w3 := hwacc.len
 obtain ⟨b1, b2⟩ := hbnt
 have hx2 : xload Try.prog 36 (.pointer (some ⟨n, 2, none⟩)) G = some pv := by simp [xload, hb, c2]
 have hx4 : xload Try.prog 23 (.pointer (some ⟨n, 4, none⟩)) G = some wv := by simp [xload, hb, c4]
 have hx70 : xload Try.prog 39 (.pointer (some ⟨n, 70, none⟩)) G = some bv := by simp [xload, hb, c70]
 have hsq := hw.seq
 unfold U32 at hsq
 refine aw_seq ?_
 refine aw_seq ?_
 refine aw_cut (fun α G2 => α 44 = .bool (!hdO o) ∧ α 1 = .pointer (some ⟨n, 0, none⟩) ∧ G2 = G) ?_ ?_
 ·refine aw_ops (by kernel_rfl) (fun K hK => ?_)
  simp (disch := first | omega | (simp only [lnS]; try omega)) [-getElem?_pos, -getElem?_neg, hb, hul, c0]
  refine ⟨by kernel_rfl, ac_of_vc (by simp [pv_iv, pv_int, pv_bool, pv_string, pv_tup2, pv_tup3, iv_plain, p2_int, p2_bool, p2_string]) (member_vc o.author) ?_⟩
  cases h1 : memI o.author with
  | false =>
   try simp (disch := first | omega | (simp only [lnS]; try omega)) [-getElem?_pos, -getElem?_neg]
   refine hK _ _ ?_; clear hK K
   exact ⟨by simp [hdO, h1, put_at], by (first | (simp [put_at, put_none, fr0_at]; done) | rfl), rfl⟩
  | true =>
  by_cases h2 : o.seq = 0
  ·have h2b : (o.seq == 0) = true := by simp [h2]
   simp (disch := first | omega | (simp only [lnS]; try omega)) [-getElem?_pos, -getElem?_neg, hb, hul, c1, h2, h2b]
   refine hK _ _ ?_; clear hK K
   exact ⟨by simp [hdO, h1, h2, put_at], by (first | (simp [put_at, put_none, fr0_at]; done) | rfl), rfl⟩
  have h2b : (o.seq == 0) = false := by simp [h2]
  by_cases h3 : 1 ≤ o.kind
  case neg =>
   have h3b : o.kind < 1 := by omega
   simp (disch := first | omega | (simp only [lnS]; try omega)) [-getElem?_pos, -getElem?_neg, hb, hul, c1, c3, h2, h2b, h3b]
   refine hK _ _ ?_; clear hK K
   exact ⟨by simp [hdO, h1, h2, h3, put_at], by (first | (simp [put_at, put_none, fr0_at]; done) | rfl), rfl⟩
  have h3b : ¬ o.kind < 1 := by omega
  by_cases h4 : o.kind ≤ 7
  case neg =>
   have h4b : 7 < o.kind := by omega
   simp (disch := first | omega | (simp only [lnS]; try omega)) [-getElem?_pos, -getElem?_neg, hb, hul, c1, c3, h2, h2b, h3b, h4b]
   refine hK _ _ ?_; clear hK K
   exact ⟨by simp [hdO, h1, h2, h3, h4, put_at], by (first | (simp [put_at, put_none, fr0_at]; done) | rfl), rfl⟩
  have h4b : ¬ 7 < o.kind := by omega
  by_cases h5 : o.parents.length ≤ 8
  case neg =>
   have h5b : 8 < o.parents.length := by omega
   simp (disch := first | omega | (simp only [lnS]; try omega)) [-getElem?_pos, -getElem?_neg, hb, hul, c1, c2, c3, h2, h2b, h3b, h4b, h5b, -notTuple, p1, p2, nt_intG, nt_ptrG, -xlen, p3]
   refine hK _ _ ?_; clear hK K
   exact ⟨by simp [hdO, h1, h2, h3, h4, h5, put_at], by (first | (simp [put_at, put_none, fr0_at]; done) | rfl), rfl⟩
  have h5b : ¬ 8 < o.parents.length := by omega
  by_cases h6 : o.boxes.length ≤ 8
  case neg =>
   have h6b : 8 < o.boxes.length := by omega
   simp (disch := first | omega | (simp only [lnS]; try omega)) [-getElem?_pos, -getElem?_neg, hb, hul, c1, c2, c3, c70, h2, h2b, h3b, h4b, h5b, h6b, -notTuple, p1, p2, b1, b2, nt_intG, nt_ptrG, -xlen, p3, hblen]
   refine hK _ _ ?_; clear hK K
   exact ⟨by simp [hdO, h1, h2, h3, h4, h5, h6, put_at], by (first | (simp [put_at, put_none, fr0_at]; done) | rfl), rfl⟩
  have h6b : ¬ 8 < o.boxes.length := by omega
  have hxt : xlen Try.prog 9 (.string o.text) = some (.int .i64 o.text.size) := by simp [xlen]
  by_cases h7 : o.text.size ≤ 256
  ·have h7b : ¬ 256 < o.text.size := by omega
   simp (disch := first | omega | (simp only [lnS]; try omega)) [-getElem?_pos, -getElem?_neg, hb, hul, c1, c2, c3, c69, c70, h2, h2b, h3b, h4b, h5b, h6b, h7b, -notTuple, p1, p2, b1, b2, nt_intG, nt_ptrG, nt_strG, -xlen, p3, hblen, hxt]
   refine hK _ _ ?_; clear hK K
   exact ⟨by simp [hdO, h1, h2, h3, h4, h5, h6, h7, put_at], by (first | (simp [put_at, put_none, fr0_at]; done) | rfl), rfl⟩
  ·have h7b : 256 < o.text.size := by omega
   simp (disch := first | omega | (simp only [lnS]; try omega)) [-getElem?_pos, -getElem?_neg, hb, hul, c1, c2, c3, c69, c70, h2, h2b, h3b, h4b, h5b, h6b, h7b, -notTuple, p1, p2, b1, b2, nt_intG, nt_ptrG, nt_strG, -xlen, p3, hblen, hxt]
   refine hK _ _ ?_; clear hK K
   exact ⟨by simp [hdO, h1, h2, h3, h4, h5, h6, h7, put_at], by (first | (simp [put_at, put_none, fr0_at]; done) | rfl), rfl⟩
 rintro α G2 ⟨q44, q1, rfl⟩
 have hrf := refO_hd o
 cases hhd : hdO o with
 | false =>
  rw [hhd] at q44 hrf
  refine aw_t (by (first | (simp [eval_tmp, put_at, q44]; done) | (simp [eval_tmp, put_at, q44]; omega))) (by kernel_rfl) ?_
  refine aw_seq ?_
  (refine aw_ops (by kernel_rfl) (fun K hK => ?_); simp (disch := first | omega | (simp only [lnS]; try omega)) [-getElem?_pos, -getElem?_neg]; refine hK _ _ ?_; clear hK K)
  (refine aw_ret ?_; simp (disch := first | omega | (simp only [lnS]; try omega)) [-getElem?_pos, -getElem?_neg, thenQ_ret, scopeQ_ret, inBlockQ_ret, RQ, resL, resV])
  rw [hrf]; rfl
 | true =>
 rw [hhd, Bool.true_and] at hrf
 rw [hhd] at q44
 refine aw_f (by (first | (simp [eval_tmp, put_at, q44]; done) | (simp [eval_tmp, put_at, q44]; omega))) (by kernel_rfl) ?_
 refine aw_skip ?_
 refine aw_seq ?_
 refine aw_seq ?_
 (refine aw_ops (by kernel_rfl) (fun K hK => ?_); simp (disch := first | omega | (simp only [lnS]; try omega)) [-getElem?_pos, -getElem?_neg]; refine hK _ _ ?_; clear hK K)
 refine aw_block ?_
 refine aw_loop (fun c α G => ∃ i : Nat, 1 ≤ i ∧ i + c = o.parents.length + 1 ∧ α 1 = .pointer (some ⟨n, 0, none⟩) ∧ α 3 = .int .i64 (i : Nat) ∧ G = G2 ∧ ∀ k, k + 1 < i → cmpL (o.parents.getD k []) (o.parents.getD (k + 1) []) < 0) o.parents.length ?_ ?_
 ·exact ⟨1, by omega, by omega, by (first | (simp [put_at, put_none, fr0_at, q1]; done) | rfl), by (first | (simp [put_at, put_none, fr0_at]; done) | rfl), rfl, fun k hk => by omega⟩
 clear q1 q44
 rintro c α G ⟨i, hi1, hic, q1, q3, rfl, hpre⟩
 refine aw_seq ?_
 refine aw_seq ?_
 by_cases hi : i < o.parents.length
 case pos =>
  obtain ⟨x0, y0, r1, r2, r3, r4, r5⟩ := hpacc.at_ (i - 1) (by omega)
  obtain ⟨x1, y1, s1, s2, s3, s4, s5⟩ := hpacc.at_ i hi
  subst r4 s4
  have r5 := r5 G (Low.refl (Nat.le_refl _))
  have s5 := s5 G (Low.refl (Nat.le_refl _))
  have hk0 := hw.parents (o.parents.getD (i - 1) []) (by rw [List.getD_eq_getElem?_getD, List.getElem?_eq_getElem (show i - 1 < o.parents.length by omega)]; exact List.getElem_mem _)
  have hk1 := hw.parents (o.parents.getD i []) (by rw [List.getD_eq_getElem?_getD, List.getElem?_eq_getElem hi]; exact List.getElem_mem _)
  have hsub : (i : Int) - 1 = ((i - 1 : Nat) : Int) := by omega
  have hls := less_vc _ _ hk0.1 hk1.1 hk0.2 hk1.2
  have hgt := cmpL_gt hk1.2 hk0.2 (by rw [hk1.1, hk0.1])
  have hlt := cmpL_lt hk0.2 hk1.2 (by rw [hk1.1, hk0.1])
  have hnx : cmpL (o.parents.getD (i - 1) []) (o.parents.getD (i - 1 + 1) []) = cmpL (o.parents.getD (i - 1) []) (o.parents.getD i []) := by rw [show i - 1 + 1 = i by omega]
  (refine aw_ops (by kernel_rfl) (fun K hK => ?_); simp (disch := first | omega | (simp only [lnS]; try omega)) [-getElem?_pos, -getElem?_neg, q1, q3, hb, hul, c2, -notTuple, p1, p2, nt_intG, nt_ptrG, -xlen, p3, hi]; refine hK _ _ ?_; clear hK K)
  refine aw_t (by (first | (simp [eval_tmp, put_at, hi]; done) | (simp [eval_tmp, put_at, hi]; omega))) (by kernel_rfl) ?_
  refine aw_skip ?_
  refine aw_seq ?_
  refine aw_block ?_
  refine aw_seq ?_
  have e1 : (0 : Int) < cmpL (o.parents.getD i []) (o.parents.getD (i - 1) []) ↔ cmpL (o.parents.getD (i - 1) []) (o.parents.getD i []) < 0 := hgt.trans hlt.symm
  generalize hA : o.parents.getD (i - 1) [] = A at *
  generalize hB : o.parents.getD i [] = B at *
  (refine aw_plan [] [] [0, 1, 2, 3, 4, 5, 6, 7, 8, 9, 10, 11, 12] 13 0 (by kernel_rfl) (by kernel_rfl) (by kernel_rfl) (fun K hK => ?_)); simp only [sel, List.getElem?_cons_succ, List.getElem?_cons_zero, List.drop_succ_cons, List.drop_zero]; simp (disch := first | omega | (simp only [lnS]; try omega)) [-getElem?_pos, -getElem?_neg, q1, q3, hb, hul, c2, hsub, -notTuple, p1, p2, r1, s1, r3, s3, nt_intG, nt_ptrG, nt_aggG, -xindexAddr, r2, s2, -xload, hx2, r5, s5, PL_nil, plainB_lit, PL_cons, PLc_val, PLc_new, stepP_t, stepP_f, stepPC_n, stepPC_s, stepPX_s, stepPX_n, stepPV_n, stepPV_s, stepPA_t, stepPA_c, stepPA_l, stepPN_s, allocOp, reloc_sl, reloc_ptr, List.map_cons, List.map_nil, List.nil_append, List.append_assoc, List.cons_append, Nat.add_assoc]
  refine PLc_call (v := .bool (decide (0 < cmpL B A))) (by kernel_rfl) (fun L hL => ac_of_vc (by simp [pv_iv, pv_int, pv_bool, pv_string, pv_tup2, pv_tup3, iv_plain, p2_int, p2_bool, p2_string]) hls rfl) (by simp [pv_iv, pv_int, pv_bool, pv_string, pv_tup2, pv_tup3, iv_plain, p2_int, p2_bool, p2_string]) ?_
  by_cases hlt2 : 0 < cmpL B A
  ·simp (disch := first | omega | (simp only [lnS]; try omega)) [-getElem?_pos, -getElem?_neg, hlt2, PL_nil, plainB_lit, PL_cons, PLc_val, PLc_new, stepP_t, stepP_f, stepPC_n, stepPC_s, stepPX_s, stepPX_n, stepPV_n, stepPV_s, stepPA_t, stepPA_c, stepPA_l, stepPN_s, allocOp, reloc_sl, reloc_ptr, List.map_cons, List.map_nil, List.nil_append, List.append_assoc, List.cons_append, Nat.add_assoc]
   refine hK _ _ ?_; clear hK K
   refine aw_f (by (first | (simp [eval_tmp, put_at, hlt2]; done) | (simp [eval_tmp, put_at, hlt2]; omega))) (by kernel_rfl) ?_
   refine aw_skip ?_
   (refine aw_ops (by kernel_rfl) (fun K hK => ?_); simp (disch := first | omega | (simp only [lnS]; try omega)) [-getElem?_pos, -getElem?_neg, q3]; refine hK _ _ ?_; clear hK K)
   refine ⟨c - 1, by omega, i + 1, by omega, by omega, by (first | (simp [put_at, put_none, fr0_at, q1]; done) | rfl), by (first | (simp [put_at, put_none, fr0_at]; done) | rfl), rfl, fun k hk => ?_⟩
   by_cases e : k = i - 1
   ·subst e
    rw [hA, hnx]
    exact e1.1 hlt2
   ·exact hpre k (by omega)
  ·simp (disch := first | omega | (simp only [lnS]; try omega)) [-getElem?_pos, -getElem?_neg, hlt2, PL_nil, plainB_lit, PL_cons, PLc_val, PLc_new, stepP_t, stepP_f, stepPC_n, stepPC_s, stepPX_s, stepPX_n, stepPV_n, stepPV_s, stepPA_t, stepPA_c, stepPA_l, stepPN_s, allocOp, reloc_sl, reloc_ptr, List.map_cons, List.map_nil, List.nil_append, List.append_assoc, List.cons_append, Nat.add_assoc]
   refine hK _ _ ?_; clear hK K
   refine aw_t (by (first | (simp [eval_tmp, put_at, hlt2]; done) | (simp [eval_tmp, put_at, hlt2]; omega))) (by kernel_rfl) ?_
   refine aw_seq ?_
   (refine aw_ops (by kernel_rfl) (fun K hK => ?_); simp (disch := first | omega | (simp only [lnS]; try omega)) [-getElem?_pos, -getElem?_neg]; refine hK _ _ ?_; clear hK K)
   (refine aw_ret ?_; simp (disch := first | omega | (simp only [lnS]; try omega)) [-getElem?_pos, -getElem?_neg, thenQ_ret, scopeQ_ret, inBlockQ_ret, RQ, resL, resV])
   rw [hrf]
   have : risesK o.parents = false := by
    unfold risesK
    refine range_false (i := i - 1) (by omega) ?_
    rw [hA, hnx, decide_eq_false_iff_not]
    exact fun hh => hlt2 (e1.2 hh)
   rw [this]; rfl
 (refine aw_ops (by kernel_rfl) (fun K hK => ?_); simp (disch := first | omega | (simp only [lnS]; try omega)) [-getElem?_pos, -getElem?_neg, q1, q3, hb, hul, c2, -notTuple, p1, p2, nt_intG, nt_ptrG, -xlen, p3, hi]; refine hK _ _ ?_; clear hK K)
 refine aw_f (by (first | (simp [eval_tmp, put_at, hi]; done) | (simp [eval_tmp, put_at, hi]; omega))) (by kernel_rfl) ?_
 refine aw_exit ?_
 have hrK : risesK o.parents = true := by
  unfold risesK
  exact range_true fun k hk => by
   rw [decide_eq_true_eq]
   exact hpre k (by omega)
 rw [hrK, Bool.true_and] at hrf
 refine aw_seq ?_
 (refine aw_ops (by kernel_rfl) (fun K hK => ?_); simp (disch := first | omega | (simp only [lnS]; try omega)) [-getElem?_pos, -getElem?_neg]; refine hK _ _ ?_; clear hK K)
 refine aw_seq ?_
 refine aw_seq ?_
 (refine aw_ops (by kernel_rfl) (fun K hK => ?_); simp (disch := first | omega | (simp only [lnS]; try omega)) [-getElem?_pos, -getElem?_neg]; refine hK _ _ ?_; clear hK K)
 refine aw_block ?_
 refine aw_loop (fun c α G2 => ∃ i : Nat, i + c = o.who.length ∧ α 1 = .pointer (some ⟨n, 0, none⟩) ∧ α 4 = .bool (decide (o.author ∈ o.who.take i)) ∧ α 5 = .int .i64 (i : Nat) ∧ G2 = G ∧ (∀ k z, k < i → o.who[k]? = some z → memI z = true) ∧ ∀ k, k + 1 < i → o.who.getD k 0 < o.who.getD (k + 1) 0) o.who.length ?_ ?_
 ·exact ⟨0, by omega, by (first | (simp [put_at, put_none, fr0_at, q1]; done) | rfl), by simp [put_at], by (first | (simp [put_at, put_none, fr0_at]; done) | rfl), rfl, fun k z hk => by omega, fun k hk => by omega⟩
 clear q1 q3
 rintro c α G3 ⟨i, hic, q1, q4, q5, rfl, hmem, hrise⟩
 refine aw_seq ?_
 refine aw_seq ?_
 by_cases hi : i < o.who.length
 case pos =>
  obtain ⟨x1, y1, s1, s2, s3, s4, s5⟩ := hwacc.at_ i hi
  subst s4
  have s5 := s5 G3 (Low.refl (Nat.le_refl _))
  obtain ⟨z, hz⟩ : ∃ z, o.who[i]? = some z := ⟨_, List.getElem?_eq_getElem hi⟩
  have hzd : o.who.getD i 0 = z := getD_of hz
  have hzb := hw.who z (List.mem_of_getElem? hz)
  have htk : o.who.take (i + 1) = o.who.take i ++ [z] := by rw [List.take_add_one, hz]; rfl
  rw [hzd] at s5 s3
  (refine aw_ops (by kernel_rfl) (fun K hK => ?_); simp (disch := first | omega | (simp only [lnS]; try omega)) [-getElem?_pos, -getElem?_neg, q1, q5, hb, hul, c4, -notTuple, w1, w2, nt_intG, nt_ptrG, -xlen, w3, hi]; refine hK _ _ ?_; clear hK K)
  refine aw_t (by (first | (simp [eval_tmp, put_at, hi]; done) | (simp [eval_tmp, put_at, hi]; omega))) (by kernel_rfl) ?_
  refine aw_skip ?_
  refine aw_seq ?_
  refine aw_block ?_
  refine aw_seq ?_
  refine aw_cut (fun α G2 => α 1 = .pointer (some ⟨n, 0, none⟩) ∧ α 4 = .bool (decide (o.author ∈ o.who.take i)) ∧ α 5 = .int .i64 (i : Nat) ∧ G2 = G3 ∧ memI z = true ∧ (0 < i → o.who.getD (i - 1) 0 < z)) ?_ ?_
  ·refine aw_seq ?_
   (refine aw_plan [] [] [0, 1, 2, 3, 4, 5, 6, 7, 8, 9, 10, 11, 12, 13, 14, 15, 16, 17, 18, 19, 20, 21, 22, 23, 24] 25 0 (by kernel_rfl) (by kernel_rfl) (by kernel_rfl) (fun K hK => ?_)); simp only [sel, List.getElem?_cons_succ, List.getElem?_cons_zero, List.drop_succ_cons, List.drop_zero]; simp (disch := first | omega | (simp only [lnS]; try omega)) [-getElem?_pos, -getElem?_neg, q1, q5, hb, hul, c4, -notTuple, w1, w2, s1, s3, nt_intG, nt_ptrG, -xindexAddr, s2, -xload, hx4, s5, PL_nil, plainB_lit, PL_cons, PLc_val, PLc_new, stepP_t, stepP_f, stepPC_n, stepPC_s, stepPX_s, stepPX_n, stepPV_n, stepPV_s, stepPA_t, stepPA_c, stepPA_l, stepPN_s, allocOp, reloc_sl, reloc_ptr, List.map_cons, List.map_nil, List.nil_append, List.append_assoc, List.cons_append, Nat.add_assoc]
   refine PLc_call (v := .bool (memI z)) (by kernel_rfl) (fun L hL => ac_of_vc (by simp [pv_iv, pv_int, pv_bool, pv_string, pv_tup2, pv_tup3, iv_plain, p2_int, p2_bool, p2_string]) (member_vc z) rfl) (by simp [pv_iv, pv_int, pv_bool, pv_string, pv_tup2, pv_tup3, iv_plain, p2_int, p2_bool, p2_string]) ?_
   have hbadW : (o.who.all memI && risesI o.who) = false → (risesK o.parents && ((o.who.all memI && risesI o.who) && (boxesB o && kindB o (decide (o.author ∈ o.who))))) = false := fun hh => by rw [hh]; simp
   cases hmz : memI z with
   | false =>
    simp (disch := first | omega | (simp only [lnS]; try omega)) [-getElem?_pos, -getElem?_neg, PL_nil, plainB_lit, PL_cons, PLc_val, PLc_new, stepP_t, stepP_f, stepPC_n, stepPC_s, stepPX_s, stepPX_n, stepPV_n, stepPV_s, stepPA_t, stepPA_c, stepPA_l, stepPN_s, allocOp, reloc_sl, reloc_ptr, List.map_cons, List.map_nil, List.nil_append, List.append_assoc, List.cons_append, Nat.add_assoc]
    refine hK _ _ ?_; clear hK K
    refine aw_t (by (first | (simp [eval_tmp, put_at]; done) | (simp [eval_tmp, put_at]; omega))) (by kernel_rfl) ?_
    refine aw_seq ?_
    (refine aw_ops (by kernel_rfl) (fun K hK => ?_); simp (disch := first | omega | (simp only [lnS]; try omega)) [-getElem?_pos, -getElem?_neg]; refine hK _ _ ?_; clear hK K)
    (refine aw_ret ?_; simp (disch := first | omega | (simp only [lnS]; try omega)) [-getElem?_pos, -getElem?_neg, thenQ_ret, scopeQ_ret, inBlockQ_ret, RQ, resL, resV])
    rw [hrf, all_false hz hmz]; simp
   | true =>
   by_cases hi0 : 0 < i
   case neg =>
    simp (disch := first | omega | (simp only [lnS]; try omega)) [-getElem?_pos, -getElem?_neg, q1, q5, hb, hul, c4, -notTuple, w1, w2, s1, s3, nt_intG, nt_ptrG, -xindexAddr, s2, -xload, hx4, s5, hi0, PL_nil, plainB_lit, PL_cons, PLc_val, PLc_new, stepP_t, stepP_f, stepPC_n, stepPC_s, stepPX_s, stepPX_n, stepPV_n, stepPV_s, stepPA_t, stepPA_c, stepPA_l, stepPN_s, allocOp, reloc_sl, reloc_ptr, List.map_cons, List.map_nil, List.nil_append, List.append_assoc, List.cons_append, Nat.add_assoc]
    refine hK _ _ ?_; clear hK K
    refine aw_f (by (first | (simp [eval_tmp, put_at]; done) | (simp [eval_tmp, put_at]; omega))) (by kernel_rfl) ?_
    refine aw_skip ?_
    exact ⟨by (first | (simp [put_at, put_none, fr0_at, q1]; done) | rfl), by (first | (simp [put_at, put_none, fr0_at, q4]; done) | rfl), by (first | (simp [put_at, put_none, fr0_at, q5]; done) | rfl), rfl, hmz, fun hh => absurd hh hi0⟩
   obtain ⟨x0, y0, r1, r2, r3, r4, r5⟩ := hwacc.at_ (i - 1) (by omega)
   subst r4
   have r5 := r5 G3 (Low.refl (Nat.le_refl _))
   have hsub : (i : Int) - 1 = ((i - 1 : Nat) : Int) := by omega
   obtain ⟨y, hy⟩ : ∃ y, o.who[i - 1]? = some y := ⟨_, List.getElem?_eq_getElem (by omega)⟩
   have hyd : o.who.getD (i - 1) 0 = y := getD_of hy
   rw [hyd] at r5 r3
   by_cases hyz : y < z
   ·have hyz2 : ¬ z ≤ y := by omega
    simp (disch := first | omega | (simp only [lnS]; try omega)) [-getElem?_pos, -getElem?_neg, q1, q5, hb, hul, c4, -notTuple, w1, w2, s1, s3, nt_intG, nt_ptrG, -xindexAddr, s2, -xload, hx4, s5, hi0, hsub, r1, r3, r2, r5, hyz2, PL_nil, plainB_lit, PL_cons, PLc_val, PLc_new, stepP_t, stepP_f, stepPC_n, stepPC_s, stepPX_s, stepPX_n, stepPV_n, stepPV_s, stepPA_t, stepPA_c, stepPA_l, stepPN_s, allocOp, reloc_sl, reloc_ptr, List.map_cons, List.map_nil, List.nil_append, List.append_assoc, List.cons_append, Nat.add_assoc]
    refine hK _ _ ?_; clear hK K
    refine aw_f (by (first | (simp [eval_tmp, put_at, hyz2]; done) | (simp [eval_tmp, put_at, hyz2]; omega))) (by kernel_rfl) ?_
    refine aw_skip ?_
    exact ⟨by (first | (simp [put_at, put_none, fr0_at, q1]; done) | rfl), by (first | (simp [put_at, put_none, fr0_at, q4]; done) | rfl), by (first | (simp [put_at, put_none, fr0_at, q5]; done) | rfl), rfl, hmz, fun _ => by rw [hyd]; exact hyz⟩
   ·have hyz2 : z ≤ y := by omega
    simp (disch := first | omega | (simp only [lnS]; try omega)) [-getElem?_pos, -getElem?_neg, q1, q5, hb, hul, c4, -notTuple, w1, w2, s1, s3, nt_intG, nt_ptrG, -xindexAddr, s2, -xload, hx4, s5, hi0, hsub, r1, r3, r2, r5, hyz2, PL_nil, plainB_lit, PL_cons, PLc_val, PLc_new, stepP_t, stepP_f, stepPC_n, stepPC_s, stepPX_s, stepPX_n, stepPV_n, stepPV_s, stepPA_t, stepPA_c, stepPA_l, stepPN_s, allocOp, reloc_sl, reloc_ptr, List.map_cons, List.map_nil, List.nil_append, List.append_assoc, List.cons_append, Nat.add_assoc]
    refine hK _ _ ?_; clear hK K
    refine aw_t (by (first | (simp [eval_tmp, put_at, hyz2]; done) | (simp [eval_tmp, put_at, hyz2]; omega))) (by kernel_rfl) ?_
    refine aw_seq ?_
    (refine aw_ops (by kernel_rfl) (fun K hK => ?_); simp (disch := first | omega | (simp only [lnS]; try omega)) [-getElem?_pos, -getElem?_neg]; refine hK _ _ ?_; clear hK K)
    (refine aw_ret ?_; simp (disch := first | omega | (simp only [lnS]; try omega)) [-getElem?_pos, -getElem?_neg, thenQ_ret, scopeQ_ret, inBlockQ_ret, RQ, resL, resV])
    have : risesI o.who = false := by
     unfold risesI
     refine range_false (i := i - 1) (by omega) ?_
     rw [decide_eq_false_iff_not, show i - 1 + 1 = i by omega, hyd, hzd, cmpI_lt]
     omega
    rw [hrf, this]; simp
  clear q1 q4 q5
  rintro α G4 ⟨q1, q4, q5, rfl, hmz, hrz⟩
  have hau : decide (o.author ∈ o.who.take (i + 1)) = (decide (o.author ∈ o.who.take i) || decide (z = o.author)) := by
   rw [htk, Bool.eq_iff_iff, Bool.or_eq_true, decide_eq_true_eq, decide_eq_true_eq, decide_eq_true_eq, List.mem_append, List.mem_singleton, eq_comm (a := o.author) (b := z)]
  have hm2 : ∀ k z, k < i + 1 → o.who[k]? = some z → memI z = true := fun k z' hk hz' => by
   by_cases e : k = i
   ·subst e
    rw [hz] at hz'
    cases hz'
    exact hmz
   ·exact hmem k z' (by omega) hz'
  have hr2 : ∀ k, k + 1 < i + 1 → o.who.getD k 0 < o.who.getD (k + 1) 0 := fun k hk => by
   by_cases e : k + 1 = i
   ·rw [e, hzd, show k = i - 1 by omega]
    exact hrz (by omega)
   ·exact hrise k (by omega)
  cases hd : decide (o.author ∈ o.who.take i) with
  | true =>
   rw [hd] at q4 hau
   (refine aw_plan [] [] [0, 1, 2, 3, 4, 5, 6, 7, 8, 9, 10, 11] 12 0 (by kernel_rfl) (by kernel_rfl) (by kernel_rfl) (fun K hK => ?_)); simp only [sel, List.getElem?_cons_succ, List.getElem?_cons_zero, List.drop_succ_cons, List.drop_zero]; simp (disch := first | omega | (simp only [lnS]; try omega)) [-getElem?_pos, -getElem?_neg, q1, q4, q5, hb, hul, PL_nil, plainB_lit, PL_cons, PLc_val, PLc_new, stepP_t, stepP_f, stepPC_n, stepPC_s, stepPX_s, stepPX_n, stepPV_n, stepPV_s, stepPA_t, stepPA_c, stepPA_l, stepPN_s, allocOp, reloc_sl, reloc_ptr, List.map_cons, List.map_nil, List.nil_append, List.append_assoc, List.cons_append, Nat.add_assoc]
   refine hK _ _ ?_; clear hK K
   (refine aw_ops (by kernel_rfl) (fun K hK => ?_); simp (disch := first | omega | (simp only [lnS]; try omega)) [-getElem?_pos, -getElem?_neg, q5]; refine hK _ _ ?_; clear hK K)
   refine ⟨c - 1, by omega, i + 1, by omega, by (first | (simp [put_at, put_none, fr0_at, q1]; done) | rfl), by rw [hau]; (first | (simp [put_at, put_none, fr0_at]; done) | rfl), by (first | (simp [put_at, put_none, fr0_at]; done) | rfl), rfl, hm2, hr2⟩
  | false =>
   rw [hd] at q4 hau
   have hx0 : xload Try.prog 3 (.pointer (some ⟨n, 0, none⟩)) G4 = some (.int .i64 o.author) := by simp [xload, hb, c0]
   by_cases hza : z = o.author
   ·have hzab : (z == o.author) = true := by simp [hza]
    (refine aw_plan [] [] [0, 1, 2, 3, 4, 5, 6, 7, 8, 9, 10, 11] 12 0 (by kernel_rfl) (by kernel_rfl) (by kernel_rfl) (fun K hK => ?_)); simp only [sel, List.getElem?_cons_succ, List.getElem?_cons_zero, List.drop_succ_cons, List.drop_zero]; simp (disch := first | omega | (simp only [lnS]; try omega)) [-getElem?_pos, -getElem?_neg, q1, q4, q5, hb, hul, -notTuple, w1, w2, s1, s3, nt_intG, nt_ptrG, -xindexAddr, s2, -xload, hx4, hx0, s5, hza, hzab, PL_nil, plainB_lit, PL_cons, PLc_val, PLc_new, stepP_t, stepP_f, stepPC_n, stepPC_s, stepPX_s, stepPX_n, stepPV_n, stepPV_s, stepPA_t, stepPA_c, stepPA_l, stepPN_s, allocOp, reloc_sl, reloc_ptr, List.map_cons, List.map_nil, List.nil_append, List.append_assoc, List.cons_append, Nat.add_assoc]
    refine hK _ _ ?_; clear hK K
    (refine aw_ops (by kernel_rfl) (fun K hK => ?_); simp (disch := first | omega | (simp only [lnS]; try omega)) [-getElem?_pos, -getElem?_neg, q5]; refine hK _ _ ?_; clear hK K)
    refine ⟨c - 1, by omega, i + 1, by omega, by (first | (simp [put_at, put_none, fr0_at, q1]; done) | rfl), by rw [hau]; simp [put_at, hza], by (first | (simp [put_at, put_none, fr0_at]; done) | rfl), rfl, hm2, hr2⟩
   ·have hzab : (z == o.author) = false := by simp [hza]
    (refine aw_plan [] [] [0, 1, 2, 3, 4, 5, 6, 7, 8, 9, 10, 11] 12 0 (by kernel_rfl) (by kernel_rfl) (by kernel_rfl) (fun K hK => ?_)); simp only [sel, List.getElem?_cons_succ, List.getElem?_cons_zero, List.drop_succ_cons, List.drop_zero]; simp (disch := first | omega | (simp only [lnS]; try omega)) [-getElem?_pos, -getElem?_neg, q1, q4, q5, hb, hul, -notTuple, w1, w2, s1, s3, nt_intG, nt_ptrG, -xindexAddr, s2, -xload, hx4, hx0, s5, hza, hzab, PL_nil, plainB_lit, PL_cons, PLc_val, PLc_new, stepP_t, stepP_f, stepPC_n, stepPC_s, stepPX_s, stepPX_n, stepPV_n, stepPV_s, stepPA_t, stepPA_c, stepPA_l, stepPN_s, allocOp, reloc_sl, reloc_ptr, List.map_cons, List.map_nil, List.nil_append, List.append_assoc, List.cons_append, Nat.add_assoc]
    refine hK _ _ ?_; clear hK K
    (refine aw_ops (by kernel_rfl) (fun K hK => ?_); simp (disch := first | omega | (simp only [lnS]; try omega)) [-getElem?_pos, -getElem?_neg, q5]; refine hK _ _ ?_; clear hK K)
    refine ⟨c - 1, by omega, i + 1, by omega, by (first | (simp [put_at, put_none, fr0_at, q1]; done) | rfl), by rw [hau]; simp [put_at, hza], by (first | (simp [put_at, put_none, fr0_at]; done) | rfl), rfl, hm2, hr2⟩
 (refine aw_ops (by kernel_rfl) (fun K hK => ?_); simp (disch := first | omega | (simp only [lnS]; try omega)) [-getElem?_pos, -getElem?_neg, q1, q5, hb, hul, c4, -notTuple, w1, w2, nt_intG, nt_ptrG, -xlen, w3, hi]; refine hK _ _ ?_; clear hK K)
 refine aw_f (by (first | (simp [eval_tmp, put_at, hi]; done) | (simp [eval_tmp, put_at, hi]; omega))) (by kernel_rfl) ?_
 refine aw_exit ?_
 obtain rfl : i = o.who.length := by omega
 rw [List.take_length] at q4
 have hW : (o.who.all memI && risesI o.who) = true := by
  rw [all_take (fun k z hz => hmem k z (List.getElem?_eq_some_iff.1 hz).1 hz), Bool.true_and]
  unfold risesI
  exact range_true fun k hk => by
   rw [decide_eq_true_eq, cmpI_lt]
   exact hrise k (by omega)
 rw [hW, Bool.true_and] at hrf
 refine aw_seq ?_
 refine aw_seq ?_
 (refine aw_ops (by kernel_rfl) (fun K hK => ?_); simp (disch := first | omega | (simp only [lnS]; try omega)) [-getElem?_pos, -getElem?_neg]; refine hK _ _ ?_; clear hK K)
 refine aw_block ?_
 refine aw_loop (fun c α G2 => ∃ i : Nat, i + c = o.boxes.length ∧ α 1 = .pointer (some ⟨n, 0, none⟩) ∧ α 4 = .bool (decide (o.author ∈ o.who)) ∧ α 6 = .int .i64 (i : Nat) ∧ Low G3.length G3 G2 ∧ (∀ k z, k < i → o.boxes[k]? = some z → boxB o.author z = true) ∧ ∀ k, k + 1 < i → (o.boxes.map BoxD.to).getD k 0 < (o.boxes.map BoxD.to).getD (k + 1) 0) o.boxes.length ?_ ?_
 ·exact ⟨0, by omega, by (first | (simp [put_at, put_none, fr0_at, q1]; done) | rfl), by (first | (simp [put_at, put_none, fr0_at, q4]; done) | rfl), by (first | (simp [put_at, put_none, fr0_at]; done) | rfl), Low.refl (Nat.le_refl _), fun k z hk => by omega, fun k hk => by omega⟩
 clear q1 q4 q5
 rintro c α G4 ⟨i, hic, q1, q4, q6, low4, hbox, hrise2⟩
 have hb4 := (low4.1 n (hget_lt hb)).trans hb
 have hle4 := low4.2
 have hlG3 := hget_lt hb
 refine aw_seq ?_
 refine aw_seq ?_
 by_cases hi : i < o.boxes.length
 case neg =>
  (refine aw_ops (by kernel_rfl) (fun K hK => ?_); simp (disch := first | omega | (simp only [lnS]; try omega)) [-getElem?_pos, -getElem?_neg, q1, q6, hb4, hul, c70, -notTuple, b1, b2, nt_intG, nt_ptrG, -xlen, hblen, hi]; refine hK _ _ ?_; clear hK K)
  refine aw_f (by (first | (simp [eval_tmp, put_at, hi]; done) | (simp [eval_tmp, put_at, hi]; omega))) (by kernel_rfl) ?_
  refine aw_exit ?_
  obtain rfl : i = o.boxes.length := by omega
  have hB : boxesB o = true := by
   unfold boxesB risesX
   rw [all_take (fun k z hz => hbox k z (List.getElem?_eq_some_iff.1 hz).1 hz), Bool.true_and]
   exact range_true fun k hk => by
    rw [decide_eq_true_eq, cmpI_lt]
    exact hrise2 k (by omega)
  rw [hB, Bool.true_and] at hrf
  have hO4 : OpC G4 us o pv wv bv := hG.low low4.1
  have hkd := rkind_rc (γ := γ) hO4 hw (decide (o.author ∈ o.who))
  refine aw_seq ?_
  refine aw_ops (by kernel_rfl) (fun K hK => ?_)
  simp (disch := first | omega | (simp only [lnS]; try omega)) [-getElem?_pos, -getElem?_neg, q1, q4, hb4, hul, htu, nt_aggG]
  refine ⟨by kernel_rfl, ac_of_rc hkd (by simp [pv_iv, pv_int, pv_bool, pv_string, pv_tup2, pv_tup3, iv_plain, p2_int, p2_bool, p2_string]) ?_⟩
  try simp (disch := first | omega | (simp only [lnS]; try omega)) [-getElem?_pos, -getElem?_neg]
  refine hK _ _ ?_; clear hK K
  (refine aw_ret ?_; simp (disch := first | omega | (simp only [lnS]; try omega)) [-getElem?_pos, -getElem?_neg, thenQ_ret, scopeQ_ret, inBlockQ_ret, RQ, resL, resV])
  rw [hrf]
 obtain ⟨z, hz⟩ : ∃ z, o.boxes[i]? = some z := ⟨_, List.getElem?_eq_getElem hi⟩
 obtain ⟨j, q, bb, ws, hxa, hbb, hq, hws, hcl, hC⟩ := hbx.row_at hw.boxes hz
 have hbb4 := (low4.1 j (hget_lt hbb)).trans hbb
 have hwl := hC.len
 have d0 := hC.c0
 have d35 := hC.c35
 have hws' := hws.symm
 clear hws
 have hset2 : ∀ Z : List Value, Z.length = 36 → setR Z 0 ws = ws := fun Z hZ => setR_all _ _ (by omega)
 have hzw := hw.boxes z (List.mem_of_getElem? hz)
 have hzb := hzw.body
 have hzt := hzw.to
 have htd : (o.boxes.map BoxD.to).getD i 0 = z.to := getD_of (by rw [List.getElem?_map, hz]; rfl)
 have hnG : n ≤ G4.length := by omega
 (refine aw_ops (by kernel_rfl) (fun K hK => ?_); simp (disch := first | omega | (simp only [lnS]; try omega)) [-getElem?_pos, -getElem?_neg, q1, q6, hb4, hul, c70, -notTuple, b1, b2, nt_intG, nt_ptrG, -xlen, hblen, hi]; refine hK _ _ ?_; clear hK K)
 refine aw_t (by (first | (simp [eval_tmp, put_at, hi]; done) | (simp [eval_tmp, put_at, hi]; omega))) (by kernel_rfl) ?_
 refine aw_skip ?_
 refine aw_seq ?_
 refine aw_block ?_
 refine aw_seq ?_
 (refine aw_ops (by kernel_rfl) (fun K hK => ?_); simp (disch := first | omega | (simp only [lnS]; try omega)) [-getElem?_pos, -getElem?_neg, q1, q6, hb4, hul, c70, -notTuple, b1, b2, nt_intG, nt_ptrG, nt_aggG, -xindexAddr, hxa, hbb4, hws', hwl, hq, hnG, all_zl, hset2]; refine hK _ _ ?_; clear hK K)
 obtain ⟨low5, hbg⟩ := boxed (H := G4) ws 107
 obtain ⟨g, hg⟩ : ∃ g, g = G4.length := ⟨_, rfl⟩
 rw [← hg] at hbg ⊢
 generalize G4 ++ [some ⟨ws, 107, none⟩] = G5 at *
 have hb5 := (low5.1 n (by omega)).trans hb4
 have hxA : xload Try.prog 3 (.pointer (some ⟨n, 0, none⟩)) G5 = some (.int .i64 o.author) := by simp [xload, hb5, c0]
 have hxT : xload Try.prog 3 (.pointer (some ⟨g, 0, none⟩)) G5 = some (.int .i64 z.to) := by simp [xload, hbg, d0]
 have hxB : xload Try.prog 9 (.pointer (some ⟨g, 35, none⟩)) G5 = some (.string z.body) := by simp [xload, hbg, d35]
 have hx70 : xload Try.prog 39 (.pointer (some ⟨n, 70, none⟩)) G5 = some bv := by simp [xload, hb5, c70]
 have hxt : xlen Try.prog 9 (.string z.body) = some (.int .i64 z.body.size) := by simp [xlen]
 have hzb2 : z.body.size ≤ 9223372036854775807 := by simp only [maxLen] at hzb; omega
 have low45 : Low G3.length G3 G5 := ⟨fun j hj => (low5.1 j (by omega)).trans (low4.1 j hj), by have := low5.2; omega⟩
 have q6' := q6
 have hbadB : boxB o.author z = false → boxesB o = false := fun hh => by unfold boxesB; rw [all_false hz hh]; rfl
 refine aw_seq ?_
 have hnextI : ∀ w : Int, (o.boxes.map BoxD.to).getD (i - 1) 0 = w → True := fun _ _ => trivial
 refine aw_cut (fun α G2 => α 152 = .bool (!(boxB o.author z && (decide (i = 0) || decide ((o.boxes.map BoxD.to).getD (i - 1) 0 < z.to)))) ∧ α 1 = .pointer (some ⟨n, 0, none⟩) ∧ α 4 = .bool (decide (o.author ∈ o.who)) ∧ α 6 = .int .i64 (i : Nat) ∧ G2 = G5) ?_ ?_
 ·(refine aw_plan [] [] [0, 1, 2, 3, 4, 5, 6, 7, 8, 9, 10, 11, 12, 13, 14, 15, 16, 17, 18, 19, 20, 21, 22, 23, 24, 25, 26, 27, 28, 29, 30, 31, 32] 33 0 (by kernel_rfl) (by kernel_rfl) (by kernel_rfl) (fun K hK => ?_)); simp only [sel, List.getElem?_cons_succ, List.getElem?_cons_zero, List.drop_succ_cons, List.drop_zero]; simp (disch := first | omega | (simp only [lnS]; try omega)) [-getElem?_pos, -getElem?_neg, q1, q6, hb, hul, c70, hbg, hwl, d0, d35, -notTuple, b1, b2, nt_intG, nt_ptrG, nt_strG, -xlen, hxt, -xload, hxA, hxT, hxB, hx70, PL_nil, plainB_lit, PL_cons, PLc_val, PLc_new, stepP_t, stepP_f, stepPC_n, stepPC_s, stepPX_s, stepPX_n, stepPV_n, stepPV_s, stepPA_t, stepPA_c, stepPA_l, stepPN_s, allocOp, reloc_sl, reloc_ptr, List.map_cons, List.map_nil, List.nil_append, List.append_assoc, List.cons_append, Nat.add_assoc]
  refine PLc_call (v := .bool (memI z.to)) (by kernel_rfl) (fun L hL => ac_of_vc (by simp [pv_iv, pv_int, pv_bool, pv_string, pv_tup2, pv_tup3, iv_plain, p2_int, p2_bool, p2_string]) (member_vc z.to) rfl) (by simp [pv_iv, pv_int, pv_bool, pv_string, pv_tup2, pv_tup3, iv_plain, p2_int, p2_bool, p2_string]) ?_
  cases k1 : memI z.to with
  | false =>
   simp (disch := first | omega | (simp only [lnS]; try omega)) [-getElem?_pos, -getElem?_neg, PL_nil, plainB_lit, PL_cons, PLc_val, PLc_new, stepP_t, stepP_f, stepPC_n, stepPC_s, stepPX_s, stepPX_n, stepPV_n, stepPV_s, stepPA_t, stepPA_c, stepPA_l, stepPN_s, allocOp, reloc_sl, reloc_ptr, List.map_cons, List.map_nil, List.nil_append, List.append_assoc, List.cons_append, Nat.add_assoc]
   refine hK _ _ ?_; clear hK K
   exact ⟨by simp [boxB, k1, put_at], by (first | (simp [put_at, put_none, fr0_at, q1]; done) | rfl), by (first | (simp [put_at, put_none, fr0_at, q4]; done) | rfl), by (first | (simp [put_at, put_none, fr0_at, q6]; done) | rfl), rfl⟩
  | true =>
  by_cases k2 : z.to = o.author
  ·have k2b : (z.to == o.author) = true := by simp [k2]
   simp (disch := first | omega | (simp only [lnS]; try omega)) [-getElem?_pos, -getElem?_neg, q1, q6, hb, hul, c70, hbg, hwl, d0, d35, -notTuple, b1, b2, nt_intG, nt_ptrG, nt_strG, -xlen, hxt, -xload, hxA, hxT, hxB, hx70, k2, k2b, PL_nil, plainB_lit, PL_cons, PLc_val, PLc_new, stepP_t, stepP_f, stepPC_n, stepPC_s, stepPX_s, stepPX_n, stepPV_n, stepPV_s, stepPA_t, stepPA_c, stepPA_l, stepPN_s, allocOp, reloc_sl, reloc_ptr, List.map_cons, List.map_nil, List.nil_append, List.append_assoc, List.cons_append, Nat.add_assoc]
   refine hK _ _ ?_; clear hK K
   exact ⟨by simp [boxB, k1, k2, put_at], by (first | (simp [put_at, put_none, fr0_at, q1]; done) | rfl), by (first | (simp [put_at, put_none, fr0_at, q4]; done) | rfl), by (first | (simp [put_at, put_none, fr0_at, q6]; done) | rfl), rfl⟩
  have k2b : (z.to == o.author) = false := by simp [k2]
  by_cases k3 : z.body.size ≤ 256
  case neg =>
   have k3b : 256 < z.body.size := by omega
   simp (disch := first | omega | (simp only [lnS]; try omega)) [-getElem?_pos, -getElem?_neg, q1, q6, hb, hul, c70, hbg, hwl, d0, d35, -notTuple, b1, b2, nt_intG, nt_ptrG, nt_strG, -xlen, hxt, -xload, hxA, hxT, hxB, hx70, k2, k2b, k3b, PL_nil, plainB_lit, PL_cons, PLc_val, PLc_new, stepP_t, stepP_f, stepPC_n, stepPC_s, stepPX_s, stepPX_n, stepPV_n, stepPV_s, stepPA_t, stepPA_c, stepPA_l, stepPN_s, allocOp, reloc_sl, reloc_ptr, List.map_cons, List.map_nil, List.nil_append, List.append_assoc, List.cons_append, Nat.add_assoc]
   refine hK _ _ ?_; clear hK K
   exact ⟨by simp [boxB, k1, k2, k3, put_at], by (first | (simp [put_at, put_none, fr0_at, q1]; done) | rfl), by (first | (simp [put_at, put_none, fr0_at, q4]; done) | rfl), by (first | (simp [put_at, put_none, fr0_at, q6]; done) | rfl), rfl⟩
  have k3b : ¬ 256 < z.body.size := by omega
  by_cases hi0 : 0 < i
  case neg =>
   have hi0e : i = 0 := by omega
   simp (disch := first | omega | (simp only [lnS]; try omega)) [-getElem?_pos, -getElem?_neg, q1, q6, hb, hul, c70, hbg, hwl, d0, d35, -notTuple, b1, b2, nt_intG, nt_ptrG, nt_strG, -xlen, hxt, -xload, hxA, hxT, hxB, hx70, k2, k2b, k3b, hi0, PL_nil, plainB_lit, PL_cons, PLc_val, PLc_new, stepP_t, stepP_f, stepPC_n, stepPC_s, stepPX_s, stepPX_n, stepPV_n, stepPV_s, stepPA_t, stepPA_c, stepPA_l, stepPN_s, allocOp, reloc_sl, reloc_ptr, List.map_cons, List.map_nil, List.nil_append, List.append_assoc, List.cons_append, Nat.add_assoc]
   refine hK _ _ ?_; clear hK K
   exact ⟨by simp [boxB, k1, k2, k3, hi0e, put_at], by (first | (simp [put_at, put_none, fr0_at, q1]; done) | rfl), by (first | (simp [put_at, put_none, fr0_at, q4]; done) | rfl), by (first | (simp [put_at, put_none, fr0_at, q6]; done) | rfl), rfl⟩
  have hi0n : ¬ i = 0 := by omega
  obtain ⟨y, hy⟩ : ∃ y, o.boxes[i - 1]? = some y := ⟨_, List.getElem?_eq_getElem (by omega)⟩
  obtain ⟨j', q', bb', ws', hxa', hbb', hq', hws2, hcl', hC'⟩ := hbx.row_at hw.boxes hy
  have hbb5 := (low45.1 j' (hget_lt hbb')).trans hbb'
  have htd' : (o.boxes.map BoxD.to).getD (i - 1) 0 = y.to := getD_of (by rw [List.getElem?_map, hy]; rfl)
  have e0 := (hcl' 0 (by omega)).trans hC'.c0
  have hxY : xload Try.prog 3 (.pointer (some ⟨j', q', none⟩)) G5 = some (.int .i64 y.to) := by simp [xload, hbb5]; simpa using e0
  have hsub : (i : Int) - 1 = ((i - 1 : Nat) : Int) := by omega
  by_cases k4 : y.to < z.to
  ·have k4b : ¬ z.to ≤ y.to := by omega
   simp (disch := first | omega | (simp only [lnS]; try omega)) [-getElem?_pos, -getElem?_neg, q1, q6, hb, hul, c70, hbg, hwl, d0, d35, -notTuple, b1, b2, nt_intG, nt_ptrG, nt_strG, -xlen, hxt, -xload, hxA, hxT, hxB, hx70, k2, k2b, k3b, hi0, hsub, -xindexAddr, hxa', hxY, k4b, PL_nil, plainB_lit, PL_cons, PLc_val, PLc_new, stepP_t, stepP_f, stepPC_n, stepPC_s, stepPX_s, stepPX_n, stepPV_n, stepPV_s, stepPA_t, stepPA_c, stepPA_l, stepPN_s, allocOp, reloc_sl, reloc_ptr, List.map_cons, List.map_nil, List.nil_append, List.append_assoc, List.cons_append, Nat.add_assoc]
   refine hK _ _ ?_; clear hK K
   exact ⟨by simp only [htd']; simp [boxB, k1, k2, k3, hi0n, k4, put_at], by (first | (simp [put_at, put_none, fr0_at, q1]; done) | rfl), by (first | (simp [put_at, put_none, fr0_at, q4]; done) | rfl), by (first | (simp [put_at, put_none, fr0_at, q6]; done) | rfl), rfl⟩
  ·have k4b : z.to ≤ y.to := by omega
   simp (disch := first | omega | (simp only [lnS]; try omega)) [-getElem?_pos, -getElem?_neg, q1, q6, hb, hul, c70, hbg, hwl, d0, d35, -notTuple, b1, b2, nt_intG, nt_ptrG, nt_strG, -xlen, hxt, -xload, hxA, hxT, hxB, hx70, k2, k2b, k3b, hi0, hsub, -xindexAddr, hxa', hxY, k4b, PL_nil, plainB_lit, PL_cons, PLc_val, PLc_new, stepP_t, stepP_f, stepPC_n, stepPC_s, stepPX_s, stepPX_n, stepPV_n, stepPV_s, stepPA_t, stepPA_c, stepPA_l, stepPN_s, allocOp, reloc_sl, reloc_ptr, List.map_cons, List.map_nil, List.nil_append, List.append_assoc, List.cons_append, Nat.add_assoc]
   refine hK _ _ ?_; clear hK K
   exact ⟨by simp only [htd']; simp [boxB, k1, k2, k3, hi0n, k4, put_at], by (first | (simp [put_at, put_none, fr0_at, q1]; done) | rfl), by (first | (simp [put_at, put_none, fr0_at, q4]; done) | rfl), by (first | (simp [put_at, put_none, fr0_at, q6]; done) | rfl), rfl⟩
 clear q1 q4 q6 q6'
 rintro α G6 ⟨q152, q1, q4, q6, rfl⟩
 cases hgood : (boxB o.author z && (decide (i = 0) || decide ((o.boxes.map BoxD.to).getD (i - 1) 0 < z.to))) with
 | false =>
  rw [hgood] at q152
  refine aw_t (by (first | (simp [eval_tmp, put_at, q152]; done) | (simp [eval_tmp, put_at, q152]; omega))) (by kernel_rfl) ?_
  refine aw_seq ?_
  (refine aw_ops (by kernel_rfl) (fun K hK => ?_); simp (disch := first | omega | (simp only [lnS]; try omega)) [-getElem?_pos, -getElem?_neg]; refine hK _ _ ?_; clear hK K)
  (refine aw_ret ?_; simp (disch := first | omega | (simp only [lnS]; try omega)) [-getElem?_pos, -getElem?_neg, thenQ_ret, scopeQ_ret, inBlockQ_ret, RQ, resL, resV])
  have hBf : boxesB o = false := by
   rw [Bool.and_eq_false_iff] at hgood
   rcases hgood with hh | hh
   ·exact hbadB hh
   ·rw [Bool.or_eq_false_iff, decide_eq_false_iff_not, decide_eq_false_iff_not] at hh
    unfold boxesB
    have : risesX o.boxes = false := by
     unfold risesX
     refine range_false (i := i - 1) (by omega) ?_
     rw [decide_eq_false_iff_not, show i - 1 + 1 = i by omega, htd, cmpI_lt]
     exact hh.2
    rw [this, Bool.and_false]
  rw [hrf, hBf]; rfl
 | true =>
  rw [hgood] at q152
  refine aw_f (by (first | (simp [eval_tmp, put_at, q152]; done) | (simp [eval_tmp, put_at, q152]; omega))) (by kernel_rfl) ?_
  refine aw_skip ?_
  rw [Bool.and_eq_true, Bool.or_eq_true, decide_eq_true_eq, decide_eq_true_eq] at hgood
  (refine aw_ops (by kernel_rfl) (fun K hK => ?_); simp (disch := first | omega | (simp only [lnS]; try omega)) [-getElem?_pos, -getElem?_neg, q6]; refine hK _ _ ?_; clear hK K)
  refine ⟨c - 1, by omega, i + 1, by omega, by (first | (simp [put_at, put_none, fr0_at, q1]; done) | rfl), by (first | (simp [put_at, put_none, fr0_at, q4]; done) | rfl), by (first | (simp [put_at, put_none, fr0_at]; done) | rfl), low45, fun k z' hk hz' => ?_, fun k hk => ?_⟩
  ·by_cases e : k = i
   ·subst e
    rw [hz] at hz'
    cases hz'
    exact hgood.1
   ·exact hbox k z' (by omega) hz'
  ·by_cases e : k + 1 = i
   ·rw [e, htd, show k = i - 1 by omega]
    rcases hgood.2 with hh | hh
    ·omega
    ·exact hh
   ·exact hrise2 k (by omega)
end
section
def CD.flat : CD → Bool | .sl _ => false | _ => true
def CD.fv : CD → Value | .int k z => .int k z | .str s => .string s | .bool b => .bool b | .sl _ => undef
theorem flat_val {H : AH} {d : CD} {x : Value} (hf : d.flat = true) (h : CD.Val H d x) : x = d.fv := by
 cases h with
 | int => rfl
 | str => rfl
 | bool => rfl
 | nil _ => cases hf
 | sl _ _ _ _ => cases hf
theorem val_flat {H : AH} {d : CD} (hf : d.flat = true) : CD.Val H d d.fv := by
 cases d with
 | int => exact .int
 | str => exact .str
 | bool => exact .bool
 | sl => cases hf
theorem fl_at {β : Type} {L : List (List β)} {n i c : Nat} {row : List β} {d : β} (h : ∀ r ∈ L, r.length = n) (hi : L[i]? = some row) (hc : row[c]? = some d) : L.flatten[i * n + c]? = some d := by
 have hr := h row (List.mem_of_getElem? hi)
 have hcl := (List.getElem?_eq_some_iff.1 hc).1
 have := fl_get h hi
 rw [← this] at hc
 rwa [List.getElem?_take_of_lt (by omega), List.getElem?_drop] at hc
def flatR (rows : List (List CD)) : Prop := ∀ row ∈ rows, ∀ d ∈ row, d.flat = true
theorem val_cells {H : AH} {rows : List (List CD)} {v : Value} {sz : Nat} (h0 : 0 < sz) (h : CD.Val H (.sl rows) v) (hr : ∀ row ∈ rows, row.length = sz) (hf : flatR rows) : xcells sz v H = some (rows.flatten.map CD.fv) := by
 cases h with
 | @nil a ha =>
  cases a with
  | none => rfl
  | some x =>
   obtain ⟨j, off, spot⟩ := x
   have hsp : spot = some 0 := ha _ rfl
   subst hsp
   rfl
 | @sl sz' j k _ h1 h2 h3 h4 =>
  have hlen : rows.flatten.length = rows.length * sz := fl_len hr
  have hle : rows.length * sz ≤ k.cells.length := by
   cases rows with
   | nil => simp
   | cons r rs =>
    have e1 := h3 r (by simp)
    have e2 := hr r (by simp)
    rw [← e2, e1]; exact h2
  have hx : xcells sz (.slice (some ⟨j, 0, none⟩) rows.length rows.length) H = some ((k.cells.drop 0).take (rows.length * sz)) := by
   unfold xcells
   simp only [h1]
   rw [if_pos (by omega)]
  rw [hx, List.drop_zero]
  congr 1
  apply List.ext_getElem?
  intro c
  rcases Nat.lt_or_ge c (rows.length * sz) with hc | hc
  ·have hi : c / sz < rows.length := Nat.div_lt_of_lt_mul (by rw [Nat.mul_comm]; exact hc)
   obtain ⟨row, hrow⟩ : ∃ row, rows[c / sz]? = some row := ⟨_, List.getElem?_eq_getElem hi⟩
   have hrl := hr row (List.mem_of_getElem? hrow)
   have hrl' := h3 row (List.mem_of_getElem? hrow)
   have hm := Nat.mod_lt c h0
   obtain ⟨d, hd⟩ : ∃ d, row[c % sz]? = some d := ⟨_, List.getElem?_eq_getElem (by omega)⟩
   have hce : c / sz * sz + c % sz = c := by rw [Nat.mul_comm]; exact Nat.div_add_mod c sz
   have hat := fl_at hr hrow hd
   rw [hce] at hat
   have hkc : k.cells[c]? = some (k.cells[c]'(by omega)) := List.getElem?_eq_getElem _
   have hv := h4 (c / sz) row (c % sz) d _ hrow hd (by rw [show sz' = sz by omega, hce]; exact hkc)
   rw [List.getElem?_take_of_lt hc, hkc, flat_val (hf row (List.mem_of_getElem? hrow) d (List.mem_of_getElem? hd)) hv, List.getElem?_map, hat]
   rfl
  ·rw [List.getElem?_eq_none (by rw [List.length_take]; omega), List.getElem?_eq_none (by rw [List.length_map, hlen]; omega)]
theorem own_val {G : AH} {v : Value} {e : TypeId} {sz : Nat} {rows : List (List CD)} {F : List Nat} (h0 : 0 < sz) (h : OwnF G v e sz (rows.flatten.map CD.fv) F) (hr : ∀ row ∈ rows, row.length = sz) (hf : flatR rows) : CD.Val G (.sl rows) v := by
 have hlen : rows.flatten.length = rows.length * sz := fl_len hr
 rcases h with ⟨rfl, h1, _⟩ | ⟨j, len, rfl, h2, h3, _⟩
 ·have h4 := congrArg List.length h1
  rw [List.length_map, hlen, List.length_nil] at h4
  have : rows.length = 0 := by
   rcases Nat.mul_eq_zero.1 h4 with h | h
   ·exact h
   ·omega
  rw [List.eq_nil_of_length_eq_zero this]
  exact .nil (fun x e => by cases e)
 ·rw [List.length_map, hlen] at h3
  have : len = rows.length := (Nat.eq_of_mul_eq_mul_right h0 h3).symm
  subst this
  refine .sl (sz := sz) h2 (by show _ ≤ (rows.flatten.map CD.fv).length; rw [List.length_map, hlen]; exact Nat.le_refl _) hr (fun i row c d x hi hc hx => ?_)
  have hat := fl_at hr hi hc
  have hx' : (rows.flatten.map CD.fv)[i * sz + c]? = some x := hx
  rw [List.getElem?_map, hat] at hx'
  cases hx'
  exact val_flat (hf row (List.mem_of_getElem? hi) d (List.mem_of_getElem? hc))
def clV (v : Value) (n : Nat) : Value := match v with | .slice none _ _ => .slice none 0 0 | .slice (some _) k _ => .slice (some ⟨n + 1, 0, none⟩) k k | _ => undef
def clN (v : Value) : Nat := match v with | .slice none _ _ => 0 | _ => 2
theorem val_shape {H : AH} {rows : List (List CD)} {v : Value} (h : CD.Val H (.sl rows) v) : (v = .slice none 0 0 ∧ rows = []) ∨ ∃ a, v = .slice (some a) rows.length rows.length := by
 cases h with
 | @nil a ha =>
  cases a with
  | none => exact .inl ⟨rfl, rfl⟩
  | some x => exact .inr ⟨x, rfl⟩
 | sl _ _ _ _ => exact .inr ⟨_, rfl⟩
theorem clone_app {P : Program} {nro : Nat} {t e : TypeId} {sz : Nat} {cells : List Value} {H : AH} {a : Addr} {n : Nat} (hu : und P t = .slice e) (hs : szt P e = sz) (h0 : 0 < sz) (hz : (zer P e).map (·.cells.size) = some sz) (hnro : nro ≤ H.length)
  (hx : xcells sz (.slice (some a) n n) (H ++ [some ⟨[], e, some sz⟩]) = some cells) (hl : cells.length = n * sz) (hb : cells.length * byt P e ≤ 140737488355328) (hm : cells.length ≤ maxLen) :
  xappend P nro t (.slice (some ⟨H.length, 0, none⟩) 0 0) (.slice (some a) n n) (H ++ [some ⟨[], e, some sz⟩]) = some (.slice (some ⟨H.length + 1, 0, none⟩) n n, H ++ [none, some ⟨cells, e, some sz⟩]) := by
 subst hs
 have hg : hget (H ++ [some ⟨[], e, some (szt P e)⟩]) H.length = some ⟨[], e, some (szt P e)⟩ := by rw [hget_app0]; rfl
 unfold xappend
 simp only [hu, hx, hg]
 rw [if_pos ⟨trivial, h0, hz, hnro, trivial, trivial, by simp, by simpa using hb, by simpa using hm⟩, hl, Nat.mul_div_cancel _ h0]
 simp
def NewC (H : AH) (v : Value) (e : TypeId) (sz : Nat) (cells : List Value) (v' : Value) (H' : AH) : Prop :=
 v' = clV v H.length ∧ H'.length = H.length + clN v ∧ Low H.length H H' ∧ ∃ F, OwnF H' v' e sz cells F ∧ ∀ j ∈ F, H.length ≤ j
theorem kd_flat (ps : List (List Int)) : flatR (ps.map kd) := by
 intro row hr d hd
 obtain ⟨k, _, rfl⟩ := List.mem_map.1 hr
 obtain ⟨z, _, rfl⟩ := List.mem_map.1 hd
 rfl
theorem int_flat (l : List Int) : flatR (l.map fun z => [CD.int .i64 z]) := by
 intro row hr d hd
 obtain ⟨k, _, rfl⟩ := List.mem_map.1 hr
 rw [List.mem_singleton] at hd
 subst hd
 rfl
theorem box_flat (l : List BoxD) : flatR (l.map BoxD.row) := by
 intro row hr d hd
 obtain ⟨b, _, rfl⟩ := List.mem_map.1 hr
 simp only [BoxD.row, kd, List.mem_append, List.mem_singleton, List.mem_map, List.mem_cons, List.not_mem_nil, or_false] at hd
 rcases hd with rfl | ⟨z, _, rfl⟩ | rfl | rfl | rfl <;> rfl
theorem kd_len {ps : List (List Int)} (h : ∀ k ∈ ps, k.length = 32) : ∀ row ∈ ps.map kd, row.length = 32 := by
 intro row hr
 obtain ⟨k, hk, rfl⟩ := List.mem_map.1 hr
 rw [kd, List.length_map]; exact h k hk
theorem int_len (l : List Int) : ∀ row ∈ l.map fun z => [CD.int .i64 z], row.length = 1 := by
 intro row hr
 obtain ⟨k, hk, rfl⟩ := List.mem_map.1 hr
 rfl
theorem box_len {l : List BoxD} (h : ∀ b ∈ l, b.Wf) : ∀ row ∈ l.map BoxD.row, row.length = 36 := by
 intro row hr
 obtain ⟨b, hb, rfl⟩ := List.mem_map.1 hr
 have := (h b hb).pub.1
 simp [BoxD.row, kd, this]
def ksC (ps : List (List Int)) : List Value := (ps.map kd).flatten.map CD.fv
def isC (l : List Int) : List Value := (l.map fun z => [CD.int .i64 z]).flatten.map CD.fv
def bxC (l : List BoxD) : List Value := (l.map BoxD.row).flatten.map CD.fv
theorem ksC_len {ps : List (List Int)} (h : ∀ k ∈ ps, k.length = 32) : (ksC ps).length = ps.length * 32 := by unfold ksC; rw [List.length_map, fl_len (kd_len h), List.length_map]
theorem isC_len (l : List Int) : (isC l).length = l.length * 1 := by unfold isC; rw [List.length_map, fl_len (int_len l), List.length_map]
theorem bxC_len {l : List BoxD} (h : ∀ b ∈ l, b.Wf) : (bxC l).length = l.length * 36 := by unfold bxC; rw [List.length_map, fl_len (box_len h), List.length_map]
attribute [local simp] wb_bool wb_undef with_lit XL_nil XL_cons XLc_val XLc_call step1_eq stepW_t stepW_f stepC_n stepC_s stepX_s stepX_n stepN_s calleeX xrecv oneV xop_eq xopR_s xopR_n wantedA_eq wantedG_n wantedG_s plain1_int plain1_bool plain1_string bits_i64 bits_u64 bits_u32 bits_u16 bits_u8 xeqA xagg xcmp xarr allK_iv num_iv calleeOf xread xeff xbin xint xnil xun xstr xload xconv xpart xfield xfieldAddr xindexAddr xindex bnd asInt? xslice xlen xmin xmax xbuild xfill xappend xapp2 xappstr xappmk xcap xcopy xcells eval_tmp eval_const put_at put_none fr0_at cells_agg cells_int cells_bool cells_string cells_ptr cells_slice notTuple tab iv_all hget_app hget_app0 hget_cons0 hget_cons set_app set_app0 setR setR_one QL_nil QL_cons QLc_val stepQ_t stepQ_f stepQC_n stepQC_s stepQX_s SL_nil SL_cons SLc_val stepS_t stepS_f ltT ltF leT leF eqT eqF ltTn ltFn leTn leFn eqTn eqFn beqT beqF bneT bneF wi64 wu64 wu32 wu16 wu8 tmodP tdivP hgetL hgetNe hgetEq setL nums_def nums_len Nat.succ_le_of_lt List.getElem?_cons_zero List.getElem?_cons_succ Option.getD_some Int.toNat_add Int.toNat_mul agM okM agB agI agS agP agL agA okB okI okS okP okSl okA
theorem cloneI_ac {nro : Nat} {γ : Nat → Option Nat} {H : AH} {v : Value} {l : List Int} (h : InV H v l) (hnro : nro ≤ H.length) (hm : l.length ≤ 100000000000) : AC Try.prog nro γ 133 #[v] H (NewC H v 3 1 (isC l)) := by
 have hxc : ∀ G : AH, Low H.length H G → xcells 1 v G = some (isC l) := fun G hG => val_cells (by omega) (CD.Val.low (fun j hj => hG.1 j hj) h) (int_len l) (int_flat l)
 have hcl := isC_len l
 have hsh := val_shape h
 rw [List.length_map] at hsh
 generalize isC l = cells at *
 have hb0 : Low H.length H (H ++ [some ⟨[], 3, some 1⟩]) := Low.push (Nat.le_refl _) _
 refine ac_of_aw Try.func133 rfl Try.ntmps133 Try.results133 (by simp) ?_
 refine aw_seq ?_
 (refine aw_ops (by kernel_rfl) (fun K hK => ?_); simp (disch := first | omega | (simp only [lnS]; try omega)) [-getElem?_pos, -getElem?_neg]; refine hK _ _ ?_; clear hK K)
 refine aw_seq ?_
 refine aw_seq ?_
 rcases hsh with ⟨rfl, hl0⟩ | ⟨a, rfl⟩
 ·have hl0 : l = [] := List.map_eq_nil_iff.1 hl0
  subst hl0
  have hc0 : cells = [] := List.eq_nil_of_length_eq_zero (by simpa using hcl)
  subst hc0
  (refine aw_ops (by kernel_rfl) (fun K hK => ?_); simp (disch := first | omega | (simp only [lnS]; try omega)) [-getElem?_pos, -getElem?_neg]; refine hK _ _ ?_; clear hK K)
  refine aw_t (by (first | (simp [eval_tmp, put_at]; done) | (simp [eval_tmp, put_at]; omega))) (by kernel_rfl) ?_
  refine aw_seq ?_
  (refine aw_ops (by kernel_rfl) (fun K hK => ?_); simp (disch := first | omega | (simp only [lnS]; try omega)) [-getElem?_pos, -getElem?_neg]; refine hK _ _ ?_; clear hK K)
  (refine aw_ret ?_; simp (disch := first | omega | (simp only [lnS]; try omega)) [-getElem?_pos, -getElem?_neg, thenQ_ret, scopeQ_ret, inBlockQ_ret, RQ, resL, resV])
  exact ⟨rfl, rfl, Low.refl (Nat.le_refl _), [], .inl ⟨rfl, rfl, rfl⟩, fun j hj => by cases hj⟩
 ·have hap := clone_app (P := Try.prog) (nro := nro) (t := 23) (e := 3) (sz := 1) (by simp) (by simp) (by omega) (by simp) hnro (hxc _ hb0) hcl (by rw [hcl]; simp; omega) (by rw [hcl]; simp only [maxLen]; omega)
  (refine aw_ops (by kernel_rfl) (fun K hK => ?_); simp (disch := first | omega | (simp only [lnS]; try omega)) [-getElem?_pos, -getElem?_neg]; refine hK _ _ ?_; clear hK K)
  refine aw_f (by (first | (simp [eval_tmp, put_at]; done) | (simp [eval_tmp, put_at]; omega))) (by kernel_rfl) ?_
  refine aw_skip ?_
  refine aw_seq ?_
  (refine aw_ops (by kernel_rfl) (fun K hK => ?_); simp (disch := first | omega | (simp only [lnS]; try omega)) [-getElem?_pos, -getElem?_neg, -xappend, hap, List.range_zero, List.map_nil]; refine hK _ _ ?_; clear hK K)
  (refine aw_ret ?_; simp (disch := first | omega | (simp only [lnS]; try omega)) [-getElem?_pos, -getElem?_neg, thenQ_ret, scopeQ_ret, inBlockQ_ret, RQ, resL, resV])
  exact ⟨rfl, by simp [clN], ⟨fun j hj => hget_left hj, by simp⟩, [H.length + 1], .inr ⟨H.length + 1, l.length, rfl, by rw [hget_app]; rfl, hcl, rfl⟩, fun j hj => by simp at hj; omega⟩
theorem cloneK_ac {nro : Nat} {γ : Nat → Option Nat} {H : AH} {v : Value} {l : List (List Int)} (h : KsV H v l) (hk : ∀ k ∈ l, k.length = 32) (hnro : nro ≤ H.length) (hm : l.length ≤ 100000000000) : AC Try.prog nro γ 134 #[v] H (NewC H v 38 32 (ksC l)) := by
 have hxc : ∀ G : AH, Low H.length H G → xcells 32 v G = some (ksC l) := fun G hG => val_cells (by omega) (CD.Val.low (fun j hj => hG.1 j hj) h) (kd_len hk) (kd_flat l)
 have hcl := ksC_len hk
 have hsh := val_shape h
 rw [List.length_map] at hsh
 generalize ksC l = cells at *
 have hb0 : Low H.length H (H ++ [some ⟨[], 38, some 32⟩]) := Low.push (Nat.le_refl _) _
 refine ac_of_aw Try.func134 rfl Try.ntmps134 Try.results134 (by simp) ?_
 refine aw_seq ?_
 (refine aw_ops (by kernel_rfl) (fun K hK => ?_); simp (disch := first | omega | (simp only [lnS]; try omega)) [-getElem?_pos, -getElem?_neg]; refine hK _ _ ?_; clear hK K)
 refine aw_seq ?_
 refine aw_seq ?_
 rcases hsh with ⟨rfl, hl0⟩ | ⟨a, rfl⟩
 ·have hl0 : l = [] := List.map_eq_nil_iff.1 hl0
  subst hl0
  have hc0 : cells = [] := List.eq_nil_of_length_eq_zero (by simpa using hcl)
  subst hc0
  (refine aw_ops (by kernel_rfl) (fun K hK => ?_); simp (disch := first | omega | (simp only [lnS]; try omega)) [-getElem?_pos, -getElem?_neg]; refine hK _ _ ?_; clear hK K)
  refine aw_t (by (first | (simp [eval_tmp, put_at]; done) | (simp [eval_tmp, put_at]; omega))) (by kernel_rfl) ?_
  refine aw_seq ?_
  (refine aw_ops (by kernel_rfl) (fun K hK => ?_); simp (disch := first | omega | (simp only [lnS]; try omega)) [-getElem?_pos, -getElem?_neg]; refine hK _ _ ?_; clear hK K)
  (refine aw_ret ?_; simp (disch := first | omega | (simp only [lnS]; try omega)) [-getElem?_pos, -getElem?_neg, thenQ_ret, scopeQ_ret, inBlockQ_ret, RQ, resL, resV])
  exact ⟨rfl, rfl, Low.refl (Nat.le_refl _), [], .inl ⟨rfl, rfl, rfl⟩, fun j hj => by cases hj⟩
 ·have hap := clone_app (P := Try.prog) (nro := nro) (t := 36) (e := 38) (sz := 32) (by simp) (by simp) (by omega) (by simp) hnro (hxc _ hb0) hcl (by rw [hcl]; simp; omega) (by rw [hcl]; simp only [maxLen]; omega)
  (refine aw_ops (by kernel_rfl) (fun K hK => ?_); simp (disch := first | omega | (simp only [lnS]; try omega)) [-getElem?_pos, -getElem?_neg]; refine hK _ _ ?_; clear hK K)
  refine aw_f (by (first | (simp [eval_tmp, put_at]; done) | (simp [eval_tmp, put_at]; omega))) (by kernel_rfl) ?_
  refine aw_skip ?_
  refine aw_seq ?_
  (refine aw_ops (by kernel_rfl) (fun K hK => ?_); simp (disch := first | omega | (simp only [lnS]; try omega)) [-getElem?_pos, -getElem?_neg, -xappend, hap, List.range_zero, List.map_nil]; refine hK _ _ ?_; clear hK K)
  (refine aw_ret ?_; simp (disch := first | omega | (simp only [lnS]; try omega)) [-getElem?_pos, -getElem?_neg, thenQ_ret, scopeQ_ret, inBlockQ_ret, RQ, resL, resV])
  exact ⟨rfl, by simp [clN], ⟨fun j hj => hget_left hj, by simp⟩, [H.length + 1], .inr ⟨H.length + 1, l.length, rfl, by rw [hget_app]; rfl, hcl, rfl⟩, fun j hj => by simp at hj; omega⟩
theorem cloneB_ac {nro : Nat} {γ : Nat → Option Nat} {H : AH} {v : Value} {l : List BoxD} (h : BxV H v l) (hw : ∀ b ∈ l, b.Wf) (hnro : nro ≤ H.length) (hm : l.length ≤ 10000000000) : AC Try.prog nro γ 135 #[v] H (NewC H v 107 36 (bxC l)) := by
 have hxc : ∀ G : AH, Low H.length H G → xcells 36 v G = some (bxC l) := fun G hG => val_cells (by omega) (CD.Val.low (fun j hj => hG.1 j hj) h) (box_len hw) (box_flat l)
 have hcl := bxC_len hw
 have hsh := val_shape h
 rw [List.length_map] at hsh
 generalize bxC l = cells at *
 have hb0 : Low H.length H (H ++ [some ⟨[], 107, some 36⟩]) := Low.push (Nat.le_refl _) _
 refine ac_of_aw Try.func135 rfl Try.ntmps135 Try.results135 (by simp) ?_
 refine aw_seq ?_
 (refine aw_ops (by kernel_rfl) (fun K hK => ?_); simp (disch := first | omega | (simp only [lnS]; try omega)) [-getElem?_pos, -getElem?_neg]; refine hK _ _ ?_; clear hK K)
 refine aw_seq ?_
 refine aw_seq ?_
 rcases hsh with ⟨rfl, hl0⟩ | ⟨a, rfl⟩
 ·have hl0 : l = [] := List.map_eq_nil_iff.1 hl0
  subst hl0
  have hc0 : cells = [] := List.eq_nil_of_length_eq_zero (by simpa using hcl)
  subst hc0
  (refine aw_ops (by kernel_rfl) (fun K hK => ?_); simp (disch := first | omega | (simp only [lnS]; try omega)) [-getElem?_pos, -getElem?_neg]; refine hK _ _ ?_; clear hK K)
  refine aw_t (by (first | (simp [eval_tmp, put_at]; done) | (simp [eval_tmp, put_at]; omega))) (by kernel_rfl) ?_
  refine aw_seq ?_
  (refine aw_ops (by kernel_rfl) (fun K hK => ?_); simp (disch := first | omega | (simp only [lnS]; try omega)) [-getElem?_pos, -getElem?_neg]; refine hK _ _ ?_; clear hK K)
  (refine aw_ret ?_; simp (disch := first | omega | (simp only [lnS]; try omega)) [-getElem?_pos, -getElem?_neg, thenQ_ret, scopeQ_ret, inBlockQ_ret, RQ, resL, resV])
  exact ⟨rfl, rfl, Low.refl (Nat.le_refl _), [], .inl ⟨rfl, rfl, rfl⟩, fun j hj => by cases hj⟩
 ·have hap := clone_app (P := Try.prog) (nro := nro) (t := 39) (e := 107) (sz := 36) (by simp) (by simp) (by omega) (by simp) hnro (hxc _ hb0) hcl (by rw [hcl]; simp; omega) (by rw [hcl]; simp only [maxLen]; omega)
  (refine aw_ops (by kernel_rfl) (fun K hK => ?_); simp (disch := first | omega | (simp only [lnS]; try omega)) [-getElem?_pos, -getElem?_neg]; refine hK _ _ ?_; clear hK K)
  refine aw_f (by (first | (simp [eval_tmp, put_at]; done) | (simp [eval_tmp, put_at]; omega))) (by kernel_rfl) ?_
  refine aw_skip ?_
  refine aw_seq ?_
  (refine aw_ops (by kernel_rfl) (fun K hK => ?_); simp (disch := first | omega | (simp only [lnS]; try omega)) [-getElem?_pos, -getElem?_neg, -xappend, hap, List.range_zero, List.map_nil]; refine hK _ _ ?_; clear hK K)
  (refine aw_ret ?_; simp (disch := first | omega | (simp only [lnS]; try omega)) [-getElem?_pos, -getElem?_neg, thenQ_ret, scopeQ_ret, inBlockQ_ret, RQ, resL, resV])
  exact ⟨rfl, by simp [clN], ⟨fun j hj => hget_left hj, by simp⟩, [H.length + 1], .inr ⟨H.length + 1, l.length, rfl, by rw [hget_app]; rfl, hcl, rfl⟩, fun j hj => by simp at hj; omega⟩
end
section
def opRow (o : OpD) (pv wv bv : Value) : List Value := [.int .i64 o.author, .int .u32 o.seq, pv, .int .i64 o.kind, wv] ++ (iv .u8 o.of ++ (iv .u8 o.check ++ [.string o.text, bv]))
def nodeRow (x : NodeD) (pv wv bv qv : Value) : List Value := iv .u8 x.id ++ (opRow x.op pv wv bv ++ [qv])
theorem opRow_len {o : OpD} (hw : o.Wf) (pv wv bv : Value) : (opRow o pv wv bv).length = 71 := by
 have h1 := hw.of.1
 have h2 := hw.check.1
 simp [opRow, iv_length, h1, h2]
theorem OpC.row {H : AH} {us : List Value} {o : OpD} {pv wv bv : Value} (h : OpC H us o pv wv bv) (hw : o.Wf) : us = opRow o pv wv bv := by
 have hl := h.len
 have e0 : us.take 5 = [.int .i64 o.author, .int .u32 o.seq, pv, .int .i64 o.kind, wv] := by
  apply List.ext_getElem?
  intro i
  match i with
  | 0 => rw [List.getElem?_take_of_lt (by omega), h.c0]; rfl
  | 1 => rw [List.getElem?_take_of_lt (by omega), h.c1]; rfl
  | 2 => rw [List.getElem?_take_of_lt (by omega), h.c2]; rfl
  | 3 => rw [List.getElem?_take_of_lt (by omega), h.c3]; rfl
  | 4 => rw [List.getElem?_take_of_lt (by omega), h.c4]; rfl
  | i + 5 => rw [List.getElem?_eq_none (by rw [List.length_take]; omega), List.getElem?_eq_none (by simp)]
 have e2 : us.drop 69 = [.string o.text, bv] := by
  apply List.ext_getElem?
  intro i
  match i with
  | 0 => rw [List.getElem?_drop, h.c69]; rfl
  | 1 => rw [List.getElem?_drop, h.c70]; rfl
  | i + 2 => rw [List.getElem?_eq_none (by rw [List.length_drop]; omega), List.getElem?_eq_none (by simp)]
 have e1 : us.drop 5 = iv .u8 o.of ++ us.drop 37 := by
  have := (List.take_append_drop 32 (us.drop 5)).symm
  rwa [h.of, List.drop_drop] at this
 have e3 : us.drop 37 = iv .u8 o.check ++ us.drop 69 := by
  have := (List.take_append_drop 32 (us.drop 37)).symm
  rwa [h.check, List.drop_drop] at this
 have := (List.take_append_drop 5 us).symm
 rwa [e0, e1, e3, e2] at this
theorem NodeC.row {H : AH} {us : List Value} {x : NodeD} {pv wv bv qv : Value} (h : NodeC H us x pv wv bv qv) (hw : x.Wf) : us = nodeRow x pv wv bv qv := by
 have hl := h.len
 have e0 := h.op.row hw.op
 have e2 : us.drop 103 = [qv] := by
  apply List.ext_getElem?
  intro i
  match i with
  | 0 => rw [List.getElem?_drop, h.c103]; rfl
  | i + 1 => rw [List.getElem?_eq_none (by rw [List.length_drop]; omega), List.getElem?_eq_none (by simp)]
 have e1 : us.drop 32 = opRow x.op pv wv bv ++ us.drop 103 := by
  have := (List.take_append_drop 71 (us.drop 32)).symm
  rwa [e0, List.drop_drop] at this
 have := (List.take_append_drop 32 us).symm
 rwa [h.id, e1, e2] at this
theorem ValL.app {H : AH} {a b : List CD} {x y : List Value} (h1 : ValL H a x) (h2 : ValL H b y) : ValL H (a ++ b) (x ++ y) := by
 refine ⟨by rw [List.length_append, List.length_append, h1.1, h2.1], fun c d u hd hu => ?_⟩
 have hl := h1.1
 rcases Nat.lt_or_ge c a.length with hc | hc
 ·rw [List.getElem?_append_left hc] at hd
  rw [List.getElem?_append_left (by omega)] at hu
  exact h1.2 c d u hd hu
 ·rw [List.getElem?_append_right hc] at hd
  rw [List.getElem?_append_right (by omega), hl] at hu
  exact h2.2 _ d u hd hu
theorem ValL.one {H : AH} {d : CD} {u : Value} {ds : List CD} {us : List Value} (h : CD.Val H d u) (h2 : ValL H ds us) : ValL H (d :: ds) (u :: us) := by
 refine ⟨by simp [h2.1], fun c d' u' hd hu => ?_⟩
 cases c with
 | zero => cases hd; cases hu; exact h
 | succ c => exact h2.2 c d' u' (by simpa using hd) (by simpa using hu)
theorem ValL.none {H : AH} : ValL H [] [] := ⟨rfl, fun c d u hd _ => by cases hd⟩
theorem ValL.kdv {H : AH} (k : List Int) : ValL H (kd k) (iv .u8 k) := by
 induction k with
 | nil => exact .none
 | cons z k ih => exact ValL.one .int ih
theorem op_val {G : AH} {o : OpD} {pv wv bv : Value} (h1 : KsV G pv o.parents) (h2 : InV G wv o.who) (h3 : BxV G bv o.boxes) : ValL G o.row (opRow o pv wv bv) :=
 ValL.app (.one .int (.one .int (.one h1 (.one .int (.one h2 .none))))) (ValL.app (.kdv _) (ValL.app (.kdv _) (.one .str (.one h3 .none))))
theorem opRow_2 (o : OpD) (pv wv bv : Value) : (opRow o pv wv bv)[2]? = some pv := rfl
theorem opRow_4 (o : OpD) (pv wv bv : Value) : (opRow o pv wv bv)[4]? = some wv := rfl
theorem opRow_cut {o : OpD} (hw : o.Wf) (pv wv bv : Value) : ∃ A : List Value, A.length = 70 ∧ ∀ b, opRow o pv wv b = A ++ [b] := by
 have h1 := hw.of.1
 have h2 := hw.check.1
 refine ⟨[.int .i64 o.author, .int .u32 o.seq, pv, .int .i64 o.kind, wv] ++ (iv .u8 o.of ++ (iv .u8 o.check ++ [.string o.text])), by simp [iv_length, h1, h2], fun b => ?_⟩
 simp [opRow]
theorem opRow_70 {o : OpD} (hw : o.Wf) (pv wv bv : Value) : (opRow o pv wv bv)[70]? = some bv := by
 obtain ⟨A, hA, e⟩ := opRow_cut hw pv wv bv
 rw [e, List.getElem?_append_right (by omega), hA]; rfl
theorem opRow_s2 (o : OpD) (pv wv bv x : Value) : setR (opRow o pv wv bv) 2 [x] = opRow o x wv bv := by rw [setR_one]; rfl
theorem opRow_s4 (o : OpD) (pv wv bv x : Value) : setR (opRow o pv wv bv) 4 [x] = opRow o pv x bv := by rw [setR_one]; rfl
theorem opRow_s70 {o : OpD} (hw : o.Wf) (pv wv bv x : Value) : setR (opRow o pv wv bv) 70 [x] = opRow o pv wv x := by
 obtain ⟨A, hA, e⟩ := opRow_cut hw pv wv bv
 rw [setR_one, e, e, List.set_append_right _ _ (by omega), hA]; rfl
theorem clV_nt {H : AH} {rows : List (List CD)} {v : Value} (h : CD.Val H (.sl rows) v) (n : Nat) : notTuple (clV v n) = true ∧ (clV v n).cells = #[clV v n] := by
 rcases val_shape h with ⟨rfl, _⟩ | ⟨a, rfl⟩ <;> exact ⟨rfl, rfl⟩
def KeepN (n : Nat) (H G : AH) : Prop := ∀ j, n ≤ j → j < H.length → hget G j = hget H j
def SmO (o : OpD) : Prop := o.parents.length ≤ 1000 ∧ o.who.length ≤ 1000 ∧ o.boxes.length ≤ 1000
def NewO (n : Nat) (H : AH) (o : OpD) (pv wv bv : Value) : Prop := ∀ G, KeepN n H G → KsV G pv o.parents ∧ InV G wv o.who ∧ BxV G bv o.boxes
def opN (pv wv bv : Value) : Nat := 2 + clN pv + clN wv + clN bv
def opP (pv : Value) (n : Nat) : Value := clV pv (n + 2)
def opW (pv wv : Value) (n : Nat) : Value := clV wv (n + 2 + clN pv)
def opB (pv wv bv : Value) (n : Nat) : Value := clV bv (n + 2 + clN pv + clN wv)
def DeepO (H : AH) (o : OpD) (pv wv bv : Value) (v' : Value) (H' : AH) : Prop :=
 v' = .agg (opRow o (opP pv H.length) (opW pv wv H.length) (opB pv wv bv H.length)).toArray ∧ H'.length = H.length + opN pv wv bv ∧ Low H.length H H' ∧ NewO H.length H' o (opP pv H.length) (opW pv wv H.length) (opB pv wv bv H.length)
theorem set_pack {H G : AH} {n : Nat} {x y : Blk} {X : Option Blk} (h : hget G n = some x) (h2 : hget G (n + 1) = some y) (hlow : Low n H G) : hget (G.set n X) n = X ∧ hget (G.set n X) (n + 1) = some y ∧ Low n H (G.set n X) ∧ (G.set n X).length = G.length ∧ ∀ j, n + 2 ≤ j → hget (G.set n X) j = hget G j :=
 ⟨hget_set_eq (hget_lt h), (hget_set_ne (by omega)).trans h2, ⟨fun j hj => (hget_set_ne (by omega)).trans (hlow.1 j hj), by rw [List.length_set]; exact hlow.2⟩, by rw [List.length_set], fun j hj => hget_set_ne (by omega)⟩
attribute [local simp] wb_bool wb_undef with_lit XL_nil XL_cons XLc_val XLc_call step1_eq stepW_t stepW_f stepC_n stepC_s stepX_s stepX_n stepN_s calleeX xrecv oneV xop_eq xopR_s xopR_n wantedA_eq wantedG_n wantedG_s plain1_int plain1_bool plain1_string bits_i64 bits_u64 bits_u32 bits_u16 bits_u8 xeqA xagg xcmp xarr allK_iv num_iv calleeOf xread xeff xbin xint xnil xun xstr xload xconv xpart xfield xfieldAddr xindexAddr xindex bnd asInt? xslice xlen xmin xmax xbuild xfill xappend xapp2 xappstr xappmk xcap xcopy xcells eval_tmp eval_const put_at put_none fr0_at cells_agg cells_int cells_bool cells_string cells_ptr cells_slice notTuple tab iv_all hget_app hget_app0 hget_cons0 hget_cons set_app set_app0 setR setR_one QL_nil QL_cons QLc_val stepQ_t stepQ_f stepQC_n stepQC_s stepQX_s SL_nil SL_cons SLc_val stepS_t stepS_f ltT ltF leT leF eqT eqF ltTn ltFn leTn leFn eqTn eqFn beqT beqF bneT bneF wi64 wu64 wu32 wu16 wu8 tmodP tdivP hgetL hgetNe hgetEq setL nums_def nums_len Nat.succ_le_of_lt List.getElem?_cons_zero List.getElem?_cons_succ Option.getD_some Int.toNat_add Int.toNat_mul agM okM agB agI agS agP agL agA okB okI okS okP okSl okA
theorem deepOp_ac {nro : Nat} {γ : Nat → Option Nat} {H : AH} {us : List Value} {o : OpD} {pv wv bv : Value} (h : OpC H us o pv wv bv) (hw : o.Wf) (hs : SmO o) (hnro : nro ≤ H.length) : AC Try.prog nro γ 82 #[.agg us.toArray] H (DeepO H o pv wv bv) := by
 have hrow := h.row hw
 obtain ⟨s1, s2, s3⟩ := hs
 have hP := h.parents
 have hW := h.who
 have hB := h.boxes
 have r0l := opRow_len hw pv wv bv
 have g2 := opRow_2 o pv wv bv
 rw [← hrow] at r0l g2
 have t1 := opRow_s2 o pv wv bv (opP pv H.length)
 rw [← hrow] at t1
 have r1l := opRow_len hw (opP pv H.length) wv bv
 have g4 := opRow_4 o (opP pv H.length) wv bv
 have t2 := opRow_s4 o (opP pv H.length) wv bv (opW pv wv H.length)
 obtain ⟨R1, hR1⟩ : ∃ R, R = opRow o (opP pv H.length) wv bv := ⟨_, rfl⟩
 rw [← hR1] at t1 r1l g4 t2
 have r2l := opRow_len hw (opP pv H.length) (opW pv wv H.length) bv
 have g70 := opRow_70 hw (opP pv H.length) (opW pv wv H.length) bv
 have t3 := opRow_s70 hw (opP pv H.length) (opW pv wv H.length) bv (opB pv wv bv H.length)
 obtain ⟨R2, hR2⟩ : ∃ R, R = opRow o (opP pv H.length) (opW pv wv H.length) bv := ⟨_, rfl⟩
 rw [← hR2] at t2 r2l g70 t3
 have r3l := opRow_len hw (opP pv H.length) (opW pv wv H.length) (opB pv wv bv H.length)
 obtain ⟨R3, hR3⟩ : ∃ R, R = opRow o (opP pv H.length) (opW pv wv H.length) (opB pv wv bv H.length) := ⟨_, rfl⟩
 rw [← hR3] at t3 r3l
 have np := val_nt hP
 have nw := val_nt hW
 have nb := val_nt hB
 have np' := clV_nt hP (H.length + 2)
 have nw' := clV_nt hW (H.length + 2 + clN pv)
 have nb' := clV_nt hB (H.length + 2 + clN pv + clN wv)
 have hset : ∀ Z : List Value, Z.length = 71 → setR Z 0 R3 = R3 := fun Z hZ => setR_all _ _ (by omega)
 have htk : R3.take 71 = R3 := List.take_of_length_le (by omega)
 unfold opP opW opB at *
 refine ac_of_aw Try.func82 rfl Try.ntmps82 Try.results82 (by simp) ?_
 refine aw_seq ?_
 (refine aw_ops (by kernel_rfl) (fun K hK => ?_); simp (disch := first | omega | (simp only [lnS]; try omega)) [-getElem?_pos, -getElem?_neg, r0l, nt_aggG, all_zl]; refine hK _ _ ?_; clear hK K)
 obtain ⟨ZZ, hZZ, hZl⟩ : ∃ ZZ : List Value, Value.int .i64 0 :: .int .u32 0 :: .slice none 0 0 :: .int .i64 0 :: .slice none 0 0 :: (iv .u8 (zl 64) ++ [.string ByteArray.empty, .slice none 0 0]) = ZZ ∧ ZZ.length = 71 := ⟨_, rfl, by simp⟩
 rw [hZZ]
 have hset := hset ZZ hZl
 obtain ⟨G, hG⟩ : ∃ G : AH, G = H ++ [some ⟨us, 41, none⟩, some ⟨ZZ, 41, none⟩] := ⟨_, rfl⟩
 have b1 : hget G H.length = some ⟨us, 41, none⟩ := by rw [hG, hget_app0]; rfl
 have b2 : hget G (H.length + 1) = some ⟨ZZ, 41, none⟩ := by rw [hG, hget_app]; rfl
 have lw : Low H.length H G := hG ▸ Low.push (Nat.le_refl _) _
 have gl : G.length = H.length + 2 := by simp [hG]
 rw [← hG]
 clear hG
 obtain ⟨n, hn⟩ : ∃ n, n = H.length := ⟨_, rfl⟩
 have kP : KsV G pv o.parents := CD.Val.low (fun j hj => lw.1 j hj) hP
 have kW : InV G wv o.who := CD.Val.low (fun j hj => lw.1 j hj) hW
 have kB : BxV G bv o.boxes := CD.Val.low (fun j hj => lw.1 j hj) hB
 unfold DeepO opP opW opB
 rw [← hn] at lw gl b1 b2 np' nw' nb' t1 t2 t3 hnro hR1 hR2 hR3 ⊢
 refine aw_seq ?_
 refine aw_ops (by kernel_rfl) (fun K hK => ?_)
 simp (disch := first | omega | (simp only [lnS]; try omega)) [-getElem?_pos, -getElem?_neg, b1, r0l, g2, -notTuple, np.1, np.2, nt_aggG]
 refine ⟨by kernel_rfl, (cloneK_ac (nro := nro) (γ := γ) kP (fun k hk => (hw.parents k hk).1) (by omega) (by omega)).mono ?_⟩
 rintro v1 G1 ⟨rfl, l1, w1, F1, o1, f1⟩
 rw [gl] at l1 w1 f1 o1 ⊢
 have hle1 := w1.2
 have c1 : hget G1 n = some ⟨us, 41, none⟩ := (w1.1 n (by omega)).trans b1
 have c2 : hget G1 (n + 1) = some ⟨ZZ, 41, none⟩ := (w1.1 (n + 1) (by omega)).trans b2
 simp (disch := first | omega | (simp only [lnS]; try omega)) [-getElem?_pos, -getElem?_neg, c1, r0l, -notTuple, np'.1, np'.2, t1]
 refine hK _ _ ?_; clear hK K
 have lw1 : Low n H G1 := ⟨fun j hj => (w1.1 j (by omega)).trans (lw.1 j hj), by have := lw.2; omega⟩
 obtain ⟨d1, d2, d3, d4, d5⟩ := set_pack (X := some ⟨R1, 41, none⟩) c1 c2 lw1
 have o1 : OwnF (G1.set n (some ⟨R1, 41, none⟩)) (clV pv (n + 2)) 38 32 (ksC o.parents) F1 := o1.low (fun j hj => d5 j (f1 j hj))
 rw [l1] at d4
 clear b1 b2 c1 c2 w1 l1 lw1
 generalize G1.set n (some ⟨R1, 41, none⟩) = G2 at *
 have kW := CD.Val.low (H' := G2) (fun j hj => d3.1 j (by omega)) hW
 have kB := CD.Val.low (H' := G2) (fun j hj => d3.1 j (by omega)) hB
 refine aw_seq ?_
 refine aw_ops (by kernel_rfl) (fun K hK => ?_)
 simp (disch := first | omega | (simp only [lnS]; try omega)) [-getElem?_pos, -getElem?_neg, d1, r1l, g4, -notTuple, nw.1, nw.2, nt_aggG]
 refine ⟨by kernel_rfl, (cloneI_ac (nro := nro) (γ := γ) kW (by omega) (by omega)).mono ?_⟩
 rintro v1 G3 ⟨rfl, l1, w1, F2, o2, f2⟩
 rw [d4] at l1 w1 f2 o2 ⊢
 have hle1 := w1.2
 have c1 : hget G3 n = some ⟨R1, 41, none⟩ := (w1.1 n (by omega)).trans d1
 have c2 : hget G3 (n + 1) = some ⟨ZZ, 41, none⟩ := (w1.1 (n + 1) (by omega)).trans d2
 have hF1 := o1.lt
 have o1 := o1.low (H' := G3) (fun j hj => w1.1 j (by have := hF1 j hj; omega))
 simp (disch := first | omega | (simp only [lnS]; try omega)) [-getElem?_pos, -getElem?_neg, c1, r1l, -notTuple, nw'.1, nw'.2, t2]
 refine hK _ _ ?_; clear hK K
 have lw1 : Low n H G3 := ⟨fun j hj => (w1.1 j (by omega)).trans (d3.1 j hj), by have := d3.2; omega⟩
 obtain ⟨e1, e2, e3, e4, e5⟩ := set_pack (X := some ⟨R2, 41, none⟩) c1 c2 lw1
 have o1 := o1.low (H' := G3.set n (some ⟨R2, 41, none⟩)) (fun j hj => e5 j (f1 j hj))
 have o2 := o2.low (H' := G3.set n (some ⟨R2, 41, none⟩)) (fun j hj => e5 j (by have := f2 j hj; omega))
 rw [l1] at e4
 clear c1 c2 w1 l1 lw1 d1 d2 d3 d4 d5
 generalize G3.set n (some ⟨R2, 41, none⟩) = G4 at *
 have kB := CD.Val.low (H' := G4) (fun j hj => e3.1 j (by omega)) hB
 refine aw_seq ?_
 refine aw_ops (by kernel_rfl) (fun K hK => ?_)
 simp (disch := first | omega | (simp only [lnS]; try omega)) [-getElem?_pos, -getElem?_neg, e1, r2l, g70, -notTuple, nb.1, nb.2, nt_aggG]
 refine ⟨by kernel_rfl, (cloneB_ac (nro := nro) (γ := γ) kB hw.boxes (by omega) (by omega)).mono ?_⟩
 rintro v1 G5 ⟨rfl, l1, w1, F3, o3, f3⟩
 rw [e4] at l1 w1 f3 o3 ⊢
 have hle1 := w1.2
 have c1 : hget G5 n = some ⟨R2, 41, none⟩ := (w1.1 n (by omega)).trans e1
 have c2 : hget G5 (n + 1) = some ⟨ZZ, 41, none⟩ := (w1.1 (n + 1) (by omega)).trans e2
 have hF1 := o1.lt
 have hF2 := o2.lt
 have o1 := o1.low (H' := G5) (fun j hj => w1.1 j (by have := hF1 j hj; omega))
 have o2 := o2.low (H' := G5) (fun j hj => w1.1 j (by have := hF2 j hj; omega))
 simp (disch := first | omega | (simp only [lnS]; try omega)) [-getElem?_pos, -getElem?_neg, c1, r2l, -notTuple, nb'.1, nb'.2, t3]
 refine hK _ _ ?_; clear hK K
 have lw1 : Low n H G5 := ⟨fun j hj => (w1.1 j (by omega)).trans (e3.1 j hj), by have := e3.2; omega⟩
 obtain ⟨d1, d2, d3, d4, d5⟩ := set_pack (X := some ⟨R3, 41, none⟩) c1 c2 lw1
 have o1 := o1.low (H' := G5.set n (some ⟨R3, 41, none⟩)) (fun j hj => d5 j (f1 j hj))
 have o2 := o2.low (H' := G5.set n (some ⟨R3, 41, none⟩)) (fun j hj => d5 j (by have := f2 j hj; omega))
 have o3 := o3.low (H' := G5.set n (some ⟨R3, 41, none⟩)) (fun j hj => d5 j (by have := f3 j hj; omega))
 rw [l1] at d4
 clear c1 c2 w1 l1 lw1 e1 e2 e3 e4 e5
 generalize G5.set n (some ⟨R3, 41, none⟩) = G6 at *
 refine aw_seq ?_
 (refine aw_ops (by kernel_rfl) (fun K hK => ?_); simp (disch := first | omega | (simp only [lnS]; try omega)) [-getElem?_pos, -getElem?_neg, d1, d2, r3l, hZl, hset, htk, nt_aggG]; refine hK _ _ ?_; clear hK K)
 have hlt2 := hget_lt d2
 have z1 : hget (G6.set (n + 1) (some ⟨R3, 41, none⟩)) (n + 1) = some ⟨R3, 41, none⟩ := hget_set_eq hlt2
 have z2 : ∀ j, j ≠ n + 1 → hget (G6.set (n + 1) (some ⟨R3, 41, none⟩)) j = hget G6 j := fun j hj => hget_set_ne (fun e => hj e.symm)
 have z3 : (G6.set (n + 1) (some ⟨R3, 41, none⟩)).length = G6.length := by rw [List.length_set]
 have hF1 := o1.lt
 have hF2 := o2.lt
 have hF3 := o3.lt
 have o1 := o1.low (H' := G6.set (n + 1) (some ⟨R3, 41, none⟩)) (fun j hj => z2 j (by have := f1 j hj; omega))
 have o2 := o2.low (H' := G6.set (n + 1) (some ⟨R3, 41, none⟩)) (fun j hj => z2 j (by have := f2 j hj; omega))
 have o3 := o3.low (H' := G6.set (n + 1) (some ⟨R3, 41, none⟩)) (fun j hj => z2 j (by have := f3 j hj; omega))
 generalize G6.set (n + 1) (some ⟨R3, 41, none⟩) = G7 at *
 (refine aw_ret ?_; simp (disch := first | omega | (simp only [lnS]; try omega)) [-getElem?_pos, -getElem?_neg, thenQ_ret, scopeQ_ret, inBlockQ_ret, RQ, resL, resV, z1, r3l, htk])
 refine ⟨by rw [hR3], by unfold opN; omega, ⟨fun j hj => (z2 j (by omega)).trans (d3.1 j hj), by have := d3.2; omega⟩, fun G hG => ?_⟩
 have o1 := o1.low (H' := G) (fun j hj => hG j (by have := f1 j hj; omega) (by have := hF1 j hj; omega))
 have o2 := o2.low (H' := G) (fun j hj => hG j (by have := f2 j hj; omega) (by have := hF2 j hj; omega))
 have o3 := o3.low (H' := G) (fun j hj => hG j (by have := f3 j hj; omega) (by have := hF3 j hj; omega))
 exact ⟨own_val (by omega) o1 (kd_len fun k hk => (hw.parents k hk).1) (kd_flat _), own_val (by omega) o2 (int_len _) (int_flat _), own_val (by omega) o3 (box_len hw.boxes) (box_flat _)⟩
end
section
theorem put3 {Z A B : List Value} {q : Value} (hA : A.length = 32) (hB : B.length = 71) (hZ : Z.length = 104) : setR (setR (setR Z 0 A) 32 B) 103 [q] = A ++ (B ++ [q]) := by
 have e1 := setR_frontF Z A (by omega)
 rw [e1]
 have l1 : (Z.drop A.length).length = 72 := by rw [List.length_drop]; omega
 have e2 := setR_right A (Z.drop A.length) B 0 (by omega)
 rw [Nat.add_zero] at e2
 rw [show (32 : Nat) = A.length by omega, e2, setR_frontF _ B (by omega)]
 rw [show (103 : Nat) = A.length + 71 by omega, setR_right A _ [q] 71 (by rw [List.length_append, List.length_drop, l1]; simp; omega)]
 congr 1
 have e3 := setR_right B ((Z.drop A.length).drop B.length) [q] 0 (by rw [List.length_drop, l1]; simp; omega)
 rw [Nat.add_zero] at e3
 rw [show (71 : Nat) = B.length by omega, e3, setR_frontF _ [q] (by rw [List.length_drop, l1]; simp; omega)]
 rw [List.drop_of_length_le (l := (Z.drop A.length).drop B.length) (by rw [List.length_drop, l1]; simp; omega), List.append_nil]
theorem KeepN.trans {n : Nat} {A B C : AH} (h : KeepN n A B) (k : KeepN n B C) (hl : A.length ≤ B.length) : KeepN n A C := fun j h1 h2 => (k j h1 (by omega)).trans (h j h1 h2)
attribute [local simp] wb_bool wb_undef with_lit XL_nil XL_cons XLc_val XLc_call step1_eq stepW_t stepW_f stepC_n stepC_s stepX_s stepX_n stepN_s calleeX xrecv oneV xop_eq xopR_s xopR_n wantedA_eq wantedG_n wantedG_s plain1_int plain1_bool plain1_string bits_i64 bits_u64 bits_u32 bits_u16 bits_u8 xeqA xagg xcmp xarr allK_iv num_iv calleeOf xread xeff xbin xint xnil xun xstr xload xconv xpart xfield xfieldAddr xindexAddr xindex bnd asInt? xslice xlen xmin xmax xbuild xfill xappend xapp2 xappstr xappmk xcap xcopy xcells eval_tmp eval_const put_at put_none fr0_at cells_agg cells_int cells_bool cells_string cells_ptr cells_slice notTuple tab iv_all hget_app hget_app0 hget_cons0 hget_cons set_app set_app0 setR setR_one QL_nil QL_cons QLc_val stepQ_t stepQ_f stepQC_n stepQC_s stepQX_s SL_nil SL_cons SLc_val stepS_t stepS_f ltT ltF leT leF eqT eqF ltTn ltFn leTn leFn eqTn eqFn beqT beqF bneT bneF wi64 wu64 wu32 wu16 wu8 tmodP tdivP hgetL hgetNe hgetEq setL nums_def nums_len Nat.succ_le_of_lt List.getElem?_cons_zero List.getElem?_cons_succ Option.getD_some Int.toNat_add Int.toNat_mul agM okM agB agI agS agP agL agA okB okI okS okP okSl okA
def NewRows (n : Nat) (H : AH) (R : List (List Value)) (l : List NodeD) : Prop := R.length = l.length ∧ ∀ (k : Nat) (us : List Value) (x : NodeD), R[k]? = some us → l[k]? = some x → us.length = 104 ∧ ∀ G, KeepN n H G → ValL G x.row us
theorem NewRows.keep {n : Nat} {H G : AH} {R : List (List Value)} {l : List NodeD} (h : NewRows n H R l) (hk : KeepN n H G) (hl : H.length ≤ G.length) : NewRows n G R l :=
 ⟨h.1, fun k us x h1 h2 => ⟨(h.2 k us x h1 h2).1, fun B hB => (h.2 k us x h1 h2).2 B (hk.trans hB hl)⟩⟩
theorem row_put {R : List (List Value)} {Z us : List Value} {i : Nat} (hR : ∀ r ∈ R, r.length = 104) (hl : R.length = i) (hu : us.length = 104) (hZ : 104 ≤ Z.length) : setR (R.flatten ++ Z) (i * 104) us = (R ++ [us]).flatten ++ Z.drop 104 := by
 have hfl := fl_len hR
 rw [hl] at hfl
 have e := setR_right R.flatten Z us 0 (by omega)
 rw [Nat.add_zero, hfl] at e
 rw [e, setR_frontF _ _ (by omega), hu, List.flatten_append]
 simp
theorem NewRows.len {n : Nat} {H : AH} {R : List (List Value)} {l : List NodeD} (h : NewRows n H R l) : ∀ r ∈ R, r.length = 104 := fun r hr => by
 obtain ⟨k, hk⟩ := List.getElem?_of_mem hr
 have hkl := (List.getElem?_eq_some_iff.1 hk).1
 have := h.1
 exact (h.2 k r _ hk (List.getElem?_eq_getElem (show k < l.length by omega))).1
theorem NewRows.push {n : Nat} {H : AH} {R : List (List Value)} {l : List NodeD} {us : List Value} {x : NodeD} (h : NewRows n H R l) (h1 : us.length = 104) (h2 : ∀ G, KeepN n H G → ValL G x.row us) : NewRows n H (R ++ [us]) (l ++ [x]) := by
 have hl := h.1
 refine ⟨by simp [hl], fun k r y hr hy => ?_⟩
 rcases Nat.lt_or_ge k R.length with hk | hk
 ·rw [List.getElem?_append_left hk] at hr
  rw [List.getElem?_append_left (by omega)] at hy
  exact h.2 k r y hr hy
 ·rw [List.getElem?_append_right hk] at hr
  rw [List.getElem?_append_right (by omega)] at hy
  rw [hl] at hr
  match k - l.length, hr, hy with
  | 0, hr, hy => cases hr; cases hy; exact ⟨h1, h2⟩
end
section
section
variable {l : List NodeD}
theorem right_step (h : rightG l = true) {i : Nat} (hi : i < l.length) : stepB l i = true := by
 unfold rightG at h
 rw [Bool.and_eq_true, List.all_eq_true] at h
 exact h.2 i (List.mem_range.2 hi)
theorem step_iff {i : Nat} : stepB l i = true ↔ ((nd l i).op.parents.all (fun p => (findN l i p).isSome) = true ∧ rightO (nd l i).op = true ∧ findN l i (nd l i).id = none ∧ (nd l i).past = pastL l i (nd l i).op.parents ∧ turnB l i (nd l i).op (nd l i).past = true) := by
 unfold stepB
 rw [Bool.and_eq_true, Bool.and_eq_true, Bool.and_eq_true, Bool.and_eq_true, decide_eq_true_eq, Option.isNone_iff_eq_none]
theorem right_past (h : rightG l = true) {i : Nat} (hi : i < l.length) : (nd l i).past = pastL l i (nd l i).op.parents := (step_iff.1 (right_step h hi)).2.2.2.1
theorem right_op (h : rightG l = true) {i : Nat} (hi : i < l.length) : rightO (nd l i).op = true := (step_iff.1 (right_step h hi)).2.1
theorem right_fresh (h : rightG l = true) {i : Nat} (hi : i < l.length) : findN l i (nd l i).id = none := (step_iff.1 (right_step h hi)).2.2.1
theorem right_turn (h : rightG l = true) {i : Nat} (hi : i < l.length) : turnB l i (nd l i).op (nd l i).past = true := (step_iff.1 (right_step h hi)).2.2.2.2
theorem right_par (h : rightG l = true) {i : Nat} (hi : i < l.length) {p : List Int} (hp : p ∈ (nd l i).op.parents) : ∃ a, findN l i p = some a := by
 have := (step_iff.1 (right_step h hi)).1
 rw [List.all_eq_true] at this
 exact Option.isSome_iff_exists.1 (this p hp)
theorem pastL_bd {n : Nat} {ps : List (List Int)} {z : Int} (h : z ∈ pastL l n ps) : ∃ k : Nat, z = k ∧ k < n ∧ inB l n ps k = true := by
 unfold pastL at h
 obtain ⟨k, hk, rfl⟩ := List.mem_map.1 h
 rw [List.mem_filter, List.mem_range] at hk
 exact ⟨k, rfl, hk.1, hk.2⟩
theorem past_bd (h : rightG l = true) {i : Nat} (hi : i < l.length) {z : Int} (hz : z ∈ (nd l i).past) : ∃ k : Nat, z = k ∧ k < i := by
 rw [right_past h hi] at hz
 obtain ⟨k, e, hk, _⟩ := pastL_bd hz
 exact ⟨k, e, hk⟩
theorem rightO_sm {o : OpD} (h : rightO o = true) : o.parents.length ≤ 8 ∧ o.who.length ≤ 8 ∧ o.boxes.length ≤ 8 := by
 rw [← refO_eq] at h
 unfold refO at h
 simp only [Bool.and_eq_true, decide_eq_true_eq, List.all_eq_true] at h
 refine ⟨h.2.2.2.2.1, ?_, h.2.2.2.2.2.1⟩
 obtain ⟨hm, hr⟩ := h.2.2.2.2.2.2.2.2.1
 refine rise_len hm (fun i hi => ?_)
 unfold risesI at hr
 rw [List.all_eq_true] at hr
 have := hr i (List.mem_range.2 (by omega))
 rwa [decide_eq_true_eq, cmpI_lt] at this
theorem findN_none {n a : Nat} {k : List Int} (h : findN l n k = none) (ha : a < n) : (nd l a).id ≠ k := by
 unfold findN at h
 rw [List.find?_eq_none] at h
 have := h a (List.mem_range.2 ha)
 simpa using this
theorem ids_ne (h : rightG l = true) {i j : Nat} (hij : i < j) (hj : j < l.length) : (nd l i).id ≠ (nd l j).id := findN_none (right_fresh h hj) hij
theorem findN_mono {n m a : Nat} {k : List Int} (h : findN l n k = some a) (hnm : n ≤ m) : findN l m k = some a := by
 induction m with
 | zero =>
  have : n = 0 := by omega
  subst this; exact h
 | succ m ih =>
  rcases Nat.eq_or_lt_of_le hnm with rfl | hlt
  ·exact h
  ·rw [findN_succ, ih (by omega)]
theorem find_self (h : rightG l = true) {i n : Nat} (hi : i < n) (hn : n ≤ l.length) : findN l n (nd l i).id = some i := by
 refine findN_mono (n := i + 1) ?_ (by omega)
 rw [findN_succ, right_fresh h (by omega)]
 simp
theorem author_ahead (h : rightG l = true) {i j : Nat} (hij : i < j) (hj : j < l.length) (he : (nd l i).op.author = (nd l j).op.author) : (i : Int) ∈ (nd l j).past := by
 have := right_turn h hj
 unfold turnB autA at this
 simp only [Bool.and_eq_true, List.all_eq_true] at this
 have := this.2.1 i (List.mem_range.2 hij)
 simpa [he] using this
theorem inB_iff {n k : Nat} {ps : List (List Int)} : inB l n ps k = true ↔ ∃ p ∈ ps, ∃ a, findN l n p = some a ∧ (a = k ∨ (k : Int) ∈ (nd l a).past) := by
 rw [inZ_B]
 unfold inZ
 refine exists_congr fun p => and_congr_right fun _ => exists_congr fun a => and_congr_right fun _ => or_congr ?_ Iff.rfl
 omega
end
end
section
def kr (l : List (List Int)) : List Value := (l.map (iv .u8)).flatten
theorem ksC_kr (l : List (List Int)) : ksC l = kr l := by
 unfold ksC kr
 induction l with
 | nil => rfl
 | cons k l ih =>
  rw [List.map_cons, List.flatten_cons, List.map_append, ih, List.map_cons, List.flatten_cons]
  congr 1
  simp [kd, iv, CD.fv]
theorem kr_app (a b : List (List Int)) : kr (a ++ b) = kr a ++ kr b := by simp [kr]
theorem kr_one (k : List Int) : kr [k] = iv .u8 k := by simp [kr]
def K32 (l : List (List Int)) : Prop := ∀ k ∈ l, k.length = 32
theorem kr_rows {l : List (List Int)} (h : K32 l) : ∀ r ∈ l.map (iv .u8), r.length = 32 := fun r hr => by
 obtain ⟨k, hk, rfl⟩ := List.mem_map.1 hr
 rw [iv_length]; exact h k hk
theorem kr_len {l : List (List Int)} (h : K32 l) : (kr l).length = l.length * 32 := by unfold kr; rw [fl_len (kr_rows h), List.length_map]
theorem kr_get {l : List (List Int)} (h : K32 l) {j : Nat} {k : List Int} (hj : l[j]? = some k) : ((kr l).drop (j * 32)).take 32 = iv .u8 k := fl_get (kr_rows h) (by rw [List.getElem?_map, hj]; rfl)
theorem kr_set {l : List (List Int)} (h : K32 l) {j : Nat} {k : List Int} (hj : j < l.length) (hk : k.length = 32) : setR (kr l) (j * 32) (iv .u8 k) = kr (l.set j k) := by
 have hj' : l[j]? = some l[j] := List.getElem?_eq_getElem hj
 have hq := h _ (List.mem_of_getElem? hj')
 unfold kr
 rw [fl_setR (q := iv .u8 l[j]) (kr_rows h) (by rw [List.getElem?_map, hj']; rfl) (by rw [iv_length, hk]; omega)]
 rw [List.drop_of_length_le (by rw [iv_length, iv_length]; omega), List.append_nil, List.map_set]
theorem kr_addr {n b j : Nat} (hj : j < n) : xindexAddr Try.prog 36 (.slice (some ⟨b, 0, none⟩) n n) (.int .i64 (j : Nat)) = some (.pointer (some ⟨b, j * 32, none⟩)) := by
 have h1 : und Try.prog 36 = .slice 38 := by kernel_rfl
 have h2 : szt Try.prog 38 = 32 := by kernel_rfl
 unfold xindexAddr
 simp only [h1, h2]
 rw [if_pos ⟨by omega, by omega, by omega⟩]
 simp
theorem kr_load {G : AH} {b j : Nat} {l : List (List Int)} {k : List Int} (h : K32 l) (hj : l[j]? = some k) (hb : hget G b = some ⟨kr l, 38, some 32⟩) : xload Try.prog 38 (.pointer (some ⟨b, j * 32, none⟩)) G = some (.agg (iv .u8 k).toArray) := by
 have hl := (List.getElem?_eq_some_iff.1 hj).1
 refine load_at (sz := 32) hb (by kernel_rfl) (by omega) (by kernel_rfl) (kr_get h hj).symm ?_
 show _ ≤ (kr l).length
 rw [kr_len h]
 have : (j + 1) * 32 ≤ l.length * 32 := Nat.mul_le_mul_right _ hl
 omega
attribute [local simp] wb_bool wb_undef with_lit XL_nil XL_cons XLc_val XLc_call step1_eq stepW_t stepW_f stepC_n stepC_s stepX_s stepX_n stepN_s calleeX xrecv oneV xop_eq xopR_s xopR_n wantedA_eq wantedG_n wantedG_s plain1_int plain1_bool plain1_string bits_i64 bits_u64 bits_u32 bits_u16 bits_u8 xeqA xagg xcmp xarr allK_iv num_iv calleeOf xread xeff xbin xint xnil xun xstr xload xconv xpart xfield xfieldAddr xindexAddr xindex bnd asInt? xslice xlen xmin xmax xbuild xfill xappend xapp2 xappstr xappmk xcap xcopy xcells eval_tmp eval_const put_at put_none fr0_at cells_agg cells_int cells_bool cells_string cells_ptr cells_slice notTuple tab iv_all hget_app hget_app0 hget_cons0 hget_cons set_app set_app0 setR setR_one QL_nil QL_cons QLc_val stepQ_t stepQ_f stepQC_n stepQC_s stepQX_s SL_nil SL_cons SLc_val stepS_t stepS_f ltT ltF leT leF eqT eqF ltTn ltFn leTn leFn eqTn eqFn beqT beqF bneT bneF wi64 wu64 wu32 wu16 wu8 tmodP tdivP hgetL hgetNe hgetEq setL nums_def nums_len Nat.succ_le_of_lt List.getElem?_cons_zero List.getElem?_cons_succ Option.getD_some Int.toNat_add Int.toNat_mul agM okM agB agI agS agP agL agA okB okI okS okP okSl okA
def Oth (b : Nat) (H G : AH) : Prop := H.length ≤ G.length ∧ ∀ j, j < H.length → j ≠ b → hget G j = hget H j
def SortQ (b : Nat) (ids : List (List Int)) (H : AH) (v' : Value) (H' : AH) : Prop := hget H' b = some ⟨kr (sortK ids), 38, some 32⟩ ∧ Oth b H H'
theorem len_rc {nro : Nat} {γ : Nat → Option Nat} {H : AH} {n : Nat} (hn : n ≤ 12) : AC Try.prog nro γ 157 #[.int .u64 (n : Nat)] H (fun v' H' => H' = H ∧ ∃ z, v' = .int .i64 z) := by
 have h64 : AC Try.prog nro γ 169 #[.int .u64 (n : Nat)] H (fun v' H' => H' = H ∧ ∃ z, v' = .int .i64 z) := by
  refine ac_of_aw Try.func169 rfl Try.ntmps169 Try.results169 (by simp) ?_
  refine aw_seq ?_
  (refine aw_ops (by kernel_rfl) (fun K hK => ?_); simp (disch := first | omega | (simp only [lnS]; try omega)) [-getElem?_pos, -getElem?_neg]; refine hK _ _ ?_; clear hK K)
  refine aw_seq ?_
  refine aw_seq ?_
  (refine aw_ops (by kernel_rfl) (fun K hK => ?_); simp (disch := first | omega | (simp only [lnS]; try omega)) [-getElem?_pos, -getElem?_neg]; refine hK _ _ ?_; clear hK K)
  refine aw_f (by (first | (simp [eval_tmp, put_at]; done) | (simp [eval_tmp, put_at]; omega))) (by kernel_rfl) ?_
  refine aw_skip ?_
  refine aw_seq ?_
  refine aw_seq ?_
  (refine aw_ops (by kernel_rfl) (fun K hK => ?_); simp (disch := first | omega | (simp only [lnS]; try omega)) [-getElem?_pos, -getElem?_neg]; refine hK _ _ ?_; clear hK K)
  refine aw_f (by (first | (simp [eval_tmp, put_at]; done) | (simp [eval_tmp, put_at]; omega))) (by kernel_rfl) ?_
  refine aw_skip ?_
  refine aw_seq ?_
  refine aw_seq ?_
  (refine aw_ops (by kernel_rfl) (fun K hK => ?_); simp (disch := first | omega | (simp only [lnS]; try omega)) [-getElem?_pos, -getElem?_neg]; refine hK _ _ ?_; clear hK K)
  refine aw_f (by (first | (simp [eval_tmp, put_at]; done) | (simp [eval_tmp, put_at]; omega))) (by kernel_rfl) ?_
  refine aw_skip ?_
  refine aw_seq ?_
  (refine aw_ops (by kernel_rfl) (fun K hK => ?_); simp (disch := first | omega | (simp only [lnS]; try omega)) [-getElem?_pos, -getElem?_neg, ByteArray.size, List.size_toArray, List.length_cons, List.length_nil]; refine hK _ _ ?_; clear hK K)
  (refine aw_ret ?_; simp (disch := first | omega | (simp only [lnS]; try omega)) [-getElem?_pos, -getElem?_neg, thenQ_ret, scopeQ_ret, inBlockQ_ret, RQ, resL, resV])
 refine ac_of_aw Try.func157 rfl Try.ntmps157 Try.results157 (by simp) ?_
 refine aw_seq ?_
 (refine aw_ops (by kernel_rfl) (fun K hK => ?_); simp (disch := first | omega | (simp only [lnS]; try omega)) [-getElem?_pos, -getElem?_neg]; refine hK _ _ ?_; clear hK K)
 refine aw_seq ?_
 refine aw_f (by (first | (simp [eval_tmp, put_at]; done) | (simp [eval_tmp, put_at]; omega))) (by kernel_rfl) ?_
 refine aw_skip ?_
 refine aw_seq ?_
 refine aw_ops (by kernel_rfl) (fun K hK => ?_)
 simp (disch := first | omega | (simp only [lnS]; try omega)) [-getElem?_pos, -getElem?_neg]
 refine ⟨by kernel_rfl, h64.mono ?_⟩
 rintro v1 G1 ⟨rfl, z, rfl⟩
 try simp (disch := first | omega | (simp only [lnS]; try omega)) [-getElem?_pos, -getElem?_neg]
 refine hK _ _ ?_; clear hK K
 (refine aw_ret ?_; simp (disch := first | omega | (simp only [lnS]; try omega)) [-getElem?_pos, -getElem?_neg, thenQ_ret, scopeQ_ret, inBlockQ_ret, RQ, resL, resV])
end
section
theorem Oth.low {n b : Nat} {H G K : AH} (hn : n ≤ b) (hl : Low n H G) (h : Oth b G K) : Low n H K := ⟨fun j hj => (h.2 j (by have := hl.2; omega) (by omega)).trans (hl.1 j hj), by have := hl.2; have := h.1; omega⟩
theorem fill_keyG {k : IntKind} {x : List Int} {n : Nat} (z : List Int) (hx : (iv k x).length = n) : xfill (fun i => some (i * n, n)) (List.map (fun j => (iv k z)[j % n]?.getD undef) (List.range n)) [(0, .agg (iv k x).toArray)] = some (iv k x) := by
 have h1 : (Value.agg (iv k x).toArray).cells.size = n := by simpa [Value.cells] using hx
 unfold xfill
 simp only [Nat.zero_mul]
 rw [if_pos ⟨h1, by rw [h1]; simp⟩]
 unfold xfill
 rw [setR_all _ _ (by simp [Value.cells, hx])]
 rfl
end
end Go.Proofs.Ytdeccbjdhcifiaa
