/-
  graph.Right.
  graph: isPlace, Ahead, Apart, count, Find.
  graph.Find.
  Own slices with their blocks as a footprint.
  graph.past: what is marked, as a map.
  graph.Past.
  The reference: Find, In, SameInts.
  The reference: turn.
  The reference: Past.
  The reference: SameInts, Member, Less.
  The reference: kind.
  What the reference's Right asks, and what the program's asks: the same.
  The first nodes of a graph, as a slice of it.
  The reference: SameKeys.
  The reference: Great.
  Keys in order: the comparison is the order of lists; sorted lists are told by their members.
  cabalref11.Right: what it asks of an operation.
  slices.Clone at numbers, keys, boxes: what is copied lies in new memory.
  deep.Op: an operation, copied into new memory.
  deep.Nodes: a graph, copied into new memory.
  What holds of right graphs: pasts, authors, heads.
  cabalref15.Right: is it a graph?
  Keys sorted: the insertion sort of the library, for at most twelve of them.
  graph.Heads.
-/
import Derived.Test.YtdeccbjdhcifiaaMD
import Derived.Test.YtdeccbjdhcifiaaMB
import Derived.Test.YtdeccbjdhcifiaaTabM
import Derived.Test.YtdeccbjdhcifiaaMC
namespace Go.Proofs.Ytdeccbjdhcifiaa
open Go Go.RowKit
set_option linter.unusedSimpArgs false
set_option linter.unusedVariables false
set_option maxRecDepth 100000
set_option maxHeartbeats 4000000
section
def inB (l : List NodeD) (n : Nat) (ps : List (List Int)) (k : Nat) : Bool := ps.any fun p => match findN l n p with | some a => decide (a = k) || decide ((k : Int) ∈ (nd l a).past) | none => false
def pastL (l : List NodeD) (n : Nat) (ps : List (List Int)) : List Int := ((List.range n).filter (inB l n ps)).map fun k : Nat => (k : Int)
def autN (l : List NodeD) (n : Nat) (x : Int) : Nat := ((List.range n).filter fun a => (nd l a).op.author == x).length
def autA (l : List NodeD) (n : Nat) (x : Int) (past : List Int) : Bool := (List.range n).all fun a => !((nd l a).op.author == x) || decide ((a : Int) ∈ past)
def turnB (l : List NodeD) (n : Nat) (o : OpD) (past : List Int) : Bool := (decide (o.kind = 1) == decide (n = 0)) && (autA l n o.author past && decide (o.seq = 1 + (autN l n o.author : Nat)))
def stepB (l : List NodeD) (i : Nat) : Bool := (nd l i).op.parents.all (fun p => (findN l i p).isSome) && (rightO (nd l i).op && ((findN l i (nd l i).id).isNone && (decide ((nd l i).past = pastL l i (nd l i).op.parents) && turnB l i (nd l i).op (nd l i).past)))
def rightG (l : List NodeD) : Bool := decide (l.length ≤ 96) && (List.range l.length).all (stepB l)
theorem mem_pastL {l : List NodeD} {n k : Nat} {ps : List (List Int)} : (k : Int) ∈ pastL l n ps ↔ k < n ∧ inB l n ps k = true := by
 unfold pastL
 rw [List.mem_map]
 constructor
 ·rintro ⟨a, ha, e⟩
  obtain rfl : a = k := by omega
  rw [List.mem_filter, List.mem_range] at ha
  exact ha
 ·rintro ⟨h1, h2⟩
  exact ⟨k, by rw [List.mem_filter, List.mem_range]; exact ⟨h1, h2⟩, rfl⟩
def Mk (l : List NodeD) (W : List Nat) (i : Nat) : Prop := ∀ r k, r < 96 → k < 128 → hasW W r k = (decide (r < i) && decide ((k : Int) ∈ (nd l r).past))
theorem own_in {l : List NodeD} {W : List Nat} {i k : Nat} {ps : List (List Int)} (hM : Mk l W i) (hi : i ≤ 96) (hk : k < 128) : ownB l W i ps k = inB l i ps k := by
 unfold ownB inB
 congr 1
 funext p
 cases hf : findN l i p with
 | none => rfl
 | some a =>
  have := findN_lt hf
  simp only []
  rw [hM a k (by omega) hk]
  simp [this]
theorem mk_row {l : List NodeD} {W W' : List Nat} {i : Nat} (hM : Mk l W i) (hi : i < 96) (h : ∀ r k, r < 96 → k < 128 → hasW W' r k = (hasW W r k || (decide (r = i) && ownB l W i (nd l i).op.parents k))) : ∀ k, k < 128 → hasW W' i k = inB l i (nd l i).op.parents k := fun k hk => by
 rw [h i k hi hk, hM i k hi hk, own_in hM (by omega) hk]
 simp
theorem mark_past {l : List NodeD} {W : List Nat} {i : Nat} {ps : List (List Int)} (h : ∀ k, k < 128 → hasW W i k = inB l i ps k) (hi : i ≤ 96) : markL W i i = pastL l i ps := by
 unfold markL pastL
 congr 1
 refine List.filter_congr fun k hk => ?_
 rw [List.mem_range] at hk
 exact h k (by omega)
theorem seq_turn {l : List NodeD} {W : List Nat} {i : Nat} (h : ∀ k, k < 128 → hasW W i k = inB l i (nd l i).op.parents k) (hi : i ≤ 96) (hp : (nd l i).past = pastL l i (nd l i).op.parents) (hk : (decide ((nd l i).op.kind = 1) == decide (i = 0)) = true) : seqB l W i = turnB l i (nd l i).op (nd l i).past := by
 unfold turnB seqB
 rw [hk, Bool.true_and]
 congr 1
 unfold seqA autA
 rw [Bool.eq_iff_iff, List.all_eq_true, List.all_eq_true]
 refine forall_congr' fun a => ?_
 refine imp_congr_right fun ha => ?_
 rw [List.mem_range] at ha
 rw [h a (by omega), hp]
 have : decide ((a : Int) ∈ pastL l i (nd l i).op.parents) = inB l i (nd l i).op.parents a := by
  rw [Bool.eq_iff_iff, decide_eq_true_eq, mem_pastL]
  exact ⟨fun h => h.2, fun h => ⟨ha, h⟩⟩
 rw [this]
theorem mk_next {l : List NodeD} {W W' : List Nat} {i : Nat} (hM : Mk l W i) (hi : i < 96) (h : ∀ r k, r < 96 → k < 128 → hasW W' r k = (hasW W r k || (decide (r = i) && ownB l W i (nd l i).op.parents k))) (hp : (nd l i).past = pastL l i (nd l i).op.parents) (hall : ∀ a, a < i → (nd l a).past = pastL l a (nd l a).op.parents) : Mk l W' (i + 1) := fun r k hr hk => by
 rw [h r k hr hk, hM r k hr hk]
 by_cases e : r = i
 ·subst e
  rw [own_in hM (by omega) hk, hp]
  simp only [Nat.lt_irrefl, decide_false, Bool.false_and, Bool.false_or, decide_true, Bool.true_and, Nat.lt_succ_self]
  rw [Bool.eq_iff_iff, decide_eq_true_eq, mem_pastL]
  refine ⟨fun hin => ⟨?_, hin⟩, fun h => h.2⟩
  unfold inB at hin
  rw [List.any_eq_true] at hin
  obtain ⟨p, _, hin⟩ := hin
  cases hf : findN l r p with
  | none => rw [hf] at hin; cases hin
  | some a =>
   have hlt := findN_lt hf
   rw [hf] at hin
   simp only [Bool.or_eq_true, decide_eq_true_eq] at hin
   rcases hin with rfl | hin
   ·exact hlt
   ·rw [hall a hlt, mem_pastL] at hin
    omega
 ·have e1 : decide (r = i) = false := by simpa using e
  have e2 : decide (r < i + 1) = decide (r < i) := by
   by_cases h : r < i
   ·have : r < i + 1 := by omega
    simp [h, this]
   ·have : ¬ r < i + 1 := by omega
    simp [h, this]
  rw [e1, e2]
  simp
theorem rightG_bad {l : List NodeD} {i : Nat} (hi : i < l.length) (h : stepB l i = false) : rightG l = false := by
 unfold rightG
 have : (List.range l.length).all (stepB l) = false := by
  rw [List.all_eq_false]
  exact ⟨i, List.mem_range.2 hi, by rw [h]; decide⟩
 rw [this, Bool.and_false]
theorem wv_zero : wv (List.replicate 192 0) = iv .u64 (zl 192) := by kernel_rfl
theorem wzero_has (r k : Nat) : hasW (List.replicate 192 0) r k = false := by
 unfold hasW
 have : (List.replicate 192 0).getD (2 * r + k / 64) 0 = 0 := by
  rw [List.getD_eq_getElem?_getD, List.getElem?_replicate]
  split <;> rfl
 rw [this]
 exact Nat.zero_testBit _
theorem put_map {nro : Nat} {H : AH} {mi : Nat} {E : List (Value × Value)} {l : List NodeD} {i : Nat} {k : List Int} (hm : hget H mi = some (mblk 110 E)) (hE : MapP E l i) (hk : k.length = 32) (hn : nro ≤ mi) : xmapUpd Try.prog nro 110 (.map (some mi)) (.agg (iv .u8 k).toArray) (.int .i64 (i : Nat)) H = some (undef, H.set mi (some (mblk 110 (mput (kyv k) (.int .i64 (i : Nat)) E)))) := by
 have h1 : und Try.prog 110 = .map 38 3 := by kernel_rfl
 have h3 := kyv_ok hk
 unfold kyv at h3 ⊢
 unfold xmapUpd
 simp only [h1, hm, ents_mblk, h3, hE.ok]
 rw [if_pos ⟨hn, trivial, trivial, rfl⟩, mblk_ty]
theorem make_map (n : Nat) (H : AH) : xmakeMap Try.prog 110 (some (.int .i64 (n : Nat))) H = some (.map (some H.length), H ++ [some (mblk 110 [])]) := by
 have h1 : und Try.prog 110 = .map 38 3 := by kernel_rfl
 unfold xmakeMap
 simp only [h1]
attribute [local simp] wb_bool wb_undef with_lit XL_nil XL_cons XLc_val XLc_call step1_eq stepW_t stepW_f stepC_n stepC_s stepX_s stepX_n stepN_s calleeX xrecv oneV xop_eq xopR_s xopR_n wantedA_eq wantedG_n wantedG_s plain1_int plain1_bool plain1_string bits_i64 bits_u64 bits_u32 bits_u16 bits_u8 xeqA xagg xcmp xarr allK_iv num_iv calleeOf xread xeff xbin xint xnil xun xstr xload xconv xpart xfield xfieldAddr xindexAddr xindex bnd asInt? xslice xlen xmin xmax xbuild xfill xappend xapp2 xappstr xappmk xcap xcopy xcells eval_tmp eval_const put_at put_none fr0_at cells_agg cells_int cells_bool cells_string cells_ptr cells_slice notTuple tab iv_all hget_app hget_app0 hget_cons0 hget_cons set_app set_app0 setR setR_one QL_nil QL_cons QLc_val stepQ_t stepQ_f stepQC_n stepQC_s stepQX_s SL_nil SL_cons SLc_val stepS_t stepS_f ltT ltF leT leF eqT eqF ltTn ltFn leTn leFn eqTn eqFn beqT beqF bneT bneF wi64 wu64 wu32 wu16 wu8 tmodP tdivP hgetL hgetNe hgetEq setL nums_def nums_len Nat.succ_le_of_lt List.getElem?_cons_zero List.getElem?_cons_succ Option.getD_some Int.toNat_add Int.toNat_mul agM okM agB agI agS agP agL agA okB okI okS okP okSl okA
theorem graph_right_rc {γ : Nat → Option Nat} {H : AH} {nv : Value} {l : List NodeD} (hN : NdA H nv l) :
  AC Try.prog H.length γ 30 #[nv] H (fun v' _ => v' = .bool (rightG l)) := by
 obtain ⟨hnt, hvc, hxl, hwf, hat⟩ := hN
 have hN' : NdA H nv l := ⟨hnt, hvc, hxl, hwf, hat⟩
 refine ac_of_aw Try.func30 rfl Try.ntmps30 Try.results30 (by simp) ?_
 refine aw_seq ?_
 (refine aw_ops (by kernel_rfl) (fun K hK => ?_); simp (disch := first | omega | (simp only [lnS]; try omega)) [-getElem?_pos, -getElem?_neg]; refine hK _ _ ?_; clear hK K)
 refine aw_seq ?_
 refine aw_seq ?_
 by_cases hl : 96 < l.length
 case pos =>
  (refine aw_ops (by kernel_rfl) (fun K hK => ?_); simp (disch := first | omega | (simp only [lnS]; try omega)) [-getElem?_pos, -getElem?_neg, -notTuple, hnt, hvc, nt_intG, -xlen, hxl, hl]; refine hK _ _ ?_; clear hK K)
  refine aw_t (by (first | (simp [eval_tmp, put_at]; done) | (simp [eval_tmp, put_at]; omega))) (by kernel_rfl) ?_
  refine aw_seq ?_
  (refine aw_ops (by kernel_rfl) (fun K hK => ?_); simp (disch := first | omega | (simp only [lnS]; try omega)) [-getElem?_pos, -getElem?_neg]; refine hK _ _ ?_; clear hK K)
  (refine aw_ret ?_; simp (disch := first | omega | (simp only [lnS]; try omega)) [-getElem?_pos, -getElem?_neg, thenQ_ret, scopeQ_ret, inBlockQ_ret, RQ, resL, resV])
  have : ¬ l.length ≤ 96 := by omega
  simp [rightG, this]
 (refine aw_ops (by kernel_rfl) (fun K hK => ?_); simp (disch := first | omega | (simp only [lnS]; try omega)) [-getElem?_pos, -getElem?_neg, -notTuple, hnt, hvc, nt_intG, -xlen, hxl, hl]; refine hK _ _ ?_; clear hK K)
 refine aw_f (by (first | (simp [eval_tmp, put_at]; done) | (simp [eval_tmp, put_at]; omega))) (by kernel_rfl) ?_
 refine aw_skip ?_
 refine aw_seq ?_
 have hmm := make_map l.length H
 have hp0 : plain1 (.slice none 0 0) = true := rfl
 have hpm : plain1 (.map none) = true := rfl
 have hntm : notTuple (.map (some H.length)) = true := rfl
 have hmc : (Value.map (some H.length)).cells = #[.map (some H.length)] := rfl
 have hset : ∀ Z : List Value, Z.length = 194 → setR Z 0 (nv :: .map (some H.length) :: iv .u64 (zl 192)) = nv :: .map (some H.length) :: iv .u64 (zl 192) := fun Z hZ => setR_all _ _ (by simp [hZ])
 have hsr : setR (nv :: Value.map none :: iv .u64 (zl 192)) 1 [.map (some H.length)] = nv :: .map (some H.length) :: iv .u64 (zl 192) := by simp [setR_one]
 (refine aw_ops (by kernel_rfl) (fun K hK => ?_); simp (disch := first | omega | (simp only [lnS]; try omega)) [-getElem?_pos, -getElem?_neg, -notTuple, hnt, hvc, nt_intG, nt_aggG, -xlen, hxl, hl, hmm, hp0, hpm, hntm, hmc, hset, hsr, mblk_ty]; refine hK _ _ ?_; clear hK K)
 have hwz : lkC nv H.length (List.replicate 192 0) = nv :: .map (some H.length) :: iv .u64 (zl 192) := by rw [lkC, wv_zero]; rfl
 refine aw_seq ?_
 refine aw_seq ?_
 (refine aw_ops (by kernel_rfl) (fun K hK => ?_); simp (disch := first | omega | (simp only [lnS]; try omega)) [-getElem?_pos, -getElem?_neg, -notTuple, hnt, hvc, nt_intG, -xlen, hxl]; refine hK _ _ ?_; clear hK K)
 refine aw_block ?_
 have hlb : l.length ≤ 96 := by omega
 refine aw_loop (fun c α G => ∃ (i : Nat) (W : List Nat) (E : List (Value × Value)), i + c = l.length ∧ α 3 = .pointer (some ⟨H.length + 1, 0, none⟩) ∧ α 16 = nv ∧ α 17 = .int .i64 (l.length : Nat) ∧ α 18 = .int .i64 (i : Nat) ∧ Low H.length H G ∧ hget G (H.length + 1) = some ⟨lkC nv H.length W, 116, none⟩ ∧ hget G H.length = some (mblk 110 E) ∧ MapP E l i ∧ Wd W ∧ W.length = 192 ∧ Mk l W i ∧ ∀ a, a < i → stepB l a = true) l.length ?_ ?_
 ·refine ⟨0, List.replicate 192 0, [], by omega, by (first | (simp [put_at, put_none, fr0_at]; done) | rfl), by (first | (simp [put_at, put_none, fr0_at]; done) | rfl), by (first | (simp [put_at, put_none, fr0_at]; done) | rfl), by (first | (simp [put_at, put_none, fr0_at]; done) | rfl), ?_, ?_, ?_, MapP.zero l, ?_, by simp, fun r k _ _ => by rw [wzero_has]; simp, fun a ha => by omega⟩
  ·exact Low.push (Nat.le_refl _) _
  ·rw [hget_app, hwz]; rfl
  ·rw [hget_app0]; rfl
  ·intro x hx
   rw [List.eq_of_mem_replicate hx]; decide
 rintro c α G ⟨i, W, E, hic, h3, h16, h17, h18, hlow, hb, hm, hE, hw, hW, hM, hall⟩
 refine aw_seq ?_
 by_cases hi : i < l.length
 case neg =>
  (refine aw_ops (by kernel_rfl) (fun K hK => ?_); simp (disch := first | omega | (simp only [lnS]; try omega)) [-getElem?_pos, -getElem?_neg, h17, h18, hi]; refine hK _ _ ?_; clear hK K)
  refine aw_seq ?_
  refine aw_f (by (first | (simp [eval_tmp, put_at, hi]; done) | (simp [eval_tmp, put_at, hi]; omega))) (by kernel_rfl) ?_
  refine aw_exit ?_
  obtain rfl : i = l.length := by omega
  refine aw_seq ?_
  (refine aw_ops (by kernel_rfl) (fun K hK => ?_); simp (disch := first | omega | (simp only [lnS]; try omega)) [-getElem?_pos, -getElem?_neg]; refine hK _ _ ?_; clear hK K)
  (refine aw_ret ?_; simp (disch := first | omega | (simp only [lnS]; try omega)) [-getElem?_pos, -getElem?_neg, thenQ_ret, scopeQ_ret, inBlockQ_ret, RQ, resL, resV])
  have : (List.range l.length).all (stepB l) = true := List.all_eq_true.2 fun a ha => hall a (List.mem_range.1 ha)
  simp [rightG, this, hlb]
 obtain ⟨j, q, bb, us, pv, wv', bv, qv, hx, hbb, hq, hcell, hus, hC⟩ := hat i _ (nd_get hi)
 have hwfi := hwf _ (List.mem_of_getElem? (nd_get hi))
 have hbG : hget G j = some bb := (hlow.1 j (hget_lt hbb)).trans hbb
 have hul := hC.len
 have hle0 := hlow.2
 (refine aw_ops (by kernel_rfl) (fun K hK => ?_); simp (disch := first | omega | (simp only [lnS]; try omega)) [-getElem?_pos, -getElem?_neg, h17, h18, hi]; refine hK _ _ ?_; clear hK K)
 refine aw_seq ?_
 refine aw_t (by (first | (simp [eval_tmp, put_at, hi]; done) | (simp [eval_tmp, put_at, hi]; omega))) (by kernel_rfl) ?_
 refine aw_skip ?_
 refine aw_seq ?_
 refine aw_block ?_
 refine aw_seq ?_
 have hset2 : ∀ Z : List Value, Z.length = 104 → setR Z 0 us = us := fun Z hZ => setR_all _ _ (by omega)
 have hus' := hus.symm
 clear hus
 (refine aw_ops (by kernel_rfl) (fun K hK => ?_); simp (disch := first | omega | (simp only [lnS]; try omega)) [-getElem?_pos, -getElem?_neg, h16, h18, -notTuple, hnt, hvc, nt_intG, nt_aggG, -xindexAddr, hx, hbG, hus', hul, hq, hle0, hp0, all_zl, hset2]; refine hK _ _ ?_; clear hK K)
 obtain ⟨hlow2, hb2⟩ := boxed (H := G) us 50
 have hbV2 := hget_left' (L := [some ⟨us, 50, none⟩]) hb
 have hmG2 := hget_left' (L := [some ⟨us, 50, none⟩]) hm
 obtain ⟨g, hg⟩ : ∃ g, g = G.length := ⟨_, rfl⟩
 rw [← hg] at hb2 ⊢
 generalize G ++ [some ⟨us, 50, none⟩] = G2 at *
 have hlowG2 : Low H.length H G2 := ⟨fun j hj => (hlow2.1 j (by omega)).trans (hlow.1 j hj), by have := hlow2.2; omega⟩
 have hlG2 := hlowG2.2
 have hid := hC.id
 have hwl : (iv .u8 (nd l i).id).length = 32 := by rw [iv_length]; exact hwfi.id.1
 obtain ⟨CW, hCW⟩ : ∃ C, C = lkC nv H.length W := ⟨_, rfl⟩
 have hv1 : CW[1]? = some (.map (some H.length)) := by rw [hCW]; rfl
 have hvl : CW.length = 194 := by rw [hCW]; simp [lkC, wv_len, hW]
 have hbV3 := hbV2
 rw [← hCW] at hbV3
 refine aw_seq ?_
 refine aw_seq ?_
 cases hf : findN l i (nd l i).id with
 | some a =>
  have hlk := look_some hmG2 hE hwfi.id.1 hf
  (refine aw_ops (by kernel_rfl) (fun K hK => ?_); simp (disch := first | omega | (simp only [lnS]; try omega)) [-getElem?_pos, -getElem?_neg, h3, hbV3, hv1, hvl, hb2, hul, hid, hwl, hlk, nt_aggG]; refine hK _ _ ?_; clear hK K)
  refine aw_seq ?_
  refine aw_ops (by kernel_rfl) (fun K hK => ?_)
  simp (disch := first | omega | (simp only [lnS]; try omega)) [-getElem?_pos, -getElem?_neg, hb2, hul]
  refine hK _ _ ?_; clear hK K
  refine aw_t (by (first | (simp [eval_tmp, put_at]; done) | (simp [eval_tmp, put_at]; omega))) (by kernel_rfl) ?_
  refine aw_seq ?_
  (refine aw_ops (by kernel_rfl) (fun K hK => ?_); simp (disch := first | omega | (simp only [lnS]; try omega)) [-getElem?_pos, -getElem?_neg]; refine hK _ _ ?_; clear hK K)
  (refine aw_ret ?_; simp (disch := first | omega | (simp only [lnS]; try omega)) [-getElem?_pos, -getElem?_neg, thenQ_ret, scopeQ_ret, inBlockQ_ret, RQ, resL, resV])
  refine rightG_bad hi ?_
  simp [stepB, hf]
 | none =>
  have hlk := look_none hmG2 hE hwfi.id.1 hf
  (refine aw_ops (by kernel_rfl) (fun K hK => ?_); simp (disch := first | omega | (simp only [lnS]; try omega)) [-getElem?_pos, -getElem?_neg, h3, hbV3, hv1, hvl, hb2, hul, hid, hwl, hlk, nt_aggG]; refine hK _ _ ?_; clear hK K)
  refine aw_seq ?_
  have hO : OpC G2 ((us.drop 32).take 71) (nd l i).op pv wv' bv := hC.op.low (fun j hj => hlowG2.1 j hj)
  have c3 : us[35]? = some (.int .i64 (nd l i).op.kind) := by
   have := hO.c3
   rwa [List.getElem?_take_of_lt (by omega), List.getElem?_drop] at this
  have hrr := right_rc (γ := γ) hO hwfi.op
  obtain ⟨u7, hu7⟩ : ∃ u, u = (us.drop 32).take 71 := ⟨_, rfl⟩
  have hu7l := hO.len
  rw [← hu7] at hrr hu7l
  have hu7' := hu7.symm
  refine aw_ops (by kernel_rfl) (fun K hK => ?_)
  simp (disch := first | omega | (simp only [lnS]; try omega)) [-getElem?_pos, -getElem?_neg, hb2, hul, hu7', hu7l, nt_aggG]
  refine ⟨by kernel_rfl, ac_of_rc hrr (by simp [pv_iv, pv_int, pv_bool, pv_string, pv_tup2, pv_tup3, iv_plain, p2_int, p2_bool, p2_string]) ?_⟩
  cases hro : rightO (nd l i).op with
  | false =>
   try simp (disch := first | omega | (simp only [lnS]; try omega)) [-getElem?_pos, -getElem?_neg, hb2, hul]
   refine hK _ _ ?_; clear hK K
   refine aw_t (by (first | (simp [eval_tmp, put_at]; done) | (simp [eval_tmp, put_at]; omega))) (by kernel_rfl) ?_
   refine aw_seq ?_
   (refine aw_ops (by kernel_rfl) (fun K hK => ?_); simp (disch := first | omega | (simp only [lnS]; try omega)) [-getElem?_pos, -getElem?_neg]; refine hK _ _ ?_; clear hK K)
   (refine aw_ret ?_; simp (disch := first | omega | (simp only [lnS]; try omega)) [-getElem?_pos, -getElem?_neg, thenQ_ret, scopeQ_ret, inBlockQ_ret, RQ, resL, resV])
   refine rightG_bad hi ?_
   simp [stepB, hro]
  | true =>
  have htb : (decide ((nd l i).op.kind = 1) == decide (i = 0)) = !(((nd l i).op.kind == 1) != ((i : Int) == 0)) := by
   have e1 : ((nd l i).op.kind == 1) = decide ((nd l i).op.kind = 1) := rfl
   have e2 : ((i : Int) == 0) = decide (i = 0) := by rw [Bool.eq_iff_iff]; simp
   rw [e1, e2]
   cases decide ((nd l i).op.kind = 1) <;> cases decide (i = 0) <;> rfl
  generalize hkd : (nd l i).op.kind = kd at *
  generalize hb1 : (kd == 1) = b1 at *
  generalize hb4 : ((i : Int) == 0) = b4 at *
  cases hbn : (b1 != b4) with
  | true =>
   simp (disch := first | omega | (simp only [lnS]; try omega)) [-getElem?_pos, -getElem?_neg, hb2, hul, c3, hb1, hb4, hbn]
   refine hK _ _ ?_; clear hK K
   refine aw_t (by (first | (simp [eval_tmp, put_at]; done) | (simp [eval_tmp, put_at]; omega))) (by kernel_rfl) ?_
   refine aw_seq ?_
   (refine aw_ops (by kernel_rfl) (fun K hK => ?_); simp (disch := first | omega | (simp only [lnS]; try omega)) [-getElem?_pos, -getElem?_neg]; refine hK _ _ ?_; clear hK K)
   (refine aw_ret ?_; simp (disch := first | omega | (simp only [lnS]; try omega)) [-getElem?_pos, -getElem?_neg, thenQ_ret, scopeQ_ret, inBlockQ_ret, RQ, resL, resV])
   refine rightG_bad hi ?_
   rw [hbn] at htb
   simp [stepB, turnB, hkd, htb]
  | false =>
  simp (disch := first | omega | (simp only [lnS]; try omega)) [-getElem?_pos, -getElem?_neg, hb2, hul, c3, hb1, hb4, hbn]
  refine hK _ _ ?_; clear hK K
  refine aw_f (by (first | (simp [eval_tmp, put_at]; done) | (simp [eval_tmp, put_at]; omega))) (by kernel_rfl) ?_
  refine aw_skip ?_
  rw [hbn] at htb
  have htk : (decide ((nd l i).op.kind = 1) == decide (i = 0)) = true := by rw [hkd]; simpa using htb
  refine aw_seq ?_
  refine aw_seq ?_
  refine aw_ops (by kernel_rfl) (fun K hK => ?_)
  simp (disch := first | omega | (simp only [lnS]; try omega)) [-getElem?_pos, -getElem?_neg, h3]
  refine ⟨by kernel_rfl, (parents_ac (γ := γ) hN' hlowG2 (by omega) (by omega) hbV2 hmG2 hE hw hW hi hlb).mono ?_⟩
  rintro _ G3 ⟨hone3, ok, rfl, hok, hpar⟩
  cases ok with
  | false =>
   try simp (disch := first | omega | (simp only [lnS]; try omega)) [-getElem?_pos, -getElem?_neg]
   refine hK _ _ ?_; clear hK K
   refine aw_t (by (first | (simp [eval_tmp, put_at]; done) | (simp [eval_tmp, put_at]; omega))) (by kernel_rfl) ?_
   refine aw_seq ?_
   (refine aw_ops (by kernel_rfl) (fun K hK => ?_); simp (disch := first | omega | (simp only [lnS]; try omega)) [-getElem?_pos, -getElem?_neg]; refine hK _ _ ?_; clear hK K)
   (refine aw_ret ?_; simp (disch := first | omega | (simp only [lnS]; try omega)) [-getElem?_pos, -getElem?_neg, thenQ_ret, scopeQ_ret, inBlockQ_ret, RQ, resL, resV])
   refine rightG_bad hi ?_
   unfold stepB
   rw [← hok, Bool.false_and]
  | true =>
  obtain ⟨W', hbV4, hw', hW', hrow⟩ := hpar rfl
  have hlowG3 : Low H.length H G3 := hone3.low (by omega) hlowG2 hlowG2.2
  have hmk := mk_row hM (by omega) hrow
  simp (disch := first | omega | (simp only [lnS]; try omega)) [-getElem?_pos, -getElem?_neg, h3]
  refine ⟨by kernel_rfl, (past_rc (γ := γ) (mi := H.length) hN' hlowG3 hbV4 hw' hW' hi hlb).mono ?_⟩
  rintro _ G4 ⟨e4, rfl⟩
  subst G4
  rw [mark_past hmk (by omega)]
  by_cases hpp : (nd l i).past = pastL l i (nd l i).op.parents
  case neg =>
   try simp (disch := first | omega | (simp only [lnS]; try omega)) [-getElem?_pos, -getElem?_neg, hpp]
   refine hK _ _ ?_; clear hK K
   refine aw_t (by (first | (simp [eval_tmp, put_at]; done) | (simp [eval_tmp, put_at]; omega))) (by kernel_rfl) ?_
   refine aw_seq ?_
   (refine aw_ops (by kernel_rfl) (fun K hK => ?_); simp (disch := first | omega | (simp only [lnS]; try omega)) [-getElem?_pos, -getElem?_neg]; refine hK _ _ ?_; clear hK K)
   (refine aw_ret ?_; simp (disch := first | omega | (simp only [lnS]; try omega)) [-getElem?_pos, -getElem?_neg, thenQ_ret, scopeQ_ret, inBlockQ_ret, RQ, resL, resV])
   refine rightG_bad hi ?_
   simp [stepB, hpp]
  simp (disch := first | omega | (simp only [lnS]; try omega)) [-getElem?_pos, -getElem?_neg, h3, hpp]
  refine ⟨by kernel_rfl, (seq_ac (γ := γ) (mi := H.length) hN' hlowG3 hbV4 hw' hW' hi hlb).mono ?_⟩
  rintro _ G5 ⟨⟨A, e5⟩, rfl⟩
  subst e5
  rw [seq_turn hmk (by omega) hpp htk]
  cases htu : turnB l i (nd l i).op (nd l i).past with
  | false =>
   try simp (disch := first | omega | (simp only [lnS]; try omega)) [-getElem?_pos, -getElem?_neg]
   refine hK _ _ ?_; clear hK K
   refine aw_t (by (first | (simp [eval_tmp, put_at]; done) | (simp [eval_tmp, put_at]; omega))) (by kernel_rfl) ?_
   refine aw_seq ?_
   (refine aw_ops (by kernel_rfl) (fun K hK => ?_); simp (disch := first | omega | (simp only [lnS]; try omega)) [-getElem?_pos, -getElem?_neg]; refine hK _ _ ?_; clear hK K)
   (refine aw_ret ?_; simp (disch := first | omega | (simp only [lnS]; try omega)) [-getElem?_pos, -getElem?_neg, thenQ_ret, scopeQ_ret, inBlockQ_ret, RQ, resL, resV])
   refine rightG_bad hi ?_
   simp [stepB, htu]
  | true =>
  try simp (disch := first | omega | (simp only [lnS]; try omega)) [-getElem?_pos, -getElem?_neg]
  refine hK _ _ ?_; clear hK K
  refine aw_f (by (first | (simp [eval_tmp, put_at]; done) | (simp [eval_tmp, put_at]; omega))) (by kernel_rfl) ?_
  refine aw_skip ?_
  have hgl := hget_lt hb2
  have hone5 : One (H.length + 1) G2 (G3 ++ [some A]) := hone3.trans (One.push G3 _)
  have hbV5 := hget_left' (L := [some A]) hbV4
  have hbg : H.length + 1 < g := by have := hget_lt hb; omega
  have hg5 : hget (G3 ++ [some A]) g = some ⟨us, 50, none⟩ := (hone5.2 g hgl (by omega)).trans hb2
  have hm5 : hget (G3 ++ [some A]) H.length = some (mblk 110 E) := (hone5.2 _ (hget_lt hmG2) (by omega)).trans hmG2
  have hlowG5 : Low H.length H (G3 ++ [some A]) := hone5.low (by omega) hlowG2 hlowG2.2
  generalize G3 ++ [some A] = G5 at *
  obtain ⟨CV, hCV⟩ : ∃ C, C = lkC nv H.length W' := ⟨_, rfl⟩
  have hv1 : CV[1]? = some (.map (some H.length)) := by rw [hCV]; rfl
  have hvl : CV.length = 194 := by rw [hCV]; simp [lkC, wv_len, hW']
  have hbV6 := hbV5
  rw [← hCV] at hbV6
  have hpm5 := put_map (nro := H.length) hm5 hE hwfi.id.1 (Nat.le_refl _)
  have hPut := hE.put hwfi.id.1 hf
  have hbS : hget (G5.set H.length (some (mblk 110 (mput (kyv (nd l i).id) (.int .i64 (i : Nat)) E)))) (H.length + 1) = some ⟨lkC nv H.length W', 116, none⟩ := by rw [hget_set_ne (by omega)]; exact hbV5
  have hmS : hget (G5.set H.length (some (mblk 110 (mput (kyv (nd l i).id) (.int .i64 (i : Nat)) E)))) H.length = some (mblk 110 (mput (kyv (nd l i).id) (.int .i64 (i : Nat)) E)) := hget_set_eq (hget_lt hm5)
  have hlS : Low H.length H (G5.set H.length (some (mblk 110 (mput (kyv (nd l i).id) (.int .i64 (i : Nat)) E)))) := ⟨fun j hj => (hget_set_ne (by omega)).trans (hlowG5.1 j hj), by rw [List.length_set]; exact hlowG5.2⟩
  generalize mput (kyv (nd l i).id) (.int .i64 (i : Nat)) E = E' at *
  (refine aw_ops (by kernel_rfl) (fun K hK => ?_); simp (disch := first | omega | (simp only [lnS]; try omega)) [-getElem?_pos, -getElem?_neg, h3, hbV6, hv1, hvl, hg5, hul, hid, hwl, hpm5, nt_aggG]; refine hK _ _ ?_; clear hK K)
  generalize G5.set H.length (some (mblk 110 E')) = G6 at *
  (refine aw_ops (by kernel_rfl) (fun K hK => ?_); simp (disch := first | omega | (simp only [lnS]; try omega)) [-getElem?_pos, -getElem?_neg, h18]; refine hK _ _ ?_; clear hK K)
  refine ⟨c - 1, by omega, i + 1, W', E', by omega, by (first | (simp [put_at, put_none, fr0_at, h3]; done) | rfl), by (first | (simp [put_at, put_none, fr0_at, h16]; done) | rfl), by (first | (simp [put_at, put_none, fr0_at, h17]; done) | rfl), by (first | (simp [put_at, put_none, fr0_at]; done) | rfl), hlS, hbS, hmS, hPut, hw', hW', mk_next hM (by omega) hrow hpp (fun a ha => ?_), fun a ha => ?_⟩
  ·have := hall a ha
   simp only [stepB, Bool.and_eq_true, decide_eq_true_eq] at this
   exact this.2.2.2.1
  ·by_cases e : a = i
   ·subst e
    simp [stepB, ← hok, hro, hf, ← hpp, htu]
   ·exact hall a (by omega)
end
section
theorem NdA.past_at {H G : AH} {v : Value} {l : List NodeD} (h : NdA H v l) (hlow : Low H.length H G) {k : Nat} (hk : k < l.length) : ∃ j q b qv, xindexAddr Try.prog 22 v (.int .i64 (k : Nat)) = some (.pointer (some ⟨j, q, none⟩)) ∧ hget G j = some b ∧ b.cells[q + 103]? = some qv ∧ InV H qv (nd l k).past ∧ (nd l k).past.length ≤ maxLen ∧ notTuple qv = true ∧ qv.cells = #[qv] := by
 obtain ⟨j, q, b, us, pv, wv', bv, qv, hx, hb, hq, hcell, hus, hC⟩ := h.at_ k _ (nd_get hk)
 exact ⟨j, q, b, qv, hx, (hlow.1 j (hget_lt hb)).trans hb, (hcell 103 (by omega)).trans hC.c103, hC.past, (h.wf _ (List.mem_of_getElem? (nd_get hk))).plen, hC.past.acc.nt, hC.past.acc.cs⟩
theorem InV.lowG {H G : AH} {v : Value} {l : List Int} (h : InV H v l) (hlow : Low H.length H G) : InV G v l := CD.Val.low (fun j hj => hlow.1 j hj) h
attribute [local simp] wb_bool wb_undef with_lit XL_nil XL_cons XLc_val XLc_call step1_eq stepW_t stepW_f stepC_n stepC_s stepX_s stepX_n stepN_s calleeX xrecv oneV xop_eq xopR_s xopR_n wantedA_eq wantedG_n wantedG_s plain1_int plain1_bool plain1_string bits_i64 bits_u64 bits_u32 bits_u16 bits_u8 xeqA xagg xcmp xarr allK_iv num_iv calleeOf xread xeff xbin xint xnil xun xstr xload xconv xpart xfield xfieldAddr xindexAddr xindex bnd asInt? xslice xlen xmin xmax xbuild xfill xappend xapp2 xappstr xappmk xcap xcopy xcells eval_tmp eval_const put_at put_none fr0_at cells_agg cells_int cells_bool cells_string cells_ptr cells_slice notTuple tab iv_all hget_app hget_app0 hget_cons0 hget_cons set_app set_app0 setR setR_one QL_nil QL_cons QLc_val stepQ_t stepQ_f stepQC_n stepQC_s stepQX_s SL_nil SL_cons SLc_val stepS_t stepS_f ltT ltF leT leF eqT eqF ltTn ltFn leTn leFn eqTn eqFn beqT beqF bneT bneF wi64 wu64 wu32 wu16 wu8 tmodP tdivP hgetL hgetNe hgetEq setL nums_def nums_len Nat.succ_le_of_lt List.getElem?_cons_zero List.getElem?_cons_succ Option.getD_some Int.toNat_add Int.toNat_mul agM okM agB agI agS agP agL agA okB okI okS okP okSl okA
theorem autN_succ (l : List NodeD) (t : Nat) (x : Int) : autN l (t + 1) x = autN l t x + if (nd l t).op.author = x then 1 else 0 := by
 unfold autN
 rw [List.range_succ, List.filter_append, List.length_append]
 by_cases h : (nd l t).op.author = x
 ·simp [h]
 ·have : ((nd l t).op.author == x) = false := by simpa using h
  simp [this, h]
theorem autN_le (l : List NodeD) (t : Nat) (x : Int) : autN l t x ≤ t := by
 unfold autN
 exact Nat.le_trans (List.length_filter_le _ _) (by simp)
theorem count_rc {γ : Nat → Option Nat} {H : AH} {nv : Value} {l : List NodeD} (hN : NdA H nv l) (hl : l.length ≤ maxLen) (z : Int) : AC Try.prog H.length γ 80 #[nv, .int .i64 z] H (fun v' _ => v' = .int .i64 (autN l l.length z : Nat)) := by
 obtain ⟨hnt, hvc, hxl, hwf, hat⟩ := hN
 have hm63 : l.length ≤ 9223372036854775807 := by simp only [maxLen] at hl; omega
 have hp0 : plain1 (.slice none 0 0) = true := rfl
 refine ac_of_aw Try.func80 rfl Try.ntmps80 Try.results80 (by simp) ?_
 refine aw_seq ?_
 (refine aw_ops (by kernel_rfl) (fun K hK => ?_); simp (disch := first | omega | (simp only [lnS]; try omega)) [-getElem?_pos, -getElem?_neg]; refine hK _ _ ?_; clear hK K)
 refine aw_seq ?_
 (refine aw_ops (by kernel_rfl) (fun K hK => ?_); simp (disch := first | omega | (simp only [lnS]; try omega)) [-getElem?_pos, -getElem?_neg]; refine hK _ _ ?_; clear hK K)
 refine aw_seq ?_
 refine aw_seq ?_
 (refine aw_ops (by kernel_rfl) (fun K hK => ?_); simp (disch := first | omega | (simp only [lnS]; try omega)) [-getElem?_pos, -getElem?_neg, -notTuple, hnt, hvc, nt_intG, -xlen, hxl]; refine hK _ _ ?_; clear hK K)
 refine aw_block ?_
 refine aw_loop (fun c α G => ∃ i : Nat, i + c = l.length ∧ Low H.length H G ∧ α 1 = .int .i64 z ∧ α 5 = .int .i64 (autN l i z : Nat) ∧ α 8 = nv ∧ α 9 = .int .i64 (l.length : Nat) ∧ α 10 = .int .i64 (i : Nat)) l.length ?_ ?_
 ·exact ⟨0, by omega, Low.refl (Nat.le_refl _), by (first | (simp [put_at, put_none, fr0_at]; done) | rfl), by (first | (simp [put_at, put_none, fr0_at]; done) | rfl), by (first | (simp [put_at, put_none, fr0_at]; done) | rfl), by (first | (simp [put_at, put_none, fr0_at]; done) | rfl), by (first | (simp [put_at, put_none, fr0_at]; done) | rfl)⟩
 rintro c α G ⟨i, hic, hlow, h1, h5, h8, h9, h10⟩
 refine aw_seq ?_
 by_cases hi : i < l.length
 case neg =>
  (refine aw_ops (by kernel_rfl) (fun K hK => ?_); simp (disch := first | omega | (simp only [lnS]; try omega)) [-getElem?_pos, -getElem?_neg, h9, h10, hi]; refine hK _ _ ?_; clear hK K)
  refine aw_seq ?_
  refine aw_f (by (first | (simp [eval_tmp, put_at, hi]; done) | (simp [eval_tmp, put_at, hi]; omega))) (by kernel_rfl) ?_
  refine aw_exit ?_
  obtain rfl : i = l.length := by omega
  refine aw_seq ?_
  (refine aw_ops (by kernel_rfl) (fun K hK => ?_); simp (disch := first | omega | (simp only [lnS]; try omega)) [-getElem?_pos, -getElem?_neg, h5]; refine hK _ _ ?_; clear hK K)
  (refine aw_ret ?_; simp (disch := first | omega | (simp only [lnS]; try omega)) [-getElem?_pos, -getElem?_neg, thenQ_ret, scopeQ_ret, inBlockQ_ret, RQ, resL, resV])
 obtain ⟨j, q, bb, us, pv, wv', bv, qv, hx, hbb, hq, hcell, hus, hC⟩ := hat i _ (nd_get hi)
 have hbG : hget G j = some bb := (hlow.1 j (hget_lt hbb)).trans hbb
 have hul := hC.len
 have hle0 := hlow.2
 have c0 : us[32]? = some (.int .i64 (nd l i).op.author) := by
  have := hC.op.c0
  rwa [List.getElem?_take_of_lt (by omega), List.getElem?_drop] at this
 have hset2 : ∀ Z : List Value, Z.length = 104 → setR Z 0 us = us := fun Z hZ => setR_all _ _ (by omega)
 have hus' := hus.symm
 clear hus
 (refine aw_ops (by kernel_rfl) (fun K hK => ?_); simp (disch := first | omega | (simp only [lnS]; try omega)) [-getElem?_pos, -getElem?_neg, h9, h10, hi]; refine hK _ _ ?_; clear hK K)
 refine aw_seq ?_
 refine aw_t (by (first | (simp [eval_tmp, put_at, hi]; done) | (simp [eval_tmp, put_at, hi]; omega))) (by kernel_rfl) ?_
 refine aw_skip ?_
 refine aw_seq ?_
 refine aw_block ?_
 refine aw_seq ?_
 (refine aw_ops (by kernel_rfl) (fun K hK => ?_); simp (disch := first | omega | (simp only [lnS]; try omega)) [-getElem?_pos, -getElem?_neg, h8, h10, -notTuple, hnt, hvc, nt_intG, nt_aggG, -xindexAddr, hx, hbG, hus', hul, hq, hle0, hp0, all_zl, hset2]; refine hK _ _ ?_; clear hK K)
 obtain ⟨hlow2, hb2⟩ := boxed (H := G) us 50
 obtain ⟨g, hg⟩ : ∃ g, g = G.length := ⟨_, rfl⟩
 rw [← hg] at hb2 ⊢
 generalize G ++ [some ⟨us, 50, none⟩] = G2 at *
 have hlowG2 : Low H.length H G2 := ⟨fun j hj => (hlow2.1 j (by omega)).trans (hlow.1 j hj), by have := hlow2.2; omega⟩
 have hsu := autN_succ l i z
 have hal := autN_le l i z
 generalize autN l i z = an at *
 obtain ⟨x, hxa⟩ : ∃ x, x = (nd l i).op.author := ⟨_, rfl⟩
 rw [← hxa] at c0 hsu
 refine aw_seq ?_
 by_cases hxz : x = z
 ·have hxb : (x == z) = true := by simp [hxz]
  (refine aw_ops (by kernel_rfl) (fun K hK => ?_); simp (disch := first | omega | (simp only [lnS]; try omega)) [-getElem?_pos, -getElem?_neg, h1, hb2, hul, c0, hxz, hxb]; refine hK _ _ ?_; clear hK K)
  refine aw_t (by (first | (simp [eval_tmp, put_at]; done) | (simp [eval_tmp, put_at]; omega))) (by kernel_rfl) ?_
  (refine aw_ops (by kernel_rfl) (fun K hK => ?_); simp (disch := first | omega | (simp only [lnS]; try omega)) [-getElem?_pos, -getElem?_neg, h5]; refine hK _ _ ?_; clear hK K)
  (refine aw_ops (by kernel_rfl) (fun K hK => ?_); simp (disch := first | omega | (simp only [lnS]; try omega)) [-getElem?_pos, -getElem?_neg, h10]; refine hK _ _ ?_; clear hK K)
  exact ⟨c - 1, by omega, i + 1, by omega, hlowG2, by (first | (simp [put_at, put_none, fr0_at, h1]; done) | rfl), by rw [hsu, if_pos hxz]; (first | (simp [put_at, put_none, fr0_at]; done) | rfl), by (first | (simp [put_at, put_none, fr0_at, h8]; done) | rfl), by (first | (simp [put_at, put_none, fr0_at, h9]; done) | rfl), by (first | (simp [put_at, put_none, fr0_at]; done) | rfl)⟩
 ·have hxb : (x == z) = false := by simp [hxz]
  (refine aw_ops (by kernel_rfl) (fun K hK => ?_); simp (disch := first | omega | (simp only [lnS]; try omega)) [-getElem?_pos, -getElem?_neg, h1, hb2, hul, c0, hxz, hxb]; refine hK _ _ ?_; clear hK K)
  refine aw_f (by (first | (simp [eval_tmp, put_at]; done) | (simp [eval_tmp, put_at]; omega))) (by kernel_rfl) ?_
  refine aw_skip ?_
  (refine aw_ops (by kernel_rfl) (fun K hK => ?_); simp (disch := first | omega | (simp only [lnS]; try omega)) [-getElem?_pos, -getElem?_neg, h10]; refine hK _ _ ?_; clear hK K)
  exact ⟨c - 1, by omega, i + 1, by omega, hlowG2, by (first | (simp [put_at, put_none, fr0_at, h1]; done) | rfl), by rw [hsu, if_neg hxz]; (first | (simp [put_at, put_none, fr0_at, h5]; done) | rfl), by (first | (simp [put_at, put_none, fr0_at, h8]; done) | rfl), by (first | (simp [put_at, put_none, fr0_at, h9]; done) | rfl), by (first | (simp [put_at, put_none, fr0_at]; done) | rfl)⟩
end
section
attribute [local simp] wb_bool wb_undef with_lit XL_nil XL_cons XLc_val XLc_call step1_eq stepW_t stepW_f stepC_n stepC_s stepX_s stepX_n stepN_s calleeX xrecv oneV xop_eq xopR_s xopR_n wantedA_eq wantedG_n wantedG_s plain1_int plain1_bool plain1_string bits_i64 bits_u64 bits_u32 bits_u16 bits_u8 xeqA xagg xcmp xarr allK_iv num_iv calleeOf xread xeff xbin xint xnil xun xstr xload xconv xpart xfield xfieldAddr xindexAddr xindex bnd asInt? xslice xlen xmin xmax xbuild xfill xappend xapp2 xappstr xappmk xcap xcopy xcells eval_tmp eval_const put_at put_none fr0_at cells_agg cells_int cells_bool cells_string cells_ptr cells_slice notTuple tab iv_all hget_app hget_app0 hget_cons0 hget_cons set_app set_app0 setR setR_one QL_nil QL_cons QLc_val stepQ_t stepQ_f stepQC_n stepQC_s stepQX_s SL_nil SL_cons SLc_val stepS_t stepS_f ltT ltF leT leF eqT eqF ltTn ltFn leTn leFn eqTn eqFn beqT beqF bneT bneF wi64 wu64 wu32 wu16 wu8 tmodP tdivP hgetL hgetNe hgetEq setL nums_def nums_len Nat.succ_le_of_lt List.getElem?_cons_zero List.getElem?_cons_succ Option.getD_some Int.toNat_add Int.toNat_mul agM okM agB agI agS agP agL agA okB okI okS okP okSl okA
theorem find1_rc {nro : Nat} {γ : Nat → Option Nat} {G : AH} {us : List Value} {x : NodeD} {id : List Int} {g : Nat} (hul : us.length = 104) (hid : us.take 32 = iv .u8 x.id) (hxl : x.id.length = 32) (hil : id.length = 32) (hg : hget G g = some ⟨iv .u8 id, 38, none⟩) :
  AC Try.prog nro γ 130 #[.agg us.toArray, .pointer (some ⟨g, 0, none⟩)] G (fun v' H' => Low G.length G H' ∧ v' = .bool (decide (x.id = id))) := by
 have hgl := hget_lt hg
 have hivl : (iv .u8 id).length = 32 := by rw [iv_length, hil]
 have hta : (iv .u8 id).take 32 = iv .u8 id := List.take_of_length_le (by omega)
 have hivx : (iv .u8 x.id).length = 32 := by rw [iv_length, hxl]
 refine ac_of_aw Try.func130 rfl Try.ntmps130 Try.results130 (by simp) ?_
 refine aw_seq ?_
 (refine aw_ops (by kernel_rfl) (fun K hK => ?_); simp (disch := first | omega | (simp only [lnS]; try omega)) [-getElem?_pos, -getElem?_neg, hul]; refine hK _ _ ?_; clear hK K)
 obtain ⟨hlow2, hb2⟩ := boxed (H := G) us 50
 obtain ⟨b, hb⟩ : ∃ b, b = G.length := ⟨_, rfl⟩
 have hg2 := hget_left' (L := [some ⟨us, 50, none⟩]) hg
 rw [← hb] at hb2 ⊢
 generalize G ++ [some ⟨us, 50, none⟩] = G2 at *
 refine aw_seq ?_
 (refine aw_ops (by kernel_rfl) (fun K hK => ?_); simp (disch := first | omega | (simp only [lnS]; try omega)) [-getElem?_pos, -getElem?_neg, hb2, hul, hid, hivx, hg2, hta, hivl, nt_aggG]; refine hK _ _ ?_; clear hK K)
 have hd : decide (x.id = id) = (x.id == id) := by rw [Bool.eq_iff_iff]; simp
 rw [hd]
 (refine aw_ret ?_; simp (disch := first | omega | (simp only [lnS]; try omega)) [-getElem?_pos, -getElem?_neg, thenQ_ret, scopeQ_ret, inBlockQ_ret, RQ, resL, resV])
 all_goals (subst hb; exact hlow2)
theorem find1_callable : callable Try.prog 130 = true := by kernel_rfl
theorem indexFn_rc {γ : Nat → Option Nat} {H : AH} {nv : Value} {l : List NodeD} (hN : NdA H nv l) (hl : l.length ≤ maxLen) {f : Nat} {cs : Array Value} {p : Nat → Bool} (hcal : callable Try.prog f = true)
  (hf : ∀ (G : AH) (i : Nat) (us : List Value) (pv wv bv qv : Value), Low H.length H G → i < l.length → us.length = 104 → NodeC H us (nd l i) pv wv bv qv → AC Try.prog G.length γ f (#[.agg us.toArray] ++ cs) G (fun v' _ => v' = .bool (p i))) :
  AC Try.prog H.length γ 129 #[nv, .func (.func f) #[] cs] H (fun v' _ => v' = .int .i64 (firstI l.length p)) := by
 obtain ⟨hnt, hvc, hxl, hwf, hat⟩ := hN
 have hm63 : l.length ≤ 9223372036854775807 := by simp only [maxLen] at hl; omega
 have hfn : notTuple (.func (.func f) #[] cs) = true := rfl
 have hfc : (Value.func (.func f) #[] cs).cells = #[.func (.func f) #[] cs] := rfl
 refine ac_of_aw Try.func129 rfl Try.ntmps129 Try.results129 (by simp) ?_
 refine aw_seq ?_
 (refine aw_ops (by kernel_rfl) (fun K hK => ?_); simp (disch := first | omega | (simp only [lnS]; try omega)) [-getElem?_pos, -getElem?_neg]; refine hK _ _ ?_; clear hK K)
 refine aw_seq ?_
 refine aw_seq ?_
 (refine aw_ops (by kernel_rfl) (fun K hK => ?_); simp (disch := first | omega | (simp only [lnS]; try omega)) [-getElem?_pos, -getElem?_neg, -notTuple, hnt, hvc, nt_intG, -xlen, hxl]; refine hK _ _ ?_; clear hK K)
 refine aw_block ?_
 refine aw_loop (fun c α G => ∃ i : Nat, i + c = l.length ∧ Low H.length H G ∧ α 0 = nv ∧ α 1 = .func (.func f) #[] cs ∧ α 7 = .int .i64 (l.length : Nat) ∧ α 8 = .int .i64 (i : Nat) ∧ ∀ k, k < i → p k = false) l.length ?_ ?_
 ·exact ⟨0, by omega, Low.refl (Nat.le_refl _), by (first | (simp [put_at, put_none, fr0_at]; done) | rfl), by (first | (simp [put_at, put_none, fr0_at]; done) | rfl), by (first | (simp [put_at, put_none, fr0_at]; done) | rfl), by (first | (simp [put_at, put_none, fr0_at]; done) | rfl), fun k hk => by omega⟩
 rintro c α G ⟨i, hic, hlow, h0, h1, h7, h8, hpre⟩
 refine aw_seq ?_
 by_cases hi : i < l.length
 case neg =>
  (refine aw_ops (by kernel_rfl) (fun K hK => ?_); simp (disch := first | omega | (simp only [lnS]; try omega)) [-getElem?_pos, -getElem?_neg, h7, h8, hi]; refine hK _ _ ?_; clear hK K)
  refine aw_seq ?_
  refine aw_f (by (first | (simp [eval_tmp, put_at, hi]; done) | (simp [eval_tmp, put_at, hi]; omega))) (by kernel_rfl) ?_
  refine aw_exit ?_
  refine aw_seq ?_
  (refine aw_ops (by kernel_rfl) (fun K hK => ?_); simp (disch := first | omega | (simp only [lnS]; try omega)) [-getElem?_pos, -getElem?_neg]; refine hK _ _ ?_; clear hK K)
  (refine aw_ret ?_; simp (disch := first | omega | (simp only [lnS]; try omega)) [-getElem?_pos, -getElem?_neg, thenQ_ret, scopeQ_ret, inBlockQ_ret, RQ, resL, resV])
  exact (firstI_none (fun k hk => hpre k (by omega))).symm
 obtain ⟨j, q, bb, us, pv, wv', bv, qv, hx, hbb, hq, hcell, hus, hC⟩ := hat i _ (nd_get hi)
 have hbG : hget G j = some bb := (hlow.1 j (hget_lt hbb)).trans hbb
 have hul := hC.len
 have hus' := hus.symm
 clear hus
 have hc := hf G i us pv wv' bv qv hlow hi hul hC
 (refine aw_ops (by kernel_rfl) (fun K hK => ?_); simp (disch := first | omega | (simp only [lnS]; try omega)) [-getElem?_pos, -getElem?_neg, h7, h8, hi]; refine hK _ _ ?_; clear hK K)
 refine aw_seq ?_
 refine aw_t (by (first | (simp [eval_tmp, put_at, hi]; done) | (simp [eval_tmp, put_at, hi]; omega))) (by kernel_rfl) ?_
 refine aw_skip ?_
 refine aw_seq ?_
 refine aw_block ?_
 refine aw_seq ?_
 (refine aw_ops (by kernel_rfl) (fun K hK => ?_); simp (disch := first | omega | (simp only [lnS]; try omega)) [-getElem?_pos, -getElem?_neg, h8]; refine hK _ _ ?_; clear hK K)
 refine aw_seq ?_
 refine aw_ops (by kernel_rfl) (fun K hK => ?_)
 simp (disch := first | omega | (simp only [lnS]; try omega)) [-getElem?_pos, -getElem?_neg, h0, h1, -notTuple, hnt, hvc, hfn, hfc, nt_intG, nt_aggG, -xindexAddr, hx, hbG, hus', hul, hq]
 refine ⟨hcal, ac_of_rc hc (by simp [pv_iv, pv_int, pv_bool, pv_string, pv_tup2, pv_tup3, iv_plain, p2_int, p2_bool, p2_string]) ?_⟩
 cases hp : p i with
 | true =>
  try simp (disch := first | omega | (simp only [lnS]; try omega)) [-getElem?_pos, -getElem?_neg]
  refine hK _ _ ?_; clear hK K
  refine aw_t (by (first | (simp [eval_tmp, put_at]; done) | (simp [eval_tmp, put_at]; omega))) (by kernel_rfl) ?_
  refine aw_seq ?_
  (refine aw_ops (by kernel_rfl) (fun K hK => ?_); simp (disch := first | omega | (simp only [lnS]; try omega)) [-getElem?_pos, -getElem?_neg]; refine hK _ _ ?_; clear hK K)
  (refine aw_ret ?_; simp (disch := first | omega | (simp only [lnS]; try omega)) [-getElem?_pos, -getElem?_neg, thenQ_ret, scopeQ_ret, inBlockQ_ret, RQ, resL, resV])
  exact (firstI_some hi hpre hp).symm
 | false =>
  try simp (disch := first | omega | (simp only [lnS]; try omega)) [-getElem?_pos, -getElem?_neg]
  refine hK _ _ ?_; clear hK K
  refine aw_f (by (first | (simp [eval_tmp, put_at]; done) | (simp [eval_tmp, put_at]; omega))) (by kernel_rfl) ?_
  refine aw_skip ?_
  (refine aw_ops (by kernel_rfl) (fun K hK => ?_); simp (disch := first | omega | (simp only [lnS]; try omega)) [-getElem?_pos, -getElem?_neg, h8]; refine hK _ _ ?_; clear hK K)
  refine ⟨c - 1, by omega, i + 1, by omega, hlow, by (first | (simp [put_at, put_none, fr0_at, h0]; done) | rfl), by (first | (simp [put_at, put_none, fr0_at, h1]; done) | rfl), by (first | (simp [put_at, put_none, fr0_at, h7]; done) | rfl), by (first | (simp [put_at, put_none, fr0_at]; done) | rfl), fun k hk => ?_⟩
  by_cases e : k = i
  ·subst e; exact hp
  ·exact hpre k (by omega)
def findI (l : List NodeD) (n : Nat) (id : List Int) : Int := match findN l n id with | some a => (a : Nat) | none => -1
theorem findI_first (l : List NodeD) (n : Nat) (id : List Int) : findI l n id = firstI n fun a => decide ((nd l a).id = id) := by
 have : (fun a => decide ((nd l a).id = id)) = fun a => (nd l a).id == id := by
  funext a
  rw [Bool.eq_iff_iff]; simp
 rw [this]
 rfl
theorem find_rc {γ : Nat → Option Nat} {H : AH} {nv : Value} {l : List NodeD} (hN : NdA H nv l) (hl : l.length ≤ maxLen) {id : List Int} (hil : id.length = 32) : AC Try.prog H.length γ 78 #[nv, .agg (iv .u8 id).toArray] H (fun v' _ => v' = .int .i64 (findI l l.length id)) := by
 have hnt := hN.nt
 have hvc := hN.cs
 have hivl : (iv .u8 id).length = 32 := by rw [iv_length, hil]
 refine ac_of_aw Try.func78 rfl Try.ntmps78 Try.results78 (by simp) ?_
 refine aw_seq ?_
 (refine aw_ops (by kernel_rfl) (fun K hK => ?_); simp (disch := first | omega | (simp only [lnS]; try omega)) [-getElem?_pos, -getElem?_neg, hivl]; refine hK _ _ ?_; clear hK K)
 obtain ⟨hlow2, hb2⟩ := boxed (H := H) (iv .u8 id) 38
 generalize H ++ [some ⟨iv .u8 id, 38, none⟩] = G at *
 have hNG : NdA G nv l := ⟨hN.nt, hN.cs, hN.len, hN.wf, fun i x hx => by
  obtain ⟨j, q, bb, us, pv, wv', bv, qv, h1, h2, h3, h4, h5, h6⟩ := hN.at_ i x hx
  exact ⟨j, q, bb, us, pv, wv', bv, qv, h1, (hlow2.1 j (hget_lt h2)).trans h2, h3, h4, h5, h6.low hlow2.1⟩⟩
 have hix := indexFn_rc (γ := γ) hNG hl (f := 130) (cs := #[.pointer (some ⟨H.length, 0, none⟩)]) (p := fun a => decide ((nd l a).id = id)) find1_callable (fun G2 i us pv wv' bv qv hg hi hul hC => (find1_rc (nro := G2.length) (γ := γ) hul hC.id (hN.wf _ (List.mem_of_getElem? (nd_get hi))).id.1 hil ((hg.1 _ (hget_lt hb2)).trans hb2)).mono (fun v' H' h => h.2))
 rw [← findI_first] at hix
 refine aw_seq ?_
 refine aw_ops (by kernel_rfl) (fun K hK => ?_)
 simp (disch := first | omega | (simp only [lnS]; try omega)) [-getElem?_pos, -getElem?_neg, -notTuple, hnt, hvc, nt_intG]
 refine ⟨by kernel_rfl, ac_of_rc hix (by simp [pv_iv, pv_int, pv_bool, pv_string, pv_tup2, pv_tup3, iv_plain, p2_int, p2_bool, p2_string]) ?_⟩
 try simp (disch := first | omega | (simp only [lnS]; try omega)) [-getElem?_pos, -getElem?_neg]
 refine hK _ _ ?_; clear hK K
 (refine aw_ret ?_; simp (disch := first | omega | (simp only [lnS]; try omega)) [-getElem?_pos, -getElem?_neg, thenQ_ret, scopeQ_ret, inBlockQ_ret, RQ, resL, resV])
end
section
def OwnF (H : AH) (v : Value) (e : TypeId) (sz : Nat) (cells : List Value) (F : List Nat) : Prop :=
 (v = .slice none 0 0 ∧ cells = [] ∧ F = []) ∨ ∃ j len, v = .slice (some ⟨j, 0, none⟩) len len ∧ hget H j = some ⟨cells, e, some sz⟩ ∧ cells.length = len * sz ∧ F = [j]
theorem OwnF.low {H H' : AH} {v : Value} {e : TypeId} {sz : Nat} {cells : List Value} {F : List Nat} (h : OwnF H v e sz cells F) (hl : ∀ j ∈ F, hget H' j = hget H j) : OwnF H' v e sz cells F := by
 rcases h with h | ⟨j, len, h1, h2, h3, rfl⟩
 ·exact .inl h
 ·exact .inr ⟨j, len, h1, by rw [hl j (by simp)]; exact h2, h3, rfl⟩
theorem OwnF.len {P : Program} {H : AH} {v : Value} {e t : TypeId} {sz : Nat} {cells : List Value} {F : List Nat} (h : OwnF H v e sz cells F) (ht : und P t = .slice e) {n : Nat} (hn : cells.length = n * sz) (h0 : 0 < sz) : xlen P t v = some (.int .i64 n) := by
 rcases h with ⟨rfl, rfl, rfl⟩ | ⟨j, len, rfl, h2, h3, rfl⟩
 ·have : n = 0 := by
   have : n * sz = 0 := hn.symm
   rcases Nat.mul_eq_zero.1 this with h | h <;> omega
  subst this
  simp [xlen, ht]
 ·have : len = n := Nat.eq_of_mul_eq_mul_right h0 (h3.symm.trans hn)
  subst this
  simp [xlen, ht]
theorem ownF_append {P : Program} {nro : Nat} {t e : TypeId} {H : AH} {v x : Value} {sz : Nat} {cells news : List Value} {F : List Nat} (hu : und P t = .slice e) (hs : szt P e = sz) (h0 : 0 < sz) (hz : (zer P e).map (·.cells.size) = some sz)
  (hv : OwnF H v e sz cells F) (hnro : ∀ j ∈ F, nro ≤ j) (hstr : ∀ s, x ≠ .string s) (hx : xcells sz x H = some news) (hn : news ≠ []) (hd : news.length % sz = 0) (hb : (cells.length + news.length) * byt P e ≤ 140737488355328) (hm : cells.length + news.length ≤ maxLen) :
  ∃ v' H', xappend P nro t v x H = some (v', H') ∧ OwnF H' v' e sz (cells ++ news) [H.length] ∧ H'.length = H.length + 1 ∧ ∀ j, j < H.length → j ∉ F → hget H' j = hget H j := by
 subst hs
 have hdm : news.length / szt P e * szt P e = news.length := Nat.div_mul_cancel (Nat.dvd_of_mod_eq_zero hd)
 rcases hv with ⟨rfl, rfl, rfl⟩ | ⟨j, len, rfl, h3, h4, rfl⟩
 ·refine ⟨.slice (some ⟨H.length, 0, none⟩) (news.length / szt P e) (news.length / szt P e), H ++ [some ⟨news, e, some (szt P e)⟩], ?_, .inr ⟨H.length, news.length / szt P e, rfl, ?_, ?_, rfl⟩, by simp, fun i hi _ => hget_left hi⟩
  ·simp only [List.length_nil, Nat.zero_add] at hb hm
   unfold xappend
   cases x <;> first | (exact absurd rfl (hstr _)) | (simp only [hu, hx]; rw [if_pos ⟨h0, hz, hb, hm⟩, if_neg hn])
  ·rw [hget_app0, hget_cons0]; rfl
  ·rw [hdm]; rfl
 ·have hj := hget_lt h3
  refine ⟨.slice (some ⟨H.length, 0, none⟩) (len + news.length / szt P e) (len + news.length / szt P e), H.set j none ++ [some ⟨cells ++ news, e, some (szt P e)⟩], ?_, .inr ⟨H.length, len + news.length / szt P e, rfl, ?_, ?_, rfl⟩, by simp, fun i hi hni => ?_⟩
  ·have hc : True ∧ 0 < szt P e ∧ (zer P e).map (·.cells.size) = some (szt P e) ∧ nro ≤ j ∧ True ∧ True ∧ len * szt P e ≤ cells.length ∧ (len * szt P e + news.length) * byt P e ≤ 140737488355328 ∧ len * szt P e + news.length ≤ maxLen :=
    ⟨trivial, h0, hz, hnro j (by simp), trivial, trivial, by omega, by rw [← h4]; exact hb, by rw [← h4]; exact hm⟩
   unfold xappend
   cases x <;> first | (exact absurd rfl (hstr _)) | (simp only [hu, hx, h3]; rw [if_pos hc, ← h4, List.take_length])
  ·have : (H.set j none).length = H.length := by simp
   rw [← this, hget_app0, hget_cons0]
  ·rw [List.length_append, Nat.add_mul, ← h4, hdm]
  ·rw [hget_left (by simp; omega), hget_set_ne (fun e => hni (by simp [e]))]
theorem OwnF.new {H : AH} {v : Value} {e : TypeId} {sz j : Nat} {cells : List Value} (h : OwnF H v e sz cells [j]) : ∃ len, v = .slice (some ⟨j, 0, none⟩) len len := by
 rcases h with ⟨_, _, h⟩ | ⟨i, len, rfl, _, _, h⟩
 ·cases h
 ·cases h; exact ⟨len, rfl⟩
theorem OwnF.lt {H : AH} {v : Value} {e : TypeId} {sz : Nat} {cells : List Value} {F : List Nat} (h : OwnF H v e sz cells F) : ∀ j ∈ F, j < H.length := by
 rcases h with ⟨_, _, rfl⟩ | ⟨i, len, _, h2, _, rfl⟩
 ·intro j hj; cases hj
 ·intro j hj; rw [List.mem_singleton] at hj; subst hj; exact hget_lt h2
end
section
def mE (L : List Int) : List (Value × Value) := L.map fun z => (.int .i64 z, .agg #[])
theorem mfind_mE (z : Int) (L : List Int) : (z ∉ L ∧ mfind (.int .i64 z) (mE L) = none) ∨ (z ∈ L ∧ ∃ i, i < L.length ∧ L[i]? = some z ∧ mfind (.int .i64 z) (mE L) = some i) := by
 induction L with
 | nil => exact .inl ⟨by simp, rfl⟩
 | cons y L ih =>
  show _ ∨ (_ ∧ ∃ i, _ ∧ _ ∧ (if keyEq (.int .i64 z) (.int .i64 y) = true then some 0 else (mfind (.int .i64 z) (mE L)).map (· + 1)) = some i)
  have hk : keyEq (.int .i64 z) (.int .i64 y) = (z == y) := rfl
  have hm : mfind (.int .i64 z) (mE (y :: L)) = if keyEq (.int .i64 z) (.int .i64 y) = true then some 0 else (mfind (.int .i64 z) (mE L)).map (· + 1) := rfl
  rw [hm, hk]
  by_cases e : z = y
  ·subst e
   exact .inr ⟨by simp, 0, by simp, rfl, by simp⟩
  ·have hb : (z == y) = false := by simpa using e
   rw [hb]
   rcases ih with ⟨h1, h2⟩ | ⟨h1, i, h2, h3, h4⟩
   ·exact .inl ⟨by simp [e, h1], by rw [h2]; rfl⟩
   ·exact .inr ⟨by simp [h1], i + 1, by simp; omega, h3, by rw [h4]; rfl⟩
theorem mput_mE (z : Int) (L : List Int) : ∃ L', mput (.int .i64 z) (.agg #[]) (mE L) = mE L' ∧ ∀ y, y ∈ L' ↔ y ∈ L ∨ y = z := by
 rcases mfind_mE z L with ⟨h1, h2⟩ | ⟨h1, i, h2, h3, h4⟩
 ·exact ⟨L ++ [z], by unfold mput; rw [h2]; simp [mE], by simp⟩
 ·refine ⟨L, ?_, fun y => ⟨Or.inl, fun h => h.elim id (fun e => e ▸ h1)⟩⟩
  simp only [mput, h4]
  refine List.ext_getElem? fun n => ?_
  rw [List.getElem?_set]
  by_cases e : i = n
  ·subst e
   have := (List.getElem?_eq_some_iff.1 h3).2
   simp [mE, h2, this]
  ·simp [e]
theorem mget_mE (z : Int) (L : List Int) : mget (.int .i64 z) (mE L) = if z ∈ L then some (.agg #[]) else none := by
 unfold mget
 rcases mfind_mE z L with ⟨h1, h2⟩ | ⟨h1, i, h2, h3, h4⟩
 ·rw [h2, if_neg h1]; rfl
 ·rw [h4, if_pos h1]
  simp [mE, h3]
theorem mE_ok (L : List Int) : mapOk Try.prog 3 (mE L) = true := by
 have h2 : und Try.prog 3 = .int .i64 := by kernel_rfl
 unfold mapOk mE
 rw [List.all_map]
 refine List.all_eq_true.2 fun z _ => ?_
 show keyOk Try.prog 3 (.int .i64 z) = true
 unfold keyOk
 simp only [h2]
 rfl
theorem int_ok (z : Int) : keyOk Try.prog 3 (.int .i64 z) = true := by
 have h2 : und Try.prog 3 = .int .i64 := by kernel_rfl
 unfold keyOk
 simp only [h2]
 rfl
theorem set_make (H : AH) : xmakeMap Try.prog 155 none H = some (.map (some H.length), H ++ [some (mblk 155 (mE []))]) := by
 have h1 : und Try.prog 155 = .map 3 156 := by kernel_rfl
 unfold xmakeMap
 simp only [h1]
 rfl
theorem set_put {nro : Nat} {H : AH} {mi : Nat} {L : List Int} (hm : hget H mi = some (mblk 155 (mE L))) (hn : nro ≤ mi) (z : Int) : ∃ L', (∀ y, y ∈ L' ↔ y ∈ L ∨ y = z) ∧ xmapUpd Try.prog nro 155 (.map (some mi)) (.int .i64 z) (.agg #[]) H = some (undef, H.set mi (some (mblk 155 (mE L')))) := by
 have h1 : und Try.prog 155 = .map 3 156 := by kernel_rfl
 obtain ⟨L', e, hL⟩ := mput_mE z L
 refine ⟨L', hL, ?_⟩
 unfold xmapUpd
 simp only [h1, hm, ents_mblk, int_ok, mE_ok]
 rw [if_pos ⟨hn, trivial, trivial, rfl⟩, mblk_ty, e]
theorem set_look {H : AH} {mi : Nat} {L : List Int} (hm : hget H mi = some (mblk 155 (mE L))) (z : Int) : xlookup Try.prog 155 (.map (some mi)) (.int .i64 z) true H = some (.tuple #[.agg #[], .bool (decide (z ∈ L))]) := by
 have h1 : und Try.prog 155 = .map 3 156 := by kernel_rfl
 have h4 : zer Try.prog 156 = some (.agg #[]) := by kernel_rfl
 have h5 : plain2 (.agg #[]) = true := by simp [plain2]
 unfold xlookup
 simp only [h1, hm, Option.bind_some, ents_mblk, int_ok, mE_ok, mget_mE]
 by_cases h : z ∈ L
 ·simp [h]
 ·simp [h, h4, h5]
def inZ (l : List NodeD) (n : Nat) (ps : List (List Int)) (y : Int) : Prop := ∃ p ∈ ps, ∃ a, findN l n p = some a ∧ (y = (a : Int) ∨ y ∈ (nd l a).past)
theorem inZ_app {l : List NodeD} {n : Nat} {ps : List (List Int)} {p : List Int} {a : Nat} (hf : findN l n p = some a) (y : Int) : inZ l n (ps ++ [p]) y ↔ inZ l n ps y ∨ y = (a : Int) ∨ y ∈ (nd l a).past := by
 unfold inZ
 constructor
 ·rintro ⟨q, hq, b, hb, h⟩
  rw [List.mem_append, List.mem_singleton] at hq
  rcases hq with hq | rfl
  ·exact .inl ⟨q, hq, b, hb, h⟩
  ·rw [hf] at hb
   cases hb
   exact .inr h
 ·rintro (⟨q, hq, b, hb, h⟩ | h)
  ·exact ⟨q, by simp [hq], b, hb, h⟩
  ·exact ⟨p, by simp, a, hf, h⟩
theorem inZ_B {l : List NodeD} {n : Nat} {ps : List (List Int)} {k : Nat} : inB l n ps k = true ↔ inZ l n ps (k : Int) := by
 unfold inB inZ
 rw [List.any_eq_true]
 refine exists_congr fun p => ?_
 refine and_congr_right fun _ => ?_
 cases hf : findN l n p with
 | none => simp
 | some a =>
  simp only [Bool.or_eq_true, decide_eq_true_eq, Option.some.injEq, exists_eq_left']
  refine or_congr ?_ Iff.rfl
  omega
theorem pastL_succ (l : List NodeD) (n t : Nat) (ps : List (List Int)) : (((List.range (t + 1)).filter (inB l n ps)).map fun k : Nat => (k : Int)) = (((List.range t).filter (inB l n ps)).map fun k : Nat => (k : Int)) ++ (if inB l n ps t = true then [(t : Int)] else []) := by
 rw [List.range_succ, List.filter_append, List.map_append]
 by_cases h : inB l n ps t = true
 ·simp [h]
 ·simp [h]
theorem NdA.lowG {H G : AH} {nv : Value} {l : List NodeD} (hN : NdA H nv l) (hlow : Low H.length H G) : NdA G nv l := ⟨hN.nt, hN.cs, hN.len, hN.wf, fun i x hx => by
 obtain ⟨j, q, bb, us, pv, wv', bv, qv, h1, h2, h3, h4, h5, h6⟩ := hN.at_ i x hx
 exact ⟨j, q, bb, us, pv, wv', bv, qv, h1, (hlow.1 j (hget_lt h2)).trans h2, h3, h4, h5, h6.low hlow.1⟩⟩
def PastQ (l : List NodeD) (ps : List (List Int)) (H : AH) (v' : Value) (H' : AH) : Prop :=
 Low H.length H H' ∧ ((ps.all (fun p => (findN l l.length p).isSome) = true ∧ ∃ sv F, v' = .tuple #[sv, .int .i64 0] ∧ OwnF H' sv 3 1 (iv .i64 (pastL l l.length ps)) F ∧ ∀ j ∈ F, H.length ≤ j) ∨ (ps.all (fun p => (findN l l.length p).isSome) = false ∧ v' = .tuple #[.slice none 0 0, .int .i64 14]))
attribute [local simp] wb_bool wb_undef with_lit XL_nil XL_cons XLc_val XLc_call step1_eq stepW_t stepW_f stepC_n stepC_s stepX_s stepX_n stepN_s calleeX xrecv oneV xop_eq xopR_s xopR_n wantedA_eq wantedG_n wantedG_s plain1_int plain1_bool plain1_string bits_i64 bits_u64 bits_u32 bits_u16 bits_u8 xeqA xagg xcmp xarr allK_iv num_iv calleeOf xread xeff xbin xint xnil xun xstr xload xconv xpart xfield xfieldAddr xindexAddr xindex bnd asInt? xslice xlen xmin xmax xbuild xfill xappend xapp2 xappstr xappmk xcap xcopy xcells eval_tmp eval_const put_at put_none fr0_at cells_agg cells_int cells_bool cells_string cells_ptr cells_slice notTuple tab iv_all hget_app hget_app0 hget_cons0 hget_cons set_app set_app0 setR setR_one QL_nil QL_cons QLc_val stepQ_t stepQ_f stepQC_n stepQC_s stepQX_s SL_nil SL_cons SLc_val stepS_t stepS_f ltT ltF leT leF eqT eqF ltTn ltFn leTn leFn eqTn eqFn beqT beqF bneT bneF wi64 wu64 wu32 wu16 wu8 tmodP tdivP hgetL hgetNe hgetEq setL nums_def nums_len Nat.succ_le_of_lt List.getElem?_cons_zero List.getElem?_cons_succ Option.getD_some Int.toNat_add Int.toNat_mul agM okM agB agI agS agP agL agA okB okI okS okP okSl okA
theorem pastF_rc {γ : Nat → Option Nat} {H : AH} {nv pv : Value} {l : List NodeD} {ps : List (List Int)} (hN : NdA H nv l) (hl : l.length ≤ 96) (hP : KsV H pv ps) (hpk : ∀ k ∈ ps, k.length = 32) (hpm : ps.length ≤ maxLen) : AC Try.prog H.length γ 79 #[nv, pv] H (PastQ l ps H) := by
 have hN' := hN
 obtain ⟨hnt, hvc, hxl, hwf, hat⟩ := hN
 have hacc := hP.acc hpk
 have hm63 : ps.length ≤ 9223372036854775807 := by simp only [maxLen] at hpm; omega
 have hset := set_make H
 have hntm : notTuple (.map (some H.length)) = true := rfl
 have hmc : (Value.map (some H.length)).cells = #[.map (some H.length)] := rfl
 refine ac_of_aw Try.func79 rfl Try.ntmps79 Try.results79 (by simp) ?_
 refine aw_seq ?_
 (refine aw_ops (by kernel_rfl) (fun K hK => ?_); simp (disch := first | omega | (simp only [lnS]; try omega)) [-getElem?_pos, -getElem?_neg]; refine hK _ _ ?_; clear hK K)
 refine aw_seq ?_
 (refine aw_ops (by kernel_rfl) (fun K hK => ?_); simp (disch := first | omega | (simp only [lnS]; try omega)) [-getElem?_pos, -getElem?_neg, hset, hntm, hmc]; refine hK _ _ ?_; clear hK K)
 obtain ⟨hlow0, hm0⟩ : Low H.length H (H ++ [some (mblk 155 (mE []))]) ∧ hget (H ++ [some (mblk 155 (mE []))]) H.length = some (mblk 155 (mE [])) := ⟨Low.push (Nat.le_refl _) _, by rw [hget_app0]; rfl⟩
 generalize H ++ [some (mblk 155 (mE []))] = G0 at *
 refine aw_seq ?_
 refine aw_seq ?_
 (refine aw_ops (by kernel_rfl) (fun K hK => ?_); simp (disch := first | omega | (simp only [lnS]; try omega)) [-getElem?_pos, -getElem?_neg, -notTuple, hacc.nt, hacc.cs, nt_intG, -xlen, hacc.len]; refine hK _ _ ?_; clear hK K)
 refine aw_block ?_
 refine aw_loop (fun c α G => ∃ (t : Nat) (L : List Int), t + c = ps.length ∧ α 0 = nv ∧ α 6 = .map (some H.length) ∧ α 17 = pv ∧ α 18 = .int .i64 (ps.length : Nat) ∧ α 19 = .int .i64 (t : Nat) ∧ Low H.length H G ∧ hget G H.length = some (mblk 155 (mE L)) ∧ (ps.take t).all (fun p => (findN l l.length p).isSome) = true ∧ ∀ y, y ∈ L ↔ inZ l l.length (ps.take t) y) ps.length ?_ ?_
 ·exact ⟨0, [], by omega, by (first | (simp [put_at, put_none, fr0_at]; done) | rfl), by (first | (simp [put_at, put_none, fr0_at]; done) | rfl), by (first | (simp [put_at, put_none, fr0_at]; done) | rfl), by (first | (simp [put_at, put_none, fr0_at]; done) | rfl), by (first | (simp [put_at, put_none, fr0_at]; done) | rfl), hlow0, hm0, rfl, fun y => ⟨fun h => (by cases h), fun ⟨p, hp, _⟩ => (by cases hp)⟩⟩
 rintro c α G ⟨t, L, htc, h0, h6, h17, h18, h19, hlow, hm, hall, hL⟩
 refine aw_seq ?_
 by_cases ht : t < ps.length
 case neg =>
  (refine aw_ops (by kernel_rfl) (fun K hK => ?_); simp (disch := first | omega | (simp only [lnS]; try omega)) [-getElem?_pos, -getElem?_neg, h18, h19, ht]; refine hK _ _ ?_; clear hK K)
  refine aw_seq ?_
  refine aw_f (by (first | (simp [eval_tmp, put_at, ht]; done) | (simp [eval_tmp, put_at, ht]; omega))) (by kernel_rfl) ?_
  refine aw_exit ?_
  obtain rfl : t = ps.length := by omega
  rw [List.take_length] at hall hL
  refine aw_seq ?_
  (refine aw_ops (by kernel_rfl) (fun K hK => ?_); simp (disch := first | omega | (simp only [lnS]; try omega)) [-getElem?_pos, -getElem?_neg]; refine hK _ _ ?_; clear hK K)
  refine aw_seq ?_
  refine aw_seq ?_
  (refine aw_ops (by kernel_rfl) (fun K hK => ?_); simp (disch := first | omega | (simp only [lnS]; try omega)) [-getElem?_pos, -getElem?_neg, h0, -notTuple, hnt, hvc, nt_intG, -xlen, hxl]; refine hK _ _ ?_; clear hK K)
  refine aw_block ?_
  refine aw_loop (fun c2 α G => ∃ (i : Nat) (v : Value) (F : List Nat), i + c2 = l.length ∧ α 6 = .map (some H.length) ∧ α 12 = v ∧ α 47 = .int .i64 (l.length : Nat) ∧ α 48 = .int .i64 (i : Nat) ∧ Low H.length H G ∧ hget G H.length = some (mblk 155 (mE L)) ∧ OwnF G v 3 1 (iv .i64 (((List.range i).filter (inB l l.length ps)).map fun k : Nat => (k : Int))) F ∧ ∀ j ∈ F, H.length < j) l.length ?_ ?_
  ·exact ⟨0, .slice none 0 0, [], by omega, by (first | (simp [put_at, put_none, fr0_at, h6]; done) | rfl), by (first | (simp [put_at, put_none, fr0_at]; done) | rfl), by (first | (simp [put_at, put_none, fr0_at]; done) | rfl), by (first | (simp [put_at, put_none, fr0_at]; done) | rfl), hlow, hm, .inl ⟨rfl, rfl, rfl⟩, fun j hj => by cases hj⟩
  rintro c2 α G ⟨i, v, F, hic, h6, h12, h47, h48, hlow, hm, hown, hF⟩
  have hvs : notTuple v = true ∧ v.cells = #[v] := by
   rcases hown with ⟨rfl, _, _⟩ | ⟨j, n, rfl, _⟩ <;> exact ⟨rfl, rfl⟩
  obtain ⟨v1, v2⟩ := hvs
  refine aw_seq ?_
  by_cases hi : i < l.length
  case neg =>
   (refine aw_ops (by kernel_rfl) (fun K hK => ?_); simp (disch := first | omega | (simp only [lnS]; try omega)) [-getElem?_pos, -getElem?_neg, h47, h48, hi]; refine hK _ _ ?_; clear hK K)
   refine aw_seq ?_
   refine aw_f (by (first | (simp [eval_tmp, put_at, hi]; done) | (simp [eval_tmp, put_at, hi]; omega))) (by kernel_rfl) ?_
   refine aw_exit ?_
   obtain rfl : i = l.length := by omega
   refine aw_seq ?_
   (refine aw_ops (by kernel_rfl) (fun K hK => ?_); simp (disch := first | omega | (simp only [lnS]; try omega)) [-getElem?_pos, -getElem?_neg, h12, -notTuple, v1, v2, nt_intG]; refine hK _ _ ?_; clear hK K)
   (refine aw_ret ?_; simp (disch := first | omega | (simp only [lnS]; try omega)) [-getElem?_pos, -getElem?_neg, thenQ_ret, scopeQ_ret, inBlockQ_ret, RQ, resL, resV])
   refine ⟨_, ⟨v1, rfl⟩, ?_⟩
   exact ⟨hlow, .inl ⟨hall, v, F, rfl, hown, fun j hj => (by have := hF j hj; omega)⟩⟩
  (refine aw_ops (by kernel_rfl) (fun K hK => ?_); simp (disch := first | omega | (simp only [lnS]; try omega)) [-getElem?_pos, -getElem?_neg, h47, h48, hi]; refine hK _ _ ?_; clear hK K)
  refine aw_seq ?_
  refine aw_t (by (first | (simp [eval_tmp, put_at, hi]; done) | (simp [eval_tmp, put_at, hi]; omega))) (by kernel_rfl) ?_
  refine aw_skip ?_
  refine aw_seq ?_
  refine aw_block ?_
  refine aw_seq ?_
  (refine aw_ops (by kernel_rfl) (fun K hK => ?_); simp (disch := first | omega | (simp only [lnS]; try omega)) [-getElem?_pos, -getElem?_neg, h48]; refine hK _ _ ?_; clear hK K)
  refine aw_seq ?_
  have hlk := set_look hm (i : Int)
  have hdb : decide ((i : Int) ∈ L) = inB l l.length ps i := by
   rw [Bool.eq_iff_iff, decide_eq_true_eq, hL, inZ_B]
  rw [hdb] at hlk
  have hsu := pastL_succ l l.length i ps
  have hol : (((List.range i).filter (inB l l.length ps)).map (fun k : Nat => (k : Int))).length ≤ i := by
   rw [List.length_map]
   exact Nat.le_trans (List.length_filter_le _ _) (by simp)
  generalize ((List.range i).filter (inB l l.length ps)).map (fun k : Nat => (k : Int)) = out at *
  have hlG := hlow.2
  have hpe : (#[] : Array Value).toList.all plain1 = true := rfl
  obtain ⟨B, hB⟩ : ∃ B, B = inB l l.length ps i := ⟨_, rfl⟩
  rw [← hB] at hlk hsu
  (refine aw_ops (by kernel_rfl) (fun K hK => ?_); simp (disch := first | omega | (simp only [lnS]; try omega)) [-getElem?_pos, -getElem?_neg, h6, hlk, hlG]; refine hK _ _ ?_; clear hK K)
  have hm1 := hget_left' (L := [some ⟨[], 156, none⟩]) hm
  have hlow1 : Low H.length H (G ++ [some ⟨[], 156, none⟩]) := ⟨fun j hj => (hget_left (by omega)).trans (hlow.1 j hj), by simp; omega⟩
  have hown1 : OwnF (G ++ [some ⟨[], 156, none⟩]) v 3 1 (iv .i64 out) F := hown.low (fun j hj => hget_left (hown.lt j hj))
  generalize G ++ [some ⟨[], 156, none⟩] = G1 at *
  refine aw_seq ?_
  cases B with
  | false =>
   (refine aw_ops (by kernel_rfl) (fun K hK => ?_); simp (disch := first | omega | (simp only [lnS]; try omega)) [-getElem?_pos, -getElem?_neg]; refine hK _ _ ?_; clear hK K)
   refine aw_f (by (first | (simp [eval_tmp, put_at]; done) | (simp [eval_tmp, put_at]; omega))) (by kernel_rfl) ?_
   refine aw_skip ?_
   (refine aw_ops (by kernel_rfl) (fun K hK => ?_); simp (disch := first | omega | (simp only [lnS]; try omega)) [-getElem?_pos, -getElem?_neg, h48]; refine hK _ _ ?_; clear hK K)
   exact ⟨c2 - 1, by omega, i + 1, v, F, by omega, by (first | (simp [put_at, put_none, fr0_at, h6]; done) | rfl), by (first | (simp [put_at, put_none, fr0_at, h12]; done) | rfl), by (first | (simp [put_at, put_none, fr0_at, h47]; done) | rfl), by (first | (simp [put_at, put_none, fr0_at]; done) | rfl), hlow1, hm1, by rw [hsu]; simpa using hown1, hF⟩
  | true =>
   (refine aw_ops (by kernel_rfl) (fun K hK => ?_); simp (disch := first | omega | (simp only [lnS]; try omega)) [-getElem?_pos, -getElem?_neg]; refine hK _ _ ?_; clear hK K)
   refine aw_t (by (first | (simp [eval_tmp, put_at]; done) | (simp [eval_tmp, put_at]; omega))) (by kernel_rfl) ?_
   have hxc : xcells 1 (.slice (some ⟨G1.length, 0, none⟩) 1 1) (G1 ++ [some ⟨[.int .i64 (i : Nat)], 3, some 1⟩]) = some (iv .i64 [(i : Int)]) := by simp [xcells, iv, hget_app0]
   obtain ⟨v', G3, hap, ho3, hl3, hk3⟩ := ownF_append (P := Try.prog) (nro := H.length) (t := 23) (e := 3) (H := G1 ++ [some ⟨[.int .i64 (i : Nat)], 3, some 1⟩]) (v := v) (x := .slice (some ⟨G1.length, 0, none⟩) 1 1) (sz := 1) (cells := iv .i64 out) (news := iv .i64 [(i : Int)]) (F := F) (by simp) (by simp) (by omega) (by simp) (hown1.low (fun j hj => hget_left (hown1.lt j hj)))
    (fun j hj => by have := hF j hj; omega) (fun s e => by cases e) hxc (by simp [iv]) (Nat.mod_one _) (by rw [iv_length, iv_length]; simp; omega) (by rw [iv_length, iv_length]; simp [maxLen]; omega)
   (refine aw_ops (by kernel_rfl) (fun K hK => ?_); simp (disch := first | omega | (simp only [lnS]; try omega)) [-getElem?_pos, -getElem?_neg, h12, -notTuple, v1, v2, nt_intG, nt_slG, -xappend, hap]; refine hK _ _ ?_; clear hK K)
   (refine aw_ops (by kernel_rfl) (fun K hK => ?_); simp (disch := first | omega | (simp only [lnS]; try omega)) [-getElem?_pos, -getElem?_neg, h48]; refine hK _ _ ?_; clear hK K)
   have hmG3 : hget G3 H.length = some (mblk 155 (mE L)) := (hk3 _ (by have := hget_lt hm1; simp; omega) (fun h => by have := hF _ h; omega)).trans (hget_left' hm1)
   have hlow3 : Low H.length H G3 := ⟨fun j hj => (hk3 j (by have := hlow1.2; simp; omega) (fun h => by have := hF _ h; omega)).trans ((hget_left (by have := hlow1.2; omega)).trans (hlow1.1 j hj)), by have := hlow1.2; rw [hl3]; simp; omega⟩
   refine ⟨c2 - 1, by omega, i + 1, v', _, by omega, by (first | (simp [put_at, put_none, fr0_at, h6]; done) | rfl), by (first | (simp [put_at, put_none, fr0_at]; done) | rfl), by (first | (simp [put_at, put_none, fr0_at, h47]; done) | rfl), by (first | (simp [put_at, put_none, fr0_at]; done) | rfl), hlow3, hmG3, by rw [hsu, if_pos rfl, iv_append]; exact ho3, fun j hj => ?_⟩
   rw [List.mem_singleton] at hj
   rw [hj]
   have := hget_lt hm1
   simp; omega
 obtain ⟨p, x, p1, p2, p3, p4, p5⟩ := hacc.at_ t ht
 subst p4
 obtain ⟨pk, hpk'⟩ : ∃ pk, pk = ps.getD t [] := ⟨_, rfl⟩
 rw [← hpk'] at p5 p3
 have hpm' : ps[t]? = some pk := by rw [hpk', List.getD_eq_getElem?_getD, List.getElem?_eq_getElem ht]; rfl
 have hpl : pk.length = 32 := hpk pk (List.mem_of_getElem? hpm')
 have htake : ps.take (t + 1) = ps.take t ++ [pk] := by rw [List.take_add_one, hpm']; rfl
 have p5 := p5 G hlow
 have hlG := hlow.2
 have hivl : (iv .u8 pk).length = 32 := by rw [iv_length, hpl]
 have hzb : setR (iv .u8 (zl 32)) 0 (iv .u8 pk) = iv .u8 pk := setR_all _ _ (by simp [hivl])
 (refine aw_ops (by kernel_rfl) (fun K hK => ?_); simp (disch := first | omega | (simp only [lnS]; try omega)) [-getElem?_pos, -getElem?_neg, h18, h19, ht]; refine hK _ _ ?_; clear hK K)
 refine aw_seq ?_
 refine aw_t (by (first | (simp [eval_tmp, put_at, ht]; done) | (simp [eval_tmp, put_at, ht]; omega))) (by kernel_rfl) ?_
 refine aw_skip ?_
 refine aw_seq ?_
 refine aw_block ?_
 refine aw_seq ?_
 (refine aw_ops (by kernel_rfl) (fun K hK => ?_); simp (disch := first | omega | (simp only [lnS]; try omega)) [-getElem?_pos, -getElem?_neg, h17, h19, -notTuple, hacc.nt, hacc.cs, p1, p3, nt_intG, -xindexAddr, p2, -xload, p5, hivl, all_zl, hzb, hlG]; refine hK _ _ ?_; clear hK K)
 obtain ⟨hlow2, hb2⟩ := boxed (H := G) (iv .u8 pk) 38
 have hm2 := hget_left' (L := [some ⟨iv .u8 pk, 38, none⟩]) hm
 obtain ⟨g, hg⟩ : ∃ g, g = G.length := ⟨_, rfl⟩
 rw [← hg] at hb2 ⊢
 generalize G ++ [some ⟨iv .u8 pk, 38, none⟩] = G2 at *
 have hlowG2 : Low H.length H G2 := ⟨fun j hj => (hlow2.1 j (by omega)).trans (hlow.1 j hj), by have := hlow2.2; omega⟩
 have hta : (iv .u8 pk).take 32 = iv .u8 pk := List.take_of_length_le (by omega)
 have hfi := find_rc (γ := γ) (hN'.lowG hlowG2) (by simp only [maxLen]; omega) hpl
 refine aw_seq ?_
 refine aw_ops (by kernel_rfl) (fun K hK => ?_)
 simp (disch := first | omega | (simp only [lnS]; try omega)) [-getElem?_pos, -getElem?_neg, h0, hb2, hivl, hta, -notTuple, hnt, hvc, nt_intG, nt_aggG]
 refine ⟨by kernel_rfl, ac_of_rc hfi (by simp [pv_iv, pv_int, pv_bool, pv_string, pv_tup2, pv_tup3, iv_plain, p2_int, p2_bool, p2_string]) ?_⟩
 unfold findI
 cases hf : findN l l.length pk with
 | none =>
  try simp (disch := first | omega | (simp only [lnS]; try omega)) [-getElem?_pos, -getElem?_neg]
  refine hK _ _ ?_; clear hK K
  refine aw_seq ?_
  refine aw_seq ?_
  (refine aw_ops (by kernel_rfl) (fun K hK => ?_); simp (disch := first | omega | (simp only [lnS]; try omega)) [-getElem?_pos, -getElem?_neg]; refine hK _ _ ?_; clear hK K)
  refine aw_t (by (first | (simp [eval_tmp, put_at]; done) | (simp [eval_tmp, put_at]; omega))) (by kernel_rfl) ?_
  refine aw_seq ?_
  (refine aw_ops (by kernel_rfl) (fun K hK => ?_); simp (disch := first | omega | (simp only [lnS]; try omega)) [-getElem?_pos, -getElem?_neg]; refine hK _ _ ?_; clear hK K)
  (refine aw_ret ?_; simp (disch := first | omega | (simp only [lnS]; try omega)) [-getElem?_pos, -getElem?_neg, thenQ_ret, scopeQ_ret, inBlockQ_ret, RQ, resL, resV])
  refine ⟨hlowG2, .inr ⟨?_, rfl⟩⟩
  rw [List.all_eq_false]
  exact ⟨pk, List.mem_of_getElem? hpm', by rw [hf]; simp⟩
 | some a =>
  have hal := findN_lt hf
  try simp (disch := first | omega | (simp only [lnS]; try omega)) [-getElem?_pos, -getElem?_neg]
  refine hK _ _ ?_; clear hK K
  refine aw_seq ?_
  refine aw_seq ?_
  (refine aw_ops (by kernel_rfl) (fun K hK => ?_); simp (disch := first | omega | (simp only [lnS]; try omega)) [-getElem?_pos, -getElem?_neg]; refine hK _ _ ?_; clear hK K)
  refine aw_f (by (first | (simp [eval_tmp, put_at]; done) | (simp [eval_tmp, put_at]; omega))) (by kernel_rfl) ?_
  refine aw_skip ?_
  refine aw_seq ?_
  obtain ⟨L1, hL1, hpu⟩ := set_put (nro := H.length) hm2 (Nat.le_refl _) (a : Int)
  (refine aw_ops (by kernel_rfl) (fun K hK => ?_); simp (disch := first | omega | (simp only [lnS]; try omega)) [-getElem?_pos, -getElem?_neg, h6, hpu]; refine hK _ _ ?_; clear hK K)
  have hlS : Low H.length H (G2.set H.length (some (mblk 155 (mE L1)))) := ⟨fun j hj => (hget_set_ne (by omega)).trans (hlowG2.1 j hj), by rw [List.length_set]; exact hlowG2.2⟩
  have hmS : hget (G2.set H.length (some (mblk 155 (mE L1)))) H.length = some (mblk 155 (mE L1)) := hget_set_eq (hget_lt hm2)
  generalize G2.set H.length (some (mblk 155 (mE L1))) = G3 at *
  obtain ⟨j2, q2, bb2, qv2, hx2, hbb2, hc2, hi2, hml2, n1, n2⟩ := hN'.past_at hlS hal
  have hac2 := hi2.acc
  have hmq : (nd l a).past.length ≤ 9223372036854775807 := by simp only [maxLen] at hml2; omega
  refine aw_seq ?_
  (refine aw_ops (by kernel_rfl) (fun K hK => ?_); simp (disch := first | omega | (simp only [lnS]; try omega)) [-getElem?_pos, -getElem?_neg, h0, -notTuple, hnt, hvc, n1, n2, nt_intG, -xindexAddr, hx2, hbb2, hc2, -xlen, hac2.len]; refine hK _ _ ?_; clear hK K)
  refine aw_block ?_
  refine aw_loop (fun c2 α G => ∃ (e : Nat) (L2 : List Int), e + c2 = (nd l a).past.length ∧ α 0 = nv ∧ α 6 = .map (some H.length) ∧ α 17 = pv ∧ α 18 = .int .i64 (ps.length : Nat) ∧ α 19 = .int .i64 (t : Nat) ∧ α 35 = qv2 ∧ α 36 = .int .i64 ((nd l a).past.length : Nat) ∧ α 37 = .int .i64 (e : Nat) ∧ Low H.length H G ∧ hget G H.length = some (mblk 155 (mE L2)) ∧ ∀ y, y ∈ L2 ↔ y ∈ L1 ∨ y ∈ (nd l a).past.take e) (nd l a).past.length ?_ ?_
  ·exact ⟨0, L1, by omega, by (first | (simp [put_at, put_none, fr0_at, h0]; done) | rfl), by (first | (simp [put_at, put_none, fr0_at, h6]; done) | rfl), by (first | (simp [put_at, put_none, fr0_at, h17]; done) | rfl), by (first | (simp [put_at, put_none, fr0_at, h18]; done) | rfl), by (first | (simp [put_at, put_none, fr0_at, h19]; done) | rfl), by (first | (simp [put_at, put_none, fr0_at]; done) | rfl), by (first | (simp [put_at, put_none, fr0_at]; done) | rfl), by (first | (simp [put_at, put_none, fr0_at]; done) | rfl), hlS, hmS, fun y => by simp⟩
  rintro c2 α G ⟨e, L2, hec, h0, h6, h17, h18, h19, h35, h36, h37, hlow3, hm3, hL2⟩
  refine aw_seq ?_
  by_cases he : e < (nd l a).past.length
  case neg =>
   (refine aw_ops (by kernel_rfl) (fun K hK => ?_); simp (disch := first | omega | (simp only [lnS]; try omega)) [-getElem?_pos, -getElem?_neg, h36, h37, he]; refine hK _ _ ?_; clear hK K)
   refine aw_seq ?_
   refine aw_f (by (first | (simp [eval_tmp, put_at, he]; done) | (simp [eval_tmp, put_at, he]; omega))) (by kernel_rfl) ?_
   refine aw_exit ?_
   obtain rfl : e = (nd l a).past.length := by omega
   (refine aw_ops (by kernel_rfl) (fun K hK => ?_); simp (disch := first | omega | (simp only [lnS]; try omega)) [-getElem?_pos, -getElem?_neg, h19]; refine hK _ _ ?_; clear hK K)
   refine ⟨c - 1, by omega, t + 1, L2, by omega, by (first | (simp [put_at, put_none, fr0_at, h0]; done) | rfl), by (first | (simp [put_at, put_none, fr0_at, h6]; done) | rfl), by (first | (simp [put_at, put_none, fr0_at, h17]; done) | rfl), by (first | (simp [put_at, put_none, fr0_at, h18]; done) | rfl), by (first | (simp [put_at, put_none, fr0_at]; done) | rfl), hlow3, hm3, ?_, fun y => ?_⟩
   ·rw [htake, List.all_append, hall]
    simp [hf]
   ·rw [htake, inZ_app hf, hL2, hL1, hL, List.take_length]
    exact or_assoc
  obtain ⟨p2, x2, p21, p22, p23, p24, p25⟩ := hac2.at_ e he
  subst p24
  obtain ⟨z, hz⟩ : ∃ z, z = (nd l a).past.getD e 0 := ⟨_, rfl⟩
  rw [← hz] at p25
  have hze : (nd l a).past[e]? = some z := by rw [hz, List.getD_eq_getElem?_getD, List.getElem?_eq_getElem he]; rfl
  have htk2 : (nd l a).past.take (e + 1) = (nd l a).past.take e ++ [z] := by rw [List.take_add_one, hze]; rfl
  have p25 := p25 G hlow3
  obtain ⟨L3, hL3, hpu3⟩ := set_put (nro := H.length) hm3 (Nat.le_refl _) z
  (refine aw_ops (by kernel_rfl) (fun K hK => ?_); simp (disch := first | omega | (simp only [lnS]; try omega)) [-getElem?_pos, -getElem?_neg, h36, h37, he]; refine hK _ _ ?_; clear hK K)
  refine aw_seq ?_
  refine aw_t (by (first | (simp [eval_tmp, put_at, he]; done) | (simp [eval_tmp, put_at, he]; omega))) (by kernel_rfl) ?_
  refine aw_skip ?_
  refine aw_seq ?_
  refine aw_block ?_
  refine aw_seq ?_
  (refine aw_ops (by kernel_rfl) (fun K hK => ?_); simp (disch := first | omega | (simp only [lnS]; try omega)) [-getElem?_pos, -getElem?_neg, h35, h37, -notTuple, n1, n2, p21, nt_intG, -xindexAddr, p22, -xload, p25]; refine hK _ _ ?_; clear hK K)
  (refine aw_ops (by kernel_rfl) (fun K hK => ?_); simp (disch := first | omega | (simp only [lnS]; try omega)) [-getElem?_pos, -getElem?_neg, h6, hpu3]; refine hK _ _ ?_; clear hK K)
  have hlS : Low H.length H (G.set H.length (some (mblk 155 (mE L3)))) := ⟨fun j hj => (hget_set_ne (by omega)).trans (hlow3.1 j hj), by rw [List.length_set]; exact hlow3.2⟩
  have hmS : hget (G.set H.length (some (mblk 155 (mE L3)))) H.length = some (mblk 155 (mE L3)) := hget_set_eq (hget_lt hm3)
  generalize G.set H.length (some (mblk 155 (mE L3))) = G4 at *
  (refine aw_ops (by kernel_rfl) (fun K hK => ?_); simp (disch := first | omega | (simp only [lnS]; try omega)) [-getElem?_pos, -getElem?_neg, h37]; refine hK _ _ ?_; clear hK K)
  refine ⟨c2 - 1, by omega, e + 1, L3, by omega, by (first | (simp [put_at, put_none, fr0_at, h0]; done) | rfl), by (first | (simp [put_at, put_none, fr0_at, h6]; done) | rfl), by (first | (simp [put_at, put_none, fr0_at, h17]; done) | rfl), by (first | (simp [put_at, put_none, fr0_at, h18]; done) | rfl), by (first | (simp [put_at, put_none, fr0_at, h19]; done) | rfl), by (first | (simp [put_at, put_none, fr0_at, h35]; done) | rfl), by (first | (simp [put_at, put_none, fr0_at, h36]; done) | rfl), by (first | (simp [put_at, put_none, fr0_at]; done) | rfl), hlS, hmS, fun y => ?_⟩
  rw [hL3, hL2, htk2, List.mem_append, List.mem_singleton]
  exact or_assoc
end
section
theorem rightG_len {l : List NodeD} (h : rightG l = true) : l.length ≤ 96 := by
 unfold rightG at h
 rw [Bool.and_eq_true, decide_eq_true_eq] at h
 exact h.1
theorem own_nt {H : AH} {v : Value} {e : TypeId} {sz : Nat} {cells : List Value} {F : List Nat} (h : OwnF H v e sz cells F) : notTuple v = true ∧ v.cells = #[v] := by
 rcases h with ⟨rfl, _, _⟩ | ⟨j, n, rfl, _⟩ <;> exact ⟨rfl, rfl⟩
end
section
theorem own_inv {H : AH} {v : Value} {e : TypeId} {L : List Int} {F : List Nat} (h : OwnF H v e 1 (iv .i64 L) F) : InV H v L := by
 unfold InV
 rcases h with ⟨rfl, h, _⟩ | ⟨j, n, rfl, hb, hl, _⟩
 ·have : L = [] := by
   cases L with
   | nil => rfl
   | cons a L => simp [iv] at h
  subst this
  exact .nil (fun x hx => by cases hx)
 ·rw [iv_length, Nat.mul_one] at hl
  subst hl
  have := CD.Val.sl (H := H) (sz := 1) (j := j) (rows := L.map fun z => [CD.int .i64 z]) hb (by simp [iv_length]) (fun row hr => by
   obtain ⟨y, _, rfl⟩ := List.mem_map.1 hr; rfl) (fun i row c d x hr hc hx => by
   rw [List.getElem?_map] at hr
   cases hL : L[i]? with
   | none => rw [hL] at hr; cases hr
   | some z =>
    rw [hL] at hr
    cases hr
    cases c with
    | succ c => cases c <;> cases hc
    | zero =>
     cases hc
     have hx2 : (iv .i64 L)[i]? = some x := by simpa using hx
     rw [iv, List.getElem?_map, hL] at hx2
     cases hx2
     exact .int)
  rw [List.length_map] at this
  exact this
theorem autA_succ (l : List NodeD) (t : Nat) (x : Int) (P : List Int) : autA l (t + 1) x P = (autA l t x P && (!((nd l t).op.author == x) || decide ((t : Int) ∈ P))) := by
 unfold autA
 rw [List.range_succ, List.all_append]
 simp
end
section
def kind1B (o : OpD) (inn : Bool) : Bool := if o.kind = 1 then inn && (decide (o.parents.length = 0) && decide (o.seq = 1)) else decide (0 < o.parents.length)
def kind2B (o : OpD) (inn : Bool) : Bool := if o.kind = 2 ∨ o.kind = 3 then !inn && decide (o.who.length = 1) else if 3 < o.kind then decide (o.who.length = 0) else true
def kind3B (o : OpD) : Bool := decide (o.kind = 5 ∨ o.kind = 6) == !decide (o.of = zl 32)
def kind4B (o : OpD) : Bool := if o.kind = 7 then decide (o.check = zl 32) && decide (0 < o.text.size) else !decide (o.check = zl 32) && decide (o.text.size = 0)
def kindB (o : OpD) (inn : Bool) : Bool := kind1B o inn && (kind2B o inn && (kind3B o && kind4B o))
end
section
theorem cmpI_lt {a b : Int} : cmpI a b < 0 ↔ a < b := by
 unfold cmpI
 split
 ·simp; omega
 ·split <;> simp <;> omega
theorem rise_len {l : List Int} (h1 : ∀ z ∈ l, memI z = true) (h2 : ∀ i, i + 1 < l.length → l.getD i 0 < l.getD (i + 1) 0) : l.length ≤ 8 := by
 have hlo : ∀ i, i < l.length → (i : Int) ≤ l.getD i 0 := by
  intro i
  induction i with
  | zero =>
   intro hi
   have := h1 (l.getD 0 0) (by rw [List.getD_eq_getElem?_getD, List.getElem?_eq_getElem hi]; exact List.getElem_mem hi)
   unfold memI at this
   rw [Bool.and_eq_true, decide_eq_true_eq, decide_eq_true_eq] at this
   omega
  | succ i ih =>
   intro hi
   have := ih (by omega)
   have := h2 i hi
   omega
 by_cases h : l.length = 0
 ·omega
 ·have hi : l.length - 1 < l.length := by omega
  have a := hlo (l.length - 1) hi
  have b := h1 (l.getD (l.length - 1) 0) (by rw [List.getD_eq_getElem?_getD, List.getElem?_eq_getElem hi]; exact List.getElem_mem hi)
  unfold memI at b
  rw [Bool.and_eq_true, decide_eq_true_eq, decide_eq_true_eq] at b
  omega
def refO (o : OpD) : Bool := memI o.author && (decide (o.seq ≠ 0) && (decide (1 ≤ o.kind) && (decide (o.kind ≤ 7) && (decide (o.parents.length ≤ 8) && (decide (o.boxes.length ≤ 8) && (decide (o.text.size ≤ 256) && (risesK o.parents && ((o.who.all memI && risesI o.who) && (boxesB o && kindB o (decide (o.author ∈ o.who)))))))))))
theorem boxes_len {o : OpD} (h : boxesB o = true) : o.boxes.length ≤ 8 := by
 unfold boxesB risesX at h
 rw [Bool.and_eq_true, List.all_eq_true, List.all_eq_true] at h
 have := rise_len (l := o.boxes.map BoxD.to) (fun z hz => by
  obtain ⟨b, hb, rfl⟩ := List.mem_map.1 hz
  have := h.1 b hb
  unfold boxB at this
  rw [Bool.and_eq_true] at this
  exact this.1) (fun i hi => by
  rw [List.length_map] at hi
  have := h.2 i (List.mem_range.2 (by omega))
  rw [decide_eq_true_eq, cmpI_lt] at this
  exact this)
 rwa [List.length_map] at this
theorem risesK_nil {ps : List (List Int)} (h : ps.length = 0) : risesK ps = true := by
 unfold risesK
 rw [h]; rfl
theorem refO_eq (o : OpD) : refO o = rightO o := by
 unfold refO rightO
 by_cases hb : boxesB o = true
 case neg =>
  have : boxesB o = false := by simpa using hb
  rw [this]; simp
 have hbl := boxes_len hb
 rw [hb]
 by_cases g1 : 1 ≤ o.kind
 case neg => simp [g1]
 by_cases g2 : o.kind ≤ 7
 case neg => simp [g2]
 cases g3 : memI o.author with
 | false => simp
 | true =>
 have g4 : o.boxes.length ≤ 8 := hbl
 have d8 : decide (o.boxes.length ≤ 8) = true := by simpa using g4
 have dg1 : decide (1 ≤ o.kind) = true := by simpa using g1
 have dg2 : decide (o.kind ≤ 7) = true := by simpa using g2
 rw [d8, dg1, dg2]
 unfold kindB kind1B kind2B kind3B kind4B placeB whoB keysB textOk
 have r1 : decide (0 < o.parents.length) = !decide (o.parents.length = 0) := by
  by_cases h : o.parents.length = 0
  ·simp [h]
  ·have : 0 < o.parents.length := by omega
   simp [h, this]
 have r2 : decide (o.seq ≠ 0) = !decide (o.seq = 0) := by simp
 have r3 : decide (0 < o.text.size) = !decide (o.text.size = 0) := by
  by_cases h : o.text.size = 0
  ·rw [h]; rfl
  ·have : 0 < o.text.size := by omega
   rw [decide_eq_true this, decide_eq_false h]; rfl
 have r4 : decide (o.of ≠ zl 32) = !decide (o.of = zl 32) := by simp
 have i1 : (!decide (o.parents.length = 0) || decide (o.parents.length ≤ 8)) = true := by
  by_cases h : o.parents.length = 0
  ·rw [h]; rfl
  ·rw [decide_eq_false h]; rfl
 have i2 : (!decide (o.parents.length = 0) || risesK o.parents) = true := by
  by_cases h : o.parents.length = 0
  ·rw [risesK_nil h, Bool.or_true]
  ·rw [decide_eq_false h]; rfl
 have i3 : (!decide (o.seq = 1) || !decide (o.seq = 0)) = true := by
  by_cases h : o.seq = 1
  ·rw [h]; rfl
  ·rw [decide_eq_false h]; rfl
 have i4 : (!decide (o.who.length = 0) || (o.who.all memI && risesI o.who)) = true := by
  by_cases h : o.who.length = 0
  ·have := List.eq_nil_of_length_eq_zero h
   rw [this]; rfl
  ·rw [decide_eq_false h]; rfl
 have i6 : (!decide (o.text.size = 0) || decide (o.text.size ≤ 256)) = true := by
  by_cases h : o.text.size = 0
  ·rw [h]; rfl
  ·rw [decide_eq_false h]; rfl
 rw [r1, r2, r3, r4]
 generalize decide (o.parents.length = 0) = P0 at *
 generalize decide (o.parents.length ≤ 8) = P8 at *
 generalize risesK o.parents = RK at *
 generalize decide (o.seq = 1) = S1 at *
 generalize decide (o.seq = 0) = S0 at *
 generalize decide (o.who.length = 0) = W0 at *
 generalize decide (o.who.length = 1) = W1 at *
 generalize (o.who.all memI && risesI o.who) = WA at *
 generalize decide (o.author ∈ o.who) = IN at *
 generalize decide (o.text.size = 0) = T0 at *
 generalize decide (o.text.size ≤ 256) = T8 at *
 generalize decide (o.of = zl 32) = OF at *
 generalize decide (o.check = zl 32) = C0 at *
 have hk : o.kind = 1 ∨ o.kind = 2 ∨ o.kind = 3 ∨ o.kind = 4 ∨ o.kind = 5 ∨ o.kind = 6 ∨ o.kind = 7 := by omega
 clear r1 r2 r3 r4 d8 dg1 dg2 g1 g2 g3 g4 hbl hb
 rcases hk with hk | hk | hk | hk | hk | hk | hk <;> rw [hk] <;> clear hk <;> revert P0 P8 RK S1 S0 W0 W1 WA IN T0 T8 OF C0 <;> decide +kernel
end
section
theorem nd_take {l : List NodeD} {i a : Nat} (h : a < i) : nd (l.take i) a = nd l a := by
 unfold nd
 rw [List.getD_eq_getElem?_getD, List.getD_eq_getElem?_getD, List.getElem?_take_of_lt h]
theorem find_congr {l m : List NodeD} {n : Nat} (h : ∀ a, a < n → nd l a = nd m a) (k : List Int) : findN l n k = findN m n k := by
 induction n with
 | zero => rfl
 | succ n ih => rw [findN_succ, findN_succ, ih (fun a ha => h a (by omega)), h n (by omega)]
theorem inB_congr {l m : List NodeD} {n : Nat} (h : ∀ a, a < n → nd l a = nd m a) (ps : List (List Int)) (k : Nat) : inB l n ps k = inB m n ps k := by
 unfold inB
 congr 1
 funext p
 rw [find_congr h p]
 cases hf : findN m n p with
 | none => rfl
 | some a =>
  simp only []
  rw [h a (findN_lt hf)]
theorem pastL_congr {l m : List NodeD} {n : Nat} (h : ∀ a, a < n → nd l a = nd m a) (ps : List (List Int)) : pastL l n ps = pastL m n ps := by
 unfold pastL
 congr 1
 exact List.filter_congr fun k _ => inB_congr h ps k
theorem autN_congr {l m : List NodeD} {n : Nat} (h : ∀ a, a < n → nd l a = nd m a) (x : Int) : autN l n x = autN m n x := by
 induction n with
 | zero => rfl
 | succ n ih => rw [autN_succ, autN_succ, ih (fun a ha => h a (by omega)), h n (by omega)]
theorem autA_congr {l m : List NodeD} {n : Nat} (h : ∀ a, a < n → nd l a = nd m a) (x : Int) (P : List Int) : autA l n x P = autA m n x P := by
 induction n with
 | zero => rfl
 | succ n ih => rw [autA_succ, autA_succ, ih (fun a ha => h a (by omega)), h n (by omega)]
theorem turnB_congr {l m : List NodeD} {n : Nat} (h : ∀ a, a < n → nd l a = nd m a) (o : OpD) (P : List Int) : turnB l n o P = turnB m n o P := by
 unfold turnB
 rw [autN_congr h, autA_congr h]
attribute [local simp] wb_bool wb_undef with_lit XL_nil XL_cons XLc_val XLc_call step1_eq stepW_t stepW_f stepC_n stepC_s stepX_s stepX_n stepN_s calleeX xrecv oneV xop_eq xopR_s xopR_n wantedA_eq wantedG_n wantedG_s plain1_int plain1_bool plain1_string bits_i64 bits_u64 bits_u32 bits_u16 bits_u8 xeqA xagg xcmp xarr allK_iv num_iv calleeOf xread xeff xbin xint xnil xun xstr xload xconv xpart xfield xfieldAddr xindexAddr xindex bnd asInt? xslice xlen xmin xmax xbuild xfill xappend xapp2 xappstr xappmk xcap xcopy xcells eval_tmp eval_const put_at put_none fr0_at cells_agg cells_int cells_bool cells_string cells_ptr cells_slice notTuple tab iv_all hget_app hget_app0 hget_cons0 hget_cons set_app set_app0 setR setR_one QL_nil QL_cons QLc_val stepQ_t stepQ_f stepQC_n stepQC_s stepQX_s SL_nil SL_cons SLc_val stepS_t stepS_f ltT ltF leT leF eqT eqF ltTn ltFn leTn leFn eqTn eqFn beqT beqF bneT bneF wi64 wu64 wu32 wu16 wu8 tmodP tdivP hgetL hgetNe hgetEq setL nums_def nums_len Nat.succ_le_of_lt List.getElem?_cons_zero List.getElem?_cons_succ Option.getD_some Int.toNat_add Int.toNat_mul agM okM agB agI agS agP agL agA okB okI okS okP okSl okA
theorem NdV.take {H : AH} {v : Value} {l : List NodeD} (h : NdV H v l) (hl : ∀ x ∈ l, x.Wf) {i : Nat} (hi : i < l.length) : ∃ v', NdA H v' (l.take i) ∧ ∀ G : AH, xslice Try.prog 22 v none (some (.int .i64 (i : Nat))) G = some v' := by
 have hrow : ∀ row ∈ l.map NodeD.row, row.length = 104 := fun row hr => by
  obtain ⟨y, hy, rfl⟩ := List.mem_map.1 hr
  have h1 := (hl y hy).id.1
  have h2 := (hl y hy).op.of.1
  have h3 := (hl y hy).op.check.1
  simp [NodeD.row, OpD.row, kd, h1, h2, h3]
 obtain ⟨j, b, us, hv, hb, hle, hx, hus, hul, hle2, hc, hval⟩ := val_at (P := Try.prog) (t := 22) (e := 50) (sz := 104) h (by simp) (by simp) (by omega) hrow (i := i) (row := (nd l i).row) (by rw [List.getElem?_map, nd_get hi]; rfl)
 rw [List.length_map] at hv
 have hlt : (l.take i).length = i := by rw [List.length_take]; omega
 refine ⟨.slice (some ⟨j, 0, none⟩) i i, ⟨rfl, rfl, ?_, fun x hx => hl x (List.mem_of_mem_take hx), fun k x hk => ?_⟩, fun G => ?_⟩
 ·rw [hlt]
  unfold xlen
  simp
 ·have hki : k < i := by have := (List.getElem?_eq_some_iff.1 hk).1; omega
  rw [List.getElem?_take_of_lt hki] at hk
  obtain ⟨j', b', us', hv', hb', hle', hx', hus', hul', hle2', hc', hval'⟩ := val_at (P := Try.prog) (t := 22) (e := 50) (sz := 104) h (by simp) (by simp) (by omega) hrow (i := k) (row := x.row) (by rw [List.getElem?_map, hk]; rfl)
  rw [List.length_map] at hv'
  rw [hv] at hv'
  cases hv'
  obtain ⟨pv, wv, bv, qv, hcc⟩ := node_c (hl x (List.mem_of_getElem? hk)) hval'
  refine ⟨j, k * 104, b', us', pv, wv, bv, qv, ?_, hb', hle2', hc', hus', hcc⟩
  unfold xindexAddr
  simp
  omega
 ·rw [hv]
  unfold xslice
  simp [bnd]
  omega
end
section
def bodyAt (l : List BoxD) (k : Nat) : ByteArray := ((l[k]?).map BoxD.body).getD ByteArray.empty
def greatO (o : OpD) : Bool := decide (30 < o.parents.length) || (decide (30 < o.who.length) || (decide (30 < o.boxes.length) || (decide (600 < o.text.size) || (List.range o.boxes.length).any fun k => decide (600 < (bodyAt o.boxes k).size))))
theorem any_none {n : Nat} {p : Nat → Bool} (h : ∀ k, k < n → p k = false) : (List.range n).any p = false := by
 rw [List.any_eq_false]
 intro k hk
 rw [h k (List.mem_range.1 hk)]
 decide
theorem any_some {n k : Nat} {p : Nat → Bool} (hk : k < n) (h : p k = true) : (List.range n).any p = true := List.any_eq_true.2 ⟨k, List.mem_range.2 hk, h⟩
attribute [local simp] wb_bool wb_undef with_lit XL_nil XL_cons XLc_val XLc_call step1_eq stepW_t stepW_f stepC_n stepC_s stepX_s stepX_n stepN_s calleeX xrecv oneV xop_eq xopR_s xopR_n wantedA_eq wantedG_n wantedG_s plain1_int plain1_bool plain1_string bits_i64 bits_u64 bits_u32 bits_u16 bits_u8 xeqA xagg xcmp xarr allK_iv num_iv calleeOf xread xeff xbin xint xnil xun xstr xload xconv xpart xfield xfieldAddr xindexAddr xindex bnd asInt? xslice xlen xmin xmax xbuild xfill xappend xapp2 xappstr xappmk xcap xcopy xcells eval_tmp eval_const put_at put_none fr0_at cells_agg cells_int cells_bool cells_string cells_ptr cells_slice notTuple tab iv_all hget_app hget_app0 hget_cons0 hget_cons set_app set_app0 setR setR_one QL_nil QL_cons QLc_val stepQ_t stepQ_f stepQC_n stepQC_s stepQX_s SL_nil SL_cons SLc_val stepS_t stepS_f ltT ltF leT leF eqT eqF ltTn ltFn leTn leFn eqTn eqFn beqT beqF bneT bneF wi64 wu64 wu32 wu16 wu8 tmodP tdivP hgetL hgetNe hgetEq setL nums_def nums_len Nat.succ_le_of_lt List.getElem?_cons_zero List.getElem?_cons_succ Option.getD_some Int.toNat_add Int.toNat_mul agM okM agB agI agS agP agL agA okB okI okS okP okSl okA
theorem BxV.body_at {H : AH} {v : Value} {l : List BoxD} (h : BxV H v l) (hl : ∀ b ∈ l, b.Wf) {i : Nat} (hi : i < l.length) : ∃ j q bb, xindexAddr Try.prog 39 v (.int .i64 (i : Nat)) = some (.pointer (some ⟨j, q, none⟩)) ∧ hget H j = some bb ∧ bb.cells[q + 35]? = some (.string (bodyAt l i)) ∧ (bodyAt l i).size ≤ maxLen := by
 obtain ⟨z, hz⟩ : ∃ z, l[i]? = some z := ⟨_, List.getElem?_eq_getElem hi⟩
 have hzw := hl z (List.mem_of_getElem? hz)
 obtain ⟨j, b, us, hv, hb, hle, hx, hus, hul, hle2, hc, hval⟩ := val_at (P := Try.prog) (t := 39) (e := 107) (sz := 36) h (by simp) (by simp) (by omega) (fun row hr => by
  obtain ⟨y, hy, rfl⟩ := List.mem_map.1 hr
  have := (hl y hy).pub.1
  simp [BoxD.row, kd, this]) (i := i) (row := z.row) (by rw [List.getElem?_map, hz]; rfl)
 have hbody : bodyAt l i = z.body := by simp [bodyAt, hz]
 rw [hbody]
 exact ⟨j, i * 36, b, hx, hb, (hc 35 (by omega)).trans (box_c hzw hval).c35, hzw.body⟩
theorem greatO_rc {γ : Nat → Option Nat} {H : AH} {us : List Value} {o : OpD} {pv wv bv : Value} (h : OpC H us o pv wv bv) (hw : o.Wf) : AC Try.prog H.length γ 26 #[.agg us.toArray] H (fun v' _ => v' = .bool (greatO o)) := by
 have hlen := h.len
 have c2 := h.c2
 have c4 := h.c4
 have c69 := h.c69
 have c70 := h.c70
 have pa := h.parents.acc (fun k hk => (hw.parents k hk).1)
 have wa := h.who.acc
 have ba := h.boxes.acc hw.boxes
 have p1 := pa.nt
 have p2 := pa.cs
 have p3 := pa.len
 have w1 := wa.nt
 have w2 := wa.cs
 have w3 := wa.len
 have b1 := ba.nt
 have b2 := ba.cs
 have b3 := ba.len
 have hbx := h.boxes
 obtain ⟨np, hnp⟩ : ∃ n, n = o.parents.length := ⟨_, rfl⟩
 obtain ⟨nw, hnw⟩ : ∃ n, n = o.who.length := ⟨_, rfl⟩
 obtain ⟨nb, hnb⟩ : ∃ n, n = o.boxes.length := ⟨_, rfl⟩
 obtain ⟨ts, hts⟩ : ∃ t, t = o.text := ⟨_, rfl⟩
 have htz : ts.size ≤ 9223372036854775807 := by rw [hts]; have := hw.text; simp only [maxLen] at this; omega
 have hnb63 : nb ≤ 9223372036854775807 := by rw [hnb]; have := hw.blen; simp only [maxLen] at this; omega
 have hG : greatO o = (decide (30 < np) || (decide (30 < nw) || (decide (30 < nb) || (decide (600 < ts.size) || (List.range nb).any fun k => decide (600 < (bodyAt o.boxes k).size))))) := by rw [hnp, hnw, hnb, hts]; rfl
 rw [hG]
 rw [← hnp] at p3
 rw [← hnw] at w3
 rw [← hnb] at b3
 rw [← hts] at c69
 refine ac_of_aw Try.func26 rfl Try.ntmps26 Try.results26 (by simp) ?_
 refine aw_seq ?_
 (refine aw_ops (by kernel_rfl) (fun K hK => ?_); simp (disch := first | omega | (simp only [lnS]; try omega)) [-getElem?_pos, -getElem?_neg, hlen]; refine hK _ _ ?_; clear hK K)
 obtain ⟨hlow, hb⟩ := boxed (H := H) us 41
 generalize H ++ [some ⟨us, 41, none⟩] = G at *
 obtain ⟨g, hg⟩ : ∃ g, g = H.length := ⟨_, rfl⟩
 rw [← hg] at hb ⊢
 refine aw_seq ?_
 refine aw_seq ?_
 refine aw_cut (fun α G' => G = G' ∧ α 1 = .pointer (some ⟨g, 0, none⟩) ∧ α 25 = .bool (decide (30 < np) || (decide (30 < nw) || (decide (30 < nb) || decide (600 < ts.size))))) ?_ ?_
 ·by_cases h1 : 30 < np
  ·(refine aw_ops (by kernel_rfl) (fun K hK => ?_); simp (disch := first | omega | (simp only [lnS]; try omega)) [-getElem?_pos, -getElem?_neg, hb, hlen, c2, -notTuple, p1, p2, nt_intG, -xlen, p3, h1]; refine hK _ _ ?_; clear hK K)
   exact ⟨rfl, by (first | (simp [put_at, put_none, fr0_at]; done) | rfl), by simp [put_at, h1]⟩
  ·by_cases h2 : 30 < nw
   ·(refine aw_ops (by kernel_rfl) (fun K hK => ?_); simp (disch := first | omega | (simp only [lnS]; try omega)) [-getElem?_pos, -getElem?_neg, hb, hlen, c2, c4, -notTuple, p1, p2, w1, w2, nt_intG, -xlen, p3, w3, h1, h2]; refine hK _ _ ?_; clear hK K)
    exact ⟨rfl, by (first | (simp [put_at, put_none, fr0_at]; done) | rfl), by simp [put_at, h2]⟩
   ·by_cases h3 : 30 < nb
    ·(refine aw_ops (by kernel_rfl) (fun K hK => ?_); simp (disch := first | omega | (simp only [lnS]; try omega)) [-getElem?_pos, -getElem?_neg, hb, hlen, c2, c4, c70, -notTuple, p1, p2, w1, w2, b1, b2, nt_intG, -xlen, p3, w3, b3, h1, h2, h3]; refine hK _ _ ?_; clear hK K)
     exact ⟨rfl, by (first | (simp [put_at, put_none, fr0_at]; done) | rfl), by simp [put_at, h3]⟩
    ·have hxt : xlen Try.prog 9 (.string ts) = some (.int .i64 ts.size) := by simp [xlen]
     by_cases h4 : 600 < ts.size
     ·(refine aw_ops (by kernel_rfl) (fun K hK => ?_); simp (disch := first | omega | (simp only [lnS]; try omega)) [-getElem?_pos, -getElem?_neg, hb, hlen, c2, c4, c70, c69, -notTuple, p1, p2, w1, w2, b1, b2, nt_intG, nt_strG, -xlen, p3, w3, b3, hxt, h1, h2, h3, h4]; refine hK _ _ ?_; clear hK K)
      exact ⟨rfl, by (first | (simp [put_at, put_none, fr0_at]; done) | rfl), by simp [put_at, h4]⟩
     ·(refine aw_ops (by kernel_rfl) (fun K hK => ?_); simp (disch := first | omega | (simp only [lnS]; try omega)) [-getElem?_pos, -getElem?_neg, hb, hlen, c2, c4, c70, c69, -notTuple, p1, p2, w1, w2, b1, b2, nt_intG, nt_strG, -xlen, p3, w3, b3, hxt, h1, h2, h3, h4]; refine hK _ _ ?_; clear hK K)
      exact ⟨rfl, by (first | (simp [put_at, put_none, fr0_at]; done) | rfl), by simp [put_at, h1, h2, h3, h4]⟩
 rintro α G' ⟨rfl, h1, h25⟩
 obtain ⟨B, hB⟩ : ∃ B, B = (decide (30 < np) || (decide (30 < nw) || (decide (30 < nb) || decide (600 < ts.size)))) := ⟨_, rfl⟩
 have hGB : (decide (30 < np) || (decide (30 < nw) || (decide (30 < nb) || (decide (600 < ts.size) || (List.range nb).any fun k => decide (600 < (bodyAt o.boxes k).size))))) = (B || (List.range nb).any fun k => decide (600 < (bodyAt o.boxes k).size)) := by
  rw [hB, Bool.or_assoc, Bool.or_assoc, Bool.or_assoc]
 rw [hGB]
 rw [← hB] at h25
 clear hB hGB hG
 cases B with
 | true =>
  refine aw_t (by (first | (simp [eval_tmp, put_at, h25]; done) | (simp [eval_tmp, put_at, h25]; omega))) (by kernel_rfl) ?_
  refine aw_seq ?_
  (refine aw_ops (by kernel_rfl) (fun K hK => ?_); simp (disch := first | omega | (simp only [lnS]; try omega)) [-getElem?_pos, -getElem?_neg]; refine hK _ _ ?_; clear hK K)
  (refine aw_ret ?_; simp (disch := first | omega | (simp only [lnS]; try omega)) [-getElem?_pos, -getElem?_neg, thenQ_ret, scopeQ_ret, inBlockQ_ret, RQ, resL, resV])
 | false =>
 rw [Bool.false_or]
 refine aw_f (by (first | (simp [eval_tmp, put_at, h25]; done) | (simp [eval_tmp, put_at, h25]; omega))) (by kernel_rfl) ?_
 refine aw_skip ?_
 refine aw_seq ?_
 refine aw_seq ?_
 (refine aw_ops (by kernel_rfl) (fun K hK => ?_); simp (disch := first | omega | (simp only [lnS]; try omega)) [-getElem?_pos, -getElem?_neg]; refine hK _ _ ?_; clear hK K)
 refine aw_block ?_
 refine aw_loop (fun c α G' => ∃ i : Nat, i + c = nb ∧ G = G' ∧ α 1 = .pointer (some ⟨g, 0, none⟩) ∧ α 3 = .int .i64 (i : Nat) ∧ ∀ k, k < i → decide (600 < (bodyAt o.boxes k).size) = false) nb ?_ ?_
 ·exact ⟨0, by omega, rfl, by (first | (simp [put_at, put_none, fr0_at, h1]; done) | rfl), by (first | (simp [put_at, put_none, fr0_at]; done) | rfl), fun k hk => by omega⟩
 clear h1 h25 α
 rintro c α G' ⟨i, hic, rfl, h1, h3, hpre⟩
 refine aw_seq ?_
 refine aw_seq ?_
 by_cases hi : i < nb
 case neg =>
  (refine aw_ops (by kernel_rfl) (fun K hK => ?_); simp (disch := first | omega | (simp only [lnS]; try omega)) [-getElem?_pos, -getElem?_neg, h1, h3, hb, hlen, c70, -notTuple, b1, b2, nt_intG, -xlen, b3, hi]; refine hK _ _ ?_; clear hK K)
  refine aw_f (by (first | (simp [eval_tmp, put_at, hi]; done) | (simp [eval_tmp, put_at, hi]; omega))) (by kernel_rfl) ?_
  refine aw_exit ?_
  refine aw_seq ?_
  (refine aw_ops (by kernel_rfl) (fun K hK => ?_); simp (disch := first | omega | (simp only [lnS]; try omega)) [-getElem?_pos, -getElem?_neg]; refine hK _ _ ?_; clear hK K)
  (refine aw_ret ?_; simp (disch := first | omega | (simp only [lnS]; try omega)) [-getElem?_pos, -getElem?_neg, thenQ_ret, scopeQ_ret, inBlockQ_ret, RQ, resL, resV])
  intro k hk
  have := hpre k (by omega)
  simp at this
  exact this
 obtain ⟨j, q, bb, hx, hbb, hcb, hbm⟩ := hbx.body_at hw.boxes (i := i) (by omega)
 have hbG : hget G j = some bb := (hlow.1 j (hget_lt hbb)).trans hbb
 (refine aw_ops (by kernel_rfl) (fun K hK => ?_); simp (disch := first | omega | (simp only [lnS]; try omega)) [-getElem?_pos, -getElem?_neg, h1, h3, hb, hlen, c70, -notTuple, b1, b2, nt_intG, -xlen, b3, hi]; refine hK _ _ ?_; clear hK K)
 refine aw_t (by (first | (simp [eval_tmp, put_at, hi]; done) | (simp [eval_tmp, put_at, hi]; omega))) (by kernel_rfl) ?_
 refine aw_skip ?_
 refine aw_seq ?_
 refine aw_block ?_
 obtain ⟨bd, hbd⟩ : ∃ b, b = bodyAt o.boxes i := ⟨_, rfl⟩
 rw [← hbd] at hcb hbm
 have hbz : bd.size ≤ 9223372036854775807 := by simp only [maxLen] at hbm; omega
 have hxt : xlen Try.prog 9 (.string bd) = some (.int .i64 bd.size) := by simp [xlen]
 refine aw_seq ?_
 by_cases h6 : 600 < bd.size
 ·(refine aw_ops (by kernel_rfl) (fun K hK => ?_); simp (disch := first | omega | (simp only [lnS]; try omega)) [-getElem?_pos, -getElem?_neg, h1, h3, hb, hlen, c70, -notTuple, b1, b2, nt_intG, nt_strG, -xindexAddr, hx, hbG, hcb, -xlen, hxt, h6]; refine hK _ _ ?_; clear hK K)
  refine aw_t (by (first | (simp [eval_tmp, put_at, h6]; done) | (simp [eval_tmp, put_at, h6]; omega))) (by kernel_rfl) ?_
  refine aw_seq ?_
  (refine aw_ops (by kernel_rfl) (fun K hK => ?_); simp (disch := first | omega | (simp only [lnS]; try omega)) [-getElem?_pos, -getElem?_neg]; refine hK _ _ ?_; clear hK K)
  (refine aw_ret ?_; simp (disch := first | omega | (simp only [lnS]; try omega)) [-getElem?_pos, -getElem?_neg, thenQ_ret, scopeQ_ret, inBlockQ_ret, RQ, resL, resV])
  exact ⟨i, hi, by rw [← hbd]; exact h6⟩
 ·(refine aw_ops (by kernel_rfl) (fun K hK => ?_); simp (disch := first | omega | (simp only [lnS]; try omega)) [-getElem?_pos, -getElem?_neg, h1, h3, hb, hlen, c70, -notTuple, b1, b2, nt_intG, nt_strG, -xindexAddr, hx, hbG, hcb, -xlen, hxt, h6]; refine hK _ _ ?_; clear hK K)
  refine aw_f (by (first | (simp [eval_tmp, put_at, h6]; done) | (simp [eval_tmp, put_at, h6]; omega))) (by kernel_rfl) ?_
  refine aw_skip ?_
  (refine aw_ops (by kernel_rfl) (fun K hK => ?_); simp (disch := first | omega | (simp only [lnS]; try omega)) [-getElem?_pos, -getElem?_neg, h3]; refine hK _ _ ?_; clear hK K)
  refine ⟨c - 1, by omega, i + 1, by omega, rfl, by (first | (simp [put_at, put_none, fr0_at, h1]; done) | rfl), by (first | (simp [put_at, put_none, fr0_at]; done) | rfl), fun k hk => ?_⟩
  by_cases e : k = i
  ·subst e
   rw [← hbd]
   simpa using h6
  ·exact hpre k (by omega)
def greatG (l : List NodeD) : Bool := decide (110 < l.length) || (List.range l.length).any fun k => greatO (nd l k).op || decide (200 < (nd l k).past.length)
theorem greatG_rc {γ : Nat → Option Nat} {H : AH} {nv : Value} {l : List NodeD} (hN : NdA H nv l) : AC Try.prog H.length γ 17 #[nv] H (fun v' _ => v' = .bool (greatG l)) := by
 have hN' := hN
 obtain ⟨hnt, hvc, hxl, hwf, hat⟩ := hN
 unfold greatG
 refine ac_of_aw Try.func17 rfl Try.ntmps17 Try.results17 (by simp) ?_
 refine aw_seq ?_
 (refine aw_ops (by kernel_rfl) (fun K hK => ?_); simp (disch := first | omega | (simp only [lnS]; try omega)) [-getElem?_pos, -getElem?_neg]; refine hK _ _ ?_; clear hK K)
 refine aw_seq ?_
 refine aw_seq ?_
 by_cases hl : 110 < l.length
 ·(refine aw_ops (by kernel_rfl) (fun K hK => ?_); simp (disch := first | omega | (simp only [lnS]; try omega)) [-getElem?_pos, -getElem?_neg, -notTuple, hnt, hvc, nt_intG, -xlen, hxl, hl]; refine hK _ _ ?_; clear hK K)
  refine aw_t (by (first | (simp [eval_tmp, put_at, hl]; done) | (simp [eval_tmp, put_at, hl]; omega))) (by kernel_rfl) ?_
  refine aw_seq ?_
  (refine aw_ops (by kernel_rfl) (fun K hK => ?_); simp (disch := first | omega | (simp only [lnS]; try omega)) [-getElem?_pos, -getElem?_neg]; refine hK _ _ ?_; clear hK K)
  (refine aw_ret ?_; simp (disch := first | omega | (simp only [lnS]; try omega)) [-getElem?_pos, -getElem?_neg, thenQ_ret, scopeQ_ret, inBlockQ_ret, RQ, resL, resV])
  all_goals simp [hl]
 have hlf : decide (110 < l.length) = false := by simpa using hl
 rw [hlf, Bool.false_or]
 (refine aw_ops (by kernel_rfl) (fun K hK => ?_); simp (disch := first | omega | (simp only [lnS]; try omega)) [-getElem?_pos, -getElem?_neg, -notTuple, hnt, hvc, nt_intG, -xlen, hxl, hl]; refine hK _ _ ?_; clear hK K)
 refine aw_f (by (first | (simp [eval_tmp, put_at, hl]; done) | (simp [eval_tmp, put_at, hl]; omega))) (by kernel_rfl) ?_
 refine aw_skip ?_
 refine aw_seq ?_
 refine aw_seq ?_
 (refine aw_ops (by kernel_rfl) (fun K hK => ?_); simp (disch := first | omega | (simp only [lnS]; try omega)) [-getElem?_pos, -getElem?_neg]; refine hK _ _ ?_; clear hK K)
 refine aw_block ?_
 obtain ⟨R, hR⟩ : ∃ R, R = ((List.range l.length).any fun k => greatO (nd l k).op || decide (200 < (nd l k).past.length)) := ⟨_, rfl⟩
 rw [← hR]
 refine aw_loop (fun c α G' => ∃ i : Nat, i + c = l.length ∧ H = G' ∧ α 0 = nv ∧ α 3 = .int .i64 (i : Nat) ∧ ∀ k, k < i → (greatO (nd l k).op || decide (200 < (nd l k).past.length)) = false) l.length ?_ ?_
 ·exact ⟨0, by omega, rfl, by (first | (simp [put_at, put_none, fr0_at]; done) | rfl), by (first | (simp [put_at, put_none, fr0_at]; done) | rfl), fun k hk => by omega⟩
 rintro c α G' ⟨i, hic, rfl, h0, h3, hpre⟩
 refine aw_seq ?_
 refine aw_seq ?_
 by_cases hi : i < l.length
 case neg =>
  (refine aw_ops (by kernel_rfl) (fun K hK => ?_); simp (disch := first | omega | (simp only [lnS]; try omega)) [-getElem?_pos, -getElem?_neg, h0, h3, -notTuple, hnt, hvc, nt_intG, -xlen, hxl, hi]; refine hK _ _ ?_; clear hK K)
  refine aw_f (by (first | (simp [eval_tmp, put_at, hi]; done) | (simp [eval_tmp, put_at, hi]; omega))) (by kernel_rfl) ?_
  refine aw_exit ?_
  have hRf : R = false := hR.trans (any_none (fun k hk => hpre k (by omega)))
  rw [hRf]
  refine aw_seq ?_
  (refine aw_ops (by kernel_rfl) (fun K hK => ?_); simp (disch := first | omega | (simp only [lnS]; try omega)) [-getElem?_pos, -getElem?_neg]; refine hK _ _ ?_; clear hK K)
  (refine aw_ret ?_; simp (disch := first | omega | (simp only [lnS]; try omega)) [-getElem?_pos, -getElem?_neg, thenQ_ret, scopeQ_ret, inBlockQ_ret, RQ, resL, resV])
 obtain ⟨j, q, bb, us, pv, wv', bv, qv, hx, hbb, hq, hcell, hus, hC⟩ := hat i _ (nd_get hi)
 have hwfi := hwf _ (List.mem_of_getElem? (nd_get hi))
 obtain ⟨u7, hu7⟩ : ∃ u, u = (us.drop 32).take 71 := ⟨_, rfl⟩
 have hO : OpC H u7 (nd l i).op pv wv' bv := hu7 ▸ hC.op
 have hcut : (bb.cells.drop (q + 32)).take 71 = u7 := by rw [op_cut, ← hus, hu7]
 have hu7l := hO.len
 have hgo := greatO_rc (γ := γ) hO hwfi.op
 have hqv : bb.cells[q + 103]? = some qv := (hcell 103 (by omega)).trans hC.c103
 have qa := hC.past.acc
 have q1 := qa.nt
 have q2 := qa.cs
 have q3 := qa.len
 have hRt : (greatO (nd l i).op || decide (200 < (nd l i).past.length)) = true → R = true := fun e => hR.trans (any_some hi e)
 (refine aw_ops (by kernel_rfl) (fun K hK => ?_); simp (disch := first | omega | (simp only [lnS]; try omega)) [-getElem?_pos, -getElem?_neg, h0, h3, -notTuple, hnt, hvc, nt_intG, -xlen, hxl, hi]; refine hK _ _ ?_; clear hK K)
 refine aw_t (by (first | (simp [eval_tmp, put_at, hi]; done) | (simp [eval_tmp, put_at, hi]; omega))) (by kernel_rfl) ?_
 refine aw_skip ?_
 refine aw_seq ?_
 refine aw_block ?_
 refine aw_seq ?_
 refine aw_ops (by kernel_rfl) (fun K hK => ?_)
 simp (disch := first | omega | (simp only [lnS]; try omega)) [-getElem?_pos, -getElem?_neg, h0, h3, -notTuple, hnt, hvc, nt_intG, nt_aggG, -xindexAddr, hx, hbb, hcut, hu7l]
 refine ⟨by kernel_rfl, ac_of_rc hgo (by simp [pv_iv, pv_int, pv_bool, pv_string, pv_tup2, pv_tup3, iv_plain, p2_int, p2_bool, p2_string]) ?_⟩
 cases h5 : greatO (nd l i).op with
 | true =>
  try simp (disch := first | omega | (simp only [lnS]; try omega)) [-getElem?_pos, -getElem?_neg]
  refine hK _ _ ?_; clear hK K
  refine aw_t (by (first | (simp [eval_tmp, put_at]; done) | (simp [eval_tmp, put_at]; omega))) (by kernel_rfl) ?_
  refine aw_seq ?_
  rw [hRt (by rw [h5]; rfl)]
  (refine aw_ops (by kernel_rfl) (fun K hK => ?_); simp (disch := first | omega | (simp only [lnS]; try omega)) [-getElem?_pos, -getElem?_neg]; refine hK _ _ ?_; clear hK K)
  (refine aw_ret ?_; simp (disch := first | omega | (simp only [lnS]; try omega)) [-getElem?_pos, -getElem?_neg, thenQ_ret, scopeQ_ret, inBlockQ_ret, RQ, resL, resV])
 | false =>
  by_cases h6 : 200 < (nd l i).past.length
  ·simp (disch := first | omega | (simp only [lnS]; try omega)) [-getElem?_pos, -getElem?_neg, h0, h3, -notTuple, hnt, hvc, q1, q2, nt_intG, -xindexAddr, hx, hbb, hqv, -xlen, q3, h6]
   refine hK _ _ ?_; clear hK K
   refine aw_t (by (first | (simp [eval_tmp, put_at]; done) | (simp [eval_tmp, put_at]; omega))) (by kernel_rfl) ?_
   refine aw_seq ?_
   rw [hRt (by rw [decide_eq_true h6, Bool.or_true])]
   (refine aw_ops (by kernel_rfl) (fun K hK => ?_); simp (disch := first | omega | (simp only [lnS]; try omega)) [-getElem?_pos, -getElem?_neg]; refine hK _ _ ?_; clear hK K)
   (refine aw_ret ?_; simp (disch := first | omega | (simp only [lnS]; try omega)) [-getElem?_pos, -getElem?_neg, thenQ_ret, scopeQ_ret, inBlockQ_ret, RQ, resL, resV])
  ·simp (disch := first | omega | (simp only [lnS]; try omega)) [-getElem?_pos, -getElem?_neg, h0, h3, -notTuple, hnt, hvc, q1, q2, nt_intG, -xindexAddr, hx, hbb, hqv, -xlen, q3, h6]
   refine hK _ _ ?_; clear hK K
   refine aw_f (by (first | (simp [eval_tmp, put_at]; done) | (simp [eval_tmp, put_at]; omega))) (by kernel_rfl) ?_
   refine aw_skip ?_
   (refine aw_ops (by kernel_rfl) (fun K hK => ?_); simp (disch := first | omega | (simp only [lnS]; try omega)) [-getElem?_pos, -getElem?_neg, h3]; refine hK _ _ ?_; clear hK K)
   refine ⟨c - 1, by omega, i + 1, by omega, rfl, by (first | (simp [put_at, put_none, fr0_at, h0]; done) | rfl), by (first | (simp [put_at, put_none, fr0_at]; done) | rfl), fun k hk => ?_⟩
   by_cases e : k = i
   ·subst e
    rw [h5, decide_eq_false h6]; rfl
   ·exact hpre k (by omega)
end
section
theorem first_diff : ∀ {a b : List Int}, a.length = b.length → a ≠ b → ∃ p x y r s, a = p ++ x :: r ∧ b = p ++ y :: s ∧ x ≠ y
 | [], [], _, h => absurd rfl h
 | [], _ :: _, h, _ => by cases h
 | _ :: _, [], h, _ => by cases h
 | u :: a, v :: b, hl, h => by
  by_cases e : u = v
  ·subst e
   obtain ⟨p, x, y, r, s, rfl, rfl, hxy⟩ := first_diff (a := a) (b := b) (by simpa using hl) (fun e => h (by rw [e]))
   exact ⟨u :: p, x, y, r, s, rfl, rfl, hxy⟩
  ·exact ⟨[], u, v, a, b, rfl, rfl, e⟩
theorem lt_at (p : List Int) (x y : Int) (r s : List Int) (h : x ≠ y) : p ++ x :: r < p ++ y :: s ↔ x < y := by
 induction p with
 | nil =>
  rw [List.nil_append, List.nil_append, List.cons_lt_cons_iff]
  exact ⟨fun h2 => h2.elim id (fun h3 => absurd h3.1 h), Or.inl⟩
 | cons u p ih =>
  rw [List.cons_append, List.cons_append, List.cons_lt_cons_iff]
  exact ⟨fun h2 => h2.elim (fun h3 => absurd h3 (Int.lt_irrefl _)) (fun h3 => ih.1 h3.2), fun h2 => .inr ⟨rfl, ih.2 h2⟩⟩
theorem cmpL_lt {a b : List Int} (ha : By a) (hb : By b) (hl : a.length = b.length) : cmpL a b < 0 ↔ a < b := by
 by_cases e : a = b
 ·subst e
  rw [cmpL_eq]
  exact ⟨fun h => absurd h (by omega), fun h => absurd h (List.lt_irrefl a)⟩
 ·obtain ⟨p, x, y, r, s, rfl, rfl, hxy⟩ := first_diff hl e
  rw [lt_at p x y r s hxy, cmpL_at ha hb hl (i := p.length) (x := x) (y := y) (by simp) (by simp) hxy (by simp)]
  split
  ·exact ⟨fun _ => by assumption, fun _ => by omega⟩
  ·exact ⟨fun h => by omega, fun h => by contradiction⟩
theorem lt_tri {a b : List Int} (h1 : ¬ a < b) (h2 : a ≠ b) : b < a := by
 rcases List.le_total a b with h | h
 ·exact Decidable.byContradiction fun h3 => h2 (List.le_antisymm h (List.not_lt.1 h1))
 ·exact Decidable.byContradiction fun h3 => h2 (List.le_antisymm (List.not_lt.1 h3) (List.not_lt.1 h1))
abbrev Rise (l : List (List Int)) : Prop := l.Pairwise (· < ·)
theorem rise_put {S : List (List Int)} {x : List Int} {j : Nat} (hS : Rise S) (hj : j ≤ S.length) (hgt : ∀ s ∈ S.drop j, x < s) (hle : ∀ s, j ≠ 0 → S[j - 1]? = some s → ¬ x < s) (hx : x ∉ S) : Rise (S.take j ++ x :: S.drop j) := by
 have hS' := hS
 rw [← List.take_append_drop j S] at hS'
 obtain ⟨h1, h2, h3⟩ := List.pairwise_append.1 hS'
 refine List.pairwise_append.2 ⟨h1, List.pairwise_cons.2 ⟨hgt, h2⟩, fun a ha b hb => ?_⟩
 rcases List.mem_cons.1 hb with rfl | hb
 ·cases j with
  | zero => simp at ha
  | succ j =>
   have hjl : j < S.length := by omega
   obtain ⟨s, hs⟩ : ∃ s, S[j]? = some s := ⟨_, List.getElem?_eq_getElem hjl⟩
   have hsx : s < b := lt_tri (hle s (by omega) (by simpa using hs)) (fun e => hx (by rw [e]; exact List.mem_of_getElem? hs))
   rw [List.take_add_one, hs] at ha h1
   rcases List.mem_append.1 ha with ha | ha
   ·exact List.lt_trans ((List.pairwise_append.1 h1).2.2 a ha s (by simp)) hsx
   ·simp at ha; subst ha; exact hsx
 ·exact h3 a ha b hb
theorem put_perm {S : List (List Int)} (x : List Int) (j : Nat) : (S.take j ++ x :: S.drop j).Perm (S ++ [x]) := by
 refine List.perm_middle.trans ?_
 rw [List.take_append_drop]
 exact (List.perm_append_comm (l₁ := S) (l₂ := [x])).symm
def sortK (l : List (List Int)) : List (List Int) := l.mergeSort fun a b => !decide (b < a)
theorem sortK_perm (l : List (List Int)) : (sortK l).Perm l := List.mergeSort_perm _ _
theorem sortK_le (l : List (List Int)) : (sortK l).Pairwise fun a b => ¬ b < a := by
 have := List.pairwise_mergeSort (le := fun a b : List Int => !decide (b < a)) (fun a b c h1 h2 => by
  simp only [Bool.not_eq_true', decide_eq_false_iff_not] at h1 h2 ⊢
  intro h3
  by_cases e : b = c
  ·subst e; exact h1 h3
  ·exact h1 (List.lt_trans (lt_tri h2 (fun e2 => e e2.symm)) h3)) (fun a b => by
  by_cases h : b < a
  ·have := List.lt_asymm h
   simp [h, this]
  ·simp [h]) l
 exact this.imp (fun h => by simpa using h)
theorem sortK_eq {L l : List (List Int)} (hp : L.Perm l) (hs : Rise L) : L = sortK l := by
 refine List.Perm.eq_of_pairwise (le := fun a b => ¬ b < a) (fun a b _ _ h1 h2 => Decidable.byContradiction fun e => h1 (lt_tri h2 e)) (hs.imp fun h => List.lt_asymm h) (sortK_le l) (hp.trans (sortK_perm l).symm)
end
section
def CD.flat : CD → Bool | .sl _ => false | _ => true
def CD.fv : CD → Value | .int k z => .int k z | .str s => .string s | .bool b => .bool b | .sl _ => undef
theorem flat_val {H : AH} {d : CD} {x : Value} (hf : d.flat = true) (h : CD.Val H d x) : x = d.fv := by
 cases h with
 | int => rfl
 | str => rfl
 | bool => rfl
 | nil _ => cases hf
 | sl _ _ _ _ => cases hf
theorem val_flat {H : AH} {d : CD} (hf : d.flat = true) : CD.Val H d d.fv := by
 cases d with
 | int => exact .int
 | str => exact .str
 | bool => exact .bool
 | sl => cases hf
theorem fl_at {β : Type} {L : List (List β)} {n i c : Nat} {row : List β} {d : β} (h : ∀ r ∈ L, r.length = n) (hi : L[i]? = some row) (hc : row[c]? = some d) : L.flatten[i * n + c]? = some d := by
 have hr := h row (List.mem_of_getElem? hi)
 have hcl := (List.getElem?_eq_some_iff.1 hc).1
 have := fl_get h hi
 rw [← this] at hc
 rwa [List.getElem?_take_of_lt (by omega), List.getElem?_drop] at hc
def flatR (rows : List (List CD)) : Prop := ∀ row ∈ rows, ∀ d ∈ row, d.flat = true
theorem val_cells {H : AH} {rows : List (List CD)} {v : Value} {sz : Nat} (h0 : 0 < sz) (h : CD.Val H (.sl rows) v) (hr : ∀ row ∈ rows, row.length = sz) (hf : flatR rows) : xcells sz v H = some (rows.flatten.map CD.fv) := by
 cases h with
 | @nil a ha =>
  cases a with
  | none => rfl
  | some x =>
   obtain ⟨j, off, spot⟩ := x
   have hsp : spot = some 0 := ha _ rfl
   subst hsp
   rfl
 | @sl sz' j k _ h1 h2 h3 h4 =>
  have hlen : rows.flatten.length = rows.length * sz := fl_len hr
  have hle : rows.length * sz ≤ k.cells.length := by
   cases rows with
   | nil => simp
   | cons r rs =>
    have e1 := h3 r (by simp)
    have e2 := hr r (by simp)
    rw [← e2, e1]; exact h2
  have hx : xcells sz (.slice (some ⟨j, 0, none⟩) rows.length rows.length) H = some ((k.cells.drop 0).take (rows.length * sz)) := by
   unfold xcells
   simp only [h1]
   rw [if_pos (by omega)]
  rw [hx, List.drop_zero]
  congr 1
  apply List.ext_getElem?
  intro c
  rcases Nat.lt_or_ge c (rows.length * sz) with hc | hc
  ·have hi : c / sz < rows.length := Nat.div_lt_of_lt_mul (by rw [Nat.mul_comm]; exact hc)
   obtain ⟨row, hrow⟩ : ∃ row, rows[c / sz]? = some row := ⟨_, List.getElem?_eq_getElem hi⟩
   have hrl := hr row (List.mem_of_getElem? hrow)
   have hrl' := h3 row (List.mem_of_getElem? hrow)
   have hm := Nat.mod_lt c h0
   obtain ⟨d, hd⟩ : ∃ d, row[c % sz]? = some d := ⟨_, List.getElem?_eq_getElem (by omega)⟩
   have hce : c / sz * sz + c % sz = c := by rw [Nat.mul_comm]; exact Nat.div_add_mod c sz
   have hat := fl_at hr hrow hd
   rw [hce] at hat
   have hkc : k.cells[c]? = some (k.cells[c]'(by omega)) := List.getElem?_eq_getElem _
   have hv := h4 (c / sz) row (c % sz) d _ hrow hd (by rw [show sz' = sz by omega, hce]; exact hkc)
   rw [List.getElem?_take_of_lt hc, hkc, flat_val (hf row (List.mem_of_getElem? hrow) d (List.mem_of_getElem? hd)) hv, List.getElem?_map, hat]
   rfl
  ·rw [List.getElem?_eq_none (by rw [List.length_take]; omega), List.getElem?_eq_none (by rw [List.length_map, hlen]; omega)]
theorem own_val {G : AH} {v : Value} {e : TypeId} {sz : Nat} {rows : List (List CD)} {F : List Nat} (h0 : 0 < sz) (h : OwnF G v e sz (rows.flatten.map CD.fv) F) (hr : ∀ row ∈ rows, row.length = sz) (hf : flatR rows) : CD.Val G (.sl rows) v := by
 have hlen : rows.flatten.length = rows.length * sz := fl_len hr
 rcases h with ⟨rfl, h1, _⟩ | ⟨j, len, rfl, h2, h3, _⟩
 ·have h4 := congrArg List.length h1
  rw [List.length_map, hlen, List.length_nil] at h4
  have : rows.length = 0 := by
   rcases Nat.mul_eq_zero.1 h4 with h | h
   ·exact h
   ·omega
  rw [List.eq_nil_of_length_eq_zero this]
  exact .nil (fun x e => by cases e)
 ·rw [List.length_map, hlen] at h3
  have : len = rows.length := (Nat.eq_of_mul_eq_mul_right h0 h3).symm
  subst this
  refine .sl (sz := sz) h2 (by show _ ≤ (rows.flatten.map CD.fv).length; rw [List.length_map, hlen]; exact Nat.le_refl _) hr (fun i row c d x hi hc hx => ?_)
  have hat := fl_at hr hi hc
  have hx' : (rows.flatten.map CD.fv)[i * sz + c]? = some x := hx
  rw [List.getElem?_map, hat] at hx'
  cases hx'
  exact val_flat (hf row (List.mem_of_getElem? hi) d (List.mem_of_getElem? hc))
def clV (v : Value) (n : Nat) : Value := match v with | .slice none _ _ => .slice none 0 0 | .slice (some _) k _ => .slice (some ⟨n + 1, 0, none⟩) k k | _ => undef
def clN (v : Value) : Nat := match v with | .slice none _ _ => 0 | _ => 2
theorem val_shape {H : AH} {rows : List (List CD)} {v : Value} (h : CD.Val H (.sl rows) v) : (v = .slice none 0 0 ∧ rows = []) ∨ ∃ a, v = .slice (some a) rows.length rows.length := by
 cases h with
 | @nil a ha =>
  cases a with
  | none => exact .inl ⟨rfl, rfl⟩
  | some x => exact .inr ⟨x, rfl⟩
 | sl _ _ _ _ => exact .inr ⟨_, rfl⟩
theorem clone_app {P : Program} {nro : Nat} {t e : TypeId} {sz : Nat} {cells : List Value} {H : AH} {a : Addr} {n : Nat} (hu : und P t = .slice e) (hs : szt P e = sz) (h0 : 0 < sz) (hz : (zer P e).map (·.cells.size) = some sz) (hnro : nro ≤ H.length)
  (hx : xcells sz (.slice (some a) n n) (H ++ [some ⟨[], e, some sz⟩]) = some cells) (hl : cells.length = n * sz) (hb : cells.length * byt P e ≤ 140737488355328) (hm : cells.length ≤ maxLen) :
  xappend P nro t (.slice (some ⟨H.length, 0, none⟩) 0 0) (.slice (some a) n n) (H ++ [some ⟨[], e, some sz⟩]) = some (.slice (some ⟨H.length + 1, 0, none⟩) n n, H ++ [none, some ⟨cells, e, some sz⟩]) := by
 subst hs
 have hg : hget (H ++ [some ⟨[], e, some (szt P e)⟩]) H.length = some ⟨[], e, some (szt P e)⟩ := by rw [hget_app0]; rfl
 unfold xappend
 simp only [hu, hx, hg]
 rw [if_pos ⟨trivial, h0, hz, hnro, trivial, trivial, by simp, by simpa using hb, by simpa using hm⟩, hl, Nat.mul_div_cancel _ h0]
 simp
def NewC (H : AH) (v : Value) (e : TypeId) (sz : Nat) (cells : List Value) (v' : Value) (H' : AH) : Prop :=
 v' = clV v H.length ∧ H'.length = H.length + clN v ∧ Low H.length H H' ∧ ∃ F, OwnF H' v' e sz cells F ∧ ∀ j ∈ F, H.length ≤ j
theorem kd_flat (ps : List (List Int)) : flatR (ps.map kd) := by
 intro row hr d hd
 obtain ⟨k, _, rfl⟩ := List.mem_map.1 hr
 obtain ⟨z, _, rfl⟩ := List.mem_map.1 hd
 rfl
theorem int_flat (l : List Int) : flatR (l.map fun z => [CD.int .i64 z]) := by
 intro row hr d hd
 obtain ⟨k, _, rfl⟩ := List.mem_map.1 hr
 rw [List.mem_singleton] at hd
 subst hd
 rfl
theorem box_flat (l : List BoxD) : flatR (l.map BoxD.row) := by
 intro row hr d hd
 obtain ⟨b, _, rfl⟩ := List.mem_map.1 hr
 simp only [BoxD.row, kd, List.mem_append, List.mem_singleton, List.mem_map, List.mem_cons, List.not_mem_nil, or_false] at hd
 rcases hd with rfl | ⟨z, _, rfl⟩ | rfl | rfl | rfl <;> rfl
theorem kd_len {ps : List (List Int)} (h : ∀ k ∈ ps, k.length = 32) : ∀ row ∈ ps.map kd, row.length = 32 := by
 intro row hr
 obtain ⟨k, hk, rfl⟩ := List.mem_map.1 hr
 rw [kd, List.length_map]; exact h k hk
theorem int_len (l : List Int) : ∀ row ∈ l.map fun z => [CD.int .i64 z], row.length = 1 := by
 intro row hr
 obtain ⟨k, hk, rfl⟩ := List.mem_map.1 hr
 rfl
theorem box_len {l : List BoxD} (h : ∀ b ∈ l, b.Wf) : ∀ row ∈ l.map BoxD.row, row.length = 36 := by
 intro row hr
 obtain ⟨b, hb, rfl⟩ := List.mem_map.1 hr
 have := (h b hb).pub.1
 simp [BoxD.row, kd, this]
def ksC (ps : List (List Int)) : List Value := (ps.map kd).flatten.map CD.fv
def isC (l : List Int) : List Value := (l.map fun z => [CD.int .i64 z]).flatten.map CD.fv
def bxC (l : List BoxD) : List Value := (l.map BoxD.row).flatten.map CD.fv
theorem ksC_len {ps : List (List Int)} (h : ∀ k ∈ ps, k.length = 32) : (ksC ps).length = ps.length * 32 := by unfold ksC; rw [List.length_map, fl_len (kd_len h), List.length_map]
theorem isC_len (l : List Int) : (isC l).length = l.length * 1 := by unfold isC; rw [List.length_map, fl_len (int_len l), List.length_map]
theorem bxC_len {l : List BoxD} (h : ∀ b ∈ l, b.Wf) : (bxC l).length = l.length * 36 := by unfold bxC; rw [List.length_map, fl_len (box_len h), List.length_map]
attribute [local simp] wb_bool wb_undef with_lit XL_nil XL_cons XLc_val XLc_call step1_eq stepW_t stepW_f stepC_n stepC_s stepX_s stepX_n stepN_s calleeX xrecv oneV xop_eq xopR_s xopR_n wantedA_eq wantedG_n wantedG_s plain1_int plain1_bool plain1_string bits_i64 bits_u64 bits_u32 bits_u16 bits_u8 xeqA xagg xcmp xarr allK_iv num_iv calleeOf xread xeff xbin xint xnil xun xstr xload xconv xpart xfield xfieldAddr xindexAddr xindex bnd asInt? xslice xlen xmin xmax xbuild xfill xappend xapp2 xappstr xappmk xcap xcopy xcells eval_tmp eval_const put_at put_none fr0_at cells_agg cells_int cells_bool cells_string cells_ptr cells_slice notTuple tab iv_all hget_app hget_app0 hget_cons0 hget_cons set_app set_app0 setR setR_one QL_nil QL_cons QLc_val stepQ_t stepQ_f stepQC_n stepQC_s stepQX_s SL_nil SL_cons SLc_val stepS_t stepS_f ltT ltF leT leF eqT eqF ltTn ltFn leTn leFn eqTn eqFn beqT beqF bneT bneF wi64 wu64 wu32 wu16 wu8 tmodP tdivP hgetL hgetNe hgetEq setL nums_def nums_len Nat.succ_le_of_lt List.getElem?_cons_zero List.getElem?_cons_succ Option.getD_some Int.toNat_add Int.toNat_mul agM okM agB agI agS agP agL agA okB okI okS okP okSl okA
theorem cloneI_ac {nro : Nat} {γ : Nat → Option Nat} {H : AH} {v : Value} {l : List Int} (h : InV H v l) (hnro : nro ≤ H.length) (hm : l.length ≤ 100000000000) : AC Try.prog nro γ 133 #[v] H (NewC H v 3 1 (isC l)) := by
 have hxc : ∀ G : AH, Low H.length H G → xcells 1 v G = some (isC l) := fun G hG => val_cells (by omega) (CD.Val.low (fun j hj => hG.1 j hj) h) (int_len l) (int_flat l)
 have hcl := isC_len l
 have hsh := val_shape h
 rw [List.length_map] at hsh
 generalize isC l = cells at *
 have hb0 : Low H.length H (H ++ [some ⟨[], 3, some 1⟩]) := Low.push (Nat.le_refl _) _
 refine ac_of_aw Try.func133 rfl Try.ntmps133 Try.results133 (by simp) ?_
 refine aw_seq ?_
 (refine aw_ops (by kernel_rfl) (fun K hK => ?_); simp (disch := first | omega | (simp only [lnS]; try omega)) [-getElem?_pos, -getElem?_neg]; refine hK _ _ ?_; clear hK K)
 refine aw_seq ?_
 refine aw_seq ?_
 rcases hsh with ⟨rfl, hl0⟩ | ⟨a, rfl⟩
 ·have hl0 : l = [] := List.map_eq_nil_iff.1 hl0
  subst hl0
  have hc0 : cells = [] := List.eq_nil_of_length_eq_zero (by simpa using hcl)
  subst hc0
  (refine aw_ops (by kernel_rfl) (fun K hK => ?_); simp (disch := first | omega | (simp only [lnS]; try omega)) [-getElem?_pos, -getElem?_neg]; refine hK _ _ ?_; clear hK K)
  refine aw_t (by (first | (simp [eval_tmp, put_at]; done) | (simp [eval_tmp, put_at]; omega))) (by kernel_rfl) ?_
  refine aw_seq ?_
  (refine aw_ops (by kernel_rfl) (fun K hK => ?_); simp (disch := first | omega | (simp only [lnS]; try omega)) [-getElem?_pos, -getElem?_neg]; refine hK _ _ ?_; clear hK K)
  (refine aw_ret ?_; simp (disch := first | omega | (simp only [lnS]; try omega)) [-getElem?_pos, -getElem?_neg, thenQ_ret, scopeQ_ret, inBlockQ_ret, RQ, resL, resV])
  exact ⟨rfl, rfl, Low.refl (Nat.le_refl _), [], .inl ⟨rfl, rfl, rfl⟩, fun j hj => by cases hj⟩
 ·have hap := clone_app (P := Try.prog) (nro := nro) (t := 23) (e := 3) (sz := 1) (by simp) (by simp) (by omega) (by simp) hnro (hxc _ hb0) hcl (by rw [hcl]; simp; omega) (by rw [hcl]; simp only [maxLen]; omega)
  (refine aw_ops (by kernel_rfl) (fun K hK => ?_); simp (disch := first | omega | (simp only [lnS]; try omega)) [-getElem?_pos, -getElem?_neg]; refine hK _ _ ?_; clear hK K)
  refine aw_f (by (first | (simp [eval_tmp, put_at]; done) | (simp [eval_tmp, put_at]; omega))) (by kernel_rfl) ?_
  refine aw_skip ?_
  refine aw_seq ?_
  (refine aw_ops (by kernel_rfl) (fun K hK => ?_); simp (disch := first | omega | (simp only [lnS]; try omega)) [-getElem?_pos, -getElem?_neg, -xappend, hap, List.range_zero, List.map_nil]; refine hK _ _ ?_; clear hK K)
  (refine aw_ret ?_; simp (disch := first | omega | (simp only [lnS]; try omega)) [-getElem?_pos, -getElem?_neg, thenQ_ret, scopeQ_ret, inBlockQ_ret, RQ, resL, resV])
  exact ⟨rfl, by simp [clN], ⟨fun j hj => hget_left hj, by simp⟩, [H.length + 1], .inr ⟨H.length + 1, l.length, rfl, by rw [hget_app]; rfl, hcl, rfl⟩, fun j hj => by simp at hj; omega⟩
theorem cloneK_ac {nro : Nat} {γ : Nat → Option Nat} {H : AH} {v : Value} {l : List (List Int)} (h : KsV H v l) (hk : ∀ k ∈ l, k.length = 32) (hnro : nro ≤ H.length) (hm : l.length ≤ 100000000000) : AC Try.prog nro γ 134 #[v] H (NewC H v 38 32 (ksC l)) := by
 have hxc : ∀ G : AH, Low H.length H G → xcells 32 v G = some (ksC l) := fun G hG => val_cells (by omega) (CD.Val.low (fun j hj => hG.1 j hj) h) (kd_len hk) (kd_flat l)
 have hcl := ksC_len hk
 have hsh := val_shape h
 rw [List.length_map] at hsh
 generalize ksC l = cells at *
 have hb0 : Low H.length H (H ++ [some ⟨[], 38, some 32⟩]) := Low.push (Nat.le_refl _) _
 refine ac_of_aw Try.func134 rfl Try.ntmps134 Try.results134 (by simp) ?_
 refine aw_seq ?_
 (refine aw_ops (by kernel_rfl) (fun K hK => ?_); simp (disch := first | omega | (simp only [lnS]; try omega)) [-getElem?_pos, -getElem?_neg]; refine hK _ _ ?_; clear hK K)
 refine aw_seq ?_
 refine aw_seq ?_
 rcases hsh with ⟨rfl, hl0⟩ | ⟨a, rfl⟩
 ·have hl0 : l = [] := List.map_eq_nil_iff.1 hl0
  subst hl0
  have hc0 : cells = [] := List.eq_nil_of_length_eq_zero (by simpa using hcl)
  subst hc0
  (refine aw_ops (by kernel_rfl) (fun K hK => ?_); simp (disch := first | omega | (simp only [lnS]; try omega)) [-getElem?_pos, -getElem?_neg]; refine hK _ _ ?_; clear hK K)
  refine aw_t (by (first | (simp [eval_tmp, put_at]; done) | (simp [eval_tmp, put_at]; omega))) (by kernel_rfl) ?_
  refine aw_seq ?_
  (refine aw_ops (by kernel_rfl) (fun K hK => ?_); simp (disch := first | omega | (simp only [lnS]; try omega)) [-getElem?_pos, -getElem?_neg]; refine hK _ _ ?_; clear hK K)
  (refine aw_ret ?_; simp (disch := first | omega | (simp only [lnS]; try omega)) [-getElem?_pos, -getElem?_neg, thenQ_ret, scopeQ_ret, inBlockQ_ret, RQ, resL, resV])
  exact ⟨rfl, rfl, Low.refl (Nat.le_refl _), [], .inl ⟨rfl, rfl, rfl⟩, fun j hj => by cases hj⟩
 ·have hap := clone_app (P := Try.prog) (nro := nro) (t := 36) (e := 38) (sz := 32) (by simp) (by simp) (by omega) (by simp) hnro (hxc _ hb0) hcl (by rw [hcl]; simp; omega) (by rw [hcl]; simp only [maxLen]; omega)
  (refine aw_ops (by kernel_rfl) (fun K hK => ?_); simp (disch := first | omega | (simp only [lnS]; try omega)) [-getElem?_pos, -getElem?_neg]; refine hK _ _ ?_; clear hK K)
  refine aw_f (by (first | (simp [eval_tmp, put_at]; done) | (simp [eval_tmp, put_at]; omega))) (by kernel_rfl) ?_
  refine aw_skip ?_
  refine aw_seq ?_
  (refine aw_ops (by kernel_rfl) (fun K hK => ?_); simp (disch := first | omega | (simp only [lnS]; try omega)) [-getElem?_pos, -getElem?_neg, -xappend, hap, List.range_zero, List.map_nil]; refine hK _ _ ?_; clear hK K)
  (refine aw_ret ?_; simp (disch := first | omega | (simp only [lnS]; try omega)) [-getElem?_pos, -getElem?_neg, thenQ_ret, scopeQ_ret, inBlockQ_ret, RQ, resL, resV])
  exact ⟨rfl, by simp [clN], ⟨fun j hj => hget_left hj, by simp⟩, [H.length + 1], .inr ⟨H.length + 1, l.length, rfl, by rw [hget_app]; rfl, hcl, rfl⟩, fun j hj => by simp at hj; omega⟩
theorem cloneB_ac {nro : Nat} {γ : Nat → Option Nat} {H : AH} {v : Value} {l : List BoxD} (h : BxV H v l) (hw : ∀ b ∈ l, b.Wf) (hnro : nro ≤ H.length) (hm : l.length ≤ 10000000000) : AC Try.prog nro γ 135 #[v] H (NewC H v 107 36 (bxC l)) := by
 have hxc : ∀ G : AH, Low H.length H G → xcells 36 v G = some (bxC l) := fun G hG => val_cells (by omega) (CD.Val.low (fun j hj => hG.1 j hj) h) (box_len hw) (box_flat l)
 have hcl := bxC_len hw
 have hsh := val_shape h
 rw [List.length_map] at hsh
 generalize bxC l = cells at *
 have hb0 : Low H.length H (H ++ [some ⟨[], 107, some 36⟩]) := Low.push (Nat.le_refl _) _
 refine ac_of_aw Try.func135 rfl Try.ntmps135 Try.results135 (by simp) ?_
 refine aw_seq ?_
 (refine aw_ops (by kernel_rfl) (fun K hK => ?_); simp (disch := first | omega | (simp only [lnS]; try omega)) [-getElem?_pos, -getElem?_neg]; refine hK _ _ ?_; clear hK K)
 refine aw_seq ?_
 refine aw_seq ?_
 rcases hsh with ⟨rfl, hl0⟩ | ⟨a, rfl⟩
 ·have hl0 : l = [] := List.map_eq_nil_iff.1 hl0
  subst hl0
  have hc0 : cells = [] := List.eq_nil_of_length_eq_zero (by simpa using hcl)
  subst hc0
  (refine aw_ops (by kernel_rfl) (fun K hK => ?_); simp (disch := first | omega | (simp only [lnS]; try omega)) [-getElem?_pos, -getElem?_neg]; refine hK _ _ ?_; clear hK K)
  refine aw_t (by (first | (simp [eval_tmp, put_at]; done) | (simp [eval_tmp, put_at]; omega))) (by kernel_rfl) ?_
  refine aw_seq ?_
  (refine aw_ops (by kernel_rfl) (fun K hK => ?_); simp (disch := first | omega | (simp only [lnS]; try omega)) [-getElem?_pos, -getElem?_neg]; refine hK _ _ ?_; clear hK K)
  (refine aw_ret ?_; simp (disch := first | omega | (simp only [lnS]; try omega)) [-getElem?_pos, -getElem?_neg, thenQ_ret, scopeQ_ret, inBlockQ_ret, RQ, resL, resV])
  exact ⟨rfl, rfl, Low.refl (Nat.le_refl _), [], .inl ⟨rfl, rfl, rfl⟩, fun j hj => by cases hj⟩
 ·have hap := clone_app (P := Try.prog) (nro := nro) (t := 39) (e := 107) (sz := 36) (by simp) (by simp) (by omega) (by simp) hnro (hxc _ hb0) hcl (by rw [hcl]; simp; omega) (by rw [hcl]; simp only [maxLen]; omega)
  (refine aw_ops (by kernel_rfl) (fun K hK => ?_); simp (disch := first | omega | (simp only [lnS]; try omega)) [-getElem?_pos, -getElem?_neg]; refine hK _ _ ?_; clear hK K)
  refine aw_f (by (first | (simp [eval_tmp, put_at]; done) | (simp [eval_tmp, put_at]; omega))) (by kernel_rfl) ?_
  refine aw_skip ?_
  refine aw_seq ?_
  (refine aw_ops (by kernel_rfl) (fun K hK => ?_); simp (disch := first | omega | (simp only [lnS]; try omega)) [-getElem?_pos, -getElem?_neg, -xappend, hap, List.range_zero, List.map_nil]; refine hK _ _ ?_; clear hK K)
  (refine aw_ret ?_; simp (disch := first | omega | (simp only [lnS]; try omega)) [-getElem?_pos, -getElem?_neg, thenQ_ret, scopeQ_ret, inBlockQ_ret, RQ, resL, resV])
  exact ⟨rfl, by simp [clN], ⟨fun j hj => hget_left hj, by simp⟩, [H.length + 1], .inr ⟨H.length + 1, l.length, rfl, by rw [hget_app]; rfl, hcl, rfl⟩, fun j hj => by simp at hj; omega⟩
end
section
def opRow (o : OpD) (pv wv bv : Value) : List Value := [.int .i64 o.author, .int .u32 o.seq, pv, .int .i64 o.kind, wv] ++ (iv .u8 o.of ++ (iv .u8 o.check ++ [.string o.text, bv]))
def nodeRow (x : NodeD) (pv wv bv qv : Value) : List Value := iv .u8 x.id ++ (opRow x.op pv wv bv ++ [qv])
theorem opRow_len {o : OpD} (hw : o.Wf) (pv wv bv : Value) : (opRow o pv wv bv).length = 71 := by
 have h1 := hw.of.1
 have h2 := hw.check.1
 simp [opRow, iv_length, h1, h2]
theorem nodeRow_len {x : NodeD} (hw : x.Wf) (pv wv bv qv : Value) : (nodeRow x pv wv bv qv).length = 104 := by
 have h1 := hw.id.1
 have h2 := opRow_len hw.op pv wv bv
 simp [nodeRow, iv_length, h1, h2]
theorem OpC.row {H : AH} {us : List Value} {o : OpD} {pv wv bv : Value} (h : OpC H us o pv wv bv) (hw : o.Wf) : us = opRow o pv wv bv := by
 have hl := h.len
 have e0 : us.take 5 = [.int .i64 o.author, .int .u32 o.seq, pv, .int .i64 o.kind, wv] := by
  apply List.ext_getElem?
  intro i
  match i with
  | 0 => rw [List.getElem?_take_of_lt (by omega), h.c0]; rfl
  | 1 => rw [List.getElem?_take_of_lt (by omega), h.c1]; rfl
  | 2 => rw [List.getElem?_take_of_lt (by omega), h.c2]; rfl
  | 3 => rw [List.getElem?_take_of_lt (by omega), h.c3]; rfl
  | 4 => rw [List.getElem?_take_of_lt (by omega), h.c4]; rfl
  | i + 5 => rw [List.getElem?_eq_none (by rw [List.length_take]; omega), List.getElem?_eq_none (by simp)]
 have e2 : us.drop 69 = [.string o.text, bv] := by
  apply List.ext_getElem?
  intro i
  match i with
  | 0 => rw [List.getElem?_drop, h.c69]; rfl
  | 1 => rw [List.getElem?_drop, h.c70]; rfl
  | i + 2 => rw [List.getElem?_eq_none (by rw [List.length_drop]; omega), List.getElem?_eq_none (by simp)]
 have e1 : us.drop 5 = iv .u8 o.of ++ us.drop 37 := by
  have := (List.take_append_drop 32 (us.drop 5)).symm
  rwa [h.of, List.drop_drop] at this
 have e3 : us.drop 37 = iv .u8 o.check ++ us.drop 69 := by
  have := (List.take_append_drop 32 (us.drop 37)).symm
  rwa [h.check, List.drop_drop] at this
 have := (List.take_append_drop 5 us).symm
 rwa [e0, e1, e3, e2] at this
theorem NodeC.row {H : AH} {us : List Value} {x : NodeD} {pv wv bv qv : Value} (h : NodeC H us x pv wv bv qv) (hw : x.Wf) : us = nodeRow x pv wv bv qv := by
 have hl := h.len
 have e0 := h.op.row hw.op
 have e2 : us.drop 103 = [qv] := by
  apply List.ext_getElem?
  intro i
  match i with
  | 0 => rw [List.getElem?_drop, h.c103]; rfl
  | i + 1 => rw [List.getElem?_eq_none (by rw [List.length_drop]; omega), List.getElem?_eq_none (by simp)]
 have e1 : us.drop 32 = opRow x.op pv wv bv ++ us.drop 103 := by
  have := (List.take_append_drop 71 (us.drop 32)).symm
  rwa [e0, List.drop_drop] at this
 have := (List.take_append_drop 32 us).symm
 rwa [h.id, e1, e2] at this
theorem ValL.app {H : AH} {a b : List CD} {x y : List Value} (h1 : ValL H a x) (h2 : ValL H b y) : ValL H (a ++ b) (x ++ y) := by
 refine ⟨by rw [List.length_append, List.length_append, h1.1, h2.1], fun c d u hd hu => ?_⟩
 have hl := h1.1
 rcases Nat.lt_or_ge c a.length with hc | hc
 ·rw [List.getElem?_append_left hc] at hd
  rw [List.getElem?_append_left (by omega)] at hu
  exact h1.2 c d u hd hu
 ·rw [List.getElem?_append_right hc] at hd
  rw [List.getElem?_append_right (by omega), hl] at hu
  exact h2.2 _ d u hd hu
theorem ValL.one {H : AH} {d : CD} {u : Value} {ds : List CD} {us : List Value} (h : CD.Val H d u) (h2 : ValL H ds us) : ValL H (d :: ds) (u :: us) := by
 refine ⟨by simp [h2.1], fun c d' u' hd hu => ?_⟩
 cases c with
 | zero => cases hd; cases hu; exact h
 | succ c => exact h2.2 c d' u' (by simpa using hd) (by simpa using hu)
theorem ValL.none {H : AH} : ValL H [] [] := ⟨rfl, fun c d u hd _ => by cases hd⟩
theorem ValL.kdv {H : AH} (k : List Int) : ValL H (kd k) (iv .u8 k) := by
 induction k with
 | nil => exact .none
 | cons z k ih => exact ValL.one .int ih
theorem op_val {G : AH} {o : OpD} {pv wv bv : Value} (h1 : KsV G pv o.parents) (h2 : InV G wv o.who) (h3 : BxV G bv o.boxes) : ValL G o.row (opRow o pv wv bv) :=
 ValL.app (.one .int (.one .int (.one h1 (.one .int (.one h2 .none))))) (ValL.app (.kdv _) (ValL.app (.kdv _) (.one .str (.one h3 .none))))
theorem node_val {G : AH} {x : NodeD} {pv wv bv qv : Value} (h1 : KsV G pv x.op.parents) (h2 : InV G wv x.op.who) (h3 : BxV G bv x.op.boxes) (h4 : InV G qv x.past) : ValL G x.row (nodeRow x pv wv bv qv) :=
 ValL.app (.kdv _) (ValL.app (op_val h1 h2 h3) (.one h4 .none))
theorem opRow_2 (o : OpD) (pv wv bv : Value) : (opRow o pv wv bv)[2]? = some pv := rfl
theorem opRow_4 (o : OpD) (pv wv bv : Value) : (opRow o pv wv bv)[4]? = some wv := rfl
theorem opRow_cut {o : OpD} (hw : o.Wf) (pv wv bv : Value) : ∃ A : List Value, A.length = 70 ∧ ∀ b, opRow o pv wv b = A ++ [b] := by
 have h1 := hw.of.1
 have h2 := hw.check.1
 refine ⟨[.int .i64 o.author, .int .u32 o.seq, pv, .int .i64 o.kind, wv] ++ (iv .u8 o.of ++ (iv .u8 o.check ++ [.string o.text])), by simp [iv_length, h1, h2], fun b => ?_⟩
 simp [opRow]
theorem opRow_70 {o : OpD} (hw : o.Wf) (pv wv bv : Value) : (opRow o pv wv bv)[70]? = some bv := by
 obtain ⟨A, hA, e⟩ := opRow_cut hw pv wv bv
 rw [e, List.getElem?_append_right (by omega), hA]; rfl
theorem opRow_s2 (o : OpD) (pv wv bv x : Value) : setR (opRow o pv wv bv) 2 [x] = opRow o x wv bv := by rw [setR_one]; rfl
theorem opRow_s4 (o : OpD) (pv wv bv x : Value) : setR (opRow o pv wv bv) 4 [x] = opRow o pv x bv := by rw [setR_one]; rfl
theorem opRow_s70 {o : OpD} (hw : o.Wf) (pv wv bv x : Value) : setR (opRow o pv wv bv) 70 [x] = opRow o pv wv x := by
 obtain ⟨A, hA, e⟩ := opRow_cut hw pv wv bv
 rw [setR_one, e, e, List.set_append_right _ _ (by omega), hA]; rfl
theorem clV_nt {H : AH} {rows : List (List CD)} {v : Value} (h : CD.Val H (.sl rows) v) (n : Nat) : notTuple (clV v n) = true ∧ (clV v n).cells = #[clV v n] := by
 rcases val_shape h with ⟨rfl, _⟩ | ⟨a, rfl⟩ <;> exact ⟨rfl, rfl⟩
def KeepN (n : Nat) (H G : AH) : Prop := ∀ j, n ≤ j → j < H.length → hget G j = hget H j
def SmO (o : OpD) : Prop := o.parents.length ≤ 1000 ∧ o.who.length ≤ 1000 ∧ o.boxes.length ≤ 1000
def NewO (n : Nat) (H : AH) (o : OpD) (pv wv bv : Value) : Prop := ∀ G, KeepN n H G → KsV G pv o.parents ∧ InV G wv o.who ∧ BxV G bv o.boxes
def opN (pv wv bv : Value) : Nat := 2 + clN pv + clN wv + clN bv
def opP (pv : Value) (n : Nat) : Value := clV pv (n + 2)
def opW (pv wv : Value) (n : Nat) : Value := clV wv (n + 2 + clN pv)
def opB (pv wv bv : Value) (n : Nat) : Value := clV bv (n + 2 + clN pv + clN wv)
def DeepO (H : AH) (o : OpD) (pv wv bv : Value) (v' : Value) (H' : AH) : Prop :=
 v' = .agg (opRow o (opP pv H.length) (opW pv wv H.length) (opB pv wv bv H.length)).toArray ∧ H'.length = H.length + opN pv wv bv ∧ Low H.length H H' ∧ NewO H.length H' o (opP pv H.length) (opW pv wv H.length) (opB pv wv bv H.length)
theorem set_pack {H G : AH} {n : Nat} {x y : Blk} {X : Option Blk} (h : hget G n = some x) (h2 : hget G (n + 1) = some y) (hlow : Low n H G) : hget (G.set n X) n = X ∧ hget (G.set n X) (n + 1) = some y ∧ Low n H (G.set n X) ∧ (G.set n X).length = G.length ∧ ∀ j, n + 2 ≤ j → hget (G.set n X) j = hget G j :=
 ⟨hget_set_eq (hget_lt h), (hget_set_ne (by omega)).trans h2, ⟨fun j hj => (hget_set_ne (by omega)).trans (hlow.1 j hj), by rw [List.length_set]; exact hlow.2⟩, by rw [List.length_set], fun j hj => hget_set_ne (by omega)⟩
attribute [local simp] wb_bool wb_undef with_lit XL_nil XL_cons XLc_val XLc_call step1_eq stepW_t stepW_f stepC_n stepC_s stepX_s stepX_n stepN_s calleeX xrecv oneV xop_eq xopR_s xopR_n wantedA_eq wantedG_n wantedG_s plain1_int plain1_bool plain1_string bits_i64 bits_u64 bits_u32 bits_u16 bits_u8 xeqA xagg xcmp xarr allK_iv num_iv calleeOf xread xeff xbin xint xnil xun xstr xload xconv xpart xfield xfieldAddr xindexAddr xindex bnd asInt? xslice xlen xmin xmax xbuild xfill xappend xapp2 xappstr xappmk xcap xcopy xcells eval_tmp eval_const put_at put_none fr0_at cells_agg cells_int cells_bool cells_string cells_ptr cells_slice notTuple tab iv_all hget_app hget_app0 hget_cons0 hget_cons set_app set_app0 setR setR_one QL_nil QL_cons QLc_val stepQ_t stepQ_f stepQC_n stepQC_s stepQX_s SL_nil SL_cons SLc_val stepS_t stepS_f ltT ltF leT leF eqT eqF ltTn ltFn leTn leFn eqTn eqFn beqT beqF bneT bneF wi64 wu64 wu32 wu16 wu8 tmodP tdivP hgetL hgetNe hgetEq setL nums_def nums_len Nat.succ_le_of_lt List.getElem?_cons_zero List.getElem?_cons_succ Option.getD_some Int.toNat_add Int.toNat_mul agM okM agB agI agS agP agL agA okB okI okS okP okSl okA
theorem deepOp_ac {nro : Nat} {γ : Nat → Option Nat} {H : AH} {us : List Value} {o : OpD} {pv wv bv : Value} (h : OpC H us o pv wv bv) (hw : o.Wf) (hs : SmO o) (hnro : nro ≤ H.length) : AC Try.prog nro γ 82 #[.agg us.toArray] H (DeepO H o pv wv bv) := by
 have hrow := h.row hw
 obtain ⟨s1, s2, s3⟩ := hs
 have hP := h.parents
 have hW := h.who
 have hB := h.boxes
 have r0l := opRow_len hw pv wv bv
 have g2 := opRow_2 o pv wv bv
 rw [← hrow] at r0l g2
 have t1 := opRow_s2 o pv wv bv (opP pv H.length)
 rw [← hrow] at t1
 have r1l := opRow_len hw (opP pv H.length) wv bv
 have g4 := opRow_4 o (opP pv H.length) wv bv
 have t2 := opRow_s4 o (opP pv H.length) wv bv (opW pv wv H.length)
 obtain ⟨R1, hR1⟩ : ∃ R, R = opRow o (opP pv H.length) wv bv := ⟨_, rfl⟩
 rw [← hR1] at t1 r1l g4 t2
 have r2l := opRow_len hw (opP pv H.length) (opW pv wv H.length) bv
 have g70 := opRow_70 hw (opP pv H.length) (opW pv wv H.length) bv
 have t3 := opRow_s70 hw (opP pv H.length) (opW pv wv H.length) bv (opB pv wv bv H.length)
 obtain ⟨R2, hR2⟩ : ∃ R, R = opRow o (opP pv H.length) (opW pv wv H.length) bv := ⟨_, rfl⟩
 rw [← hR2] at t2 r2l g70 t3
 have r3l := opRow_len hw (opP pv H.length) (opW pv wv H.length) (opB pv wv bv H.length)
 obtain ⟨R3, hR3⟩ : ∃ R, R = opRow o (opP pv H.length) (opW pv wv H.length) (opB pv wv bv H.length) := ⟨_, rfl⟩
 rw [← hR3] at t3 r3l
 have np := val_nt hP
 have nw := val_nt hW
 have nb := val_nt hB
 have np' := clV_nt hP (H.length + 2)
 have nw' := clV_nt hW (H.length + 2 + clN pv)
 have nb' := clV_nt hB (H.length + 2 + clN pv + clN wv)
 have hset : ∀ Z : List Value, Z.length = 71 → setR Z 0 R3 = R3 := fun Z hZ => setR_all _ _ (by omega)
 have htk : R3.take 71 = R3 := List.take_of_length_le (by omega)
 unfold opP opW opB at *
 refine ac_of_aw Try.func82 rfl Try.ntmps82 Try.results82 (by simp) ?_
 refine aw_seq ?_
 (refine aw_ops (by kernel_rfl) (fun K hK => ?_); simp (disch := first | omega | (simp only [lnS]; try omega)) [-getElem?_pos, -getElem?_neg, r0l, nt_aggG, all_zl]; refine hK _ _ ?_; clear hK K)
 obtain ⟨ZZ, hZZ, hZl⟩ : ∃ ZZ : List Value, Value.int .i64 0 :: .int .u32 0 :: .slice none 0 0 :: .int .i64 0 :: .slice none 0 0 :: (iv .u8 (zl 64) ++ [.string ByteArray.empty, .slice none 0 0]) = ZZ ∧ ZZ.length = 71 := ⟨_, rfl, by simp⟩
 rw [hZZ]
 have hset := hset ZZ hZl
 obtain ⟨G, hG⟩ : ∃ G : AH, G = H ++ [some ⟨us, 41, none⟩, some ⟨ZZ, 41, none⟩] := ⟨_, rfl⟩
 have b1 : hget G H.length = some ⟨us, 41, none⟩ := by rw [hG, hget_app0]; rfl
 have b2 : hget G (H.length + 1) = some ⟨ZZ, 41, none⟩ := by rw [hG, hget_app]; rfl
 have lw : Low H.length H G := hG ▸ Low.push (Nat.le_refl _) _
 have gl : G.length = H.length + 2 := by simp [hG]
 rw [← hG]
 clear hG
 obtain ⟨n, hn⟩ : ∃ n, n = H.length := ⟨_, rfl⟩
 have kP : KsV G pv o.parents := CD.Val.low (fun j hj => lw.1 j hj) hP
 have kW : InV G wv o.who := CD.Val.low (fun j hj => lw.1 j hj) hW
 have kB : BxV G bv o.boxes := CD.Val.low (fun j hj => lw.1 j hj) hB
 unfold DeepO opP opW opB
 rw [← hn] at lw gl b1 b2 np' nw' nb' t1 t2 t3 hnro hR1 hR2 hR3 ⊢
 refine aw_seq ?_
 refine aw_ops (by kernel_rfl) (fun K hK => ?_)
 simp (disch := first | omega | (simp only [lnS]; try omega)) [-getElem?_pos, -getElem?_neg, b1, r0l, g2, -notTuple, np.1, np.2, nt_aggG]
 refine ⟨by kernel_rfl, (cloneK_ac (nro := nro) (γ := γ) kP (fun k hk => (hw.parents k hk).1) (by omega) (by omega)).mono ?_⟩
 rintro v1 G1 ⟨rfl, l1, w1, F1, o1, f1⟩
 rw [gl] at l1 w1 f1 o1 ⊢
 have hle1 := w1.2
 have c1 : hget G1 n = some ⟨us, 41, none⟩ := (w1.1 n (by omega)).trans b1
 have c2 : hget G1 (n + 1) = some ⟨ZZ, 41, none⟩ := (w1.1 (n + 1) (by omega)).trans b2
 simp (disch := first | omega | (simp only [lnS]; try omega)) [-getElem?_pos, -getElem?_neg, c1, r0l, -notTuple, np'.1, np'.2, t1]
 refine hK _ _ ?_; clear hK K
 have lw1 : Low n H G1 := ⟨fun j hj => (w1.1 j (by omega)).trans (lw.1 j hj), by have := lw.2; omega⟩
 obtain ⟨d1, d2, d3, d4, d5⟩ := set_pack (X := some ⟨R1, 41, none⟩) c1 c2 lw1
 have o1 : OwnF (G1.set n (some ⟨R1, 41, none⟩)) (clV pv (n + 2)) 38 32 (ksC o.parents) F1 := o1.low (fun j hj => d5 j (f1 j hj))
 rw [l1] at d4
 clear b1 b2 c1 c2 w1 l1 lw1
 generalize G1.set n (some ⟨R1, 41, none⟩) = G2 at *
 have kW := CD.Val.low (H' := G2) (fun j hj => d3.1 j (by omega)) hW
 have kB := CD.Val.low (H' := G2) (fun j hj => d3.1 j (by omega)) hB
 refine aw_seq ?_
 refine aw_ops (by kernel_rfl) (fun K hK => ?_)
 simp (disch := first | omega | (simp only [lnS]; try omega)) [-getElem?_pos, -getElem?_neg, d1, r1l, g4, -notTuple, nw.1, nw.2, nt_aggG]
 refine ⟨by kernel_rfl, (cloneI_ac (nro := nro) (γ := γ) kW (by omega) (by omega)).mono ?_⟩
 rintro v1 G3 ⟨rfl, l1, w1, F2, o2, f2⟩
 rw [d4] at l1 w1 f2 o2 ⊢
 have hle1 := w1.2
 have c1 : hget G3 n = some ⟨R1, 41, none⟩ := (w1.1 n (by omega)).trans d1
 have c2 : hget G3 (n + 1) = some ⟨ZZ, 41, none⟩ := (w1.1 (n + 1) (by omega)).trans d2
 have hF1 := o1.lt
 have o1 := o1.low (H' := G3) (fun j hj => w1.1 j (by have := hF1 j hj; omega))
 simp (disch := first | omega | (simp only [lnS]; try omega)) [-getElem?_pos, -getElem?_neg, c1, r1l, -notTuple, nw'.1, nw'.2, t2]
 refine hK _ _ ?_; clear hK K
 have lw1 : Low n H G3 := ⟨fun j hj => (w1.1 j (by omega)).trans (d3.1 j hj), by have := d3.2; omega⟩
 obtain ⟨e1, e2, e3, e4, e5⟩ := set_pack (X := some ⟨R2, 41, none⟩) c1 c2 lw1
 have o1 := o1.low (H' := G3.set n (some ⟨R2, 41, none⟩)) (fun j hj => e5 j (f1 j hj))
 have o2 := o2.low (H' := G3.set n (some ⟨R2, 41, none⟩)) (fun j hj => e5 j (by have := f2 j hj; omega))
 rw [l1] at e4
 clear c1 c2 w1 l1 lw1 d1 d2 d3 d4 d5
 generalize G3.set n (some ⟨R2, 41, none⟩) = G4 at *
 have kB := CD.Val.low (H' := G4) (fun j hj => e3.1 j (by omega)) hB
 refine aw_seq ?_
 refine aw_ops (by kernel_rfl) (fun K hK => ?_)
 simp (disch := first | omega | (simp only [lnS]; try omega)) [-getElem?_pos, -getElem?_neg, e1, r2l, g70, -notTuple, nb.1, nb.2, nt_aggG]
 refine ⟨by kernel_rfl, (cloneB_ac (nro := nro) (γ := γ) kB hw.boxes (by omega) (by omega)).mono ?_⟩
 rintro v1 G5 ⟨rfl, l1, w1, F3, o3, f3⟩
 rw [e4] at l1 w1 f3 o3 ⊢
 have hle1 := w1.2
 have c1 : hget G5 n = some ⟨R2, 41, none⟩ := (w1.1 n (by omega)).trans e1
 have c2 : hget G5 (n + 1) = some ⟨ZZ, 41, none⟩ := (w1.1 (n + 1) (by omega)).trans e2
 have hF1 := o1.lt
 have hF2 := o2.lt
 have o1 := o1.low (H' := G5) (fun j hj => w1.1 j (by have := hF1 j hj; omega))
 have o2 := o2.low (H' := G5) (fun j hj => w1.1 j (by have := hF2 j hj; omega))
 simp (disch := first | omega | (simp only [lnS]; try omega)) [-getElem?_pos, -getElem?_neg, c1, r2l, -notTuple, nb'.1, nb'.2, t3]
 refine hK _ _ ?_; clear hK K
 have lw1 : Low n H G5 := ⟨fun j hj => (w1.1 j (by omega)).trans (e3.1 j hj), by have := e3.2; omega⟩
 obtain ⟨d1, d2, d3, d4, d5⟩ := set_pack (X := some ⟨R3, 41, none⟩) c1 c2 lw1
 have o1 := o1.low (H' := G5.set n (some ⟨R3, 41, none⟩)) (fun j hj => d5 j (f1 j hj))
 have o2 := o2.low (H' := G5.set n (some ⟨R3, 41, none⟩)) (fun j hj => d5 j (by have := f2 j hj; omega))
 have o3 := o3.low (H' := G5.set n (some ⟨R3, 41, none⟩)) (fun j hj => d5 j (by have := f3 j hj; omega))
 rw [l1] at d4
 clear c1 c2 w1 l1 lw1 e1 e2 e3 e4 e5
 generalize G5.set n (some ⟨R3, 41, none⟩) = G6 at *
 refine aw_seq ?_
 (refine aw_ops (by kernel_rfl) (fun K hK => ?_); simp (disch := first | omega | (simp only [lnS]; try omega)) [-getElem?_pos, -getElem?_neg, d1, d2, r3l, hZl, hset, htk, nt_aggG]; refine hK _ _ ?_; clear hK K)
 have hlt2 := hget_lt d2
 have z1 : hget (G6.set (n + 1) (some ⟨R3, 41, none⟩)) (n + 1) = some ⟨R3, 41, none⟩ := hget_set_eq hlt2
 have z2 : ∀ j, j ≠ n + 1 → hget (G6.set (n + 1) (some ⟨R3, 41, none⟩)) j = hget G6 j := fun j hj => hget_set_ne (fun e => hj e.symm)
 have z3 : (G6.set (n + 1) (some ⟨R3, 41, none⟩)).length = G6.length := by rw [List.length_set]
 have hF1 := o1.lt
 have hF2 := o2.lt
 have hF3 := o3.lt
 have o1 := o1.low (H' := G6.set (n + 1) (some ⟨R3, 41, none⟩)) (fun j hj => z2 j (by have := f1 j hj; omega))
 have o2 := o2.low (H' := G6.set (n + 1) (some ⟨R3, 41, none⟩)) (fun j hj => z2 j (by have := f2 j hj; omega))
 have o3 := o3.low (H' := G6.set (n + 1) (some ⟨R3, 41, none⟩)) (fun j hj => z2 j (by have := f3 j hj; omega))
 generalize G6.set (n + 1) (some ⟨R3, 41, none⟩) = G7 at *
 (refine aw_ret ?_; simp (disch := first | omega | (simp only [lnS]; try omega)) [-getElem?_pos, -getElem?_neg, thenQ_ret, scopeQ_ret, inBlockQ_ret, RQ, resL, resV, z1, r3l, htk])
 refine ⟨by rw [hR3], by unfold opN; omega, ⟨fun j hj => (z2 j (by omega)).trans (d3.1 j hj), by have := d3.2; omega⟩, fun G hG => ?_⟩
 have o1 := o1.low (H' := G) (fun j hj => hG j (by have := f1 j hj; omega) (by have := hF1 j hj; omega))
 have o2 := o2.low (H' := G) (fun j hj => hG j (by have := f2 j hj; omega) (by have := hF2 j hj; omega))
 have o3 := o3.low (H' := G) (fun j hj => hG j (by have := f3 j hj; omega) (by have := hF3 j hj; omega))
 exact ⟨own_val (by omega) o1 (kd_len fun k hk => (hw.parents k hk).1) (kd_flat _), own_val (by omega) o2 (int_len _) (int_flat _), own_val (by omega) o3 (box_len hw.boxes) (box_flat _)⟩
end
section
theorem put3 {Z A B : List Value} {q : Value} (hA : A.length = 32) (hB : B.length = 71) (hZ : Z.length = 104) : setR (setR (setR Z 0 A) 32 B) 103 [q] = A ++ (B ++ [q]) := by
 have e1 := setR_frontF Z A (by omega)
 rw [e1]
 have l1 : (Z.drop A.length).length = 72 := by rw [List.length_drop]; omega
 have e2 := setR_right A (Z.drop A.length) B 0 (by omega)
 rw [Nat.add_zero] at e2
 rw [show (32 : Nat) = A.length by omega, e2, setR_frontF _ B (by omega)]
 rw [show (103 : Nat) = A.length + 71 by omega, setR_right A _ [q] 71 (by rw [List.length_append, List.length_drop, l1]; simp; omega)]
 congr 1
 have e3 := setR_right B ((Z.drop A.length).drop B.length) [q] 0 (by rw [List.length_drop, l1]; simp; omega)
 rw [Nat.add_zero] at e3
 rw [show (71 : Nat) = B.length by omega, e3, setR_frontF _ [q] (by rw [List.length_drop, l1]; simp; omega)]
 rw [List.drop_of_length_le (l := (Z.drop A.length).drop B.length) (by rw [List.length_drop, l1]; simp; omega), List.append_nil]
theorem build_node {x : NodeD} {pv wv bv qv : Value} (hw : x.Wf) (h1 : notTuple qv = true) (h2 : qv.cells = #[qv]) : xbuild Try.prog 50 [(0, .agg (iv .u8 x.id).toArray), (1, .agg (opRow x.op pv wv bv).toArray), (2, qv)] = some (.agg (nodeRow x pv wv bv qv).toArray) := by
 have hf : flds Try.prog 50 = some [(38, 0), (41, 32), (23, 103)] := by kernel_rfl
 obtain ⟨z, hz⟩ : ∃ z, zer Try.prog 50 = some z := by
  have : (zer Try.prog 50).isSome = true := by kernel_rfl
  exact Option.isSome_iff_exists.1 this
 have hzl : z.cells.toList.length = 104 := by
  have : (zer Try.prog 50).map (fun z => z.cells.toList.length) = some 104 := by kernel_rfl
  rw [hz] at this
  simpa using this
 have hzp : z.cells.toList.all plain1 = true := by
  have : (zer Try.prog 50).map (fun z => z.cells.toList.all plain1) = some true := by kernel_rfl
  rw [hz] at this
  simpa using this
 have s1 : szt Try.prog 38 = 32 := by kernel_rfl
 have s2 : szt Try.prog 41 = 71 := by kernel_rfl
 have s3 : szt Try.prog 23 = 1 := by kernel_rfl
 have hA : (iv .u8 x.id).length = 32 := by rw [iv_length]; exact hw.id.1
 have hB := opRow_len hw.op pv wv bv
 have hp := put3 (q := qv) hA hB hzl
 unfold xbuild
 simp only [hf, hz]
 rw [if_pos ⟨by simp [s1, s2, s3], hzp, by simp only [List.all_cons, List.all_nil, h1, Bool.and_true]; rfl⟩]
 generalize z.cells.toList = Z at *
 unfold nodeRow
 generalize iv .u8 x.id = A at *
 generalize opRow x.op pv wv bv = B at *
 have c1 : (Value.agg A.toArray).cells = A.toArray := rfl
 have c2 : (Value.agg B.toArray).cells = B.toArray := rfl
 simp only [xfill, List.getElem?_cons_zero, List.getElem?_cons_succ, Option.map_some, s1, s2, s3, c1, c2, h2]
 rw [if_pos ⟨by simp [hA], by simp; omega⟩]
 rw [if_pos ⟨by simp [hB], by simp; omega⟩]
 rw [if_pos ⟨by simp, by simp; omega⟩]
 rw [hp]
def nodeN (pv wv bv qv : Value) : Nat := 2 + opN pv wv bv + clN qv
def SmN (x : NodeD) : Prop := SmO x.op ∧ x.past.length ≤ 1000
def nodeCp (x : NodeD) (pv wv bv qv : Value) (n : Nat) : List Value := nodeRow x (opP pv (n + 2)) (opW pv wv (n + 2)) (opB pv wv bv (n + 2)) (clV qv (n + 2 + opN pv wv bv))
def DeepN (H : AH) (x : NodeD) (pv wv bv qv : Value) (v' : Value) (H' : AH) : Prop :=
 v' = .agg (nodeCp x pv wv bv qv H.length).toArray ∧ H'.length = H.length + nodeN pv wv bv qv ∧ Low H.length H H' ∧ ∀ G, KeepN H.length H' G → ValL G x.row (nodeCp x pv wv bv qv H.length)
theorem KeepN.trans {n : Nat} {A B C : AH} (h : KeepN n A B) (k : KeepN n B C) (hl : A.length ≤ B.length) : KeepN n A C := fun j h1 h2 => (k j h1 (by omega)).trans (h j h1 h2)
theorem opRow_off {x : NodeD} (hw : x.Wf) (pv wv bv qv : Value) : (nodeRow x pv wv bv qv).take 32 = iv .u8 x.id ∧ ((nodeRow x pv wv bv qv).drop 32).take 71 = opRow x.op pv wv bv ∧ (nodeRow x pv wv bv qv)[103]? = some qv := by
 have hA : (iv .u8 x.id).length = 32 := by rw [iv_length]; exact hw.id.1
 have hB := opRow_len hw.op pv wv bv
 unfold nodeRow
 refine ⟨?_, ?_, ?_⟩
 ·rw [List.take_append_of_le_length (by omega), List.take_of_length_le (by omega)]
 ·rw [List.drop_append_of_le_length (by omega), List.drop_of_length_le (by omega), List.nil_append, List.take_append_of_le_length (by omega), List.take_of_length_le (by omega)]
 ·rw [List.getElem?_append_right (by omega), List.getElem?_append_right (by omega), hA, hB]
  rfl
attribute [local simp] wb_bool wb_undef with_lit XL_nil XL_cons XLc_val XLc_call step1_eq stepW_t stepW_f stepC_n stepC_s stepX_s stepX_n stepN_s calleeX xrecv oneV xop_eq xopR_s xopR_n wantedA_eq wantedG_n wantedG_s plain1_int plain1_bool plain1_string bits_i64 bits_u64 bits_u32 bits_u16 bits_u8 xeqA xagg xcmp xarr allK_iv num_iv calleeOf xread xeff xbin xint xnil xun xstr xload xconv xpart xfield xfieldAddr xindexAddr xindex bnd asInt? xslice xlen xmin xmax xbuild xfill xappend xapp2 xappstr xappmk xcap xcopy xcells eval_tmp eval_const put_at put_none fr0_at cells_agg cells_int cells_bool cells_string cells_ptr cells_slice notTuple tab iv_all hget_app hget_app0 hget_cons0 hget_cons set_app set_app0 setR setR_one QL_nil QL_cons QLc_val stepQ_t stepQ_f stepQC_n stepQC_s stepQX_s SL_nil SL_cons SLc_val stepS_t stepS_f ltT ltF leT leF eqT eqF ltTn ltFn leTn leFn eqTn eqFn beqT beqF bneT bneF wi64 wu64 wu32 wu16 wu8 tmodP tdivP hgetL hgetNe hgetEq setL nums_def nums_len Nat.succ_le_of_lt List.getElem?_cons_zero List.getElem?_cons_succ Option.getD_some Int.toNat_add Int.toNat_mul agM okM agB agI agS agP agL agA okB okI okS okP okSl okA
theorem nodes1_ac {nro : Nat} {γ : Nat → Option Nat} {H : AH} {us : List Value} {x : NodeD} {pv wv bv qv : Value} (h : NodeC H us x pv wv bv qv) (hw : x.Wf) (hs : SmN x) (hnro : nro ≤ H.length) : AC Try.prog nro γ 132 #[.agg us.toArray] H (DeepN H x pv wv bv qv) := by
 have hrow := h.row hw
 have hul := h.len
 obtain ⟨q1, q2, q3⟩ := opRow_off hw pv wv bv qv
 rw [← hrow] at q1 q2 q3
 have hivl : (iv .u8 x.id).length = 32 := by rw [iv_length]; exact hw.id.1
 have hopl := opRow_len hw.op pv wv bv
 have hQ := h.past
 have nq := val_nt hQ
 have nq' := clV_nt hQ (H.length + 2 + opN pv wv bv)
 have hbl := build_node (pv := opP pv (H.length + 2)) (wv := opW pv wv (H.length + 2)) (bv := opB pv wv bv (H.length + 2)) hw nq'.1 nq'.2
 have hopC : ∀ G : AH, Low H.length H G → OpC G (opRow x.op pv wv bv) x.op pv wv bv := fun G hG => by
  have := h.op.low hG.1
  rwa [q2] at this
 have hr3l := nodeRow_len hw (opP pv (H.length + 2)) (opW pv wv (H.length + 2)) (opB pv wv bv (H.length + 2)) (clV qv (H.length + 2 + opN pv wv bv))
 obtain ⟨R, hR⟩ : ∃ R, R = nodeRow x (opP pv (H.length + 2)) (opW pv wv (H.length + 2)) (opB pv wv bv (H.length + 2)) (clV qv (H.length + 2 + opN pv wv bv)) := ⟨_, rfl⟩
 rw [← hR] at hbl hr3l
 have hset : ∀ Z : List Value, Z.length = 104 → setR Z 0 R = R := fun Z hZ => setR_all _ _ (by omega)
 have htk : R.take 104 = R := List.take_of_length_le (by omega)
 have hopv : notTuple (.agg (opRow x.op (opP pv (H.length + 2)) (opW pv wv (H.length + 2)) (opB pv wv bv (H.length + 2))).toArray) = true := rfl
 refine ac_of_aw Try.func132 rfl Try.ntmps132 Try.results132 (by simp) ?_
 refine aw_seq ?_
 (refine aw_ops (by kernel_rfl) (fun K hK => ?_); simp (disch := first | omega | (simp only [lnS]; try omega)) [-getElem?_pos, -getElem?_neg, hul, nt_aggG, all_zl]; refine hK _ _ ?_; clear hK K)
 obtain ⟨ZZ, hZZ, hZl⟩ : ∃ ZZ : List Value, (iv .u8 (zl 32) ++ Value.int .i64 0 :: .int .u32 0 :: .slice none 0 0 :: .int .i64 0 :: .slice none 0 0 :: (iv .u8 (zl 64) ++ [.string ByteArray.empty, .slice none 0 0, .slice none 0 0])) = ZZ ∧ ZZ.length = 104 := ⟨_, rfl, by simp⟩
 rw [hZZ]
 have hset := hset ZZ hZl
 obtain ⟨G, hG⟩ : ∃ G : AH, G = H ++ [some ⟨us, 50, none⟩, some ⟨ZZ, 50, none⟩] := ⟨_, rfl⟩
 have b1 : hget G H.length = some ⟨us, 50, none⟩ := by rw [hG, hget_app0]; rfl
 have b2 : hget G (H.length + 1) = some ⟨ZZ, 50, none⟩ := by rw [hG, hget_app]; rfl
 have lw : Low H.length H G := hG ▸ Low.push (Nat.le_refl _) _
 have gl : G.length = H.length + 2 := by simp [hG]
 rw [← hG]
 clear hG
 have kO := hopC G lw
 have kQ : InV G qv x.past := CD.Val.low (fun j hj => lw.1 j hj) hQ
 have hcO := deepOp_ac (nro := nro) (γ := γ) kO hw.op hs.1 (by omega)
 unfold DeepO at hcO
 rw [gl] at hcO
 unfold DeepN nodeN nodeCp
 obtain ⟨n, hn⟩ : ∃ n, n = H.length := ⟨_, rfl⟩
 rw [← hR]
 rw [← hn] at lw gl b1 b2 nq' hbl hR hnro hcO ⊢
 obtain ⟨ov, hov⟩ : ∃ ov, ov = opRow x.op (opP pv (n + 2)) (opW pv wv (n + 2)) (opB pv wv bv (n + 2)) := ⟨_, rfl⟩
 rw [← hov] at hcO hbl
 have hcells : R = iv .u8 x.id ++ (ov ++ [clV qv (n + 2 + opN pv wv bv)]) := by rw [hR, hov]; rfl
 refine aw_seq ?_
 obtain ⟨Φ, e0, e1, e2, e3, eS⟩ : ∃ Φ : Nat → AH → Prop, (∀ A, Φ 0 A ↔ A = G) ∧ (∀ A, Φ 1 A ↔ (A.length = n + 2 + opN pv wv bv ∧ Low (n + 2) G A ∧ NewO (n + 2) A x.op (opP pv (n + 2)) (opW pv wv (n + 2)) (opB pv wv bv (n + 2)))) ∧
   (∀ A, Φ 2 A ↔ (A.length = n + 2 + opN pv wv bv + clN qv ∧ Low (n + 2) G A ∧ NewO (n + 2) A x.op (opP pv (n + 2)) (opW pv wv (n + 2)) (opB pv wv bv (n + 2)) ∧ ∃ F, OwnF A (clV qv (n + 2 + opN pv wv bv)) 3 1 (isC x.past) F ∧ ∀ j ∈ F, n + 2 ≤ j)) ∧
   (∀ A, Φ 3 A ↔ ∃ B, Φ 2 B ∧ A = B.set (n + 1) (some ⟨R, 50, none⟩)) ∧ (∀ s A, Φ s A → hget A n = hget G n) := by
  refine ⟨fun s A => match s with
   | 0 => A = G
   | 1 => A.length = n + 2 + opN pv wv bv ∧ Low (n + 2) G A ∧ NewO (n + 2) A x.op (opP pv (n + 2)) (opW pv wv (n + 2)) (opB pv wv bv (n + 2))
   | 2 => A.length = n + 2 + opN pv wv bv + clN qv ∧ Low (n + 2) G A ∧ NewO (n + 2) A x.op (opP pv (n + 2)) (opW pv wv (n + 2)) (opB pv wv bv (n + 2)) ∧ ∃ F, OwnF A (clV qv (n + 2 + opN pv wv bv)) 3 1 (isC x.past) F ∧ ∀ j ∈ F, n + 2 ≤ j
   | _ => ∃ B : AH, (B.length = n + 2 + opN pv wv bv + clN qv ∧ Low (n + 2) G B ∧ NewO (n + 2) B x.op (opP pv (n + 2)) (opW pv wv (n + 2)) (opB pv wv bv (n + 2)) ∧ ∃ F, OwnF B (clV qv (n + 2 + opN pv wv bv)) 3 1 (isC x.past) F ∧ ∀ j ∈ F, n + 2 ≤ j) ∧ A = B.set (n + 1) (some ⟨R, 50, none⟩), fun _ => Iff.rfl, fun _ => Iff.rfl, fun _ => Iff.rfl, fun _ => Iff.rfl, fun s A h => ?_⟩
  match s, h with
  | 0, h => cases h; rfl
  | 1, h => exact h.2.1.1 n (by omega)
  | 2, h => exact h.2.1.1 n (by omega)
  | s + 3, ⟨B, h, hA⟩ => rw [hA, hget_set_ne (by omega)]; exact h.2.1.1 n (by omega)
 refine aw_chain (fun j => j == n) Φ (by kernel_rfl) (by kernel_rfl) (by kernel_rfl) (fun s A h j hj => by
  have e : j = n := by simpa using hj
  rw [e]; exact eS s A h) ((e0 _).2 rfl) (fun K hK => ?_)
 simp (disch := first | omega | (simp only [lnS]; try omega)) [-getElem?_pos, -getElem?_neg, b1, hul, q1, q2, q3, hivl, hopl, -notTuple, nq.1, nq.2, nt_aggG, CL_nil, CL_cons, CLc_val, CLc_skip, memS, inS, inSp, isCallH, isCallU, isCallF, calleeH_f, calleeH_t, calleeH_i, effF]
 refine CLc_call (v := .agg ov.toArray) (by kernel_rfl) (fun A hA => ?_) ?_
 ·obtain rfl := (e0 _).1 hA
  exact hcO.mono fun v' A' h => ⟨h.1, (e1 _).2 ⟨h.2.1, h.2.2.1, h.2.2.2⟩⟩
 try simp (disch := first | omega | (simp only [lnS]; try omega)) [-getElem?_pos, -getElem?_neg, b1, hul, q1, q2, q3, hivl, hopl, -notTuple, nq.1, nq.2, nt_aggG, CL_nil, CL_cons, CLc_val, CLc_skip, memS, inS, inSp, isCallH, isCallU, isCallF, calleeH_f, calleeH_t, calleeH_i, effF]
 refine CLc_call (v := clV qv (n + 2 + opN pv wv bv)) (by kernel_rfl) (fun A hA => ?_) ?_
 ·obtain ⟨g1, g2, g3⟩ := (e1 _).1 hA
  have kQ2 : InV A qv x.past := CD.Val.low (fun j hj => g2.1 j (by omega)) kQ
  refine (cloneI_ac (nro := nro) (γ := γ) kQ2 (by omega) (by have := hs.2; omega)).mono ?_
  rintro v' A' ⟨h1, h2, h3, F, h4, h5⟩
  rw [g1] at h1 h2 h3 h5
  refine ⟨h1, (e2 _).2 ⟨h2, ⟨fun j hj => (h3.1 j (by omega)).trans (g2.1 j hj), by have := h3.2; omega⟩, fun B hB => g3 B (KeepN.trans (fun j _ hj => h3.1 j (by omega)) hB (by have := h3.2; omega)), F, by rw [← h1]; exact h4, fun j hj => by have := h5 j hj; omega⟩⟩
 try simp (disch := first | omega | (simp only [lnS]; try omega)) [-getElem?_pos, -getElem?_neg, b1, hul, q1, q2, q3, hivl, hopl, -notTuple, nq'.1, nq'.2, nt_aggG, -xbuild, hbl, CL_nil, CL_cons, CLc_val, CLc_skip, memS, inS, inSp, isCallH, isCallU, isCallF, calleeH_f, calleeH_t, calleeH_i, effF]
 refine CLc_eff (v := undef) (fun A hA => ?_) ?_
 ·have hA2 := hA
  obtain ⟨g1, g2, g3, F, g4, g5⟩ := (e2 _).1 hA2
  have c2 : hget A (n + 1) = some ⟨ZZ, 50, none⟩ := (g2.1 (n + 1) (by omega)).trans b2
  refine ⟨_, ?_, (e3 _).2 ⟨A, hA, rfl⟩⟩
  simp (disch := first | omega | (simp only [lnS]; try omega)) [-getElem?_pos, -getElem?_neg, c2, hZl, hset, hr3l, nt_aggG]
 try simp (disch := first | omega | (simp only [lnS]; try omega)) [-getElem?_pos, -getElem?_neg, CL_nil, CL_cons, CLc_val, CLc_skip, memS, inS, inSp, isCallH, isCallU, isCallF, calleeH_f, calleeH_t, calleeH_i, effF]
 intro A hA
 obtain ⟨B, hB, rfl⟩ := (e3 _).1 hA
 obtain ⟨g1, g2, g3, F, g4, g5⟩ := (e2 _).1 hB
 have hFl := g4.lt
 have c2 : hget B (n + 1) = some ⟨ZZ, 50, none⟩ := (g2.1 (n + 1) (by omega)).trans b2
 have z1 : hget (B.set (n + 1) (some ⟨R, 50, none⟩)) (n + 1) = some ⟨R, 50, none⟩ := hget_set_eq (hget_lt c2)
 have z2 : ∀ j, j ≠ n + 1 → hget (B.set (n + 1) (some ⟨R, 50, none⟩)) j = hget B j := fun j hj => hget_set_ne (fun e => hj e.symm)
 have z3 : (B.set (n + 1) (some ⟨R, 50, none⟩)).length = B.length := by rw [List.length_set]
 generalize B.set (n + 1) (some ⟨R, 50, none⟩) = C at *
 refine hK _ _ ?_; clear hK K
 (refine aw_ret ?_; simp (disch := first | omega | (simp only [lnS]; try omega)) [-getElem?_pos, -getElem?_neg, thenQ_ret, scopeQ_ret, inBlockQ_ret, RQ, resL, resV, z1, hr3l, htk])
 refine ⟨⟨fun j hj => (z2 j (by omega)).trans ((g2.1 j (by omega)).trans (lw.1 j hj)), by have := lw.2; omega⟩, fun D hD => ?_⟩
 rw [hR]
 obtain ⟨k1, k2, k3⟩ := g3 D (fun j h1 h2 => (hD j (by omega) (by omega)).trans (z2 j (by omega)))
 have g4 := g4.low (H' := D) (fun j hj => (hD j (by have := g5 j hj; omega) (by have := hFl j hj; omega)).trans (z2 j (by have := g5 j hj; omega)))
 exact node_val k1 k2 k3 (own_val (by omega) g4 (int_len _) (int_flat _))
theorem nodes1_callable : callable Try.prog 132 = true := by kernel_rfl
def NewRows (n : Nat) (H : AH) (R : List (List Value)) (l : List NodeD) : Prop := R.length = l.length ∧ ∀ (k : Nat) (us : List Value) (x : NodeD), R[k]? = some us → l[k]? = some x → us.length = 104 ∧ ∀ G, KeepN n H G → ValL G x.row us
theorem NewRows.keep {n : Nat} {H G : AH} {R : List (List Value)} {l : List NodeD} (h : NewRows n H R l) (hk : KeepN n H G) (hl : H.length ≤ G.length) : NewRows n G R l :=
 ⟨h.1, fun k us x h1 h2 => ⟨(h.2 k us x h1 h2).1, fun B hB => (h.2 k us x h1 h2).2 B (hk.trans hB hl)⟩⟩
theorem row_put {R : List (List Value)} {Z us : List Value} {i : Nat} (hR : ∀ r ∈ R, r.length = 104) (hl : R.length = i) (hu : us.length = 104) (hZ : 104 ≤ Z.length) : setR (R.flatten ++ Z) (i * 104) us = (R ++ [us]).flatten ++ Z.drop 104 := by
 have hfl := fl_len hR
 rw [hl] at hfl
 have e := setR_right R.flatten Z us 0 (by omega)
 rw [Nat.add_zero, hfl] at e
 rw [e, setR_frontF _ _ (by omega), hu, List.flatten_append]
 simp
theorem NewRows.len {n : Nat} {H : AH} {R : List (List Value)} {l : List NodeD} (h : NewRows n H R l) : ∀ r ∈ R, r.length = 104 := fun r hr => by
 obtain ⟨k, hk⟩ := List.getElem?_of_mem hr
 have hkl := (List.getElem?_eq_some_iff.1 hk).1
 have := h.1
 exact (h.2 k r _ hk (List.getElem?_eq_getElem (show k < l.length by omega))).1
theorem NewRows.push {n : Nat} {H : AH} {R : List (List Value)} {l : List NodeD} {us : List Value} {x : NodeD} (h : NewRows n H R l) (h1 : us.length = 104) (h2 : ∀ G, KeepN n H G → ValL G x.row us) : NewRows n H (R ++ [us]) (l ++ [x]) := by
 have hl := h.1
 refine ⟨by simp [hl], fun k r y hr hy => ?_⟩
 rcases Nat.lt_or_ge k R.length with hk | hk
 ·rw [List.getElem?_append_left hk] at hr
  rw [List.getElem?_append_left (by omega)] at hy
  exact h.2 k r y hr hy
 ·rw [List.getElem?_append_right hk] at hr
  rw [List.getElem?_append_right (by omega)] at hy
  rw [hl] at hr
  match k - l.length, hr, hy with
  | 0, hr, hy => cases hr; cases hy; exact ⟨h1, h2⟩
theorem node_row_len {x : NodeD} (hw : x.Wf) : x.row.length = 104 := by
 have h1 := hw.id.1
 have h2 := hw.op.of.1
 have h3 := hw.op.check.1
 simp [NodeD.row, OpD.row, kd, h1, h2, h3]
theorem rows_val {D : AH} {b : Nat} {T : TypeId} {es : Option Nat} {R : List (List Value)} {L : List NodeD} (hb : hget D b = some ⟨R.flatten, T, es⟩) (hl : R.length = L.length) (hw : ∀ x ∈ L, x.Wf) (h : ∀ (k : Nat) (us : List Value) (x : NodeD), R[k]? = some us → L[k]? = some x → us.length = 104 ∧ ValL D x.row us) : NdV D (.slice (some ⟨b, 0, none⟩) L.length L.length) L := by
 have hR : ∀ r ∈ R, r.length = 104 := fun r hr => by
  obtain ⟨k, hk⟩ := List.getElem?_of_mem hr
  have hkl := (List.getElem?_eq_some_iff.1 hk).1
  exact (h k r _ hk (List.getElem?_eq_getElem (show k < L.length by omega))).1
 have := CD.Val.sl (H := D) (sz := 104) (rows := L.map NodeD.row) hb (by rw [List.length_map]; show _ ≤ R.flatten.length; rw [fl_len hR, hl]; exact Nat.le_refl _) (fun row hr => by
  obtain ⟨x, hx, rfl⟩ := List.mem_map.1 hr
  exact node_row_len (hw x hx)) (fun i row c d v hi hc hv => by
  rw [List.getElem?_map] at hi
  cases hx : L[i]? with
  | none => rw [hx] at hi; cases hi
  | some x =>
   rw [hx] at hi
   cases hi
   have hil := (List.getElem?_eq_some_iff.1 hx).1
   obtain ⟨us, hus⟩ : ∃ us, R[i]? = some us := ⟨_, List.getElem?_eq_getElem (by omega)⟩
   obtain ⟨h1, h2⟩ := h i us x hus hx
   have hcl := (List.getElem?_eq_some_iff.1 hc).1
   have h2l := h2.1
   obtain ⟨u, hu⟩ : ∃ u, us[c]? = some u := ⟨_, List.getElem?_eq_getElem (by omega)⟩
   have hat := fl_at hR hus hu
   have hv' : R.flatten[i * 104 + c]? = some v := hv
   rw [hat] at hv'
   cases hv'
   exact h2.2 c d _ hc hu)
 rw [List.length_map] at this
 exact this
theorem each_ac {nro : Nat} {γ : Nat → Option Nat} {H : AH} {nv : Value} {l : List NodeD} (hN : NdA H nv l) (hl : l.length ≤ 1000) (hs : ∀ x ∈ l, SmN x) (hnro : nro ≤ H.length) (hcal : callable Try.prog 132 = true) :
  ∃ N : Nat, AC Try.prog nro γ 131 #[nv, .func (.func 132) #[] #[]] H (fun v' H' => v' = .slice (some ⟨H.length, 0, none⟩) l.length l.length ∧ H'.length = N ∧ Low H.length H H' ∧ ∃ R, NewRows (H.length + 1) H' R l ∧ hget H' H.length = some ⟨R.flatten, 50, some 104⟩) := by
 have hN' := hN
 obtain ⟨hnt, hvc, hxl, hwf, hat⟩ := hN
 obtain ⟨c, hc⟩ := Classical.skolem.1 (fun i : Nat => show ∃ N : Nat, ∀ x, l[i]? = some x → ∃ j q b us pv wv bv qv, xindexAddr Try.prog 22 nv (.int .i64 (i : Nat)) = some (.pointer (some ⟨j, q, none⟩)) ∧ hget H j = some b ∧ q + 104 ≤ b.cells.length ∧ us = (b.cells.drop q).take 104 ∧ NodeC H us x pv wv bv qv ∧ nodeN pv wv bv qv = N from by
  cases hi : l[i]? with
  | none => exact ⟨0, fun x hx => by cases hx⟩
  | some x =>
   obtain ⟨j, q, b, us, pv, wv, bv, qv, h1, h2, h3, h4, h5, h6⟩ := hat i x hi
   exact ⟨nodeN pv wv bv qv, fun y hy => by cases hy; exact ⟨j, q, b, us, pv, wv, bv, qv, h1, h2, h3, h5, h6, rfl⟩⟩)
 have hm63 : l.length ≤ 9223372036854775807 := by omega
 have hfn : notTuple (.func (.func 132) #[] #[]) = true := rfl
 have hfc : (Value.func (.func 132) #[] #[]).cells = #[.func (.func 132) #[] #[]] := rfl
 refine ⟨H.length + 1 + ((List.range l.length).map fun i => c i + 1).sum, ?_⟩
 refine ac_of_aw Try.func131 rfl Try.ntmps131 Try.results131 (by simp) ?_
 refine aw_seq ?_
 (refine aw_ops (by kernel_rfl) (fun K hK => ?_); simp (disch := first | omega | (simp only [lnS]; try omega)) [-getElem?_pos, -getElem?_neg]; refine hK _ _ ?_; clear hK K)
 refine aw_seq ?_
 refine aw_ops (by kernel_rfl) (fun K hK => ?_)
 have hlm : l.length ≤ maxLen := by simp only [maxLen]; omega
 have hp0 : plain1 (.slice none 0 0) = true := rfl
 simp (disch := first | omega | (simp only [lnS]; try omega)) [-getElem?_pos, -getElem?_neg, -notTuple, hnt, hvc, hfn, hfc, nt_intG, -xlen, hxl, all_zl, hlm, hp0]
 refine hK _ _ ?_; clear hK K
 generalize hZZ : List.map (fun j => (iv .u8 (zl 32) ++ Value.int .i64 0 :: .int .u32 0 :: .slice none 0 0 :: .int .i64 0 :: .slice none 0 0 :: (iv .u8 (zl 64) ++ [.string ByteArray.empty, .slice none 0 0, .slice none 0 0]))[j % 104]?.getD undef) (List.range (l.length * 104)) = ZZ
 have hZl : ZZ.length = l.length * 104 := by rw [← hZZ]; simp
 clear hZZ
 obtain ⟨n, hn⟩ : ∃ n, n = H.length := ⟨_, rfl⟩
 obtain ⟨G0, hG0⟩ : ∃ G : AH, G = H ++ [some ⟨ZZ, 50, some 104⟩] := ⟨_, rfl⟩
 have b0 : hget G0 n = some ⟨ZZ, 50, some 104⟩ := by rw [hG0, hn, hget_app0]; rfl
 have lw0 : Low n H G0 := by rw [hG0, hn]; exact Low.push (Nat.le_refl _) _
 have gl0 : G0.length = n + 1 := by rw [hG0, hn]; simp
 rw [← hG0, ← hn]
 rw [← hn] at hnro
 clear hG0
 refine aw_seq ?_
 refine aw_seq ?_
 (refine aw_ops (by kernel_rfl) (fun K hK => ?_); simp (disch := first | omega | (simp only [lnS]; try omega)) [-getElem?_pos, -getElem?_neg, -notTuple, hnt, hvc, nt_intG, -xlen, hxl]; refine hK _ _ ?_; clear hK K)
 refine aw_block ?_
 refine aw_loop (fun q α G => ∃ (i : Nat) (R : List (List Value)), i + q = l.length ∧ α 0 = nv ∧ α 1 = .func (.func 132) #[] #[] ∧ α 5 = .slice (some ⟨n, 0, none⟩) l.length l.length ∧ α 11 = nv ∧ α 12 = .int .i64 (l.length : Nat) ∧ α 13 = .int .i64 (i : Nat) ∧ Low n H G ∧ G.length = n + 1 + ((List.range i).map fun i => c i + 1).sum ∧ hget G n = some ⟨R.flatten ++ ZZ.drop (i * 104), 50, some 104⟩ ∧ NewRows (n + 1) G R (l.take i)) l.length ?_ ?_
 ·exact ⟨0, [], by omega, by (first | (simp [put_at, put_none, fr0_at]; done) | rfl), by (first | (simp [put_at, put_none, fr0_at]; done) | rfl), by (first | (simp [put_at, put_none, fr0_at]; done) | rfl), by (first | (simp [put_at, put_none, fr0_at]; done) | rfl), by (first | (simp [put_at, put_none, fr0_at]; done) | rfl), by (first | (simp [put_at, put_none, fr0_at]; done) | rfl), lw0, by simp [gl0], by simpa using b0, ⟨by simp, fun k us x h => by simp at h⟩⟩
 rintro q α G ⟨i, R, hiq, h0, h1, h5, h11, h12, h13, hlow, hgl, hout, hrows⟩
 refine aw_seq ?_
 by_cases hi : i < l.length
 case neg =>
  (refine aw_ops (by kernel_rfl) (fun K hK => ?_); simp (disch := first | omega | (simp only [lnS]; try omega)) [-getElem?_pos, -getElem?_neg, h12, h13, hi]; refine hK _ _ ?_; clear hK K)
  refine aw_seq ?_
  refine aw_f (by (first | (simp [eval_tmp, put_at, hi]; done) | (simp [eval_tmp, put_at, hi]; omega))) (by kernel_rfl) ?_
  refine aw_exit ?_
  obtain rfl : i = l.length := by omega
  rw [List.drop_of_length_le (by omega), List.append_nil] at hout
  rw [List.take_length] at hrows
  refine aw_seq ?_
  (refine aw_ops (by kernel_rfl) (fun K hK => ?_); simp (disch := first | omega | (simp only [lnS]; try omega)) [-getElem?_pos, -getElem?_neg, h5]; refine hK _ _ ?_; clear hK K)
  (refine aw_ret ?_; simp (disch := first | omega | (simp only [lnS]; try omega)) [-getElem?_pos, -getElem?_neg, thenQ_ret, scopeQ_ret, inBlockQ_ret, RQ, resL, resV])
  exact ⟨hlow, R, hrows, hout⟩
 obtain ⟨j, qq, bb, us, pv, wv', bv, qv, hx, hbb, hq, hus, hC, hcn⟩ := hc i _ (nd_get hi)
 have hbG : hget G j = some bb := (hlow.1 j (by have := hget_lt hbb; omega)).trans hbb
 have hul := hC.len
 have hxw := hwf _ (List.mem_of_getElem? (nd_get hi))
 have hxs := hs _ (List.mem_of_getElem? (nd_get hi))
 have hus' := hus.symm
 clear hus
 have hset2 : ∀ Z : List Value, Z.length = 104 → setR Z 0 us = us := fun Z hZ => setR_all _ _ (by omega)
 have hle0 := hlow.2
 have hRl := hrows.1
 rw [List.length_take] at hRl
 have hRl : R.length = i := by omega
 (refine aw_ops (by kernel_rfl) (fun K hK => ?_); simp (disch := first | omega | (simp only [lnS]; try omega)) [-getElem?_pos, -getElem?_neg, h12, h13, hi]; refine hK _ _ ?_; clear hK K)
 refine aw_seq ?_
 refine aw_t (by (first | (simp [eval_tmp, put_at, hi]; done) | (simp [eval_tmp, put_at, hi]; omega))) (by kernel_rfl) ?_
 refine aw_skip ?_
 refine aw_seq ?_
 refine aw_block ?_
 refine aw_seq ?_
 (refine aw_ops (by kernel_rfl) (fun K hK => ?_); simp (disch := first | omega | (simp only [lnS]; try omega)) [-getElem?_pos, -getElem?_neg, h11, h13, -notTuple, hnt, hvc, nt_intG, nt_aggG, -xindexAddr, hx, hbG, hus', hul, hq, hle0, hp0, all_zl, hset2]; refine hK _ _ ?_; clear hK K)
 obtain ⟨hlow2, hb2⟩ := boxed (H := G) us 50
 have hout2 := hget_left' (L := [some ⟨us, 50, none⟩]) hout
 have hgl2 : (G ++ ([some ⟨us, 50, none⟩] : AH)).length = G.length + 1 := by simp
 obtain ⟨g, hg⟩ : ∃ g, g = G.length := ⟨_, rfl⟩
 rw [← hg] at hb2 hgl2 hlow2 hle0 hgl ⊢
 have hrows := hrows.keep (G := G ++ ([some ⟨us, 50, none⟩] : AH)) (fun j _ hj => hlow2.1 j (by omega)) (by omega)
 generalize G ++ [some ⟨us, 50, none⟩] = G2 at *
 have hlowG2 : Low n H G2 := ⟨fun j hj => (hlow2.1 j (by omega)).trans (hlow.1 j hj), by omega⟩
 have hC2 : NodeC G2 us (nd l i) pv wv' bv qv := hC.low (fun j hj => hlowG2.1 j (by omega))
 have hcn1 := nodes1_ac (nro := nro) (γ := γ) hC2 hxw hxs (by omega)
 have htk : us.take 104 = us := List.take_of_length_le (by omega)
 have hsuc : (List.map (fun i => c i + 1) (List.range (i + 1))).sum = (List.map (fun i => c i + 1) (List.range i)).sum + (c i + 1) := by
  rw [List.range_succ, List.map_append, List.sum_append]
  simp
 have hng : n < g := by omega
 refine aw_ops (by kernel_rfl) (fun K hK => ?_)
 simp (disch := first | omega | (simp only [lnS]; try omega)) [-getElem?_pos, -getElem?_neg, h5, h1, -notTuple, hnt, hvc, hfn, hfc, nt_intG, nt_aggG, nt_slG, hb2, hul, htk]
 refine ⟨hcal, hcn1.mono ?_⟩
 rintro v1 G3 ⟨rfl, l1, w1, r1⟩
 rw [hgl2] at l1 w1 r1 ⊢
 have hle3 := w1.2
 have hout3 := (w1.1 n (by omega)).trans hout2
 have hrl := nodeRow_len hxw (opP pv (g + 1 + 2)) (opW pv wv' (g + 1 + 2)) (opB pv wv' bv (g + 1 + 2)) (clV qv (g + 1 + 2 + opN pv wv' bv))
 have hput := row_put (Z := ZZ.drop (i * 104)) (us := nodeCp (nd l i) pv wv' bv qv (g + 1)) hrows.len hRl hrl (by rw [List.length_drop]; omega)
 rw [List.drop_drop, show i * 104 + 104 = (i + 1) * 104 by omega] at hput
 have hrows3 := (hrows.keep (G := G3) (fun j _ hj => w1.1 j (by omega)) (by omega)).push (us := nodeCp (nd l i) pv wv' bv qv (g + 1)) hrl (fun B hB => r1 B (fun j h1 h2 => hB j (by omega) h2))
 have hrl : (nodeCp (nd l i) pv wv' bv qv (g + 1)).length = 104 := hrl
 have hcl : (R.flatten ++ ZZ.drop (i * 104)).length = l.length * 104 := by
  rw [List.length_append, fl_len hrows.len, List.length_drop, hRl]; omega
 generalize nodeCp (nd l i) pv wv' bv qv (g + 1) = us' at *
 generalize hCe : R.flatten ++ ZZ.drop (i * 104) = C at *
 generalize hCe2 : (R ++ [us']).flatten ++ ZZ.drop ((i + 1) * 104) = C' at *
 simp (disch := first | omega | (simp only [lnS]; try omega)) [-getElem?_pos, -getElem?_neg, hout3, hcl, hrl, hput, nt_aggG, hi]
 refine hK _ _ ?_; clear hK K
 have z1 : hget (G3.set n (some ⟨C', 50, some 104⟩)) n = some ⟨C', 50, some 104⟩ := hget_set_eq (hget_lt hout3)
 have z2 : ∀ j, j ≠ n → hget (G3.set n (some ⟨C', 50, some 104⟩)) j = hget G3 j := fun j hj => hget_set_ne (fun e => hj e.symm)
 have z3 : (G3.set n (some ⟨C', 50, some 104⟩)).length = G3.length := by rw [List.length_set]
 have hrows4 := hrows3.keep (G := G3.set n (some ⟨C', 50, some 104⟩)) (fun j h1 h2 => z2 j (by omega)) (by omega)
 generalize G3.set n (some ⟨C', 50, some 104⟩) = G4 at *
 have htk2 : l.take i ++ [nd l i] = l.take (i + 1) := by rw [List.take_add_one, nd_get hi]; rfl
 rw [htk2] at hrows4
 subst hCe2
 (refine aw_ops (by kernel_rfl) (fun K hK => ?_); simp (disch := first | omega | (simp only [lnS]; try omega)) [-getElem?_pos, -getElem?_neg, h13]; refine hK _ _ ?_; clear hK K)
 exact ⟨q - 1, by omega, i + 1, R ++ [us'], by omega, by (first | (simp [put_at, put_none, fr0_at, h0]; done) | rfl), by (first | (simp [put_at, put_none, fr0_at, h1]; done) | rfl), by (first | (simp [put_at, put_none, fr0_at, h5]; done) | rfl), by (first | (simp [put_at, put_none, fr0_at, h11]; done) | rfl), by (first | (simp [put_at, put_none, fr0_at, h12]; done) | rfl), by (first | (simp [put_at, put_none, fr0_at]; done) | rfl), ⟨fun j hj => (z2 j (by omega)).trans ((w1.1 j (by omega)).trans (hlowG2.1 j hj)), by omega⟩, by rw [hsuc]; omega, z1, hrows4⟩
theorem deepNodes_ac {nro : Nat} {γ : Nat → Option Nat} {H : AH} {nv : Value} {l : List NodeD} (hN : NdA H nv l) (hl : l.length ≤ 1000) (hs : ∀ x ∈ l, SmN x) (hnro : nro ≤ H.length) :
  ∃ N : Nat, AC Try.prog nro γ 81 #[nv] H (fun v' H' => v' = .slice (some ⟨H.length, 0, none⟩) l.length l.length ∧ H'.length = N ∧ Low H.length H H' ∧ ∃ R, NewRows (H.length + 1) H' R l ∧ hget H' H.length = some ⟨R.flatten, 50, some 104⟩) := by
 obtain ⟨N, hE⟩ := each_ac (nro := nro) (γ := γ) hN hl hs hnro nodes1_callable
 obtain ⟨hnt, hvc, hxl, hwf, hat⟩ := hN
 have hfn : notTuple (.func (.func 132) #[] #[]) = true := rfl
 have hfc : (Value.func (.func 132) #[] #[]).cells = #[.func (.func 132) #[] #[]] := rfl
 refine ⟨N, ?_⟩
 refine ac_of_aw Try.func81 rfl Try.ntmps81 Try.results81 (by simp) ?_
 refine aw_seq ?_
 (refine aw_ops (by kernel_rfl) (fun K hK => ?_); simp (disch := first | omega | (simp only [lnS]; try omega)) [-getElem?_pos, -getElem?_neg]; refine hK _ _ ?_; clear hK K)
 refine aw_seq ?_
 refine aw_ops (by kernel_rfl) (fun K hK => ?_)
 simp (disch := first | omega | (simp only [lnS]; try omega)) [-getElem?_pos, -getElem?_neg, -notTuple, hnt, hvc, hfn, hfc, eval_fnG]
 refine ⟨by kernel_rfl, hE.mono ?_⟩
 rintro v1 G1 ⟨rfl, h1, h2, h3⟩
 try simp (disch := first | omega | (simp only [lnS]; try omega)) [-getElem?_pos, -getElem?_neg]
 refine hK _ _ ?_; clear hK K
 (refine aw_ret ?_; simp (disch := first | omega | (simp only [lnS]; try omega)) [-getElem?_pos, -getElem?_neg, thenQ_ret, scopeQ_ret, inBlockQ_ret, RQ, resL, resV])
 exact ⟨h2, h3⟩
end
section
section
variable {l : List NodeD}
theorem right_step (h : rightG l = true) {i : Nat} (hi : i < l.length) : stepB l i = true := by
 unfold rightG at h
 rw [Bool.and_eq_true, List.all_eq_true] at h
 exact h.2 i (List.mem_range.2 hi)
theorem step_iff {i : Nat} : stepB l i = true ↔ ((nd l i).op.parents.all (fun p => (findN l i p).isSome) = true ∧ rightO (nd l i).op = true ∧ findN l i (nd l i).id = none ∧ (nd l i).past = pastL l i (nd l i).op.parents ∧ turnB l i (nd l i).op (nd l i).past = true) := by
 unfold stepB
 rw [Bool.and_eq_true, Bool.and_eq_true, Bool.and_eq_true, Bool.and_eq_true, decide_eq_true_eq, Option.isNone_iff_eq_none]
theorem right_past (h : rightG l = true) {i : Nat} (hi : i < l.length) : (nd l i).past = pastL l i (nd l i).op.parents := (step_iff.1 (right_step h hi)).2.2.2.1
theorem right_op (h : rightG l = true) {i : Nat} (hi : i < l.length) : rightO (nd l i).op = true := (step_iff.1 (right_step h hi)).2.1
theorem right_fresh (h : rightG l = true) {i : Nat} (hi : i < l.length) : findN l i (nd l i).id = none := (step_iff.1 (right_step h hi)).2.2.1
theorem right_turn (h : rightG l = true) {i : Nat} (hi : i < l.length) : turnB l i (nd l i).op (nd l i).past = true := (step_iff.1 (right_step h hi)).2.2.2.2
theorem right_par (h : rightG l = true) {i : Nat} (hi : i < l.length) {p : List Int} (hp : p ∈ (nd l i).op.parents) : ∃ a, findN l i p = some a := by
 have := (step_iff.1 (right_step h hi)).1
 rw [List.all_eq_true] at this
 exact Option.isSome_iff_exists.1 (this p hp)
theorem pastL_bd {n : Nat} {ps : List (List Int)} {z : Int} (h : z ∈ pastL l n ps) : ∃ k : Nat, z = k ∧ k < n ∧ inB l n ps k = true := by
 unfold pastL at h
 obtain ⟨k, hk, rfl⟩ := List.mem_map.1 h
 rw [List.mem_filter, List.mem_range] at hk
 exact ⟨k, rfl, hk.1, hk.2⟩
theorem past_bd (h : rightG l = true) {i : Nat} (hi : i < l.length) {z : Int} (hz : z ∈ (nd l i).past) : ∃ k : Nat, z = k ∧ k < i := by
 rw [right_past h hi] at hz
 obtain ⟨k, e, hk, _⟩ := pastL_bd hz
 exact ⟨k, e, hk⟩
theorem pastL_length (l : List NodeD) (n : Nat) (ps : List (List Int)) : (pastL l n ps).length ≤ n := by
 unfold pastL
 rw [List.length_map]
 exact Nat.le_trans (List.length_filter_le _ _) (by simp)
theorem past_len (h : rightG l = true) {i : Nat} (hi : i < l.length) : (nd l i).past.length ≤ i := by
 rw [right_past h hi]; exact pastL_length _ _ _
theorem rightO_sm {o : OpD} (h : rightO o = true) : o.parents.length ≤ 8 ∧ o.who.length ≤ 8 ∧ o.boxes.length ≤ 8 := by
 rw [← refO_eq] at h
 unfold refO at h
 simp only [Bool.and_eq_true, decide_eq_true_eq, List.all_eq_true] at h
 refine ⟨h.2.2.2.2.1, ?_, h.2.2.2.2.2.1⟩
 obtain ⟨hm, hr⟩ := h.2.2.2.2.2.2.2.2.1
 refine rise_len hm (fun i hi => ?_)
 unfold risesI at hr
 rw [List.all_eq_true] at hr
 have := hr i (List.mem_range.2 (by omega))
 rwa [decide_eq_true_eq, cmpI_lt] at this
theorem right_sm (h : rightG l = true) : ∀ x ∈ l, SmN x := fun x hx => by
 obtain ⟨i, hi⟩ := List.getElem?_of_mem hx
 have hil := (List.getElem?_eq_some_iff.1 hi).1
 have e := nd_eq hi
 have h1 := rightO_sm (right_op h hil)
 have h2 := past_len h hil
 have h3 := rightG_len h
 rw [e] at h1 h2
 exact ⟨⟨by omega, by omega, by omega⟩, by omega⟩
theorem findN_none {n a : Nat} {k : List Int} (h : findN l n k = none) (ha : a < n) : (nd l a).id ≠ k := by
 unfold findN at h
 rw [List.find?_eq_none] at h
 have := h a (List.mem_range.2 ha)
 simpa using this
theorem ids_ne (h : rightG l = true) {i j : Nat} (hij : i < j) (hj : j < l.length) : (nd l i).id ≠ (nd l j).id := findN_none (right_fresh h hj) hij
theorem findN_mono {n m a : Nat} {k : List Int} (h : findN l n k = some a) (hnm : n ≤ m) : findN l m k = some a := by
 induction m with
 | zero =>
  have : n = 0 := by omega
  subst this; exact h
 | succ m ih =>
  rcases Nat.eq_or_lt_of_le hnm with rfl | hlt
  ·exact h
  ·rw [findN_succ, ih (by omega)]
theorem find_self (h : rightG l = true) {i n : Nat} (hi : i < n) (hn : n ≤ l.length) : findN l n (nd l i).id = some i := by
 refine findN_mono (n := i + 1) ?_ (by omega)
 rw [findN_succ, right_fresh h (by omega)]
 simp
theorem author_ahead (h : rightG l = true) {i j : Nat} (hij : i < j) (hj : j < l.length) (he : (nd l i).op.author = (nd l j).op.author) : (i : Int) ∈ (nd l j).past := by
 have := right_turn h hj
 unfold turnB autA at this
 simp only [Bool.and_eq_true, List.all_eq_true] at this
 have := this.2.1 i (List.mem_range.2 hij)
 simpa [he] using this
theorem inB_iff {n k : Nat} {ps : List (List Int)} : inB l n ps k = true ↔ ∃ p ∈ ps, ∃ a, findN l n p = some a ∧ (a = k ∨ (k : Int) ∈ (nd l a).past) := by
 rw [inZ_B]
 unfold inZ
 refine exists_congr fun p => and_congr_right fun _ => exists_congr fun a => and_congr_right fun _ => or_congr ?_ Iff.rfl
 omega
end
end
section
def kr (l : List (List Int)) : List Value := (l.map (iv .u8)).flatten
theorem ksC_kr (l : List (List Int)) : ksC l = kr l := by
 unfold ksC kr
 induction l with
 | nil => rfl
 | cons k l ih =>
  rw [List.map_cons, List.flatten_cons, List.map_append, ih, List.map_cons, List.flatten_cons]
  congr 1
  simp [kd, iv, CD.fv]
theorem kr_app (a b : List (List Int)) : kr (a ++ b) = kr a ++ kr b := by simp [kr]
theorem kr_one (k : List Int) : kr [k] = iv .u8 k := by simp [kr]
def K32 (l : List (List Int)) : Prop := ∀ k ∈ l, k.length = 32
theorem kr_rows {l : List (List Int)} (h : K32 l) : ∀ r ∈ l.map (iv .u8), r.length = 32 := fun r hr => by
 obtain ⟨k, hk, rfl⟩ := List.mem_map.1 hr
 rw [iv_length]; exact h k hk
theorem kr_len {l : List (List Int)} (h : K32 l) : (kr l).length = l.length * 32 := by unfold kr; rw [fl_len (kr_rows h), List.length_map]
theorem kr_get {l : List (List Int)} (h : K32 l) {j : Nat} {k : List Int} (hj : l[j]? = some k) : ((kr l).drop (j * 32)).take 32 = iv .u8 k := fl_get (kr_rows h) (by rw [List.getElem?_map, hj]; rfl)
theorem kr_set {l : List (List Int)} (h : K32 l) {j : Nat} {k : List Int} (hj : j < l.length) (hk : k.length = 32) : setR (kr l) (j * 32) (iv .u8 k) = kr (l.set j k) := by
 have hj' : l[j]? = some l[j] := List.getElem?_eq_getElem hj
 have hq := h _ (List.mem_of_getElem? hj')
 unfold kr
 rw [fl_setR (q := iv .u8 l[j]) (kr_rows h) (by rw [List.getElem?_map, hj']; rfl) (by rw [iv_length, hk]; omega)]
 rw [List.drop_of_length_le (by rw [iv_length, iv_length]; omega), List.append_nil, List.map_set]
theorem kr_addr {n b j : Nat} (hj : j < n) : xindexAddr Try.prog 36 (.slice (some ⟨b, 0, none⟩) n n) (.int .i64 (j : Nat)) = some (.pointer (some ⟨b, j * 32, none⟩)) := by
 have h1 : und Try.prog 36 = .slice 38 := by kernel_rfl
 have h2 : szt Try.prog 38 = 32 := by kernel_rfl
 unfold xindexAddr
 simp only [h1, h2]
 rw [if_pos ⟨by omega, by omega, by omega⟩]
 simp
theorem kr_load {G : AH} {b j : Nat} {l : List (List Int)} {k : List Int} (h : K32 l) (hj : l[j]? = some k) (hb : hget G b = some ⟨kr l, 38, some 32⟩) : xload Try.prog 38 (.pointer (some ⟨b, j * 32, none⟩)) G = some (.agg (iv .u8 k).toArray) := by
 have hl := (List.getElem?_eq_some_iff.1 hj).1
 refine load_at (sz := 32) hb (by kernel_rfl) (by omega) (by kernel_rfl) (kr_get h hj).symm ?_
 show _ ≤ (kr l).length
 rw [kr_len h]
 have : (j + 1) * 32 ≤ l.length * 32 := Nat.mul_le_mul_right _ hl
 omega
attribute [local simp] wb_bool wb_undef with_lit XL_nil XL_cons XLc_val XLc_call step1_eq stepW_t stepW_f stepC_n stepC_s stepX_s stepX_n stepN_s calleeX xrecv oneV xop_eq xopR_s xopR_n wantedA_eq wantedG_n wantedG_s plain1_int plain1_bool plain1_string bits_i64 bits_u64 bits_u32 bits_u16 bits_u8 xeqA xagg xcmp xarr allK_iv num_iv calleeOf xread xeff xbin xint xnil xun xstr xload xconv xpart xfield xfieldAddr xindexAddr xindex bnd asInt? xslice xlen xmin xmax xbuild xfill xappend xapp2 xappstr xappmk xcap xcopy xcells eval_tmp eval_const put_at put_none fr0_at cells_agg cells_int cells_bool cells_string cells_ptr cells_slice notTuple tab iv_all hget_app hget_app0 hget_cons0 hget_cons set_app set_app0 setR setR_one QL_nil QL_cons QLc_val stepQ_t stepQ_f stepQC_n stepQC_s stepQX_s SL_nil SL_cons SLc_val stepS_t stepS_f ltT ltF leT leF eqT eqF ltTn ltFn leTn leFn eqTn eqFn beqT beqF bneT bneF wi64 wu64 wu32 wu16 wu8 tmodP tdivP hgetL hgetNe hgetEq setL nums_def nums_len Nat.succ_le_of_lt List.getElem?_cons_zero List.getElem?_cons_succ Option.getD_some Int.toNat_add Int.toNat_mul agM okM agB agI agS agP agL agA okB okI okS okP okSl okA
def Oth (b : Nat) (H G : AH) : Prop := H.length ≤ G.length ∧ ∀ j, j < H.length → j ≠ b → hget G j = hget H j
def SortQ (b : Nat) (ids : List (List Int)) (H : AH) (v' : Value) (H' : AH) : Prop := hget H' b = some ⟨kr (sortK ids), 38, some 32⟩ ∧ Oth b H H'
theorem len_rc {nro : Nat} {γ : Nat → Option Nat} {H : AH} {n : Nat} (hn : n ≤ 12) : AC Try.prog nro γ 157 #[.int .u64 (n : Nat)] H (fun v' H' => H' = H ∧ ∃ z, v' = .int .i64 z) := by
 have h64 : AC Try.prog nro γ 169 #[.int .u64 (n : Nat)] H (fun v' H' => H' = H ∧ ∃ z, v' = .int .i64 z) := by
  refine ac_of_aw Try.func169 rfl Try.ntmps169 Try.results169 (by simp) ?_
  refine aw_seq ?_
  (refine aw_ops (by kernel_rfl) (fun K hK => ?_); simp (disch := first | omega | (simp only [lnS]; try omega)) [-getElem?_pos, -getElem?_neg]; refine hK _ _ ?_; clear hK K)
  refine aw_seq ?_
  refine aw_seq ?_
  (refine aw_ops (by kernel_rfl) (fun K hK => ?_); simp (disch := first | omega | (simp only [lnS]; try omega)) [-getElem?_pos, -getElem?_neg]; refine hK _ _ ?_; clear hK K)
  refine aw_f (by (first | (simp [eval_tmp, put_at]; done) | (simp [eval_tmp, put_at]; omega))) (by kernel_rfl) ?_
  refine aw_skip ?_
  refine aw_seq ?_
  refine aw_seq ?_
  (refine aw_ops (by kernel_rfl) (fun K hK => ?_); simp (disch := first | omega | (simp only [lnS]; try omega)) [-getElem?_pos, -getElem?_neg]; refine hK _ _ ?_; clear hK K)
  refine aw_f (by (first | (simp [eval_tmp, put_at]; done) | (simp [eval_tmp, put_at]; omega))) (by kernel_rfl) ?_
  refine aw_skip ?_
  refine aw_seq ?_
  refine aw_seq ?_
  (refine aw_ops (by kernel_rfl) (fun K hK => ?_); simp (disch := first | omega | (simp only [lnS]; try omega)) [-getElem?_pos, -getElem?_neg]; refine hK _ _ ?_; clear hK K)
  refine aw_f (by (first | (simp [eval_tmp, put_at]; done) | (simp [eval_tmp, put_at]; omega))) (by kernel_rfl) ?_
  refine aw_skip ?_
  refine aw_seq ?_
  (refine aw_ops (by kernel_rfl) (fun K hK => ?_); simp (disch := first | omega | (simp only [lnS]; try omega)) [-getElem?_pos, -getElem?_neg, ByteArray.size, List.size_toArray, List.length_cons, List.length_nil]; refine hK _ _ ?_; clear hK K)
  (refine aw_ret ?_; simp (disch := first | omega | (simp only [lnS]; try omega)) [-getElem?_pos, -getElem?_neg, thenQ_ret, scopeQ_ret, inBlockQ_ret, RQ, resL, resV])
 refine ac_of_aw Try.func157 rfl Try.ntmps157 Try.results157 (by simp) ?_
 refine aw_seq ?_
 (refine aw_ops (by kernel_rfl) (fun K hK => ?_); simp (disch := first | omega | (simp only [lnS]; try omega)) [-getElem?_pos, -getElem?_neg]; refine hK _ _ ?_; clear hK K)
 refine aw_seq ?_
 refine aw_f (by (first | (simp [eval_tmp, put_at]; done) | (simp [eval_tmp, put_at]; omega))) (by kernel_rfl) ?_
 refine aw_skip ?_
 refine aw_seq ?_
 refine aw_ops (by kernel_rfl) (fun K hK => ?_)
 simp (disch := first | omega | (simp only [lnS]; try omega)) [-getElem?_pos, -getElem?_neg]
 refine ⟨by kernel_rfl, h64.mono ?_⟩
 rintro v1 G1 ⟨rfl, z, rfl⟩
 try simp (disch := first | omega | (simp only [lnS]; try omega)) [-getElem?_pos, -getElem?_neg]
 refine hK _ _ ?_; clear hK K
 (refine aw_ret ?_; simp (disch := first | omega | (simp only [lnS]; try omega)) [-getElem?_pos, -getElem?_neg, thenQ_ret, scopeQ_ret, inBlockQ_ret, RQ, resL, resV])
end
section
theorem Oth.low {n b : Nat} {H G K : AH} (hn : n ≤ b) (hl : Low n H G) (h : Oth b G K) : Low n H K := ⟨fun j hj => (h.2 j (by have := hl.2; omega) (by omega)).trans (hl.1 j hj), by have := hl.2; have := h.1; omega⟩
theorem fill_keyG {k : IntKind} {x : List Int} {n : Nat} (z : List Int) (hx : (iv k x).length = n) : xfill (fun i => some (i * n, n)) (List.map (fun j => (iv k z)[j % n]?.getD undef) (List.range n)) [(0, .agg (iv k x).toArray)] = some (iv k x) := by
 have h1 : (Value.agg (iv k x).toArray).cells.size = n := by simpa [Value.cells] using hx
 unfold xfill
 simp only [Nat.zero_mul]
 rw [if_pos ⟨h1, by rw [h1]; simp⟩]
 unfold xfill
 rw [setR_all _ _ (by simp [Value.cells, hx])]
 rfl
end
end Go.Proofs.Ytdeccbjdhcifiaa
