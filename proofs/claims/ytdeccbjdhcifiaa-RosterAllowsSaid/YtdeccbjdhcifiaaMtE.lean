/-
  graph.Right.
  graph: isPlace, Ahead, Apart, count, Find.
  graph.Find.
  Own slices with their blocks as a footprint.
  graph.past: what is marked, as a map.
  graph.Past.
  The reference: Find, In, SameInts.
  The reference: turn.
  The reference: Past.
  The reference: SameInts, Member, Less.
  The reference: kind.
  What the reference's Right asks, and what the program's asks: the same.
  The first nodes of a graph, as a slice of it.
  The reference: SameKeys.
  The reference: Great.
  Keys in order: the comparison is the order of lists; sorted lists are told by their members.
-/
import Derived.Test.YtdeccbjdhcifiaaMtD
import Derived.Test.YtdeccbjdhcifiaaMtB
import Derived.Test.YtdeccbjdhcifiaaTabMt
namespace Go.Proofs.Ytdeccbjdhcifiaa
open Go Go.RowKit
set_option linter.unusedSimpArgs false
set_option linter.unusedVariables false
set_option maxRecDepth 100000
set_option maxHeartbeats 4000000
section
def inB (l : List NodeD) (n : Nat) (ps : List (List Int)) (k : Nat) : Bool := ps.any fun p => match findN l n p with | some a => decide (a = k) || decide ((k : Int) ∈ (nd l a).past) | none => false
def pastL (l : List NodeD) (n : Nat) (ps : List (List Int)) : List Int := ((List.range n).filter (inB l n ps)).map fun k : Nat => (k : Int)
def autN (l : List NodeD) (n : Nat) (x : Int) : Nat := ((List.range n).filter fun a => (nd l a).op.author == x).length
def autA (l : List NodeD) (n : Nat) (x : Int) (past : List Int) : Bool := (List.range n).all fun a => !((nd l a).op.author == x) || decide ((a : Int) ∈ past)
def turnB (l : List NodeD) (n : Nat) (o : OpD) (past : List Int) : Bool := (decide (o.kind = 1) == decide (n = 0)) && (autA l n o.author past && decide (o.seq = 1 + (autN l n o.author : Nat)))
def stepB (l : List NodeD) (i : Nat) : Bool := (nd l i).op.parents.all (fun p => (findN l i p).isSome) && (rightO (nd l i).op && ((findN l i (nd l i).id).isNone && (decide ((nd l i).past = pastL l i (nd l i).op.parents) && turnB l i (nd l i).op (nd l i).past)))
def rightG (l : List NodeD) : Bool := decide (l.length ≤ 96) && (List.range l.length).all (stepB l)
theorem mem_pastL {l : List NodeD} {n k : Nat} {ps : List (List Int)} : (k : Int) ∈ pastL l n ps ↔ k < n ∧ inB l n ps k = true := by
 unfold pastL
 rw [List.mem_map]
 constructor
 ·rintro ⟨a, ha, e⟩
  obtain rfl : a = k := by omega
  rw [List.mem_filter, List.mem_range] at ha
  exact ha
 ·rintro ⟨h1, h2⟩
  exact ⟨k, by rw [List.mem_filter, List.mem_range]; exact ⟨h1, h2⟩, rfl⟩
def Mk (l : List NodeD) (W : List Nat) (i : Nat) : Prop := ∀ r k, r < 96 → k < 128 → hasW W r k = (decide (r < i) && decide ((k : Int) ∈ (nd l r).past))
theorem own_in {l : List NodeD} {W : List Nat} {i k : Nat} {ps : List (List Int)} (hM : Mk l W i) (hi : i ≤ 96) (hk : k < 128) : ownB l W i ps k = inB l i ps k := by
 unfold ownB inB
 congr 1
 funext p
 cases hf : findN l i p with
 | none => rfl
 | some a =>
  have := findN_lt hf
  simp only []
  rw [hM a k (by omega) hk]
  simp [this]
theorem mk_row {l : List NodeD} {W W' : List Nat} {i : Nat} (hM : Mk l W i) (hi : i < 96) (h : ∀ r k, r < 96 → k < 128 → hasW W' r k = (hasW W r k || (decide (r = i) && ownB l W i (nd l i).op.parents k))) : ∀ k, k < 128 → hasW W' i k = inB l i (nd l i).op.parents k := fun k hk => by
 rw [h i k hi hk, hM i k hi hk, own_in hM (by omega) hk]
 simp
theorem mark_past {l : List NodeD} {W : List Nat} {i : Nat} {ps : List (List Int)} (h : ∀ k, k < 128 → hasW W i k = inB l i ps k) (hi : i ≤ 96) : markL W i i = pastL l i ps := by
 unfold markL pastL
 congr 1
 refine List.filter_congr fun k hk => ?_
 rw [List.mem_range] at hk
 exact h k (by omega)
theorem seq_turn {l : List NodeD} {W : List Nat} {i : Nat} (h : ∀ k, k < 128 → hasW W i k = inB l i (nd l i).op.parents k) (hi : i ≤ 96) (hp : (nd l i).past = pastL l i (nd l i).op.parents) (hk : (decide ((nd l i).op.kind = 1) == decide (i = 0)) = true) : seqB l W i = turnB l i (nd l i).op (nd l i).past := by
 unfold turnB seqB
 rw [hk, Bool.true_and]
 congr 1
 unfold seqA autA
 rw [Bool.eq_iff_iff, List.all_eq_true, List.all_eq_true]
 refine forall_congr' fun a => ?_
 refine imp_congr_right fun ha => ?_
 rw [List.mem_range] at ha
 rw [h a (by omega), hp]
 have : decide ((a : Int) ∈ pastL l i (nd l i).op.parents) = inB l i (nd l i).op.parents a := by
  rw [Bool.eq_iff_iff, decide_eq_true_eq, mem_pastL]
  exact ⟨fun h => h.2, fun h => ⟨ha, h⟩⟩
 rw [this]
theorem mk_next {l : List NodeD} {W W' : List Nat} {i : Nat} (hM : Mk l W i) (hi : i < 96) (h : ∀ r k, r < 96 → k < 128 → hasW W' r k = (hasW W r k || (decide (r = i) && ownB l W i (nd l i).op.parents k))) (hp : (nd l i).past = pastL l i (nd l i).op.parents) (hall : ∀ a, a < i → (nd l a).past = pastL l a (nd l a).op.parents) : Mk l W' (i + 1) := fun r k hr hk => by
 rw [h r k hr hk, hM r k hr hk]
 by_cases e : r = i
 ·subst e
  rw [own_in hM (by omega) hk, hp]
  simp only [Nat.lt_irrefl, decide_false, Bool.false_and, Bool.false_or, decide_true, Bool.true_and, Nat.lt_succ_self]
  rw [Bool.eq_iff_iff, decide_eq_true_eq, mem_pastL]
  refine ⟨fun hin => ⟨?_, hin⟩, fun h => h.2⟩
  unfold inB at hin
  rw [List.any_eq_true] at hin
  obtain ⟨p, _, hin⟩ := hin
  cases hf : findN l r p with
  | none => rw [hf] at hin; cases hin
  | some a =>
   have hlt := findN_lt hf
   rw [hf] at hin
   simp only [Bool.or_eq_true, decide_eq_true_eq] at hin
   rcases hin with rfl | hin
   ·exact hlt
   ·rw [hall a hlt, mem_pastL] at hin
    omega
 ·have e1 : decide (r = i) = false := by simpa using e
  have e2 : decide (r < i + 1) = decide (r < i) := by
   by_cases h : r < i
   ·have : r < i + 1 := by omega
    simp [h, this]
   ·have : ¬ r < i + 1 := by omega
    simp [h, this]
  rw [e1, e2]
  simp
theorem rightG_bad {l : List NodeD} {i : Nat} (hi : i < l.length) (h : stepB l i = false) : rightG l = false := by
 unfold rightG
 have : (List.range l.length).all (stepB l) = false := by
  rw [List.all_eq_false]
  exact ⟨i, List.mem_range.2 hi, by rw [h]; decide⟩
 rw [this, Bool.and_false]
theorem wv_zero : wv (List.replicate 192 0) = iv .u64 (zl 192) := by kernel_rfl
theorem wzero_has (r k : Nat) : hasW (List.replicate 192 0) r k = false := by
 unfold hasW
 have : (List.replicate 192 0).getD (2 * r + k / 64) 0 = 0 := by
  rw [List.getD_eq_getElem?_getD, List.getElem?_replicate]
  split <;> rfl
 rw [this]
 exact Nat.zero_testBit _
theorem put_map {nro : Nat} {H : AH} {mi : Nat} {E : List (Value × Value)} {l : List NodeD} {i : Nat} {k : List Int} (hm : hget H mi = some (mblk 110 E)) (hE : MapP E l i) (hk : k.length = 32) (hn : nro ≤ mi) : xmapUpd Try.prog nro 110 (.map (some mi)) (.agg (iv .u8 k).toArray) (.int .i64 (i : Nat)) H = some (undef, H.set mi (some (mblk 110 (mput (kyv k) (.int .i64 (i : Nat)) E)))) := by
 have h1 : und Try.prog 110 = .map 38 3 := by kernel_rfl
 have h3 := kyv_ok hk
 unfold kyv at h3 ⊢
 unfold xmapUpd
 simp only [h1, hm, ents_mblk, h3, hE.ok]
 rw [if_pos ⟨hn, trivial, trivial, rfl⟩, mblk_ty]
theorem make_map (n : Nat) (H : AH) : xmakeMap Try.prog 110 (some (.int .i64 (n : Nat))) H = some (.map (some H.length), H ++ [some (mblk 110 [])]) := by
 have h1 : und Try.prog 110 = .map 38 3 := by kernel_rfl
 unfold xmakeMap
 simp only [h1]
attribute [local simp] wb_bool wb_undef with_lit XL_nil XL_cons XLc_val XLc_call step1_eq stepW_t stepW_f stepC_n stepC_s stepX_s stepX_n stepN_s calleeX oneV xop_eq xopR_s xopR_n wantedA_eq wantedG_n wantedG_s plain1_int plain1_bool plain1_string bits_i64 bits_u64 bits_u32 bits_u16 bits_u8 xeqA xagg xcmp xarr allK_iv num_iv calleeOf xread xeff xbin xint xnil xun xstr xload xconv xpart xfield xfieldAddr xindexAddr xindex bnd asInt? xslice xlen xmin xmax xbuild xfill xappend xapp2 xappstr xappmk xcap xcopy xcells eval_tmp eval_const put_at put_none fr0_at cells_agg cells_int cells_bool cells_string cells_ptr cells_slice notTuple tab iv_all hget_app hget_app0 hget_cons0 hget_cons set_app set_app0 setR setR_one QL_nil QL_cons QLc_val stepQ_t stepQ_f stepQC_n stepQC_s stepQX_s SL_nil SL_cons SLc_val stepS_t stepS_f ltT ltF leT leF eqT eqF ltTn ltFn leTn leFn eqTn eqFn beqT beqF bneT bneF wi64 wu64 wu32 wu16 wu8 tmodP tdivP hgetL hgetNe hgetEq setL nums_def nums_len Nat.succ_le_of_lt List.getElem?_cons_zero List.getElem?_cons_succ Option.getD_some Int.toNat_add Int.toNat_mul agM okM agB agI agS agP agL agA okB okI okS okP okSl okA
theorem graph_right_rc {γ : Nat → Option Nat} {H : AH} {nv : Value} {l : List NodeD} (hN : NdA H nv l) :
  AC Try.prog H.length γ 30 #[nv] H (fun v' _ => v' = .bool (rightG l)) := by
 obtain ⟨hnt, hvc, hxl, hwf, hat⟩ := hN
 have hN' : NdA H nv l := ⟨hnt, hvc, hxl, hwf, hat⟩
 refine ac_of_aw Try.func30 rfl Try.ntmps30 Try.results30 (by simp) ?_
 refine aw_seq ?_
 (refine aw_ops (by kernel_rfl) (fun K hK => ?_); simp (disch := first | omega | (simp only [lnS]; try omega)) [-getElem?_pos, -getElem?_neg]; refine hK _ _ ?_; clear hK K)
 refine aw_seq ?_
 refine aw_seq ?_
 by_cases hl : 96 < l.length
 case pos =>
  (refine aw_ops (by kernel_rfl) (fun K hK => ?_); simp (disch := first | omega | (simp only [lnS]; try omega)) [-getElem?_pos, -getElem?_neg, -notTuple, hnt, hvc, nt_intG, -xlen, hxl, hl]; refine hK _ _ ?_; clear hK K)
  refine aw_t (by (first | (simp [eval_tmp, put_at]; done) | (simp [eval_tmp, put_at]; omega))) (by kernel_rfl) ?_
  refine aw_seq ?_
  (refine aw_ops (by kernel_rfl) (fun K hK => ?_); simp (disch := first | omega | (simp only [lnS]; try omega)) [-getElem?_pos, -getElem?_neg]; refine hK _ _ ?_; clear hK K)
  (refine aw_ret ?_; simp (disch := first | omega | (simp only [lnS]; try omega)) [-getElem?_pos, -getElem?_neg, thenQ_ret, scopeQ_ret, inBlockQ_ret, RQ, resL, resV])
  have : ¬ l.length ≤ 96 := by omega
  simp [rightG, this]
 (refine aw_ops (by kernel_rfl) (fun K hK => ?_); simp (disch := first | omega | (simp only [lnS]; try omega)) [-getElem?_pos, -getElem?_neg, -notTuple, hnt, hvc, nt_intG, -xlen, hxl, hl]; refine hK _ _ ?_; clear hK K)
 refine aw_f (by (first | (simp [eval_tmp, put_at]; done) | (simp [eval_tmp, put_at]; omega))) (by kernel_rfl) ?_
 refine aw_skip ?_
 refine aw_seq ?_
 have hmm := make_map l.length H
 have hp0 : plain1 (.slice none 0 0) = true := rfl
 have hpm : plain1 (.map none) = true := rfl
 have hntm : notTuple (.map (some H.length)) = true := rfl
 have hmc : (Value.map (some H.length)).cells = #[.map (some H.length)] := rfl
 have hset : ∀ Z : List Value, Z.length = 194 → setR Z 0 (nv :: .map (some H.length) :: iv .u64 (zl 192)) = nv :: .map (some H.length) :: iv .u64 (zl 192) := fun Z hZ => setR_all _ _ (by simp [hZ])
 have hsr : setR (nv :: Value.map none :: iv .u64 (zl 192)) 1 [.map (some H.length)] = nv :: .map (some H.length) :: iv .u64 (zl 192) := by simp [setR_one]
 (refine aw_ops (by kernel_rfl) (fun K hK => ?_); simp (disch := first | omega | (simp only [lnS]; try omega)) [-getElem?_pos, -getElem?_neg, -notTuple, hnt, hvc, nt_intG, nt_aggG, -xlen, hxl, hl, hmm, hp0, hpm, hntm, hmc, hset, hsr, mblk_ty]; refine hK _ _ ?_; clear hK K)
 have hwz : lkC nv H.length (List.replicate 192 0) = nv :: .map (some H.length) :: iv .u64 (zl 192) := by rw [lkC, wv_zero]; rfl
 refine aw_seq ?_
 refine aw_seq ?_
 (refine aw_ops (by kernel_rfl) (fun K hK => ?_); simp (disch := first | omega | (simp only [lnS]; try omega)) [-getElem?_pos, -getElem?_neg, -notTuple, hnt, hvc, nt_intG, -xlen, hxl]; refine hK _ _ ?_; clear hK K)
 refine aw_block ?_
 have hlb : l.length ≤ 96 := by omega
 refine aw_loop (fun c α G => ∃ (i : Nat) (W : List Nat) (E : List (Value × Value)), i + c = l.length ∧ α 3 = .pointer (some ⟨H.length + 1, 0, none⟩) ∧ α 16 = nv ∧ α 17 = .int .i64 (l.length : Nat) ∧ α 18 = .int .i64 (i : Nat) ∧ Low H.length H G ∧ hget G (H.length + 1) = some ⟨lkC nv H.length W, 116, none⟩ ∧ hget G H.length = some (mblk 110 E) ∧ MapP E l i ∧ Wd W ∧ W.length = 192 ∧ Mk l W i ∧ ∀ a, a < i → stepB l a = true) l.length ?_ ?_
 ·refine ⟨0, List.replicate 192 0, [], by omega, by (first | (simp [put_at, put_none, fr0_at]; done) | rfl), by (first | (simp [put_at, put_none, fr0_at]; done) | rfl), by (first | (simp [put_at, put_none, fr0_at]; done) | rfl), by (first | (simp [put_at, put_none, fr0_at]; done) | rfl), ?_, ?_, ?_, MapP.zero l, ?_, by simp, fun r k _ _ => by rw [wzero_has]; simp, fun a ha => by omega⟩
  ·exact Low.push (Nat.le_refl _) _
  ·rw [hget_app, hwz]; rfl
  ·rw [hget_app0]; rfl
  ·intro x hx
   rw [List.eq_of_mem_replicate hx]; decide
 rintro c α G ⟨i, W, E, hic, h3, h16, h17, h18, hlow, hb, hm, hE, hw, hW, hM, hall⟩
 refine aw_seq ?_
 by_cases hi : i < l.length
 case neg =>
  (refine aw_ops (by kernel_rfl) (fun K hK => ?_); simp (disch := first | omega | (simp only [lnS]; try omega)) [-getElem?_pos, -getElem?_neg, h17, h18, hi]; refine hK _ _ ?_; clear hK K)
  refine aw_seq ?_
  refine aw_f (by (first | (simp [eval_tmp, put_at, hi]; done) | (simp [eval_tmp, put_at, hi]; omega))) (by kernel_rfl) ?_
  refine aw_exit ?_
  obtain rfl : i = l.length := by omega
  refine aw_seq ?_
  (refine aw_ops (by kernel_rfl) (fun K hK => ?_); simp (disch := first | omega | (simp only [lnS]; try omega)) [-getElem?_pos, -getElem?_neg]; refine hK _ _ ?_; clear hK K)
  (refine aw_ret ?_; simp (disch := first | omega | (simp only [lnS]; try omega)) [-getElem?_pos, -getElem?_neg, thenQ_ret, scopeQ_ret, inBlockQ_ret, RQ, resL, resV])
  have : (List.range l.length).all (stepB l) = true := List.all_eq_true.2 fun a ha => hall a (List.mem_range.1 ha)
  simp [rightG, this, hlb]
 obtain ⟨j, q, bb, us, pv, wv', bv, qv, hx, hbb, hq, hcell, hus, hC⟩ := hat i _ (nd_get hi)
 have hwfi := hwf _ (List.mem_of_getElem? (nd_get hi))
 have hbG : hget G j = some bb := (hlow.1 j (hget_lt hbb)).trans hbb
 have hul := hC.len
 have hle0 := hlow.2
 (refine aw_ops (by kernel_rfl) (fun K hK => ?_); simp (disch := first | omega | (simp only [lnS]; try omega)) [-getElem?_pos, -getElem?_neg, h17, h18, hi]; refine hK _ _ ?_; clear hK K)
 refine aw_seq ?_
 refine aw_t (by (first | (simp [eval_tmp, put_at, hi]; done) | (simp [eval_tmp, put_at, hi]; omega))) (by kernel_rfl) ?_
 refine aw_skip ?_
 refine aw_seq ?_
 refine aw_block ?_
 refine aw_seq ?_
 have hset2 : ∀ Z : List Value, Z.length = 104 → setR Z 0 us = us := fun Z hZ => setR_all _ _ (by omega)
 have hus' := hus.symm
 clear hus
 (refine aw_ops (by kernel_rfl) (fun K hK => ?_); simp (disch := first | omega | (simp only [lnS]; try omega)) [-getElem?_pos, -getElem?_neg, h16, h18, -notTuple, hnt, hvc, nt_intG, nt_aggG, -xindexAddr, hx, hbG, hus', hul, hq, hle0, hp0, all_zl, hset2]; refine hK _ _ ?_; clear hK K)
 obtain ⟨hlow2, hb2⟩ := boxed (H := G) us 50
 have hbV2 := hget_left' (L := [some ⟨us, 50, none⟩]) hb
 have hmG2 := hget_left' (L := [some ⟨us, 50, none⟩]) hm
 obtain ⟨g, hg⟩ : ∃ g, g = G.length := ⟨_, rfl⟩
 rw [← hg] at hb2 ⊢
 generalize G ++ [some ⟨us, 50, none⟩] = G2 at *
 have hlowG2 : Low H.length H G2 := ⟨fun j hj => (hlow2.1 j (by omega)).trans (hlow.1 j hj), by have := hlow2.2; omega⟩
 have hlG2 := hlowG2.2
 have hid := hC.id
 have hwl : (iv .u8 (nd l i).id).length = 32 := by rw [iv_length]; exact hwfi.id.1
 obtain ⟨CW, hCW⟩ : ∃ C, C = lkC nv H.length W := ⟨_, rfl⟩
 have hv1 : CW[1]? = some (.map (some H.length)) := by rw [hCW]; rfl
 have hvl : CW.length = 194 := by rw [hCW]; simp [lkC, wv_len, hW]
 have hbV3 := hbV2
 rw [← hCW] at hbV3
 refine aw_seq ?_
 refine aw_seq ?_
 cases hf : findN l i (nd l i).id with
 | some a =>
  have hlk := look_some hmG2 hE hwfi.id.1 hf
  (refine aw_ops (by kernel_rfl) (fun K hK => ?_); simp (disch := first | omega | (simp only [lnS]; try omega)) [-getElem?_pos, -getElem?_neg, h3, hbV3, hv1, hvl, hb2, hul, hid, hwl, hlk, nt_aggG]; refine hK _ _ ?_; clear hK K)
  refine aw_seq ?_
  refine aw_ops (by kernel_rfl) (fun K hK => ?_)
  simp (disch := first | omega | (simp only [lnS]; try omega)) [-getElem?_pos, -getElem?_neg, hb2, hul]
  refine hK _ _ ?_; clear hK K
  refine aw_t (by (first | (simp [eval_tmp, put_at]; done) | (simp [eval_tmp, put_at]; omega))) (by kernel_rfl) ?_
  refine aw_seq ?_
  (refine aw_ops (by kernel_rfl) (fun K hK => ?_); simp (disch := first | omega | (simp only [lnS]; try omega)) [-getElem?_pos, -getElem?_neg]; refine hK _ _ ?_; clear hK K)
  (refine aw_ret ?_; simp (disch := first | omega | (simp only [lnS]; try omega)) [-getElem?_pos, -getElem?_neg, thenQ_ret, scopeQ_ret, inBlockQ_ret, RQ, resL, resV])
  refine rightG_bad hi ?_
  simp [stepB, hf]
 | none =>
  have hlk := look_none hmG2 hE hwfi.id.1 hf
  (refine aw_ops (by kernel_rfl) (fun K hK => ?_); simp (disch := first | omega | (simp only [lnS]; try omega)) [-getElem?_pos, -getElem?_neg, h3, hbV3, hv1, hvl, hb2, hul, hid, hwl, hlk, nt_aggG]; refine hK _ _ ?_; clear hK K)
  refine aw_seq ?_
  have hO : OpC G2 ((us.drop 32).take 71) (nd l i).op pv wv' bv := hC.op.low (fun j hj => hlowG2.1 j hj)
  have c3 : us[35]? = some (.int .i64 (nd l i).op.kind) := by
   have := hO.c3
   rwa [List.getElem?_take_of_lt (by omega), List.getElem?_drop] at this
  have hrr := right_rc (γ := γ) hO hwfi.op
  obtain ⟨u7, hu7⟩ : ∃ u, u = (us.drop 32).take 71 := ⟨_, rfl⟩
  have hu7l := hO.len
  rw [← hu7] at hrr hu7l
  have hu7' := hu7.symm
  refine aw_ops (by kernel_rfl) (fun K hK => ?_)
  simp (disch := first | omega | (simp only [lnS]; try omega)) [-getElem?_pos, -getElem?_neg, hb2, hul, hu7', hu7l, nt_aggG]
  refine ⟨by kernel_rfl, ac_of_rc hrr (by simp [pv_iv, pv_int, pv_bool, pv_string, pv_tup2, pv_tup3, iv_plain, p2_int, p2_bool, p2_string]) ?_⟩
  cases hro : rightO (nd l i).op with
  | false =>
   try simp (disch := first | omega | (simp only [lnS]; try omega)) [-getElem?_pos, -getElem?_neg, hb2, hul]
   refine hK _ _ ?_; clear hK K
   refine aw_t (by (first | (simp [eval_tmp, put_at]; done) | (simp [eval_tmp, put_at]; omega))) (by kernel_rfl) ?_
   refine aw_seq ?_
   (refine aw_ops (by kernel_rfl) (fun K hK => ?_); simp (disch := first | omega | (simp only [lnS]; try omega)) [-getElem?_pos, -getElem?_neg]; refine hK _ _ ?_; clear hK K)
   (refine aw_ret ?_; simp (disch := first | omega | (simp only [lnS]; try omega)) [-getElem?_pos, -getElem?_neg, thenQ_ret, scopeQ_ret, inBlockQ_ret, RQ, resL, resV])
   refine rightG_bad hi ?_
   simp [stepB, hro]
  | true =>
  have htb : (decide ((nd l i).op.kind = 1) == decide (i = 0)) = !(((nd l i).op.kind == 1) != ((i : Int) == 0)) := by
   have e1 : ((nd l i).op.kind == 1) = decide ((nd l i).op.kind = 1) := rfl
   have e2 : ((i : Int) == 0) = decide (i = 0) := by rw [Bool.eq_iff_iff]; simp
   rw [e1, e2]
   cases decide ((nd l i).op.kind = 1) <;> cases decide (i = 0) <;> rfl
  generalize hkd : (nd l i).op.kind = kd at *
  generalize hb1 : (kd == 1) = b1 at *
  generalize hb4 : ((i : Int) == 0) = b4 at *
  cases hbn : (b1 != b4) with
  | true =>
   simp (disch := first | omega | (simp only [lnS]; try omega)) [-getElem?_pos, -getElem?_neg, hb2, hul, c3, hb1, hb4, hbn]
   refine hK _ _ ?_; clear hK K
   refine aw_t (by (first | (simp [eval_tmp, put_at]; done) | (simp [eval_tmp, put_at]; omega))) (by kernel_rfl) ?_
   refine aw_seq ?_
   (refine aw_ops (by kernel_rfl) (fun K hK => ?_); simp (disch := first | omega | (simp only [lnS]; try omega)) [-getElem?_pos, -getElem?_neg]; refine hK _ _ ?_; clear hK K)
   (refine aw_ret ?_; simp (disch := first | omega | (simp only [lnS]; try omega)) [-getElem?_pos, -getElem?_neg, thenQ_ret, scopeQ_ret, inBlockQ_ret, RQ, resL, resV])
   refine rightG_bad hi ?_
   rw [hbn] at htb
   simp [stepB, turnB, hkd, htb]
  | false =>
  simp (disch := first | omega | (simp only [lnS]; try omega)) [-getElem?_pos, -getElem?_neg, hb2, hul, c3, hb1, hb4, hbn]
  refine hK _ _ ?_; clear hK K
  refine aw_f (by (first | (simp [eval_tmp, put_at]; done) | (simp [eval_tmp, put_at]; omega))) (by kernel_rfl) ?_
  refine aw_skip ?_
  rw [hbn] at htb
  have htk : (decide ((nd l i).op.kind = 1) == decide (i = 0)) = true := by rw [hkd]; simpa using htb
  refine aw_seq ?_
  refine aw_seq ?_
  refine aw_ops (by kernel_rfl) (fun K hK => ?_)
  simp (disch := first | omega | (simp only [lnS]; try omega)) [-getElem?_pos, -getElem?_neg, h3]
  refine ⟨by kernel_rfl, (parents_ac (γ := γ) hN' hlowG2 (by omega) (by omega) hbV2 hmG2 hE hw hW hi hlb).mono ?_⟩
  rintro _ G3 ⟨hone3, ok, rfl, hok, hpar⟩
  cases ok with
  | false =>
   try simp (disch := first | omega | (simp only [lnS]; try omega)) [-getElem?_pos, -getElem?_neg]
   refine hK _ _ ?_; clear hK K
   refine aw_t (by (first | (simp [eval_tmp, put_at]; done) | (simp [eval_tmp, put_at]; omega))) (by kernel_rfl) ?_
   refine aw_seq ?_
   (refine aw_ops (by kernel_rfl) (fun K hK => ?_); simp (disch := first | omega | (simp only [lnS]; try omega)) [-getElem?_pos, -getElem?_neg]; refine hK _ _ ?_; clear hK K)
   (refine aw_ret ?_; simp (disch := first | omega | (simp only [lnS]; try omega)) [-getElem?_pos, -getElem?_neg, thenQ_ret, scopeQ_ret, inBlockQ_ret, RQ, resL, resV])
   refine rightG_bad hi ?_
   unfold stepB
   rw [← hok, Bool.false_and]
  | true =>
  obtain ⟨W', hbV4, hw', hW', hrow⟩ := hpar rfl
  have hlowG3 : Low H.length H G3 := hone3.low (by omega) hlowG2 hlowG2.2
  have hmk := mk_row hM (by omega) hrow
  simp (disch := first | omega | (simp only [lnS]; try omega)) [-getElem?_pos, -getElem?_neg, h3]
  refine ⟨by kernel_rfl, (past_rc (γ := γ) (mi := H.length) hN' hlowG3 hbV4 hw' hW' hi hlb).mono ?_⟩
  rintro _ G4 ⟨e4, rfl⟩
  subst G4
  rw [mark_past hmk (by omega)]
  by_cases hpp : (nd l i).past = pastL l i (nd l i).op.parents
  case neg =>
   try simp (disch := first | omega | (simp only [lnS]; try omega)) [-getElem?_pos, -getElem?_neg, hpp]
   refine hK _ _ ?_; clear hK K
   refine aw_t (by (first | (simp [eval_tmp, put_at]; done) | (simp [eval_tmp, put_at]; omega))) (by kernel_rfl) ?_
   refine aw_seq ?_
   (refine aw_ops (by kernel_rfl) (fun K hK => ?_); simp (disch := first | omega | (simp only [lnS]; try omega)) [-getElem?_pos, -getElem?_neg]; refine hK _ _ ?_; clear hK K)
   (refine aw_ret ?_; simp (disch := first | omega | (simp only [lnS]; try omega)) [-getElem?_pos, -getElem?_neg, thenQ_ret, scopeQ_ret, inBlockQ_ret, RQ, resL, resV])
   refine rightG_bad hi ?_
   simp [stepB, hpp]
  simp (disch := first | omega | (simp only [lnS]; try omega)) [-getElem?_pos, -getElem?_neg, h3, hpp]
  refine ⟨by kernel_rfl, (seq_ac (γ := γ) (mi := H.length) hN' hlowG3 hbV4 hw' hW' hi hlb).mono ?_⟩
  rintro _ G5 ⟨⟨A, e5⟩, rfl⟩
  subst e5
  rw [seq_turn hmk (by omega) hpp htk]
  cases htu : turnB l i (nd l i).op (nd l i).past with
  | false =>
   try simp (disch := first | omega | (simp only [lnS]; try omega)) [-getElem?_pos, -getElem?_neg]
   refine hK _ _ ?_; clear hK K
   refine aw_t (by (first | (simp [eval_tmp, put_at]; done) | (simp [eval_tmp, put_at]; omega))) (by kernel_rfl) ?_
   refine aw_seq ?_
   (refine aw_ops (by kernel_rfl) (fun K hK => ?_); simp (disch := first | omega | (simp only [lnS]; try omega)) [-getElem?_pos, -getElem?_neg]; refine hK _ _ ?_; clear hK K)
   (refine aw_ret ?_; simp (disch := first | omega | (simp only [lnS]; try omega)) [-getElem?_pos, -getElem?_neg, thenQ_ret, scopeQ_ret, inBlockQ_ret, RQ, resL, resV])
   refine rightG_bad hi ?_
   simp [stepB, htu]
  | true =>
  try simp (disch := first | omega | (simp only [lnS]; try omega)) [-getElem?_pos, -getElem?_neg]
  refine hK _ _ ?_; clear hK K
  refine aw_f (by (first | (simp [eval_tmp, put_at]; done) | (simp [eval_tmp, put_at]; omega))) (by kernel_rfl) ?_
  refine aw_skip ?_
  have hgl := hget_lt hb2
  have hone5 : One (H.length + 1) G2 (G3 ++ [some A]) := hone3.trans (One.push G3 _)
  have hbV5 := hget_left' (L := [some A]) hbV4
  have hbg : H.length + 1 < g := by have := hget_lt hb; omega
  have hg5 : hget (G3 ++ [some A]) g = some ⟨us, 50, none⟩ := (hone5.2 g hgl (by omega)).trans hb2
  have hm5 : hget (G3 ++ [some A]) H.length = some (mblk 110 E) := (hone5.2 _ (hget_lt hmG2) (by omega)).trans hmG2
  have hlowG5 : Low H.length H (G3 ++ [some A]) := hone5.low (by omega) hlowG2 hlowG2.2
  generalize G3 ++ [some A] = G5 at *
  obtain ⟨CV, hCV⟩ : ∃ C, C = lkC nv H.length W' := ⟨_, rfl⟩
  have hv1 : CV[1]? = some (.map (some H.length)) := by rw [hCV]; rfl
  have hvl : CV.length = 194 := by rw [hCV]; simp [lkC, wv_len, hW']
  have hbV6 := hbV5
  rw [← hCV] at hbV6
  have hpm5 := put_map (nro := H.length) hm5 hE hwfi.id.1 (Nat.le_refl _)
  have hPut := hE.put hwfi.id.1 hf
  have hbS : hget (G5.set H.length (some (mblk 110 (mput (kyv (nd l i).id) (.int .i64 (i : Nat)) E)))) (H.length + 1) = some ⟨lkC nv H.length W', 116, none⟩ := by rw [hget_set_ne (by omega)]; exact hbV5
  have hmS : hget (G5.set H.length (some (mblk 110 (mput (kyv (nd l i).id) (.int .i64 (i : Nat)) E)))) H.length = some (mblk 110 (mput (kyv (nd l i).id) (.int .i64 (i : Nat)) E)) := hget_set_eq (hget_lt hm5)
  have hlS : Low H.length H (G5.set H.length (some (mblk 110 (mput (kyv (nd l i).id) (.int .i64 (i : Nat)) E)))) := ⟨fun j hj => (hget_set_ne (by omega)).trans (hlowG5.1 j hj), by rw [List.length_set]; exact hlowG5.2⟩
  generalize mput (kyv (nd l i).id) (.int .i64 (i : Nat)) E = E' at *
  (refine aw_ops (by kernel_rfl) (fun K hK => ?_); simp (disch := first | omega | (simp only [lnS]; try omega)) [-getElem?_pos, -getElem?_neg, h3, hbV6, hv1, hvl, hg5, hul, hid, hwl, hpm5, nt_aggG]; refine hK _ _ ?_; clear hK K)
  generalize G5.set H.length (some (mblk 110 E')) = G6 at *
  (refine aw_ops (by kernel_rfl) (fun K hK => ?_); simp (disch := first | omega | (simp only [lnS]; try omega)) [-getElem?_pos, -getElem?_neg, h18]; refine hK _ _ ?_; clear hK K)
  refine ⟨c - 1, by omega, i + 1, W', E', by omega, by (first | (simp [put_at, put_none, fr0_at, h3]; done) | rfl), by (first | (simp [put_at, put_none, fr0_at, h16]; done) | rfl), by (first | (simp [put_at, put_none, fr0_at, h17]; done) | rfl), by (first | (simp [put_at, put_none, fr0_at]; done) | rfl), hlS, hbS, hmS, hPut, hw', hW', mk_next hM (by omega) hrow hpp (fun a ha => ?_), fun a ha => ?_⟩
  ·have := hall a ha
   simp only [stepB, Bool.and_eq_true, decide_eq_true_eq] at this
   exact this.2.2.2.1
  ·by_cases e : a = i
   ·subst e
    simp [stepB, ← hok, hro, hf, ← hpp, htu]
   ·exact hall a (by omega)
end
section
def isP (l : List NodeD) (z : Int) : Bool := decide (0 ≤ z) && decide (z < l.length)
theorem isP_nat {l : List NodeD} {z : Int} (h : isP l z = true) : ∃ k : Nat, z = k ∧ k < l.length := by
 simp only [isP, Bool.and_eq_true, decide_eq_true_eq] at h
 exact ⟨z.toNat, by omega, by omega⟩
def pastAt (l : List NodeD) (z : Int) : List Int := (nd l z.toNat).past
def aheadB (l : List NodeD) (a b : Int) : Bool := isP l a && (isP l b && (rightG l && decide (a ∈ pastAt l b)))
theorem NdA.past_at {H G : AH} {v : Value} {l : List NodeD} (h : NdA H v l) (hlow : Low H.length H G) {k : Nat} (hk : k < l.length) : ∃ j q b qv, xindexAddr Try.prog 22 v (.int .i64 (k : Nat)) = some (.pointer (some ⟨j, q, none⟩)) ∧ hget G j = some b ∧ b.cells[q + 103]? = some qv ∧ InV H qv (nd l k).past ∧ (nd l k).past.length ≤ maxLen ∧ notTuple qv = true ∧ qv.cells = #[qv] := by
 obtain ⟨j, q, b, us, pv, wv', bv, qv, hx, hb, hq, hcell, hus, hC⟩ := h.at_ k _ (nd_get hk)
 exact ⟨j, q, b, qv, hx, (hlow.1 j (hget_lt hb)).trans hb, (hcell 103 (by omega)).trans hC.c103, hC.past, (h.wf _ (List.mem_of_getElem? (nd_get hk))).plen, hC.past.acc.nt, hC.past.acc.cs⟩
theorem InV.lowG {H G : AH} {v : Value} {l : List Int} (h : InV H v l) (hlow : Low H.length H G) : InV G v l := CD.Val.low (fun j hj => hlow.1 j hj) h
attribute [local simp] wb_bool wb_undef with_lit XL_nil XL_cons XLc_val XLc_call step1_eq stepW_t stepW_f stepC_n stepC_s stepX_s stepX_n stepN_s calleeX oneV xop_eq xopR_s xopR_n wantedA_eq wantedG_n wantedG_s plain1_int plain1_bool plain1_string bits_i64 bits_u64 bits_u32 bits_u16 bits_u8 xeqA xagg xcmp xarr allK_iv num_iv calleeOf xread xeff xbin xint xnil xun xstr xload xconv xpart xfield xfieldAddr xindexAddr xindex bnd asInt? xslice xlen xmin xmax xbuild xfill xappend xapp2 xappstr xappmk xcap xcopy xcells eval_tmp eval_const put_at put_none fr0_at cells_agg cells_int cells_bool cells_string cells_ptr cells_slice notTuple tab iv_all hget_app hget_app0 hget_cons0 hget_cons set_app set_app0 setR setR_one QL_nil QL_cons QLc_val stepQ_t stepQ_f stepQC_n stepQC_s stepQX_s SL_nil SL_cons SLc_val stepS_t stepS_f ltT ltF leT leF eqT eqF ltTn ltFn leTn leFn eqTn eqFn beqT beqF bneT bneF wi64 wu64 wu32 wu16 wu8 tmodP tdivP hgetL hgetNe hgetEq setL nums_def nums_len Nat.succ_le_of_lt List.getElem?_cons_zero List.getElem?_cons_succ Option.getD_some Int.toNat_add Int.toNat_mul agM okM agB agI agS agP agL agA okB okI okS okP okSl okA
theorem autN_succ (l : List NodeD) (t : Nat) (x : Int) : autN l (t + 1) x = autN l t x + if (nd l t).op.author = x then 1 else 0 := by
 unfold autN
 rw [List.range_succ, List.filter_append, List.length_append]
 by_cases h : (nd l t).op.author = x
 ·simp [h]
 ·have : ((nd l t).op.author == x) = false := by simpa using h
  simp [this, h]
theorem autN_le (l : List NodeD) (t : Nat) (x : Int) : autN l t x ≤ t := by
 unfold autN
 exact Nat.le_trans (List.length_filter_le _ _) (by simp)
theorem count_rc {γ : Nat → Option Nat} {H : AH} {nv : Value} {l : List NodeD} (hN : NdA H nv l) (hl : l.length ≤ maxLen) (z : Int) : AC Try.prog H.length γ 80 #[nv, .int .i64 z] H (fun v' _ => v' = .int .i64 (autN l l.length z : Nat)) := by
 obtain ⟨hnt, hvc, hxl, hwf, hat⟩ := hN
 have hm63 : l.length ≤ 9223372036854775807 := by simp only [maxLen] at hl; omega
 have hp0 : plain1 (.slice none 0 0) = true := rfl
 refine ac_of_aw Try.func80 rfl Try.ntmps80 Try.results80 (by simp) ?_
 refine aw_seq ?_
 (refine aw_ops (by kernel_rfl) (fun K hK => ?_); simp (disch := first | omega | (simp only [lnS]; try omega)) [-getElem?_pos, -getElem?_neg]; refine hK _ _ ?_; clear hK K)
 refine aw_seq ?_
 (refine aw_ops (by kernel_rfl) (fun K hK => ?_); simp (disch := first | omega | (simp only [lnS]; try omega)) [-getElem?_pos, -getElem?_neg]; refine hK _ _ ?_; clear hK K)
 refine aw_seq ?_
 refine aw_seq ?_
 (refine aw_ops (by kernel_rfl) (fun K hK => ?_); simp (disch := first | omega | (simp only [lnS]; try omega)) [-getElem?_pos, -getElem?_neg, -notTuple, hnt, hvc, nt_intG, -xlen, hxl]; refine hK _ _ ?_; clear hK K)
 refine aw_block ?_
 refine aw_loop (fun c α G => ∃ i : Nat, i + c = l.length ∧ Low H.length H G ∧ α 1 = .int .i64 z ∧ α 5 = .int .i64 (autN l i z : Nat) ∧ α 8 = nv ∧ α 9 = .int .i64 (l.length : Nat) ∧ α 10 = .int .i64 (i : Nat)) l.length ?_ ?_
 ·exact ⟨0, by omega, Low.refl (Nat.le_refl _), by (first | (simp [put_at, put_none, fr0_at]; done) | rfl), by (first | (simp [put_at, put_none, fr0_at]; done) | rfl), by (first | (simp [put_at, put_none, fr0_at]; done) | rfl), by (first | (simp [put_at, put_none, fr0_at]; done) | rfl), by (first | (simp [put_at, put_none, fr0_at]; done) | rfl)⟩
 rintro c α G ⟨i, hic, hlow, h1, h5, h8, h9, h10⟩
 refine aw_seq ?_
 by_cases hi : i < l.length
 case neg =>
  (refine aw_ops (by kernel_rfl) (fun K hK => ?_); simp (disch := first | omega | (simp only [lnS]; try omega)) [-getElem?_pos, -getElem?_neg, h9, h10, hi]; refine hK _ _ ?_; clear hK K)
  refine aw_seq ?_
  refine aw_f (by (first | (simp [eval_tmp, put_at, hi]; done) | (simp [eval_tmp, put_at, hi]; omega))) (by kernel_rfl) ?_
  refine aw_exit ?_
  obtain rfl : i = l.length := by omega
  refine aw_seq ?_
  (refine aw_ops (by kernel_rfl) (fun K hK => ?_); simp (disch := first | omega | (simp only [lnS]; try omega)) [-getElem?_pos, -getElem?_neg, h5]; refine hK _ _ ?_; clear hK K)
  (refine aw_ret ?_; simp (disch := first | omega | (simp only [lnS]; try omega)) [-getElem?_pos, -getElem?_neg, thenQ_ret, scopeQ_ret, inBlockQ_ret, RQ, resL, resV])
 obtain ⟨j, q, bb, us, pv, wv', bv, qv, hx, hbb, hq, hcell, hus, hC⟩ := hat i _ (nd_get hi)
 have hbG : hget G j = some bb := (hlow.1 j (hget_lt hbb)).trans hbb
 have hul := hC.len
 have hle0 := hlow.2
 have c0 : us[32]? = some (.int .i64 (nd l i).op.author) := by
  have := hC.op.c0
  rwa [List.getElem?_take_of_lt (by omega), List.getElem?_drop] at this
 have hset2 : ∀ Z : List Value, Z.length = 104 → setR Z 0 us = us := fun Z hZ => setR_all _ _ (by omega)
 have hus' := hus.symm
 clear hus
 (refine aw_ops (by kernel_rfl) (fun K hK => ?_); simp (disch := first | omega | (simp only [lnS]; try omega)) [-getElem?_pos, -getElem?_neg, h9, h10, hi]; refine hK _ _ ?_; clear hK K)
 refine aw_seq ?_
 refine aw_t (by (first | (simp [eval_tmp, put_at, hi]; done) | (simp [eval_tmp, put_at, hi]; omega))) (by kernel_rfl) ?_
 refine aw_skip ?_
 refine aw_seq ?_
 refine aw_block ?_
 refine aw_seq ?_
 (refine aw_ops (by kernel_rfl) (fun K hK => ?_); simp (disch := first | omega | (simp only [lnS]; try omega)) [-getElem?_pos, -getElem?_neg, h8, h10, -notTuple, hnt, hvc, nt_intG, nt_aggG, -xindexAddr, hx, hbG, hus', hul, hq, hle0, hp0, all_zl, hset2]; refine hK _ _ ?_; clear hK K)
 obtain ⟨hlow2, hb2⟩ := boxed (H := G) us 50
 obtain ⟨g, hg⟩ : ∃ g, g = G.length := ⟨_, rfl⟩
 rw [← hg] at hb2 ⊢
 generalize G ++ [some ⟨us, 50, none⟩] = G2 at *
 have hlowG2 : Low H.length H G2 := ⟨fun j hj => (hlow2.1 j (by omega)).trans (hlow.1 j hj), by have := hlow2.2; omega⟩
 have hsu := autN_succ l i z
 have hal := autN_le l i z
 generalize autN l i z = an at *
 obtain ⟨x, hxa⟩ : ∃ x, x = (nd l i).op.author := ⟨_, rfl⟩
 rw [← hxa] at c0 hsu
 refine aw_seq ?_
 by_cases hxz : x = z
 ·have hxb : (x == z) = true := by simp [hxz]
  (refine aw_ops (by kernel_rfl) (fun K hK => ?_); simp (disch := first | omega | (simp only [lnS]; try omega)) [-getElem?_pos, -getElem?_neg, h1, hb2, hul, c0, hxz, hxb]; refine hK _ _ ?_; clear hK K)
  refine aw_t (by (first | (simp [eval_tmp, put_at]; done) | (simp [eval_tmp, put_at]; omega))) (by kernel_rfl) ?_
  (refine aw_ops (by kernel_rfl) (fun K hK => ?_); simp (disch := first | omega | (simp only [lnS]; try omega)) [-getElem?_pos, -getElem?_neg, h5]; refine hK _ _ ?_; clear hK K)
  (refine aw_ops (by kernel_rfl) (fun K hK => ?_); simp (disch := first | omega | (simp only [lnS]; try omega)) [-getElem?_pos, -getElem?_neg, h10]; refine hK _ _ ?_; clear hK K)
  exact ⟨c - 1, by omega, i + 1, by omega, hlowG2, by (first | (simp [put_at, put_none, fr0_at, h1]; done) | rfl), by rw [hsu, if_pos hxz]; (first | (simp [put_at, put_none, fr0_at]; done) | rfl), by (first | (simp [put_at, put_none, fr0_at, h8]; done) | rfl), by (first | (simp [put_at, put_none, fr0_at, h9]; done) | rfl), by (first | (simp [put_at, put_none, fr0_at]; done) | rfl)⟩
 ·have hxb : (x == z) = false := by simp [hxz]
  (refine aw_ops (by kernel_rfl) (fun K hK => ?_); simp (disch := first | omega | (simp only [lnS]; try omega)) [-getElem?_pos, -getElem?_neg, h1, hb2, hul, c0, hxz, hxb]; refine hK _ _ ?_; clear hK K)
  refine aw_f (by (first | (simp [eval_tmp, put_at]; done) | (simp [eval_tmp, put_at]; omega))) (by kernel_rfl) ?_
  refine aw_skip ?_
  (refine aw_ops (by kernel_rfl) (fun K hK => ?_); simp (disch := first | omega | (simp only [lnS]; try omega)) [-getElem?_pos, -getElem?_neg, h10]; refine hK _ _ ?_; clear hK K)
  exact ⟨c - 1, by omega, i + 1, by omega, hlowG2, by (first | (simp [put_at, put_none, fr0_at, h1]; done) | rfl), by rw [hsu, if_neg hxz]; (first | (simp [put_at, put_none, fr0_at, h5]; done) | rfl), by (first | (simp [put_at, put_none, fr0_at, h8]; done) | rfl), by (first | (simp [put_at, put_none, fr0_at, h9]; done) | rfl), by (first | (simp [put_at, put_none, fr0_at]; done) | rfl)⟩
end
section
attribute [local simp] wb_bool wb_undef with_lit XL_nil XL_cons XLc_val XLc_call step1_eq stepW_t stepW_f stepC_n stepC_s stepX_s stepX_n stepN_s calleeX oneV xop_eq xopR_s xopR_n wantedA_eq wantedG_n wantedG_s plain1_int plain1_bool plain1_string bits_i64 bits_u64 bits_u32 bits_u16 bits_u8 xeqA xagg xcmp xarr allK_iv num_iv calleeOf xread xeff xbin xint xnil xun xstr xload xconv xpart xfield xfieldAddr xindexAddr xindex bnd asInt? xslice xlen xmin xmax xbuild xfill xappend xapp2 xappstr xappmk xcap xcopy xcells eval_tmp eval_const put_at put_none fr0_at cells_agg cells_int cells_bool cells_string cells_ptr cells_slice notTuple tab iv_all hget_app hget_app0 hget_cons0 hget_cons set_app set_app0 setR setR_one QL_nil QL_cons QLc_val stepQ_t stepQ_f stepQC_n stepQC_s stepQX_s SL_nil SL_cons SLc_val stepS_t stepS_f ltT ltF leT leF eqT eqF ltTn ltFn leTn leFn eqTn eqFn beqT beqF bneT bneF wi64 wu64 wu32 wu16 wu8 tmodP tdivP hgetL hgetNe hgetEq setL nums_def nums_len Nat.succ_le_of_lt List.getElem?_cons_zero List.getElem?_cons_succ Option.getD_some Int.toNat_add Int.toNat_mul agM okM agB agI agS agP agL agA okB okI okS okP okSl okA
theorem find1_rc {nro : Nat} {γ : Nat → Option Nat} {G : AH} {us : List Value} {x : NodeD} {id : List Int} {g : Nat} (hul : us.length = 104) (hid : us.take 32 = iv .u8 x.id) (hxl : x.id.length = 32) (hil : id.length = 32) (hg : hget G g = some ⟨iv .u8 id, 38, none⟩) :
  AC Try.prog nro γ 130 #[.agg us.toArray, .pointer (some ⟨g, 0, none⟩)] G (fun v' H' => Low G.length G H' ∧ v' = .bool (decide (x.id = id))) := by
 have hgl := hget_lt hg
 have hivl : (iv .u8 id).length = 32 := by rw [iv_length, hil]
 have hta : (iv .u8 id).take 32 = iv .u8 id := List.take_of_length_le (by omega)
 have hivx : (iv .u8 x.id).length = 32 := by rw [iv_length, hxl]
 refine ac_of_aw Try.func130 rfl Try.ntmps130 Try.results130 (by simp) ?_
 refine aw_seq ?_
 (refine aw_ops (by kernel_rfl) (fun K hK => ?_); simp (disch := first | omega | (simp only [lnS]; try omega)) [-getElem?_pos, -getElem?_neg, hul]; refine hK _ _ ?_; clear hK K)
 obtain ⟨hlow2, hb2⟩ := boxed (H := G) us 50
 obtain ⟨b, hb⟩ : ∃ b, b = G.length := ⟨_, rfl⟩
 have hg2 := hget_left' (L := [some ⟨us, 50, none⟩]) hg
 rw [← hb] at hb2 ⊢
 generalize G ++ [some ⟨us, 50, none⟩] = G2 at *
 refine aw_seq ?_
 (refine aw_ops (by kernel_rfl) (fun K hK => ?_); simp (disch := first | omega | (simp only [lnS]; try omega)) [-getElem?_pos, -getElem?_neg, hb2, hul, hid, hivx, hg2, hta, hivl, nt_aggG]; refine hK _ _ ?_; clear hK K)
 have hd : decide (x.id = id) = (x.id == id) := by rw [Bool.eq_iff_iff]; simp
 rw [hd]
 (refine aw_ret ?_; simp (disch := first | omega | (simp only [lnS]; try omega)) [-getElem?_pos, -getElem?_neg, thenQ_ret, scopeQ_ret, inBlockQ_ret, RQ, resL, resV])
 all_goals (subst hb; exact hlow2)
theorem find1_callable : callable Try.prog 130 = true := by kernel_rfl
theorem indexFn_rc {γ : Nat → Option Nat} {H : AH} {nv : Value} {l : List NodeD} (hN : NdA H nv l) (hl : l.length ≤ maxLen) {f : Nat} {cs : Array Value} {p : Nat → Bool} (hcal : callable Try.prog f = true)
  (hf : ∀ (G : AH) (i : Nat) (us : List Value) (pv wv bv qv : Value), Low H.length H G → i < l.length → us.length = 104 → NodeC H us (nd l i) pv wv bv qv → AC Try.prog G.length γ f (#[.agg us.toArray] ++ cs) G (fun v' _ => v' = .bool (p i))) :
  AC Try.prog H.length γ 129 #[nv, .func (.func f) #[] cs] H (fun v' _ => v' = .int .i64 (firstI l.length p)) := by
 obtain ⟨hnt, hvc, hxl, hwf, hat⟩ := hN
 have hm63 : l.length ≤ 9223372036854775807 := by simp only [maxLen] at hl; omega
 have hfn : notTuple (.func (.func f) #[] cs) = true := rfl
 have hfc : (Value.func (.func f) #[] cs).cells = #[.func (.func f) #[] cs] := rfl
 refine ac_of_aw Try.func129 rfl Try.ntmps129 Try.results129 (by simp) ?_
 refine aw_seq ?_
 (refine aw_ops (by kernel_rfl) (fun K hK => ?_); simp (disch := first | omega | (simp only [lnS]; try omega)) [-getElem?_pos, -getElem?_neg]; refine hK _ _ ?_; clear hK K)
 refine aw_seq ?_
 refine aw_seq ?_
 (refine aw_ops (by kernel_rfl) (fun K hK => ?_); simp (disch := first | omega | (simp only [lnS]; try omega)) [-getElem?_pos, -getElem?_neg, -notTuple, hnt, hvc, nt_intG, -xlen, hxl]; refine hK _ _ ?_; clear hK K)
 refine aw_block ?_
 refine aw_loop (fun c α G => ∃ i : Nat, i + c = l.length ∧ Low H.length H G ∧ α 0 = nv ∧ α 1 = .func (.func f) #[] cs ∧ α 7 = .int .i64 (l.length : Nat) ∧ α 8 = .int .i64 (i : Nat) ∧ ∀ k, k < i → p k = false) l.length ?_ ?_
 ·exact ⟨0, by omega, Low.refl (Nat.le_refl _), by (first | (simp [put_at, put_none, fr0_at]; done) | rfl), by (first | (simp [put_at, put_none, fr0_at]; done) | rfl), by (first | (simp [put_at, put_none, fr0_at]; done) | rfl), by (first | (simp [put_at, put_none, fr0_at]; done) | rfl), fun k hk => by omega⟩
 rintro c α G ⟨i, hic, hlow, h0, h1, h7, h8, hpre⟩
 refine aw_seq ?_
 by_cases hi : i < l.length
 case neg =>
  (refine aw_ops (by kernel_rfl) (fun K hK => ?_); simp (disch := first | omega | (simp only [lnS]; try omega)) [-getElem?_pos, -getElem?_neg, h7, h8, hi]; refine hK _ _ ?_; clear hK K)
  refine aw_seq ?_
  refine aw_f (by (first | (simp [eval_tmp, put_at, hi]; done) | (simp [eval_tmp, put_at, hi]; omega))) (by kernel_rfl) ?_
  refine aw_exit ?_
  refine aw_seq ?_
  (refine aw_ops (by kernel_rfl) (fun K hK => ?_); simp (disch := first | omega | (simp only [lnS]; try omega)) [-getElem?_pos, -getElem?_neg]; refine hK _ _ ?_; clear hK K)
  (refine aw_ret ?_; simp (disch := first | omega | (simp only [lnS]; try omega)) [-getElem?_pos, -getElem?_neg, thenQ_ret, scopeQ_ret, inBlockQ_ret, RQ, resL, resV])
  exact (firstI_none (fun k hk => hpre k (by omega))).symm
 obtain ⟨j, q, bb, us, pv, wv', bv, qv, hx, hbb, hq, hcell, hus, hC⟩ := hat i _ (nd_get hi)
 have hbG : hget G j = some bb := (hlow.1 j (hget_lt hbb)).trans hbb
 have hul := hC.len
 have hus' := hus.symm
 clear hus
 have hc := hf G i us pv wv' bv qv hlow hi hul hC
 (refine aw_ops (by kernel_rfl) (fun K hK => ?_); simp (disch := first | omega | (simp only [lnS]; try omega)) [-getElem?_pos, -getElem?_neg, h7, h8, hi]; refine hK _ _ ?_; clear hK K)
 refine aw_seq ?_
 refine aw_t (by (first | (simp [eval_tmp, put_at, hi]; done) | (simp [eval_tmp, put_at, hi]; omega))) (by kernel_rfl) ?_
 refine aw_skip ?_
 refine aw_seq ?_
 refine aw_block ?_
 refine aw_seq ?_
 (refine aw_ops (by kernel_rfl) (fun K hK => ?_); simp (disch := first | omega | (simp only [lnS]; try omega)) [-getElem?_pos, -getElem?_neg, h8]; refine hK _ _ ?_; clear hK K)
 refine aw_seq ?_
 refine aw_ops (by kernel_rfl) (fun K hK => ?_)
 simp (disch := first | omega | (simp only [lnS]; try omega)) [-getElem?_pos, -getElem?_neg, h0, h1, -notTuple, hnt, hvc, hfn, hfc, nt_intG, nt_aggG, -xindexAddr, hx, hbG, hus', hul, hq]
 refine ⟨hcal, ac_of_rc hc (by simp [pv_iv, pv_int, pv_bool, pv_string, pv_tup2, pv_tup3, iv_plain, p2_int, p2_bool, p2_string]) ?_⟩
 cases hp : p i with
 | true =>
  try simp (disch := first | omega | (simp only [lnS]; try omega)) [-getElem?_pos, -getElem?_neg]
  refine hK _ _ ?_; clear hK K
  refine aw_t (by (first | (simp [eval_tmp, put_at]; done) | (simp [eval_tmp, put_at]; omega))) (by kernel_rfl) ?_
  refine aw_seq ?_
  (refine aw_ops (by kernel_rfl) (fun K hK => ?_); simp (disch := first | omega | (simp only [lnS]; try omega)) [-getElem?_pos, -getElem?_neg]; refine hK _ _ ?_; clear hK K)
  (refine aw_ret ?_; simp (disch := first | omega | (simp only [lnS]; try omega)) [-getElem?_pos, -getElem?_neg, thenQ_ret, scopeQ_ret, inBlockQ_ret, RQ, resL, resV])
  exact (firstI_some hi hpre hp).symm
 | false =>
  try simp (disch := first | omega | (simp only [lnS]; try omega)) [-getElem?_pos, -getElem?_neg]
  refine hK _ _ ?_; clear hK K
  refine aw_f (by (first | (simp [eval_tmp, put_at]; done) | (simp [eval_tmp, put_at]; omega))) (by kernel_rfl) ?_
  refine aw_skip ?_
  (refine aw_ops (by kernel_rfl) (fun K hK => ?_); simp (disch := first | omega | (simp only [lnS]; try omega)) [-getElem?_pos, -getElem?_neg, h8]; refine hK _ _ ?_; clear hK K)
  refine ⟨c - 1, by omega, i + 1, by omega, hlow, by (first | (simp [put_at, put_none, fr0_at, h0]; done) | rfl), by (first | (simp [put_at, put_none, fr0_at, h1]; done) | rfl), by (first | (simp [put_at, put_none, fr0_at, h7]; done) | rfl), by (first | (simp [put_at, put_none, fr0_at]; done) | rfl), fun k hk => ?_⟩
  by_cases e : k = i
  ·subst e; exact hp
  ·exact hpre k (by omega)
def findI (l : List NodeD) (n : Nat) (id : List Int) : Int := match findN l n id with | some a => (a : Nat) | none => -1
theorem findI_first (l : List NodeD) (n : Nat) (id : List Int) : findI l n id = firstI n fun a => decide ((nd l a).id = id) := by
 have : (fun a => decide ((nd l a).id = id)) = fun a => (nd l a).id == id := by
  funext a
  rw [Bool.eq_iff_iff]; simp
 rw [this]
 rfl
theorem find_rc {γ : Nat → Option Nat} {H : AH} {nv : Value} {l : List NodeD} (hN : NdA H nv l) (hl : l.length ≤ maxLen) {id : List Int} (hil : id.length = 32) : AC Try.prog H.length γ 78 #[nv, .agg (iv .u8 id).toArray] H (fun v' _ => v' = .int .i64 (findI l l.length id)) := by
 have hnt := hN.nt
 have hvc := hN.cs
 have hivl : (iv .u8 id).length = 32 := by rw [iv_length, hil]
 refine ac_of_aw Try.func78 rfl Try.ntmps78 Try.results78 (by simp) ?_
 refine aw_seq ?_
 (refine aw_ops (by kernel_rfl) (fun K hK => ?_); simp (disch := first | omega | (simp only [lnS]; try omega)) [-getElem?_pos, -getElem?_neg, hivl]; refine hK _ _ ?_; clear hK K)
 obtain ⟨hlow2, hb2⟩ := boxed (H := H) (iv .u8 id) 38
 generalize H ++ [some ⟨iv .u8 id, 38, none⟩] = G at *
 have hNG : NdA G nv l := ⟨hN.nt, hN.cs, hN.len, hN.wf, fun i x hx => by
  obtain ⟨j, q, bb, us, pv, wv', bv, qv, h1, h2, h3, h4, h5, h6⟩ := hN.at_ i x hx
  exact ⟨j, q, bb, us, pv, wv', bv, qv, h1, (hlow2.1 j (hget_lt h2)).trans h2, h3, h4, h5, h6.low hlow2.1⟩⟩
 have hix := indexFn_rc (γ := γ) hNG hl (f := 130) (cs := #[.pointer (some ⟨H.length, 0, none⟩)]) (p := fun a => decide ((nd l a).id = id)) find1_callable (fun G2 i us pv wv' bv qv hg hi hul hC => (find1_rc (nro := G2.length) (γ := γ) hul hC.id (hN.wf _ (List.mem_of_getElem? (nd_get hi))).id.1 hil ((hg.1 _ (hget_lt hb2)).trans hb2)).mono (fun v' H' h => h.2))
 rw [← findI_first] at hix
 refine aw_seq ?_
 refine aw_ops (by kernel_rfl) (fun K hK => ?_)
 simp (disch := first | omega | (simp only [lnS]; try omega)) [-getElem?_pos, -getElem?_neg, -notTuple, hnt, hvc, nt_intG]
 refine ⟨by kernel_rfl, ac_of_rc hix (by simp [pv_iv, pv_int, pv_bool, pv_string, pv_tup2, pv_tup3, iv_plain, p2_int, p2_bool, p2_string]) ?_⟩
 try simp (disch := first | omega | (simp only [lnS]; try omega)) [-getElem?_pos, -getElem?_neg]
 refine hK _ _ ?_; clear hK K
 (refine aw_ret ?_; simp (disch := first | omega | (simp only [lnS]; try omega)) [-getElem?_pos, -getElem?_neg, thenQ_ret, scopeQ_ret, inBlockQ_ret, RQ, resL, resV])
end
section
def OwnF (H : AH) (v : Value) (e : TypeId) (sz : Nat) (cells : List Value) (F : List Nat) : Prop :=
 (v = .slice none 0 0 ∧ cells = [] ∧ F = []) ∨ ∃ j len, v = .slice (some ⟨j, 0, none⟩) len len ∧ hget H j = some ⟨cells, e, some sz⟩ ∧ cells.length = len * sz ∧ F = [j]
theorem OwnF.low {H H' : AH} {v : Value} {e : TypeId} {sz : Nat} {cells : List Value} {F : List Nat} (h : OwnF H v e sz cells F) (hl : ∀ j ∈ F, hget H' j = hget H j) : OwnF H' v e sz cells F := by
 rcases h with h | ⟨j, len, h1, h2, h3, rfl⟩
 ·exact .inl h
 ·exact .inr ⟨j, len, h1, by rw [hl j (by simp)]; exact h2, h3, rfl⟩
theorem OwnF.len {P : Program} {H : AH} {v : Value} {e t : TypeId} {sz : Nat} {cells : List Value} {F : List Nat} (h : OwnF H v e sz cells F) (ht : und P t = .slice e) {n : Nat} (hn : cells.length = n * sz) (h0 : 0 < sz) : xlen P t v = some (.int .i64 n) := by
 rcases h with ⟨rfl, rfl, rfl⟩ | ⟨j, len, rfl, h2, h3, rfl⟩
 ·have : n = 0 := by
   have : n * sz = 0 := hn.symm
   rcases Nat.mul_eq_zero.1 this with h | h <;> omega
  subst this
  simp [xlen, ht]
 ·have : len = n := Nat.eq_of_mul_eq_mul_right h0 (h3.symm.trans hn)
  subst this
  simp [xlen, ht]
theorem ownF_append {P : Program} {nro : Nat} {t e : TypeId} {H : AH} {v x : Value} {sz : Nat} {cells news : List Value} {F : List Nat} (hu : und P t = .slice e) (hs : szt P e = sz) (h0 : 0 < sz) (hz : (zer P e).map (·.cells.size) = some sz)
  (hv : OwnF H v e sz cells F) (hnro : ∀ j ∈ F, nro ≤ j) (hstr : ∀ s, x ≠ .string s) (hx : xcells sz x H = some news) (hn : news ≠ []) (hd : news.length % sz = 0) (hb : (cells.length + news.length) * byt P e ≤ 140737488355328) (hm : cells.length + news.length ≤ maxLen) :
  ∃ v' H', xappend P nro t v x H = some (v', H') ∧ OwnF H' v' e sz (cells ++ news) [H.length] ∧ H'.length = H.length + 1 ∧ ∀ j, j < H.length → j ∉ F → hget H' j = hget H j := by
 subst hs
 have hdm : news.length / szt P e * szt P e = news.length := Nat.div_mul_cancel (Nat.dvd_of_mod_eq_zero hd)
 rcases hv with ⟨rfl, rfl, rfl⟩ | ⟨j, len, rfl, h3, h4, rfl⟩
 ·refine ⟨.slice (some ⟨H.length, 0, none⟩) (news.length / szt P e) (news.length / szt P e), H ++ [some ⟨news, e, some (szt P e)⟩], ?_, .inr ⟨H.length, news.length / szt P e, rfl, ?_, ?_, rfl⟩, by simp, fun i hi _ => hget_left hi⟩
  ·simp only [List.length_nil, Nat.zero_add] at hb hm
   unfold xappend
   cases x <;> first | (exact absurd rfl (hstr _)) | (simp only [hu, hx]; rw [if_pos ⟨h0, hz, hb, hm⟩, if_neg hn])
  ·rw [hget_app0, hget_cons0]; rfl
  ·rw [hdm]; rfl
 ·have hj := hget_lt h3
  refine ⟨.slice (some ⟨H.length, 0, none⟩) (len + news.length / szt P e) (len + news.length / szt P e), H.set j none ++ [some ⟨cells ++ news, e, some (szt P e)⟩], ?_, .inr ⟨H.length, len + news.length / szt P e, rfl, ?_, ?_, rfl⟩, by simp, fun i hi hni => ?_⟩
  ·have hc : True ∧ 0 < szt P e ∧ (zer P e).map (·.cells.size) = some (szt P e) ∧ nro ≤ j ∧ True ∧ True ∧ len * szt P e ≤ cells.length ∧ (len * szt P e + news.length) * byt P e ≤ 140737488355328 ∧ len * szt P e + news.length ≤ maxLen :=
    ⟨trivial, h0, hz, hnro j (by simp), trivial, trivial, by omega, by rw [← h4]; exact hb, by rw [← h4]; exact hm⟩
   unfold xappend
   cases x <;> first | (exact absurd rfl (hstr _)) | (simp only [hu, hx, h3]; rw [if_pos hc, ← h4, List.take_length])
  ·have : (H.set j none).length = H.length := by simp
   rw [← this, hget_app0, hget_cons0]
  ·rw [List.length_append, Nat.add_mul, ← h4, hdm]
  ·rw [hget_left (by simp; omega), hget_set_ne (fun e => hni (by simp [e]))]
theorem OwnF.new {H : AH} {v : Value} {e : TypeId} {sz j : Nat} {cells : List Value} (h : OwnF H v e sz cells [j]) : ∃ len, v = .slice (some ⟨j, 0, none⟩) len len := by
 rcases h with ⟨_, _, h⟩ | ⟨i, len, rfl, _, _, h⟩
 ·cases h
 ·cases h; exact ⟨len, rfl⟩
theorem OwnF.lt {H : AH} {v : Value} {e : TypeId} {sz : Nat} {cells : List Value} {F : List Nat} (h : OwnF H v e sz cells F) : ∀ j ∈ F, j < H.length := by
 rcases h with ⟨_, _, rfl⟩ | ⟨i, len, _, h2, _, rfl⟩
 ·intro j hj; cases hj
 ·intro j hj; rw [List.mem_singleton] at hj; subst hj; exact hget_lt h2
end
section
def mE (L : List Int) : List (Value × Value) := L.map fun z => (.int .i64 z, .agg #[])
theorem mfind_mE (z : Int) (L : List Int) : (z ∉ L ∧ mfind (.int .i64 z) (mE L) = none) ∨ (z ∈ L ∧ ∃ i, i < L.length ∧ L[i]? = some z ∧ mfind (.int .i64 z) (mE L) = some i) := by
 induction L with
 | nil => exact .inl ⟨by simp, rfl⟩
 | cons y L ih =>
  show _ ∨ (_ ∧ ∃ i, _ ∧ _ ∧ (if keyEq (.int .i64 z) (.int .i64 y) = true then some 0 else (mfind (.int .i64 z) (mE L)).map (· + 1)) = some i)
  have hk : keyEq (.int .i64 z) (.int .i64 y) = (z == y) := rfl
  have hm : mfind (.int .i64 z) (mE (y :: L)) = if keyEq (.int .i64 z) (.int .i64 y) = true then some 0 else (mfind (.int .i64 z) (mE L)).map (· + 1) := rfl
  rw [hm, hk]
  by_cases e : z = y
  ·subst e
   exact .inr ⟨by simp, 0, by simp, rfl, by simp⟩
  ·have hb : (z == y) = false := by simpa using e
   rw [hb]
   rcases ih with ⟨h1, h2⟩ | ⟨h1, i, h2, h3, h4⟩
   ·exact .inl ⟨by simp [e, h1], by rw [h2]; rfl⟩
   ·exact .inr ⟨by simp [h1], i + 1, by simp; omega, h3, by rw [h4]; rfl⟩
theorem mput_mE (z : Int) (L : List Int) : ∃ L', mput (.int .i64 z) (.agg #[]) (mE L) = mE L' ∧ ∀ y, y ∈ L' ↔ y ∈ L ∨ y = z := by
 rcases mfind_mE z L with ⟨h1, h2⟩ | ⟨h1, i, h2, h3, h4⟩
 ·exact ⟨L ++ [z], by unfold mput; rw [h2]; simp [mE], by simp⟩
 ·refine ⟨L, ?_, fun y => ⟨Or.inl, fun h => h.elim id (fun e => e ▸ h1)⟩⟩
  simp only [mput, h4]
  refine List.ext_getElem? fun n => ?_
  rw [List.getElem?_set]
  by_cases e : i = n
  ·subst e
   have := (List.getElem?_eq_some_iff.1 h3).2
   simp [mE, h2, this]
  ·simp [e]
theorem mget_mE (z : Int) (L : List Int) : mget (.int .i64 z) (mE L) = if z ∈ L then some (.agg #[]) else none := by
 unfold mget
 rcases mfind_mE z L with ⟨h1, h2⟩ | ⟨h1, i, h2, h3, h4⟩
 ·rw [h2, if_neg h1]; rfl
 ·rw [h4, if_pos h1]
  simp [mE, h3]
theorem mE_ok (L : List Int) : mapOk Try.prog 3 (mE L) = true := by
 have h2 : und Try.prog 3 = .int .i64 := by kernel_rfl
 unfold mapOk mE
 rw [List.all_map]
 refine List.all_eq_true.2 fun z _ => ?_
 show keyOk Try.prog 3 (.int .i64 z) = true
 unfold keyOk
 simp only [h2]
 rfl
theorem int_ok (z : Int) : keyOk Try.prog 3 (.int .i64 z) = true := by
 have h2 : und Try.prog 3 = .int .i64 := by kernel_rfl
 unfold keyOk
 simp only [h2]
 rfl
theorem set_make (H : AH) : xmakeMap Try.prog 155 none H = some (.map (some H.length), H ++ [some (mblk 155 (mE []))]) := by
 have h1 : und Try.prog 155 = .map 3 156 := by kernel_rfl
 unfold xmakeMap
 simp only [h1]
 rfl
theorem set_put {nro : Nat} {H : AH} {mi : Nat} {L : List Int} (hm : hget H mi = some (mblk 155 (mE L))) (hn : nro ≤ mi) (z : Int) : ∃ L', (∀ y, y ∈ L' ↔ y ∈ L ∨ y = z) ∧ xmapUpd Try.prog nro 155 (.map (some mi)) (.int .i64 z) (.agg #[]) H = some (undef, H.set mi (some (mblk 155 (mE L')))) := by
 have h1 : und Try.prog 155 = .map 3 156 := by kernel_rfl
 obtain ⟨L', e, hL⟩ := mput_mE z L
 refine ⟨L', hL, ?_⟩
 unfold xmapUpd
 simp only [h1, hm, ents_mblk, int_ok, mE_ok]
 rw [if_pos ⟨hn, trivial, trivial, rfl⟩, mblk_ty, e]
theorem set_look {H : AH} {mi : Nat} {L : List Int} (hm : hget H mi = some (mblk 155 (mE L))) (z : Int) : xlookup Try.prog 155 (.map (some mi)) (.int .i64 z) true H = some (.tuple #[.agg #[], .bool (decide (z ∈ L))]) := by
 have h1 : und Try.prog 155 = .map 3 156 := by kernel_rfl
 have h4 : zer Try.prog 156 = some (.agg #[]) := by kernel_rfl
 have h5 : plain2 (.agg #[]) = true := by simp [plain2]
 unfold xlookup
 simp only [h1, hm, Option.bind_some, ents_mblk, int_ok, mE_ok, mget_mE]
 by_cases h : z ∈ L
 ·simp [h]
 ·simp [h, h4, h5]
def inZ (l : List NodeD) (n : Nat) (ps : List (List Int)) (y : Int) : Prop := ∃ p ∈ ps, ∃ a, findN l n p = some a ∧ (y = (a : Int) ∨ y ∈ (nd l a).past)
theorem inZ_app {l : List NodeD} {n : Nat} {ps : List (List Int)} {p : List Int} {a : Nat} (hf : findN l n p = some a) (y : Int) : inZ l n (ps ++ [p]) y ↔ inZ l n ps y ∨ y = (a : Int) ∨ y ∈ (nd l a).past := by
 unfold inZ
 constructor
 ·rintro ⟨q, hq, b, hb, h⟩
  rw [List.mem_append, List.mem_singleton] at hq
  rcases hq with hq | rfl
  ·exact .inl ⟨q, hq, b, hb, h⟩
  ·rw [hf] at hb
   cases hb
   exact .inr h
 ·rintro (⟨q, hq, b, hb, h⟩ | h)
  ·exact ⟨q, by simp [hq], b, hb, h⟩
  ·exact ⟨p, by simp, a, hf, h⟩
theorem inZ_B {l : List NodeD} {n : Nat} {ps : List (List Int)} {k : Nat} : inB l n ps k = true ↔ inZ l n ps (k : Int) := by
 unfold inB inZ
 rw [List.any_eq_true]
 refine exists_congr fun p => ?_
 refine and_congr_right fun _ => ?_
 cases hf : findN l n p with
 | none => simp
 | some a =>
  simp only [Bool.or_eq_true, decide_eq_true_eq, Option.some.injEq, exists_eq_left']
  refine or_congr ?_ Iff.rfl
  omega
theorem pastL_succ (l : List NodeD) (n t : Nat) (ps : List (List Int)) : (((List.range (t + 1)).filter (inB l n ps)).map fun k : Nat => (k : Int)) = (((List.range t).filter (inB l n ps)).map fun k : Nat => (k : Int)) ++ (if inB l n ps t = true then [(t : Int)] else []) := by
 rw [List.range_succ, List.filter_append, List.map_append]
 by_cases h : inB l n ps t = true
 ·simp [h]
 ·simp [h]
theorem NdA.lowG {H G : AH} {nv : Value} {l : List NodeD} (hN : NdA H nv l) (hlow : Low H.length H G) : NdA G nv l := ⟨hN.nt, hN.cs, hN.len, hN.wf, fun i x hx => by
 obtain ⟨j, q, bb, us, pv, wv', bv, qv, h1, h2, h3, h4, h5, h6⟩ := hN.at_ i x hx
 exact ⟨j, q, bb, us, pv, wv', bv, qv, h1, (hlow.1 j (hget_lt h2)).trans h2, h3, h4, h5, h6.low hlow.1⟩⟩
def PastQ (l : List NodeD) (ps : List (List Int)) (H : AH) (v' : Value) (H' : AH) : Prop :=
 Low H.length H H' ∧ ((ps.all (fun p => (findN l l.length p).isSome) = true ∧ ∃ sv F, v' = .tuple #[sv, .int .i64 0] ∧ OwnF H' sv 3 1 (iv .i64 (pastL l l.length ps)) F ∧ ∀ j ∈ F, H.length ≤ j) ∨ (ps.all (fun p => (findN l l.length p).isSome) = false ∧ v' = .tuple #[.slice none 0 0, .int .i64 14]))
attribute [local simp] wb_bool wb_undef with_lit XL_nil XL_cons XLc_val XLc_call step1_eq stepW_t stepW_f stepC_n stepC_s stepX_s stepX_n stepN_s calleeX oneV xop_eq xopR_s xopR_n wantedA_eq wantedG_n wantedG_s plain1_int plain1_bool plain1_string bits_i64 bits_u64 bits_u32 bits_u16 bits_u8 xeqA xagg xcmp xarr allK_iv num_iv calleeOf xread xeff xbin xint xnil xun xstr xload xconv xpart xfield xfieldAddr xindexAddr xindex bnd asInt? xslice xlen xmin xmax xbuild xfill xappend xapp2 xappstr xappmk xcap xcopy xcells eval_tmp eval_const put_at put_none fr0_at cells_agg cells_int cells_bool cells_string cells_ptr cells_slice notTuple tab iv_all hget_app hget_app0 hget_cons0 hget_cons set_app set_app0 setR setR_one QL_nil QL_cons QLc_val stepQ_t stepQ_f stepQC_n stepQC_s stepQX_s SL_nil SL_cons SLc_val stepS_t stepS_f ltT ltF leT leF eqT eqF ltTn ltFn leTn leFn eqTn eqFn beqT beqF bneT bneF wi64 wu64 wu32 wu16 wu8 tmodP tdivP hgetL hgetNe hgetEq setL nums_def nums_len Nat.succ_le_of_lt List.getElem?_cons_zero List.getElem?_cons_succ Option.getD_some Int.toNat_add Int.toNat_mul agM okM agB agI agS agP agL agA okB okI okS okP okSl okA
theorem pastF_rc {γ : Nat → Option Nat} {H : AH} {nv pv : Value} {l : List NodeD} {ps : List (List Int)} (hN : NdA H nv l) (hl : l.length ≤ 96) (hP : KsV H pv ps) (hpk : ∀ k ∈ ps, k.length = 32) (hpm : ps.length ≤ maxLen) : AC Try.prog H.length γ 79 #[nv, pv] H (PastQ l ps H) := by
 have hN' := hN
 obtain ⟨hnt, hvc, hxl, hwf, hat⟩ := hN
 have hacc := hP.acc hpk
 have hm63 : ps.length ≤ 9223372036854775807 := by simp only [maxLen] at hpm; omega
 have hset := set_make H
 have hntm : notTuple (.map (some H.length)) = true := rfl
 have hmc : (Value.map (some H.length)).cells = #[.map (some H.length)] := rfl
 refine ac_of_aw Try.func79 rfl Try.ntmps79 Try.results79 (by simp) ?_
 refine aw_seq ?_
 (refine aw_ops (by kernel_rfl) (fun K hK => ?_); simp (disch := first | omega | (simp only [lnS]; try omega)) [-getElem?_pos, -getElem?_neg]; refine hK _ _ ?_; clear hK K)
 refine aw_seq ?_
 (refine aw_ops (by kernel_rfl) (fun K hK => ?_); simp (disch := first | omega | (simp only [lnS]; try omega)) [-getElem?_pos, -getElem?_neg, hset, hntm, hmc]; refine hK _ _ ?_; clear hK K)
 obtain ⟨hlow0, hm0⟩ : Low H.length H (H ++ [some (mblk 155 (mE []))]) ∧ hget (H ++ [some (mblk 155 (mE []))]) H.length = some (mblk 155 (mE [])) := ⟨Low.push (Nat.le_refl _) _, by rw [hget_app0]; rfl⟩
 generalize H ++ [some (mblk 155 (mE []))] = G0 at *
 refine aw_seq ?_
 refine aw_seq ?_
 (refine aw_ops (by kernel_rfl) (fun K hK => ?_); simp (disch := first | omega | (simp only [lnS]; try omega)) [-getElem?_pos, -getElem?_neg, -notTuple, hacc.nt, hacc.cs, nt_intG, -xlen, hacc.len]; refine hK _ _ ?_; clear hK K)
 refine aw_block ?_
 refine aw_loop (fun c α G => ∃ (t : Nat) (L : List Int), t + c = ps.length ∧ α 0 = nv ∧ α 6 = .map (some H.length) ∧ α 17 = pv ∧ α 18 = .int .i64 (ps.length : Nat) ∧ α 19 = .int .i64 (t : Nat) ∧ Low H.length H G ∧ hget G H.length = some (mblk 155 (mE L)) ∧ (ps.take t).all (fun p => (findN l l.length p).isSome) = true ∧ ∀ y, y ∈ L ↔ inZ l l.length (ps.take t) y) ps.length ?_ ?_
 ·exact ⟨0, [], by omega, by (first | (simp [put_at, put_none, fr0_at]; done) | rfl), by (first | (simp [put_at, put_none, fr0_at]; done) | rfl), by (first | (simp [put_at, put_none, fr0_at]; done) | rfl), by (first | (simp [put_at, put_none, fr0_at]; done) | rfl), by (first | (simp [put_at, put_none, fr0_at]; done) | rfl), hlow0, hm0, rfl, fun y => ⟨fun h => (by cases h), fun ⟨p, hp, _⟩ => (by cases hp)⟩⟩
 rintro c α G ⟨t, L, htc, h0, h6, h17, h18, h19, hlow, hm, hall, hL⟩
 refine aw_seq ?_
 by_cases ht : t < ps.length
 case neg =>
  (refine aw_ops (by kernel_rfl) (fun K hK => ?_); simp (disch := first | omega | (simp only [lnS]; try omega)) [-getElem?_pos, -getElem?_neg, h18, h19, ht]; refine hK _ _ ?_; clear hK K)
  refine aw_seq ?_
  refine aw_f (by (first | (simp [eval_tmp, put_at, ht]; done) | (simp [eval_tmp, put_at, ht]; omega))) (by kernel_rfl) ?_
  refine aw_exit ?_
  obtain rfl : t = ps.length := by omega
  rw [List.take_length] at hall hL
  refine aw_seq ?_
  (refine aw_ops (by kernel_rfl) (fun K hK => ?_); simp (disch := first | omega | (simp only [lnS]; try omega)) [-getElem?_pos, -getElem?_neg]; refine hK _ _ ?_; clear hK K)
  refine aw_seq ?_
  refine aw_seq ?_
  (refine aw_ops (by kernel_rfl) (fun K hK => ?_); simp (disch := first | omega | (simp only [lnS]; try omega)) [-getElem?_pos, -getElem?_neg, h0, -notTuple, hnt, hvc, nt_intG, -xlen, hxl]; refine hK _ _ ?_; clear hK K)
  refine aw_block ?_
  refine aw_loop (fun c2 α G => ∃ (i : Nat) (v : Value) (F : List Nat), i + c2 = l.length ∧ α 6 = .map (some H.length) ∧ α 12 = v ∧ α 47 = .int .i64 (l.length : Nat) ∧ α 48 = .int .i64 (i : Nat) ∧ Low H.length H G ∧ hget G H.length = some (mblk 155 (mE L)) ∧ OwnF G v 3 1 (iv .i64 (((List.range i).filter (inB l l.length ps)).map fun k : Nat => (k : Int))) F ∧ ∀ j ∈ F, H.length < j) l.length ?_ ?_
  ·exact ⟨0, .slice none 0 0, [], by omega, by (first | (simp [put_at, put_none, fr0_at, h6]; done) | rfl), by (first | (simp [put_at, put_none, fr0_at]; done) | rfl), by (first | (simp [put_at, put_none, fr0_at]; done) | rfl), by (first | (simp [put_at, put_none, fr0_at]; done) | rfl), hlow, hm, .inl ⟨rfl, rfl, rfl⟩, fun j hj => by cases hj⟩
  rintro c2 α G ⟨i, v, F, hic, h6, h12, h47, h48, hlow, hm, hown, hF⟩
  have hvs : notTuple v = true ∧ v.cells = #[v] := by
   rcases hown with ⟨rfl, _, _⟩ | ⟨j, n, rfl, _⟩ <;> exact ⟨rfl, rfl⟩
  obtain ⟨v1, v2⟩ := hvs
  refine aw_seq ?_
  by_cases hi : i < l.length
  case neg =>
   (refine aw_ops (by kernel_rfl) (fun K hK => ?_); simp (disch := first | omega | (simp only [lnS]; try omega)) [-getElem?_pos, -getElem?_neg, h47, h48, hi]; refine hK _ _ ?_; clear hK K)
   refine aw_seq ?_
   refine aw_f (by (first | (simp [eval_tmp, put_at, hi]; done) | (simp [eval_tmp, put_at, hi]; omega))) (by kernel_rfl) ?_
   refine aw_exit ?_
   obtain rfl : i = l.length := by omega
   refine aw_seq ?_
   (refine aw_ops (by kernel_rfl) (fun K hK => ?_); simp (disch := first | omega | (simp only [lnS]; try omega)) [-getElem?_pos, -getElem?_neg, h12, -notTuple, v1, v2, nt_intG]; refine hK _ _ ?_; clear hK K)
   (refine aw_ret ?_; simp (disch := first | omega | (simp only [lnS]; try omega)) [-getElem?_pos, -getElem?_neg, thenQ_ret, scopeQ_ret, inBlockQ_ret, RQ, resL, resV])
   refine ⟨_, ⟨v1, rfl⟩, ?_⟩
   exact ⟨hlow, .inl ⟨hall, v, F, rfl, hown, fun j hj => (by have := hF j hj; omega)⟩⟩
  (refine aw_ops (by kernel_rfl) (fun K hK => ?_); simp (disch := first | omega | (simp only [lnS]; try omega)) [-getElem?_pos, -getElem?_neg, h47, h48, hi]; refine hK _ _ ?_; clear hK K)
  refine aw_seq ?_
  refine aw_t (by (first | (simp [eval_tmp, put_at, hi]; done) | (simp [eval_tmp, put_at, hi]; omega))) (by kernel_rfl) ?_
  refine aw_skip ?_
  refine aw_seq ?_
  refine aw_block ?_
  refine aw_seq ?_
  (refine aw_ops (by kernel_rfl) (fun K hK => ?_); simp (disch := first | omega | (simp only [lnS]; try omega)) [-getElem?_pos, -getElem?_neg, h48]; refine hK _ _ ?_; clear hK K)
  refine aw_seq ?_
  have hlk := set_look hm (i : Int)
  have hdb : decide ((i : Int) ∈ L) = inB l l.length ps i := by
   rw [Bool.eq_iff_iff, decide_eq_true_eq, hL, inZ_B]
  rw [hdb] at hlk
  have hsu := pastL_succ l l.length i ps
  have hol : (((List.range i).filter (inB l l.length ps)).map (fun k : Nat => (k : Int))).length ≤ i := by
   rw [List.length_map]
   exact Nat.le_trans (List.length_filter_le _ _) (by simp)
  generalize ((List.range i).filter (inB l l.length ps)).map (fun k : Nat => (k : Int)) = out at *
  have hlG := hlow.2
  have hpe : (#[] : Array Value).toList.all plain1 = true := rfl
  obtain ⟨B, hB⟩ : ∃ B, B = inB l l.length ps i := ⟨_, rfl⟩
  rw [← hB] at hlk hsu
  (refine aw_ops (by kernel_rfl) (fun K hK => ?_); simp (disch := first | omega | (simp only [lnS]; try omega)) [-getElem?_pos, -getElem?_neg, h6, hlk, hlG]; refine hK _ _ ?_; clear hK K)
  have hm1 := hget_left' (L := [some ⟨[], 156, none⟩]) hm
  have hlow1 : Low H.length H (G ++ [some ⟨[], 156, none⟩]) := ⟨fun j hj => (hget_left (by omega)).trans (hlow.1 j hj), by simp; omega⟩
  have hown1 : OwnF (G ++ [some ⟨[], 156, none⟩]) v 3 1 (iv .i64 out) F := hown.low (fun j hj => hget_left (hown.lt j hj))
  generalize G ++ [some ⟨[], 156, none⟩] = G1 at *
  refine aw_seq ?_
  cases B with
  | false =>
   (refine aw_ops (by kernel_rfl) (fun K hK => ?_); simp (disch := first | omega | (simp only [lnS]; try omega)) [-getElem?_pos, -getElem?_neg]; refine hK _ _ ?_; clear hK K)
   refine aw_f (by (first | (simp [eval_tmp, put_at]; done) | (simp [eval_tmp, put_at]; omega))) (by kernel_rfl) ?_
   refine aw_skip ?_
   (refine aw_ops (by kernel_rfl) (fun K hK => ?_); simp (disch := first | omega | (simp only [lnS]; try omega)) [-getElem?_pos, -getElem?_neg, h48]; refine hK _ _ ?_; clear hK K)
   exact ⟨c2 - 1, by omega, i + 1, v, F, by omega, by (first | (simp [put_at, put_none, fr0_at, h6]; done) | rfl), by (first | (simp [put_at, put_none, fr0_at, h12]; done) | rfl), by (first | (simp [put_at, put_none, fr0_at, h47]; done) | rfl), by (first | (simp [put_at, put_none, fr0_at]; done) | rfl), hlow1, hm1, by rw [hsu]; simpa using hown1, hF⟩
  | true =>
   (refine aw_ops (by kernel_rfl) (fun K hK => ?_); simp (disch := first | omega | (simp only [lnS]; try omega)) [-getElem?_pos, -getElem?_neg]; refine hK _ _ ?_; clear hK K)
   refine aw_t (by (first | (simp [eval_tmp, put_at]; done) | (simp [eval_tmp, put_at]; omega))) (by kernel_rfl) ?_
   have hxc : xcells 1 (.slice (some ⟨G1.length, 0, none⟩) 1 1) (G1 ++ [some ⟨[.int .i64 (i : Nat)], 3, some 1⟩]) = some (iv .i64 [(i : Int)]) := by simp [xcells, iv, hget_app0]
   obtain ⟨v', G3, hap, ho3, hl3, hk3⟩ := ownF_append (P := Try.prog) (nro := H.length) (t := 23) (e := 3) (H := G1 ++ [some ⟨[.int .i64 (i : Nat)], 3, some 1⟩]) (v := v) (x := .slice (some ⟨G1.length, 0, none⟩) 1 1) (sz := 1) (cells := iv .i64 out) (news := iv .i64 [(i : Int)]) (F := F) (by simp) (by simp) (by omega) (by simp) (hown1.low (fun j hj => hget_left (hown1.lt j hj)))
    (fun j hj => by have := hF j hj; omega) (fun s e => by cases e) hxc (by simp [iv]) (Nat.mod_one _) (by rw [iv_length, iv_length]; simp; omega) (by rw [iv_length, iv_length]; simp [maxLen]; omega)
   (refine aw_ops (by kernel_rfl) (fun K hK => ?_); simp (disch := first | omega | (simp only [lnS]; try omega)) [-getElem?_pos, -getElem?_neg, h12, -notTuple, v1, v2, nt_intG, nt_slG, -xappend, hap]; refine hK _ _ ?_; clear hK K)
   (refine aw_ops (by kernel_rfl) (fun K hK => ?_); simp (disch := first | omega | (simp only [lnS]; try omega)) [-getElem?_pos, -getElem?_neg, h48]; refine hK _ _ ?_; clear hK K)
   have hmG3 : hget G3 H.length = some (mblk 155 (mE L)) := (hk3 _ (by have := hget_lt hm1; simp; omega) (fun h => by have := hF _ h; omega)).trans (hget_left' hm1)
   have hlow3 : Low H.length H G3 := ⟨fun j hj => (hk3 j (by have := hlow1.2; simp; omega) (fun h => by have := hF _ h; omega)).trans ((hget_left (by have := hlow1.2; omega)).trans (hlow1.1 j hj)), by have := hlow1.2; rw [hl3]; simp; omega⟩
   refine ⟨c2 - 1, by omega, i + 1, v', _, by omega, by (first | (simp [put_at, put_none, fr0_at, h6]; done) | rfl), by (first | (simp [put_at, put_none, fr0_at]; done) | rfl), by (first | (simp [put_at, put_none, fr0_at, h47]; done) | rfl), by (first | (simp [put_at, put_none, fr0_at]; done) | rfl), hlow3, hmG3, by rw [hsu, if_pos rfl, iv_append]; exact ho3, fun j hj => ?_⟩
   rw [List.mem_singleton] at hj
   rw [hj]
   have := hget_lt hm1
   simp; omega
 obtain ⟨p, x, p1, p2, p3, p4, p5⟩ := hacc.at_ t ht
 subst p4
 obtain ⟨pk, hpk'⟩ : ∃ pk, pk = ps.getD t [] := ⟨_, rfl⟩
 rw [← hpk'] at p5 p3
 have hpm' : ps[t]? = some pk := by rw [hpk', List.getD_eq_getElem?_getD, List.getElem?_eq_getElem ht]; rfl
 have hpl : pk.length = 32 := hpk pk (List.mem_of_getElem? hpm')
 have htake : ps.take (t + 1) = ps.take t ++ [pk] := by rw [List.take_add_one, hpm']; rfl
 have p5 := p5 G hlow
 have hlG := hlow.2
 have hivl : (iv .u8 pk).length = 32 := by rw [iv_length, hpl]
 have hzb : setR (iv .u8 (zl 32)) 0 (iv .u8 pk) = iv .u8 pk := setR_all _ _ (by simp [hivl])
 (refine aw_ops (by kernel_rfl) (fun K hK => ?_); simp (disch := first | omega | (simp only [lnS]; try omega)) [-getElem?_pos, -getElem?_neg, h18, h19, ht]; refine hK _ _ ?_; clear hK K)
 refine aw_seq ?_
 refine aw_t (by (first | (simp [eval_tmp, put_at, ht]; done) | (simp [eval_tmp, put_at, ht]; omega))) (by kernel_rfl) ?_
 refine aw_skip ?_
 refine aw_seq ?_
 refine aw_block ?_
 refine aw_seq ?_
 (refine aw_ops (by kernel_rfl) (fun K hK => ?_); simp (disch := first | omega | (simp only [lnS]; try omega)) [-getElem?_pos, -getElem?_neg, h17, h19, -notTuple, hacc.nt, hacc.cs, p1, p3, nt_intG, -xindexAddr, p2, -xload, p5, hivl, all_zl, hzb, hlG]; refine hK _ _ ?_; clear hK K)
 obtain ⟨hlow2, hb2⟩ := boxed (H := G) (iv .u8 pk) 38
 have hm2 := hget_left' (L := [some ⟨iv .u8 pk, 38, none⟩]) hm
 obtain ⟨g, hg⟩ : ∃ g, g = G.length := ⟨_, rfl⟩
 rw [← hg] at hb2 ⊢
 generalize G ++ [some ⟨iv .u8 pk, 38, none⟩] = G2 at *
 have hlowG2 : Low H.length H G2 := ⟨fun j hj => (hlow2.1 j (by omega)).trans (hlow.1 j hj), by have := hlow2.2; omega⟩
 have hta : (iv .u8 pk).take 32 = iv .u8 pk := List.take_of_length_le (by omega)
 have hfi := find_rc (γ := γ) (hN'.lowG hlowG2) (by simp only [maxLen]; omega) hpl
 refine aw_seq ?_
 refine aw_ops (by kernel_rfl) (fun K hK => ?_)
 simp (disch := first | omega | (simp only [lnS]; try omega)) [-getElem?_pos, -getElem?_neg, h0, hb2, hivl, hta, -notTuple, hnt, hvc, nt_intG, nt_aggG]
 refine ⟨by kernel_rfl, ac_of_rc hfi (by simp [pv_iv, pv_int, pv_bool, pv_string, pv_tup2, pv_tup3, iv_plain, p2_int, p2_bool, p2_string]) ?_⟩
 unfold findI
 cases hf : findN l l.length pk with
 | none =>
  try simp (disch := first | omega | (simp only [lnS]; try omega)) [-getElem?_pos, -getElem?_neg]
  refine hK _ _ ?_; clear hK K
  refine aw_seq ?_
  refine aw_seq ?_
  (refine aw_ops (by kernel_rfl) (fun K hK => ?_); simp (disch := first | omega | (simp only [lnS]; try omega)) [-getElem?_pos, -getElem?_neg]; refine hK _ _ ?_; clear hK K)
  refine aw_t (by (first | (simp [eval_tmp, put_at]; done) | (simp [eval_tmp, put_at]; omega))) (by kernel_rfl) ?_
  refine aw_seq ?_
  (refine aw_ops (by kernel_rfl) (fun K hK => ?_); simp (disch := first | omega | (simp only [lnS]; try omega)) [-getElem?_pos, -getElem?_neg]; refine hK _ _ ?_; clear hK K)
  (refine aw_ret ?_; simp (disch := first | omega | (simp only [lnS]; try omega)) [-getElem?_pos, -getElem?_neg, thenQ_ret, scopeQ_ret, inBlockQ_ret, RQ, resL, resV])
  refine ⟨hlowG2, .inr ⟨?_, rfl⟩⟩
  rw [List.all_eq_false]
  exact ⟨pk, List.mem_of_getElem? hpm', by rw [hf]; simp⟩
 | some a =>
  have hal := findN_lt hf
  try simp (disch := first | omega | (simp only [lnS]; try omega)) [-getElem?_pos, -getElem?_neg]
  refine hK _ _ ?_; clear hK K
  refine aw_seq ?_
  refine aw_seq ?_
  (refine aw_ops (by kernel_rfl) (fun K hK => ?_); simp (disch := first | omega | (simp only [lnS]; try omega)) [-getElem?_pos, -getElem?_neg]; refine hK _ _ ?_; clear hK K)
  refine aw_f (by (first | (simp [eval_tmp, put_at]; done) | (simp [eval_tmp, put_at]; omega))) (by kernel_rfl) ?_
  refine aw_skip ?_
  refine aw_seq ?_
  obtain ⟨L1, hL1, hpu⟩ := set_put (nro := H.length) hm2 (Nat.le_refl _) (a : Int)
  (refine aw_ops (by kernel_rfl) (fun K hK => ?_); simp (disch := first | omega | (simp only [lnS]; try omega)) [-getElem?_pos, -getElem?_neg, h6, hpu]; refine hK _ _ ?_; clear hK K)
  have hlS : Low H.length H (G2.set H.length (some (mblk 155 (mE L1)))) := ⟨fun j hj => (hget_set_ne (by omega)).trans (hlowG2.1 j hj), by rw [List.length_set]; exact hlowG2.2⟩
  have hmS : hget (G2.set H.length (some (mblk 155 (mE L1)))) H.length = some (mblk 155 (mE L1)) := hget_set_eq (hget_lt hm2)
  generalize G2.set H.length (some (mblk 155 (mE L1))) = G3 at *
  obtain ⟨j2, q2, bb2, qv2, hx2, hbb2, hc2, hi2, hml2, n1, n2⟩ := hN'.past_at hlS hal
  have hac2 := hi2.acc
  have hmq : (nd l a).past.length ≤ 9223372036854775807 := by simp only [maxLen] at hml2; omega
  refine aw_seq ?_
  (refine aw_ops (by kernel_rfl) (fun K hK => ?_); simp (disch := first | omega | (simp only [lnS]; try omega)) [-getElem?_pos, -getElem?_neg, h0, -notTuple, hnt, hvc, n1, n2, nt_intG, -xindexAddr, hx2, hbb2, hc2, -xlen, hac2.len]; refine hK _ _ ?_; clear hK K)
  refine aw_block ?_
  refine aw_loop (fun c2 α G => ∃ (e : Nat) (L2 : List Int), e + c2 = (nd l a).past.length ∧ α 0 = nv ∧ α 6 = .map (some H.length) ∧ α 17 = pv ∧ α 18 = .int .i64 (ps.length : Nat) ∧ α 19 = .int .i64 (t : Nat) ∧ α 35 = qv2 ∧ α 36 = .int .i64 ((nd l a).past.length : Nat) ∧ α 37 = .int .i64 (e : Nat) ∧ Low H.length H G ∧ hget G H.length = some (mblk 155 (mE L2)) ∧ ∀ y, y ∈ L2 ↔ y ∈ L1 ∨ y ∈ (nd l a).past.take e) (nd l a).past.length ?_ ?_
  ·exact ⟨0, L1, by omega, by (first | (simp [put_at, put_none, fr0_at, h0]; done) | rfl), by (first | (simp [put_at, put_none, fr0_at, h6]; done) | rfl), by (first | (simp [put_at, put_none, fr0_at, h17]; done) | rfl), by (first | (simp [put_at, put_none, fr0_at, h18]; done) | rfl), by (first | (simp [put_at, put_none, fr0_at, h19]; done) | rfl), by (first | (simp [put_at, put_none, fr0_at]; done) | rfl), by (first | (simp [put_at, put_none, fr0_at]; done) | rfl), by (first | (simp [put_at, put_none, fr0_at]; done) | rfl), hlS, hmS, fun y => by simp⟩
  rintro c2 α G ⟨e, L2, hec, h0, h6, h17, h18, h19, h35, h36, h37, hlow3, hm3, hL2⟩
  refine aw_seq ?_
  by_cases he : e < (nd l a).past.length
  case neg =>
   (refine aw_ops (by kernel_rfl) (fun K hK => ?_); simp (disch := first | omega | (simp only [lnS]; try omega)) [-getElem?_pos, -getElem?_neg, h36, h37, he]; refine hK _ _ ?_; clear hK K)
   refine aw_seq ?_
   refine aw_f (by (first | (simp [eval_tmp, put_at, he]; done) | (simp [eval_tmp, put_at, he]; omega))) (by kernel_rfl) ?_
   refine aw_exit ?_
   obtain rfl : e = (nd l a).past.length := by omega
   (refine aw_ops (by kernel_rfl) (fun K hK => ?_); simp (disch := first | omega | (simp only [lnS]; try omega)) [-getElem?_pos, -getElem?_neg, h19]; refine hK _ _ ?_; clear hK K)
   refine ⟨c - 1, by omega, t + 1, L2, by omega, by (first | (simp [put_at, put_none, fr0_at, h0]; done) | rfl), by (first | (simp [put_at, put_none, fr0_at, h6]; done) | rfl), by (first | (simp [put_at, put_none, fr0_at, h17]; done) | rfl), by (first | (simp [put_at, put_none, fr0_at, h18]; done) | rfl), by (first | (simp [put_at, put_none, fr0_at]; done) | rfl), hlow3, hm3, ?_, fun y => ?_⟩
   ·rw [htake, List.all_append, hall]
    simp [hf]
   ·rw [htake, inZ_app hf, hL2, hL1, hL, List.take_length]
    exact or_assoc
  obtain ⟨p2, x2, p21, p22, p23, p24, p25⟩ := hac2.at_ e he
  subst p24
  obtain ⟨z, hz⟩ : ∃ z, z = (nd l a).past.getD e 0 := ⟨_, rfl⟩
  rw [← hz] at p25
  have hze : (nd l a).past[e]? = some z := by rw [hz, List.getD_eq_getElem?_getD, List.getElem?_eq_getElem he]; rfl
  have htk2 : (nd l a).past.take (e + 1) = (nd l a).past.take e ++ [z] := by rw [List.take_add_one, hze]; rfl
  have p25 := p25 G hlow3
  obtain ⟨L3, hL3, hpu3⟩ := set_put (nro := H.length) hm3 (Nat.le_refl _) z
  (refine aw_ops (by kernel_rfl) (fun K hK => ?_); simp (disch := first | omega | (simp only [lnS]; try omega)) [-getElem?_pos, -getElem?_neg, h36, h37, he]; refine hK _ _ ?_; clear hK K)
  refine aw_seq ?_
  refine aw_t (by (first | (simp [eval_tmp, put_at, he]; done) | (simp [eval_tmp, put_at, he]; omega))) (by kernel_rfl) ?_
  refine aw_skip ?_
  refine aw_seq ?_
  refine aw_block ?_
  refine aw_seq ?_
  (refine aw_ops (by kernel_rfl) (fun K hK => ?_); simp (disch := first | omega | (simp only [lnS]; try omega)) [-getElem?_pos, -getElem?_neg, h35, h37, -notTuple, n1, n2, p21, nt_intG, -xindexAddr, p22, -xload, p25]; refine hK _ _ ?_; clear hK K)
  (refine aw_ops (by kernel_rfl) (fun K hK => ?_); simp (disch := first | omega | (simp only [lnS]; try omega)) [-getElem?_pos, -getElem?_neg, h6, hpu3]; refine hK _ _ ?_; clear hK K)
  have hlS : Low H.length H (G.set H.length (some (mblk 155 (mE L3)))) := ⟨fun j hj => (hget_set_ne (by omega)).trans (hlow3.1 j hj), by rw [List.length_set]; exact hlow3.2⟩
  have hmS : hget (G.set H.length (some (mblk 155 (mE L3)))) H.length = some (mblk 155 (mE L3)) := hget_set_eq (hget_lt hm3)
  generalize G.set H.length (some (mblk 155 (mE L3))) = G4 at *
  (refine aw_ops (by kernel_rfl) (fun K hK => ?_); simp (disch := first | omega | (simp only [lnS]; try omega)) [-getElem?_pos, -getElem?_neg, h37]; refine hK _ _ ?_; clear hK K)
  refine ⟨c2 - 1, by omega, e + 1, L3, by omega, by (first | (simp [put_at, put_none, fr0_at, h0]; done) | rfl), by (first | (simp [put_at, put_none, fr0_at, h6]; done) | rfl), by (first | (simp [put_at, put_none, fr0_at, h17]; done) | rfl), by (first | (simp [put_at, put_none, fr0_at, h18]; done) | rfl), by (first | (simp [put_at, put_none, fr0_at, h19]; done) | rfl), by (first | (simp [put_at, put_none, fr0_at, h35]; done) | rfl), by (first | (simp [put_at, put_none, fr0_at, h36]; done) | rfl), by (first | (simp [put_at, put_none, fr0_at]; done) | rfl), hlS, hmS, fun y => ?_⟩
  rw [hL3, hL2, htk2, List.mem_append, List.mem_singleton]
  exact or_assoc
end
section
def PastR (l : List NodeD) (ps : List (List Int)) (H : AH) (v' : Value) (H' : AH) : Prop :=
 (rightG l = true ∧ PastQ l ps H v' H') ∨ (rightG l = false ∧ H' = H ∧ v' = .tuple #[.slice none 0 0, .int .i64 1])
theorem rightG_len {l : List NodeD} (h : rightG l = true) : l.length ≤ 96 := by
 unfold rightG at h
 rw [Bool.and_eq_true, decide_eq_true_eq] at h
 exact h.1
theorem own_nt {H : AH} {v : Value} {e : TypeId} {sz : Nat} {cells : List Value} {F : List Nat} (h : OwnF H v e sz cells F) : notTuple v = true ∧ v.cells = #[v] := by
 rcases h with ⟨rfl, _, _⟩ | ⟨j, n, rfl, _⟩ <;> exact ⟨rfl, rfl⟩
attribute [local simp] wb_bool wb_undef with_lit XL_nil XL_cons XLc_val XLc_call step1_eq stepW_t stepW_f stepC_n stepC_s stepX_s stepX_n stepN_s calleeX oneV xop_eq xopR_s xopR_n wantedA_eq wantedG_n wantedG_s plain1_int plain1_bool plain1_string bits_i64 bits_u64 bits_u32 bits_u16 bits_u8 xeqA xagg xcmp xarr allK_iv num_iv calleeOf xread xeff xbin xint xnil xun xstr xload xconv xpart xfield xfieldAddr xindexAddr xindex bnd asInt? xslice xlen xmin xmax xbuild xfill xappend xapp2 xappstr xappmk xcap xcopy xcells eval_tmp eval_const put_at put_none fr0_at cells_agg cells_int cells_bool cells_string cells_ptr cells_slice notTuple tab iv_all hget_app hget_app0 hget_cons0 hget_cons set_app set_app0 setR setR_one QL_nil QL_cons QLc_val stepQ_t stepQ_f stepQC_n stepQC_s stepQX_s SL_nil SL_cons SLc_val stepS_t stepS_f ltT ltF leT leF eqT eqF ltTn ltFn leTn leFn eqTn eqFn beqT beqF bneT bneF wi64 wu64 wu32 wu16 wu8 tmodP tdivP hgetL hgetNe hgetEq setL nums_def nums_len Nat.succ_le_of_lt List.getElem?_cons_zero List.getElem?_cons_succ Option.getD_some Int.toNat_add Int.toNat_mul agM okM agB agI agS agP agL agA okB okI okS okP okSl okA
theorem pastE_rc {γ : Nat → Option Nat} {H : AH} {nv pv : Value} {l : List NodeD} {ps : List (List Int)} (hN : NdA H nv l) (hP : KsV H pv ps) (hpk : ∀ k ∈ ps, k.length = 32) (hpm : ps.length ≤ maxLen) : AC Try.prog H.length γ 117 #[nv, pv] H (PastR l ps H) := by
 have r3 := graph_right_rc (γ := γ) hN
 have hacc := hP.acc hpk
 have hN' := hN
 obtain ⟨hnt, hvc, hxl, hwf, hat⟩ := hN
 refine ac_of_aw Try.func117 rfl Try.ntmps117 Try.results117 (by simp) ?_
 refine aw_seq ?_
 (refine aw_ops (by kernel_rfl) (fun K hK => ?_); simp (disch := first | omega | (simp only [lnS]; try omega)) [-getElem?_pos, -getElem?_neg]; refine hK _ _ ?_; clear hK K)
 refine aw_seq ?_
 refine aw_seq ?_
 refine aw_ops (by kernel_rfl) (fun K hK => ?_)
 simp (disch := first | omega | (simp only [lnS]; try omega)) [-getElem?_pos, -getElem?_neg, -notTuple, hnt, hvc, nt_intG]
 refine ⟨by kernel_rfl, ac_of_rc r3 (by simp [pv_iv, pv_int, pv_bool, pv_string, pv_tup2, pv_tup3, iv_plain, p2_int, p2_bool, p2_string]) ?_⟩
 cases h3 : rightG l with
 | false =>
  try simp (disch := first | omega | (simp only [lnS]; try omega)) [-getElem?_pos, -getElem?_neg]
  refine hK _ _ ?_; clear hK K
  refine aw_t (by (first | (simp [eval_tmp, put_at]; done) | (simp [eval_tmp, put_at]; omega))) (by kernel_rfl) ?_
  refine aw_seq ?_
  (refine aw_ops (by kernel_rfl) (fun K hK => ?_); simp (disch := first | omega | (simp only [lnS]; try omega)) [-getElem?_pos, -getElem?_neg]; refine hK _ _ ?_; clear hK K)
  (refine aw_ret ?_; simp (disch := first | omega | (simp only [lnS]; try omega)) [-getElem?_pos, -getElem?_neg, thenQ_ret, scopeQ_ret, inBlockQ_ret, RQ, resL, resV])
  exact .inr ⟨h3, rfl, rfl⟩
 | true =>
  try simp (disch := first | omega | (simp only [lnS]; try omega)) [-getElem?_pos, -getElem?_neg]
  refine hK _ _ ?_; clear hK K
  refine aw_f (by (first | (simp [eval_tmp, put_at]; done) | (simp [eval_tmp, put_at]; omega))) (by kernel_rfl) ?_
  refine aw_skip ?_
  refine aw_seq ?_
  refine aw_ops (by kernel_rfl) (fun K hK => ?_)
  simp (disch := first | omega | (simp only [lnS]; try omega)) [-getElem?_pos, -getElem?_neg, -notTuple, hnt, hvc, hacc.nt, hacc.cs, nt_intG]
  refine ⟨by kernel_rfl, (pastF_rc (γ := γ) hN' (rightG_len h3) hP hpk hpm).mono ?_⟩
  rintro v' G ⟨hlow, ⟨hall, sv, F, rfl, hown, hF⟩ | ⟨hall, rfl⟩⟩
  ·obtain ⟨v1, v2⟩ := own_nt hown
   simp (disch := first | omega | (simp only [lnS]; try omega)) [-getElem?_pos, -getElem?_neg, -notTuple, v1, v2, nt_intG]
   refine hK _ _ ?_; clear hK K
   (refine aw_ret ?_; simp (disch := first | omega | (simp only [lnS]; try omega)) [-getElem?_pos, -getElem?_neg, thenQ_ret, scopeQ_ret, inBlockQ_ret, RQ, resL, resV])
   refine ⟨_, ⟨v1, rfl⟩, ?_⟩
   exact .inl ⟨h3, hlow, .inl ⟨hall, sv, F, rfl, hown, hF⟩⟩
  ·simp (disch := first | omega | (simp only [lnS]; try omega)) [-getElem?_pos, -getElem?_neg]
   refine hK _ _ ?_; clear hK K
   (refine aw_ret ?_; simp (disch := first | omega | (simp only [lnS]; try omega)) [-getElem?_pos, -getElem?_neg, thenQ_ret, scopeQ_ret, inBlockQ_ret, RQ, resL, resV])
   exact .inl ⟨h3, hlow, .inr ⟨hall, rfl⟩⟩
end
section
attribute [local simp] wb_bool wb_undef with_lit XL_nil XL_cons XLc_val XLc_call step1_eq stepW_t stepW_f stepC_n stepC_s stepX_s stepX_n stepN_s calleeX oneV xop_eq xopR_s xopR_n wantedA_eq wantedG_n wantedG_s plain1_int plain1_bool plain1_string bits_i64 bits_u64 bits_u32 bits_u16 bits_u8 xeqA xagg xcmp xarr allK_iv num_iv calleeOf xread xeff xbin xint xnil xun xstr xload xconv xpart xfield xfieldAddr xindexAddr xindex bnd asInt? xslice xlen xmin xmax xbuild xfill xappend xapp2 xappstr xappmk xcap xcopy xcells eval_tmp eval_const put_at put_none fr0_at cells_agg cells_int cells_bool cells_string cells_ptr cells_slice notTuple tab iv_all hget_app hget_app0 hget_cons0 hget_cons set_app set_app0 setR setR_one QL_nil QL_cons QLc_val stepQ_t stepQ_f stepQC_n stepQC_s stepQX_s SL_nil SL_cons SLc_val stepS_t stepS_f ltT ltF leT leF eqT eqF ltTn ltFn leTn leFn eqTn eqFn beqT beqF bneT bneF wi64 wu64 wu32 wu16 wu8 tmodP tdivP hgetL hgetNe hgetEq setL nums_def nums_len Nat.succ_le_of_lt List.getElem?_cons_zero List.getElem?_cons_succ Option.getD_some Int.toNat_add Int.toNat_mul agM okM agB agI agS agP agL agA okB okI okS okP okSl okA
theorem rIn_rc {γ : Nat → Option Nat} {H : AH} {v : Value} {l : List Int} (h : InV H v l) (hm : l.length ≤ maxLen) (z : Int) : AC Try.prog H.length γ 32 #[v, .int .i64 z] H (fun v' _ => v' = .bool (decide (z ∈ l))) := by
 obtain ⟨hnt, hvc, hxl, hat⟩ := h.acc
 have hm63 : l.length ≤ 9223372036854775807 := by simp only [maxLen] at hm; omega
 refine ac_of_aw Try.func32 rfl Try.ntmps32 Try.results32 (by simp) ?_
 refine aw_seq ?_
 (refine aw_ops (by kernel_rfl) (fun K hK => ?_); simp (disch := first | omega | (simp only [lnS]; try omega)) [-getElem?_pos, -getElem?_neg]; refine hK _ _ ?_; clear hK K)
 refine aw_seq ?_
 refine aw_seq ?_
 (refine aw_ops (by kernel_rfl) (fun K hK => ?_); simp (disch := first | omega | (simp only [lnS]; try omega)) [-getElem?_pos, -getElem?_neg]; refine hK _ _ ?_; clear hK K)
 refine aw_block ?_
 refine aw_loop (fun c α G => ∃ i : Nat, i + c = l.length ∧ H = G ∧ α 0 = v ∧ α 1 = .int .i64 z ∧ α 5 = .int .i64 (i : Nat) ∧ ∀ k, k < i → (l.getD k 0 == z) = false) l.length ?_ ?_
 ·exact ⟨0, by omega, rfl, by (first | (simp [put_at, put_none, fr0_at]; done) | rfl), by (first | (simp [put_at, put_none, fr0_at]; done) | rfl), by (first | (simp [put_at, put_none, fr0_at]; done) | rfl), fun k hk => by omega⟩
 rintro c α G ⟨i, hic, rfl, h0, h1, h5, hpre⟩
 refine aw_seq ?_
 refine aw_seq ?_
 by_cases hi : i < l.length
 case neg =>
  (refine aw_ops (by kernel_rfl) (fun K hK => ?_); simp (disch := first | omega | (simp only [lnS]; try omega)) [-getElem?_pos, -getElem?_neg, h0, h5, -notTuple, hnt, hvc, nt_intG, -xlen, hxl, hi]; refine hK _ _ ?_; clear hK K)
  refine aw_f (by (first | (simp [eval_tmp, put_at, hi]; done) | (simp [eval_tmp, put_at, hi]; omega))) (by kernel_rfl) ?_
  refine aw_exit ?_
  refine aw_seq ?_
  (refine aw_ops (by kernel_rfl) (fun K hK => ?_); simp (disch := first | omega | (simp only [lnS]; try omega)) [-getElem?_pos, -getElem?_neg]; refine hK _ _ ?_; clear hK K)
  (refine aw_ret ?_; simp (disch := first | omega | (simp only [lnS]; try omega)) [-getElem?_pos, -getElem?_neg, thenQ_ret, scopeQ_ret, inBlockQ_ret, RQ, resL, resV])
  intro hz
  obtain ⟨k, hk, he⟩ := mem_iff_getD.1 hz
  rw [hpre k (by omega)] at he
  cases he
 (refine aw_ops (by kernel_rfl) (fun K hK => ?_); simp (disch := first | omega | (simp only [lnS]; try omega)) [-getElem?_pos, -getElem?_neg, h0, h5, -notTuple, hnt, hvc, nt_intG, -xlen, hxl, hi]; refine hK _ _ ?_; clear hK K)
 refine aw_t (by (first | (simp [eval_tmp, put_at, hi]; done) | (simp [eval_tmp, put_at, hi]; omega))) (by kernel_rfl) ?_
 refine aw_skip ?_
 refine aw_seq ?_
 refine aw_block ?_
 obtain ⟨p, x, q1, q2, q3, rfl, q4⟩ := hat i hi
 have q4 := q4 H (Low.refl (Nat.le_refl _))
 obtain ⟨y, hy⟩ : ∃ y, y = l.getD i 0 := ⟨_, rfl⟩
 rw [← hy] at q4
 refine aw_seq ?_
 by_cases hz : y = z
 ·have hz2 : (y == z) = true := by simp [hz]
  (refine aw_ops (by kernel_rfl) (fun K hK => ?_); simp (disch := first | omega | (simp only [lnS]; try omega)) [-getElem?_pos, -getElem?_neg, h0, h1, h5, -notTuple, hnt, hvc, q1, nt_intG, -xindexAddr, q2, -xload, q4, hz, hz2]; refine hK _ _ ?_; clear hK K)
  refine aw_t (by (first | (simp [eval_tmp, put_at]; done) | (simp [eval_tmp, put_at]; omega))) (by kernel_rfl) ?_
  refine aw_seq ?_
  (refine aw_ops (by kernel_rfl) (fun K hK => ?_); simp (disch := first | omega | (simp only [lnS]; try omega)) [-getElem?_pos, -getElem?_neg]; refine hK _ _ ?_; clear hK K)
  (refine aw_ret ?_; simp (disch := first | omega | (simp only [lnS]; try omega)) [-getElem?_pos, -getElem?_neg, thenQ_ret, scopeQ_ret, inBlockQ_ret, RQ, resL, resV])
  exact mem_iff_getD.2 ⟨i, hi, by rw [← hy]; exact hz2⟩
 ·have hz2 : (y == z) = false := by simpa using hz
  (refine aw_ops (by kernel_rfl) (fun K hK => ?_); simp (disch := first | omega | (simp only [lnS]; try omega)) [-getElem?_pos, -getElem?_neg, h0, h1, h5, -notTuple, hnt, hvc, q1, nt_intG, -xindexAddr, q2, -xload, q4, hz, hz2]; refine hK _ _ ?_; clear hK K)
  refine aw_f (by (first | (simp [eval_tmp, put_at]; done) | (simp [eval_tmp, put_at]; omega))) (by kernel_rfl) ?_
  refine aw_skip ?_
  (refine aw_ops (by kernel_rfl) (fun K hK => ?_); simp (disch := first | omega | (simp only [lnS]; try omega)) [-getElem?_pos, -getElem?_neg, h5]; refine hK _ _ ?_; clear hK K)
  refine ⟨c - 1, by omega, i + 1, by omega, rfl, by (first | (simp [put_at, put_none, fr0_at, h0]; done) | rfl), by (first | (simp [put_at, put_none, fr0_at, h1]; done) | rfl), by (first | (simp [put_at, put_none, fr0_at]; done) | rfl), fun k hk => ?_⟩
  by_cases e : k = i
  ·subst e
   rw [← hy]
   exact hz2
  ·exact hpre k (by omega)
theorem rFind_rc {γ : Nat → Option Nat} {H : AH} {nv : Value} {l : List NodeD} (hN : NdA H nv l) (hl : l.length ≤ maxLen) {id : List Int} (hil : id.length = 32) : AC Try.prog H.length γ 67 #[nv, .agg (iv .u8 id).toArray] H (fun v' _ => v' = .int .i64 (findI l l.length id)) := by
 have hm63 : l.length ≤ 9223372036854775807 := by simp only [maxLen] at hl; omega
 have hivl : (iv .u8 id).length = 32 := by rw [iv_length, hil]
 have hta : (iv .u8 id).take 32 = iv .u8 id := List.take_of_length_le (by omega)
 rw [findI_first]
 obtain ⟨hnt, hvc, hxl, hwf, hat⟩ := hN
 refine ac_of_aw Try.func67 rfl Try.ntmps67 Try.results67 (by simp) ?_
 refine aw_seq ?_
 (refine aw_ops (by kernel_rfl) (fun K hK => ?_); simp (disch := first | omega | (simp only [lnS]; try omega)) [-getElem?_pos, -getElem?_neg, hivl]; refine hK _ _ ?_; clear hK K)
 obtain ⟨hlow, hb⟩ := boxed (H := H) (iv .u8 id) 38
 obtain ⟨g, hg⟩ : ∃ g, g = H.length := ⟨_, rfl⟩
 rw [← hg] at hb ⊢
 generalize H ++ [some ⟨iv .u8 id, 38, none⟩] = G at *
 refine aw_seq ?_
 refine aw_seq ?_
 (refine aw_ops (by kernel_rfl) (fun K hK => ?_); simp (disch := first | omega | (simp only [lnS]; try omega)) [-getElem?_pos, -getElem?_neg]; refine hK _ _ ?_; clear hK K)
 refine aw_block ?_
 refine aw_loop (fun c α G' => ∃ i : Nat, i + c = l.length ∧ G = G' ∧ α 0 = nv ∧ α 3 = .pointer (some ⟨g, 0, none⟩) ∧ α 5 = .int .i64 (i : Nat) ∧ ∀ k, k < i → decide ((nd l k).id = id) = false) l.length ?_ ?_
 ·exact ⟨0, by omega, rfl, by (first | (simp [put_at, put_none, fr0_at]; done) | rfl), by (first | (simp [put_at, put_none, fr0_at]; done) | rfl), by (first | (simp [put_at, put_none, fr0_at]; done) | rfl), fun k hk => by omega⟩
 rintro c α G' ⟨i, hic, rfl, h0, h3, h5, hpre⟩
 refine aw_seq ?_
 refine aw_seq ?_
 by_cases hi : i < l.length
 case neg =>
  (refine aw_ops (by kernel_rfl) (fun K hK => ?_); simp (disch := first | omega | (simp only [lnS]; try omega)) [-getElem?_pos, -getElem?_neg, h0, h5, -notTuple, hnt, hvc, nt_intG, -xlen, hxl, hi]; refine hK _ _ ?_; clear hK K)
  refine aw_f (by (first | (simp [eval_tmp, put_at, hi]; done) | (simp [eval_tmp, put_at, hi]; omega))) (by kernel_rfl) ?_
  refine aw_exit ?_
  refine aw_seq ?_
  (refine aw_ops (by kernel_rfl) (fun K hK => ?_); simp (disch := first | omega | (simp only [lnS]; try omega)) [-getElem?_pos, -getElem?_neg]; refine hK _ _ ?_; clear hK K)
  (refine aw_ret ?_; simp (disch := first | omega | (simp only [lnS]; try omega)) [-getElem?_pos, -getElem?_neg, thenQ_ret, scopeQ_ret, inBlockQ_ret, RQ, resL, resV])
  exact (firstI_none (fun k hk => hpre k (by omega))).symm
 obtain ⟨j, q, bb, us, pv, wv', bv, qv, hx, hbb, hq, hcell, hus, hC⟩ := hat i _ (nd_get hi)
 have hbG : hget G j = some bb := (hlow.1 j (by have := hget_lt hbb; omega)).trans hbb
 have hwfi := hwf _ (List.mem_of_getElem? (nd_get hi))
 have hxid : (iv .u8 (nd l i).id).length = 32 := by rw [iv_length]; exact hwfi.id.1
 have hcut : (bb.cells.drop q).take 32 = iv .u8 (nd l i).id := by
  rw [← hC.id, hus, List.take_take]
  rfl
 obtain ⟨xid, hxi⟩ : ∃ x, x = (nd l i).id := ⟨_, rfl⟩
 rw [← hxi] at hxid hcut
 have hpi := hpre
 (refine aw_ops (by kernel_rfl) (fun K hK => ?_); simp (disch := first | omega | (simp only [lnS]; try omega)) [-getElem?_pos, -getElem?_neg, h0, h5, -notTuple, hnt, hvc, nt_intG, -xlen, hxl, hi]; refine hK _ _ ?_; clear hK K)
 refine aw_t (by (first | (simp [eval_tmp, put_at, hi]; done) | (simp [eval_tmp, put_at, hi]; omega))) (by kernel_rfl) ?_
 refine aw_skip ?_
 refine aw_seq ?_
 refine aw_block ?_
 refine aw_seq ?_
 have hq32 : q + 32 ≤ bb.cells.length := by omega
 by_cases hz : xid = id
 ·have hz2 : (xid == id) = true := by simp [hz]
  (refine aw_plan [] [] [0, 1, 2, 3, 4, 5, 6] 7 0 (by kernel_rfl) (by kernel_rfl) (by kernel_rfl) (fun K hK => ?_)); simp only [sel, List.getElem?_cons_succ, List.getElem?_cons_zero, List.drop_succ_cons, List.drop_zero]; simp (disch := first | omega | (simp only [lnS]; try omega)) [-getElem?_pos, -getElem?_neg, h0, h3, h5, -notTuple, hnt, hvc, nt_intG, nt_aggG, -xindexAddr, hx, hbG, hq32, hcut, hxid, hb, hta, hivl, hz2, PL_nil, plainB_lit, PL_cons, PLc_val, PLc_new, stepP_t, stepP_f, stepPC_n, stepPC_s, stepPX_s, stepPX_n, stepPV_n, stepPV_s, stepPA_t, stepPA_c, stepPA_l, stepPN_s, allocOp, reloc_sl, reloc_ptr, List.map_cons, List.map_nil, List.nil_append, List.append_assoc, List.cons_append, Nat.add_assoc]
  refine hK _ _ ?_; clear hK K
  refine aw_t (by (first | (simp [eval_tmp, put_at]; done) | (simp [eval_tmp, put_at]; omega))) (by kernel_rfl) ?_
  refine aw_seq ?_
  (refine aw_ops (by kernel_rfl) (fun K hK => ?_); simp (disch := first | omega | (simp only [lnS]; try omega)) [-getElem?_pos, -getElem?_neg, h5]; refine hK _ _ ?_; clear hK K)
  (refine aw_ret ?_; simp (disch := first | omega | (simp only [lnS]; try omega)) [-getElem?_pos, -getElem?_neg, thenQ_ret, scopeQ_ret, inBlockQ_ret, RQ, resL, resV])
  exact (firstI_some hi hpre (by rw [← hxi]; simpa using hz)).symm
 ·have hz2 : (xid == id) = false := by simpa using hz
  (refine aw_plan [] [] [0, 1, 2, 3, 4, 5, 6] 7 0 (by kernel_rfl) (by kernel_rfl) (by kernel_rfl) (fun K hK => ?_)); simp only [sel, List.getElem?_cons_succ, List.getElem?_cons_zero, List.drop_succ_cons, List.drop_zero]; simp (disch := first | omega | (simp only [lnS]; try omega)) [-getElem?_pos, -getElem?_neg, h0, h3, h5, -notTuple, hnt, hvc, nt_intG, nt_aggG, -xindexAddr, hx, hbG, hq32, hcut, hxid, hb, hta, hivl, hz2, PL_nil, plainB_lit, PL_cons, PLc_val, PLc_new, stepP_t, stepP_f, stepPC_n, stepPC_s, stepPX_s, stepPX_n, stepPV_n, stepPV_s, stepPA_t, stepPA_c, stepPA_l, stepPN_s, allocOp, reloc_sl, reloc_ptr, List.map_cons, List.map_nil, List.nil_append, List.append_assoc, List.cons_append, Nat.add_assoc]
  refine hK _ _ ?_; clear hK K
  refine aw_f (by (first | (simp [eval_tmp, put_at]; done) | (simp [eval_tmp, put_at]; omega))) (by kernel_rfl) ?_
  refine aw_skip ?_
  (refine aw_ops (by kernel_rfl) (fun K hK => ?_); simp (disch := first | omega | (simp only [lnS]; try omega)) [-getElem?_pos, -getElem?_neg, h5]; refine hK _ _ ?_; clear hK K)
  refine ⟨c - 1, by omega, i + 1, by omega, rfl, by (first | (simp [put_at, put_none, fr0_at, h0]; done) | rfl), by (first | (simp [put_at, put_none, fr0_at, h3]; done) | rfl), by (first | (simp [put_at, put_none, fr0_at]; done) | rfl), fun k hk => ?_⟩
  by_cases e : k = i
  ·subst e
   rw [← hxi]
   simpa using hz
  ·exact hpre k (by omega)
end
section
theorem own_inv {H : AH} {v : Value} {e : TypeId} {L : List Int} {F : List Nat} (h : OwnF H v e 1 (iv .i64 L) F) : InV H v L := by
 unfold InV
 rcases h with ⟨rfl, h, _⟩ | ⟨j, n, rfl, hb, hl, _⟩
 ·have : L = [] := by
   cases L with
   | nil => rfl
   | cons a L => simp [iv] at h
  subst this
  exact .nil (fun x hx => by cases hx)
 ·rw [iv_length, Nat.mul_one] at hl
  subst hl
  have := CD.Val.sl (H := H) (sz := 1) (j := j) (rows := L.map fun z => [CD.int .i64 z]) hb (by simp [iv_length]) (fun row hr => by
   obtain ⟨y, _, rfl⟩ := List.mem_map.1 hr; rfl) (fun i row c d x hr hc hx => by
   rw [List.getElem?_map] at hr
   cases hL : L[i]? with
   | none => rw [hL] at hr; cases hr
   | some z =>
    rw [hL] at hr
    cases hr
    cases c with
    | succ c => cases c <;> cases hc
    | zero =>
     cases hc
     have hx2 : (iv .i64 L)[i]? = some x := by simpa using hx
     rw [iv, List.getElem?_map, hL] at hx2
     cases hx2
     exact .int)
  rw [List.length_map] at this
  exact this
theorem autA_succ (l : List NodeD) (t : Nat) (x : Int) (P : List Int) : autA l (t + 1) x P = (autA l t x P && (!((nd l t).op.author == x) || decide ((t : Int) ∈ P))) := by
 unfold autA
 rw [List.range_succ, List.all_append]
 simp
theorem autA_down {l : List NodeD} {t n : Nat} {x : Int} {P : List Int} (htn : t < n) (h1 : (nd l t).op.author = x) (h2 : decide ((t : Int) ∈ P) = false) : autA l n x P = false := by
 unfold autA
 rw [List.all_eq_false]
 refine ⟨t, List.mem_range.2 htn, ?_⟩
 rw [h2, h1]
 simp
attribute [local simp] wb_bool wb_undef with_lit XL_nil XL_cons XLc_val XLc_call step1_eq stepW_t stepW_f stepC_n stepC_s stepX_s stepX_n stepN_s calleeX oneV xop_eq xopR_s xopR_n wantedA_eq wantedG_n wantedG_s plain1_int plain1_bool plain1_string bits_i64 bits_u64 bits_u32 bits_u16 bits_u8 xeqA xagg xcmp xarr allK_iv num_iv calleeOf xread xeff xbin xint xnil xun xstr xload xconv xpart xfield xfieldAddr xindexAddr xindex bnd asInt? xslice xlen xmin xmax xbuild xfill xappend xapp2 xappstr xappmk xcap xcopy xcells eval_tmp eval_const put_at put_none fr0_at cells_agg cells_int cells_bool cells_string cells_ptr cells_slice notTuple tab iv_all hget_app hget_app0 hget_cons0 hget_cons set_app set_app0 setR setR_one QL_nil QL_cons QLc_val stepQ_t stepQ_f stepQC_n stepQC_s stepQX_s SL_nil SL_cons SLc_val stepS_t stepS_f ltT ltF leT leF eqT eqF ltTn ltFn leTn leFn eqTn eqFn beqT beqF bneT bneF wi64 wu64 wu32 wu16 wu8 tmodP tdivP hgetL hgetNe hgetEq setL nums_def nums_len Nat.succ_le_of_lt List.getElem?_cons_zero List.getElem?_cons_succ Option.getD_some Int.toNat_add Int.toNat_mul agM okM agB agI agS agP agL agA okB okI okS okP okSl okA
theorem turn_rc {γ : Nat → Option Nat} {H : AH} {nv qv : Value} {l : List NodeD} {us : List Value} {o : OpD} {pv wv bv : Value} {P : List Int} (hN : NdA H nv l) (hl : l.length ≤ 110) (hO : OpC H us o pv wv bv) (hw : o.Wf) (hP : InV H qv P) (hPm : P.length ≤ maxLen) :
  AC Try.prog H.length γ 68 #[nv, .agg us.toArray, qv] H (fun v' _ => v' = .bool (turnB l l.length o P)) := by
 have hlen := hO.len
 have c0 := hO.c0
 have c1 := hO.c1
 have c3 := hO.c3
 have n1 := hP.acc.nt
 have n2 := hP.acc.cs
 have hN' := hN
 obtain ⟨hnt, hvc, hxl, hwf, hat⟩ := hN
 refine ac_of_aw Try.func68 rfl Try.ntmps68 Try.results68 (by simp) ?_
 refine aw_seq ?_
 (refine aw_ops (by kernel_rfl) (fun K hK => ?_); simp (disch := first | omega | (simp only [lnS]; try omega)) [-getElem?_pos, -getElem?_neg, hlen]; refine hK _ _ ?_; clear hK K)
 obtain ⟨hlow, hb⟩ := boxed (H := H) us 41
 obtain ⟨g, hg⟩ : ∃ g, g = H.length := ⟨_, rfl⟩
 rw [← hg] at hb ⊢
 generalize H ++ [some ⟨us, 41, none⟩] = G at *
 have hPG : InV G qv P := hP.lowG hlow
 have htb : (decide (o.kind = 1) == decide (l.length = 0)) = !((o.kind == 1) != ((l.length : Int) == 0)) := by
  have e1 : (o.kind == 1) = decide (o.kind = 1) := rfl
  have e2 : ((l.length : Int) == 0) = decide (l.length = 0) := by rw [Bool.eq_iff_iff]; simp
  rw [e1, e2]
  cases decide (o.kind = 1) <;> cases decide (l.length = 0) <;> rfl
 have hTB : turnB l l.length o P = ((!((o.kind == 1) != ((l.length : Int) == 0))) && (autA l l.length o.author P && decide (o.seq = 1 + (autN l l.length o.author : Nat)))) := by
  unfold turnB; rw [htb]
 rw [hTB]
 clear hTB htb
 refine aw_seq ?_
 refine aw_seq ?_
 obtain ⟨b1, hb1⟩ : ∃ b1, b1 = (o.kind == 1) := ⟨_, rfl⟩
 obtain ⟨b4, hb4⟩ : ∃ b4, b4 = ((l.length : Int) == 0) := ⟨_, rfl⟩
 rw [← hb1, ← hb4]
 have hb1' := hb1.symm
 have hb4' := hb4.symm
 cases hbn : (b1 != b4) with
 | true =>
  (refine aw_ops (by kernel_rfl) (fun K hK => ?_); simp (disch := first | omega | (simp only [lnS]; try omega)) [-getElem?_pos, -getElem?_neg, hb, hlen, c3, hb1', hb4', hbn, -notTuple, hnt, hvc, nt_intG, -xlen, hxl]; refine hK _ _ ?_; clear hK K)
  refine aw_t (by (first | (simp [eval_tmp, put_at]; done) | (simp [eval_tmp, put_at]; omega))) (by kernel_rfl) ?_
  refine aw_seq ?_
  (refine aw_ops (by kernel_rfl) (fun K hK => ?_); simp (disch := first | omega | (simp only [lnS]; try omega)) [-getElem?_pos, -getElem?_neg]; refine hK _ _ ?_; clear hK K)
  (refine aw_ret ?_; simp (disch := first | omega | (simp only [lnS]; try omega)) [-getElem?_pos, -getElem?_neg, thenQ_ret, scopeQ_ret, inBlockQ_ret, RQ, resL, resV])
 | false =>
 (refine aw_ops (by kernel_rfl) (fun K hK => ?_); simp (disch := first | omega | (simp only [lnS]; try omega)) [-getElem?_pos, -getElem?_neg, hb, hlen, c3, hb1', hb4', hbn, -notTuple, hnt, hvc, nt_intG, -xlen, hxl]; refine hK _ _ ?_; clear hK K)
 refine aw_f (by (first | (simp [eval_tmp, put_at]; done) | (simp [eval_tmp, put_at]; omega))) (by kernel_rfl) ?_
 refine aw_skip ?_
 refine aw_seq ?_
 (refine aw_ops (by kernel_rfl) (fun K hK => ?_); simp (disch := first | omega | (simp only [lnS]; try omega)) [-getElem?_pos, -getElem?_neg]; refine hK _ _ ?_; clear hK K)
 refine aw_seq ?_
 refine aw_seq ?_
 (refine aw_ops (by kernel_rfl) (fun K hK => ?_); simp (disch := first | omega | (simp only [lnS]; try omega)) [-getElem?_pos, -getElem?_neg]; refine hK _ _ ?_; clear hK K)
 refine aw_block ?_
 refine aw_loop (fun c α G' => ∃ t : Nat, t + c = l.length ∧ G = G' ∧ α 0 = nv ∧ α 2 = qv ∧ α 4 = .pointer (some ⟨g, 0, none⟩) ∧ α 7 = .int .u32 (autN l t o.author : Nat) ∧ α 8 = .int .i64 (t : Nat) ∧ autA l t o.author P = true) l.length ?_ ?_
 ·exact ⟨0, by omega, rfl, by (first | (simp [put_at, put_none, fr0_at]; done) | rfl), by (first | (simp [put_at, put_none, fr0_at]; done) | rfl), by (first | (simp [put_at, put_none, fr0_at]; done) | rfl), by (first | (simp [put_at, put_none, fr0_at]; done) | rfl), by (first | (simp [put_at, put_none, fr0_at]; done) | rfl), rfl⟩
 rintro c α G' ⟨t, htc, rfl, h0, h2, h4, h7, h8, hpre⟩
 have hle := autN_le l t o.author
 refine aw_seq ?_
 refine aw_seq ?_
 by_cases ht : t < l.length
 case neg =>
  (refine aw_ops (by kernel_rfl) (fun K hK => ?_); simp (disch := first | omega | (simp only [lnS]; try omega)) [-getElem?_pos, -getElem?_neg, h0, h8, -notTuple, hnt, hvc, nt_intG, -xlen, hxl, ht]; refine hK _ _ ?_; clear hK K)
  refine aw_f (by (first | (simp [eval_tmp, put_at, ht]; done) | (simp [eval_tmp, put_at, ht]; omega))) (by kernel_rfl) ?_
  refine aw_exit ?_
  obtain rfl : t = l.length := by omega
  refine aw_seq ?_
  rw [hpre]
  generalize autN l l.length o.author = n at *
  have hwn : IntKind.u32.wrap ((n : Int) + 1) = (n : Int) + 1 := wu32 (by omega)
  obtain ⟨z, hz⟩ : ∃ z, z = o.seq := ⟨_, rfl⟩
  rw [← hz] at c1 ⊢
  (refine aw_ops (by kernel_rfl) (fun K hK => ?_); simp (disch := first | omega | (simp only [lnS]; try omega)) [-getElem?_pos, -getElem?_neg, h4, h7, hb, hlen, c1, hwn]; refine hK _ _ ?_; clear hK K)
  (refine aw_ret ?_; simp (disch := first | omega | (simp only [lnS]; try omega)) [-getElem?_pos, -getElem?_neg, thenQ_ret, scopeQ_ret, inBlockQ_ret, RQ, resL, resV])
  rw [Bool.eq_iff_iff]
  simp
  omega
 obtain ⟨j, q, bb, us2, pv2, wv2, bv2, qv2, hx, hbb, hq, hcell, hus, hC⟩ := hat t _ (nd_get ht)
 have hbG : hget G j = some bb := (hlow.1 j (hget_lt hbb)).trans hbb
 have ha2 : bb.cells[q + 32]? = some (.int .i64 (nd l t).op.author) := by
  rw [hcell 32 (by omega)]
  have := hC.op.c0
  rwa [List.getElem?_take_of_lt (by omega), List.getElem?_drop] at this
 have hsu := autN_succ l t o.author
 have has := autA_succ l t o.author P
 have hdn := autA_down (l := l) (x := o.author) (P := P) ht
 obtain ⟨x, hxa⟩ : ∃ x, x = (nd l t).op.author := ⟨_, rfl⟩
 obtain ⟨y, hya⟩ : ∃ y, y = o.author := ⟨_, rfl⟩
 rw [← hxa, ← hya] at hsu has hdn
 rw [← hxa] at ha2
 rw [← hya] at c0 h7 hle hpre
 obtain ⟨n, hn⟩ : ∃ n, n = autN l t y := ⟨_, rfl⟩
 rw [← hn] at hsu h7 hle
 rw [hpre] at has
 have hL110 : (t : Nat) ≤ 110 := by omega
 (refine aw_ops (by kernel_rfl) (fun K hK => ?_); simp (disch := first | omega | (simp only [lnS]; try omega)) [-getElem?_pos, -getElem?_neg, h0, h8, -notTuple, hnt, hvc, nt_intG, -xlen, hxl, ht]; refine hK _ _ ?_; clear hK K)
 refine aw_t (by (first | (simp [eval_tmp, put_at, ht]; done) | (simp [eval_tmp, put_at, ht]; omega))) (by kernel_rfl) ?_
 refine aw_skip ?_
 refine aw_seq ?_
 refine aw_block ?_
 refine aw_seq ?_
 by_cases hxy : x = y
 case neg =>
  have hxb : (x == y) = false := by simp [hxy]
  (refine aw_plan [] [] [0, 1, 2, 3, 4, 5, 6, 7, 8] 9 0 (by kernel_rfl) (by kernel_rfl) (by kernel_rfl) (fun K hK => ?_)); simp only [sel, List.getElem?_cons_succ, List.getElem?_cons_zero, List.drop_succ_cons, List.drop_zero]; simp (disch := first | omega | (simp only [lnS]; try omega)) [-getElem?_pos, -getElem?_neg, h0, h4, h8, -notTuple, hnt, hvc, nt_intG, -xindexAddr, hx, hbG, ha2, hq, hb, hlen, c0, hxy, hxb, PL_nil, plainB_lit, PL_cons, PLc_val, PLc_new, stepP_t, stepP_f, stepPC_n, stepPC_s, stepPX_s, stepPX_n, stepPV_n, stepPV_s, stepPA_t, stepPA_c, stepPA_l, stepPN_s, allocOp, reloc_sl, reloc_ptr, List.map_cons, List.map_nil, List.nil_append, List.append_assoc, List.cons_append, Nat.add_assoc]
  refine hK _ _ ?_; clear hK K
  refine aw_f (by (first | (simp [eval_tmp, put_at]; done) | (simp [eval_tmp, put_at]; omega))) (by kernel_rfl) ?_
  refine aw_skip ?_
  (refine aw_ops (by kernel_rfl) (fun K hK => ?_); simp (disch := first | omega | (simp only [lnS]; try omega)) [-getElem?_pos, -getElem?_neg, h8]; refine hK _ _ ?_; clear hK K)
  rw [if_neg hxy, Nat.add_zero] at hsu
  rw [hxb] at has
  rw [← hya]
  exact ⟨c - 1, by omega, t + 1, by omega, rfl, by (first | (simp [put_at, put_none, fr0_at, h0]; done) | rfl), by (first | (simp [put_at, put_none, fr0_at, h2]; done) | rfl), by (first | (simp [put_at, put_none, fr0_at, h4]; done) | rfl), by rw [hsu]; (first | (simp [put_at, put_none, fr0_at, h7]; done) | rfl), by (first | (simp [put_at, put_none, fr0_at]; done) | rfl), by rw [has]; rfl⟩
 have hxb : (x == y) = true := by simp [hxy]
 (refine aw_plan [] [] [0, 1, 2, 3, 4, 5, 6, 7, 8] 9 0 (by kernel_rfl) (by kernel_rfl) (by kernel_rfl) (fun K hK => ?_)); simp only [sel, List.getElem?_cons_succ, List.getElem?_cons_zero, List.drop_succ_cons, List.drop_zero]; simp (disch := first | omega | (simp only [lnS]; try omega)) [-getElem?_pos, -getElem?_neg, h0, h4, h8, -notTuple, hnt, hvc, nt_intG, -xindexAddr, hx, hbG, ha2, hq, hb, hlen, c0, hxy, hxb, PL_nil, plainB_lit, PL_cons, PLc_val, PLc_new, stepP_t, stepP_f, stepPC_n, stepPC_s, stepPX_s, stepPX_n, stepPV_n, stepPV_s, stepPA_t, stepPA_c, stepPA_l, stepPN_s, allocOp, reloc_sl, reloc_ptr, List.map_cons, List.map_nil, List.nil_append, List.append_assoc, List.cons_append, Nat.add_assoc]
 refine hK _ _ ?_; clear hK K
 refine aw_t (by (first | (simp [eval_tmp, put_at]; done) | (simp [eval_tmp, put_at]; omega))) (by kernel_rfl) ?_
 refine aw_seq ?_
 refine aw_seq ?_
 have hin := rIn_rc (γ := γ) hPG hPm (t : Int)
 refine aw_ops (by kernel_rfl) (fun K hK => ?_)
 simp (disch := first | omega | (simp only [lnS]; try omega)) [-getElem?_pos, -getElem?_neg, h2, h8, -notTuple, n1, n2, nt_intG]
 refine ⟨by kernel_rfl, ac_of_rc hin (by simp [pv_iv, pv_int, pv_bool, pv_string, pv_tup2, pv_tup3, iv_plain, p2_int, p2_bool, p2_string]) ?_⟩
 cases hh : decide ((t : Int) ∈ P) with
 | false =>
  try simp (disch := first | omega | (simp only [lnS]; try omega)) [-getElem?_pos, -getElem?_neg]
  refine hK _ _ ?_; clear hK K
  refine aw_t (by (first | (simp [eval_tmp, put_at]; done) | (simp [eval_tmp, put_at]; omega))) (by kernel_rfl) ?_
  refine aw_seq ?_
  (refine aw_ops (by kernel_rfl) (fun K hK => ?_); simp (disch := first | omega | (simp only [lnS]; try omega)) [-getElem?_pos, -getElem?_neg]; refine hK _ _ ?_; clear hK K)
  (refine aw_ret ?_; simp (disch := first | omega | (simp only [lnS]; try omega)) [-getElem?_pos, -getElem?_neg, thenQ_ret, scopeQ_ret, inBlockQ_ret, RQ, resL, resV])
  rw [← hya, hdn hxy hh]
  all_goals simp
 | true =>
  try simp (disch := first | omega | (simp only [lnS]; try omega)) [-getElem?_pos, -getElem?_neg]
  refine hK _ _ ?_; clear hK K
  refine aw_f (by (first | (simp [eval_tmp, put_at]; done) | (simp [eval_tmp, put_at]; omega))) (by kernel_rfl) ?_
  refine aw_skip ?_
  have hwn : IntKind.u32.wrap ((n : Int) + 1) = ((n + 1 : Nat) : Int) := by rw [wu32 (by omega)]; omega
  (refine aw_ops (by kernel_rfl) (fun K hK => ?_); simp (disch := first | omega | (simp only [lnS]; try omega)) [-getElem?_pos, -getElem?_neg, h7, hwn]; refine hK _ _ ?_; clear hK K)
  (refine aw_ops (by kernel_rfl) (fun K hK => ?_); simp (disch := first | omega | (simp only [lnS]; try omega)) [-getElem?_pos, -getElem?_neg, h8]; refine hK _ _ ?_; clear hK K)
  rw [if_pos hxy] at hsu
  rw [hxb, hh] at has
  rw [← hya]
  exact ⟨c - 1, by omega, t + 1, by omega, rfl, by (first | (simp [put_at, put_none, fr0_at, h0]; done) | rfl), by (first | (simp [put_at, put_none, fr0_at, h2]; done) | rfl), by (first | (simp [put_at, put_none, fr0_at, h4]; done) | rfl), by rw [hsu]; (first | (simp [put_at, put_none, fr0_at]; done) | rfl), by (first | (simp [put_at, put_none, fr0_at]; done) | rfl), by rw [has]; rfl⟩
end
section
theorem inB_app (l : List NodeD) (n : Nat) (ps : List (List Int)) (p : List Int) (k a : Nat) (hf : findN l n p = some a) : inB l n (ps ++ [p]) k = (inB l n ps k || (decide (a = k) || decide ((k : Int) ∈ (nd l a).past))) := by
 unfold inB
 rw [List.any_append]
 simp [hf]
def RPastQ (l : List NodeD) (ps : List (List Int)) (H : AH) (v' : Value) (H' : AH) : Prop :=
 Low H.length H H' ∧ ((ps.all (fun p => (findN l l.length p).isSome) = true ∧ ∃ sv F, v' = .tuple #[sv, .bool true] ∧ OwnF H' sv 3 1 (iv .i64 (pastL l l.length ps)) F ∧ ∀ j ∈ F, H.length ≤ j) ∨ (ps.all (fun p => (findN l l.length p).isSome) = false ∧ v' = .tuple #[.slice none 0 0, .bool false]))
theorem pastL_len (l : List NodeD) (n i : Nat) (ps : List (List Int)) : (((List.range i).filter (inB l n ps)).map (fun k : Nat => (k : Int))).length ≤ i := by
 rw [List.length_map]
 exact Nat.le_trans (List.length_filter_le _ _) (by simp)
attribute [local simp] wb_bool wb_undef with_lit XL_nil XL_cons XLc_val XLc_call step1_eq stepW_t stepW_f stepC_n stepC_s stepX_s stepX_n stepN_s calleeX oneV xop_eq xopR_s xopR_n wantedA_eq wantedG_n wantedG_s plain1_int plain1_bool plain1_string bits_i64 bits_u64 bits_u32 bits_u16 bits_u8 xeqA xagg xcmp xarr allK_iv num_iv calleeOf xread xeff xbin xint xnil xun xstr xload xconv xpart xfield xfieldAddr xindexAddr xindex bnd asInt? xslice xlen xmin xmax xbuild xfill xappend xapp2 xappstr xappmk xcap xcopy xcells eval_tmp eval_const put_at put_none fr0_at cells_agg cells_int cells_bool cells_string cells_ptr cells_slice notTuple tab iv_all hget_app hget_app0 hget_cons0 hget_cons set_app set_app0 setR setR_one QL_nil QL_cons QLc_val stepQ_t stepQ_f stepQC_n stepQC_s stepQX_s SL_nil SL_cons SLc_val stepS_t stepS_f ltT ltF leT leF eqT eqF ltTn ltFn leTn leFn eqTn eqFn beqT beqF bneT bneF wi64 wu64 wu32 wu16 wu8 tmodP tdivP hgetL hgetNe hgetEq setL nums_def nums_len Nat.succ_le_of_lt List.getElem?_cons_zero List.getElem?_cons_succ Option.getD_some Int.toNat_add Int.toNat_mul agM okM agB agI agS agP agL agA okB okI okS okP okSl okA
theorem rPast_rc {γ : Nat → Option Nat} {H : AH} {nv pv : Value} {l : List NodeD} {ps : List (List Int)} (hN : NdA H nv l) (hl : l.length ≤ 110) (hP : KsV H pv ps) (hpk : ∀ k ∈ ps, k.length = 32) (hpm : ps.length ≤ maxLen) : AC Try.prog H.length γ 65 #[nv, pv] H (RPastQ l ps H) := by
 have hN' := hN
 obtain ⟨hnt, hvc, hxl, hwf, hat⟩ := hN
 have hacc := hP.acc hpk
 have k1 := hacc.nt
 have k2 := hacc.cs
 have k3 := hacc.len
 have hm63 : ps.length ≤ 9223372036854775807 := by simp only [maxLen] at hpm; omega
 refine ac_of_aw Try.func65 rfl Try.ntmps65 Try.results65 (by simp) ?_
 refine aw_seq ?_
 (refine aw_ops (by kernel_rfl) (fun K hK => ?_); simp (disch := first | omega | (simp only [lnS]; try omega)) [-getElem?_pos, -getElem?_neg]; refine hK _ _ ?_; clear hK K)
 refine aw_seq ?_
 refine aw_seq ?_
 (refine aw_ops (by kernel_rfl) (fun K hK => ?_); simp (disch := first | omega | (simp only [lnS]; try omega)) [-getElem?_pos, -getElem?_neg]; refine hK _ _ ?_; clear hK K)
 refine aw_block ?_
 refine aw_loop (fun c α G => ∃ t : Nat, t + c = ps.length ∧ H = G ∧ α 0 = nv ∧ α 1 = pv ∧ α 6 = .int .i64 (t : Nat) ∧ (ps.take t).all (fun p => (findN l l.length p).isSome) = true) ps.length ?_ ?_
 ·exact ⟨0, by omega, rfl, by (first | (simp [put_at, put_none, fr0_at]; done) | rfl), by (first | (simp [put_at, put_none, fr0_at]; done) | rfl), by (first | (simp [put_at, put_none, fr0_at]; done) | rfl), rfl⟩
 rintro c α G ⟨t, htc, rfl, h0, h1, h6, hall⟩
 refine aw_seq ?_
 refine aw_seq ?_
 by_cases ht : t < ps.length
 case pos =>
  obtain ⟨p, x, p1, p2, p3, p4, p5⟩ := hacc.at_ t ht
  subst p4
  obtain ⟨pk, hpk'⟩ : ∃ pk, pk = ps.getD t [] := ⟨_, rfl⟩
  rw [← hpk'] at p5 p3
  have hpm' : ps[t]? = some pk := by rw [hpk', List.getD_eq_getElem?_getD, List.getElem?_eq_getElem ht]; rfl
  have hpl : pk.length = 32 := hpk pk (List.mem_of_getElem? hpm')
  have htake : ps.take (t + 1) = ps.take t ++ [pk] := by rw [List.take_add_one, hpm']; rfl
  have p5 := p5 H (Low.refl (Nat.le_refl _))
  have hfi := rFind_rc (γ := γ) hN' (by simp only [maxLen]; omega) hpl
  unfold findI at hfi
  (refine aw_ops (by kernel_rfl) (fun K hK => ?_); simp (disch := first | omega | (simp only [lnS]; try omega)) [-getElem?_pos, -getElem?_neg, h1, h6, -notTuple, k1, k2, nt_intG, -xlen, k3, ht]; refine hK _ _ ?_; clear hK K)
  refine aw_t (by (first | (simp [eval_tmp, put_at, ht]; done) | (simp [eval_tmp, put_at, ht]; omega))) (by kernel_rfl) ?_
  refine aw_skip ?_
  refine aw_seq ?_
  refine aw_block ?_
  refine aw_seq ?_
  refine aw_ops (by kernel_rfl) (fun K hK => ?_)
  simp (disch := first | omega | (simp only [lnS]; try omega)) [-getElem?_pos, -getElem?_neg, h0, h1, h6, -notTuple, hnt, hvc, k1, k2, p1, p3, nt_intG, nt_aggG, -xindexAddr, p2, -xload, p5]
  refine ⟨by kernel_rfl, ac_of_rc hfi (by simp [pv_iv, pv_int, pv_bool, pv_string, pv_tup2, pv_tup3, iv_plain, p2_int, p2_bool, p2_string]) ?_⟩
  cases hf : findN l l.length pk with
  | none =>
   try simp (disch := first | omega | (simp only [lnS]; try omega)) [-getElem?_pos, -getElem?_neg]
   refine hK _ _ ?_; clear hK K
   refine aw_t (by (first | (simp [eval_tmp, put_at]; done) | (simp [eval_tmp, put_at]; omega))) (by kernel_rfl) ?_
   refine aw_seq ?_
   (refine aw_ops (by kernel_rfl) (fun K hK => ?_); simp (disch := first | omega | (simp only [lnS]; try omega)) [-getElem?_pos, -getElem?_neg]; refine hK _ _ ?_; clear hK K)
   (refine aw_ret ?_; simp (disch := first | omega | (simp only [lnS]; try omega)) [-getElem?_pos, -getElem?_neg, thenQ_ret, scopeQ_ret, inBlockQ_ret, RQ, resL, resV])
   refine ⟨Low.refl (Nat.le_refl _), .inr ⟨?_, rfl⟩⟩
   rw [List.all_eq_false]
   exact ⟨pk, List.mem_of_getElem? hpm', by rw [hf]; simp⟩
  | some a =>
   try simp (disch := first | omega | (simp only [lnS]; try omega)) [-getElem?_pos, -getElem?_neg]
   refine hK _ _ ?_; clear hK K
   refine aw_f (by (first | (simp [eval_tmp, put_at]; done) | (simp [eval_tmp, put_at]; omega))) (by kernel_rfl) ?_
   refine aw_skip ?_
   (refine aw_ops (by kernel_rfl) (fun K hK => ?_); simp (disch := first | omega | (simp only [lnS]; try omega)) [-getElem?_pos, -getElem?_neg, h6]; refine hK _ _ ?_; clear hK K)
   refine ⟨c - 1, by omega, t + 1, by omega, rfl, by (first | (simp [put_at, put_none, fr0_at, h0]; done) | rfl), by (first | (simp [put_at, put_none, fr0_at, h1]; done) | rfl), by (first | (simp [put_at, put_none, fr0_at]; done) | rfl), ?_⟩
   rw [htake, List.all_append, hall]
   simp [hf]
 (refine aw_ops (by kernel_rfl) (fun K hK => ?_); simp (disch := first | omega | (simp only [lnS]; try omega)) [-getElem?_pos, -getElem?_neg, h1, h6, -notTuple, k1, k2, nt_intG, -xlen, k3, ht]; refine hK _ _ ?_; clear hK K)
 refine aw_f (by (first | (simp [eval_tmp, put_at, ht]; done) | (simp [eval_tmp, put_at, ht]; omega))) (by kernel_rfl) ?_
 refine aw_exit ?_
 obtain rfl : t = ps.length := by omega
 rw [List.take_length] at hall
 have hfound : ∀ k pk, ps[k]? = some pk → ∃ a, findN l l.length pk = some a := fun k pk hk => by
  have := List.all_eq_true.1 hall pk (List.mem_of_getElem? hk)
  cases hf : findN l l.length pk with
  | some a => exact ⟨a, rfl⟩
  | none => rw [hf] at this; cases this
 refine aw_seq ?_
 (refine aw_ops (by kernel_rfl) (fun K hK => ?_); simp (disch := first | omega | (simp only [lnS]; try omega)) [-getElem?_pos, -getElem?_neg]; refine hK _ _ ?_; clear hK K)
 refine aw_seq ?_
 refine aw_seq ?_
 (refine aw_ops (by kernel_rfl) (fun K hK => ?_); simp (disch := first | omega | (simp only [lnS]; try omega)) [-getElem?_pos, -getElem?_neg]; refine hK _ _ ?_; clear hK K)
 refine aw_block ?_
 refine aw_loop (fun c2 α G => ∃ (i : Nat) (v : Value) (F : List Nat), i + c2 = l.length ∧ α 0 = nv ∧ α 1 = pv ∧ α 7 = v ∧ α 8 = .int .i64 (i : Nat) ∧ Low H.length H G ∧ OwnF G v 3 1 (iv .i64 (((List.range i).filter (inB l l.length ps)).map fun k : Nat => (k : Int))) F ∧ ∀ j ∈ F, H.length ≤ j) l.length ?_ ?_
 ·exact ⟨0, .slice none 0 0, [], by omega, by (first | (simp [put_at, put_none, fr0_at, h0]; done) | rfl), by (first | (simp [put_at, put_none, fr0_at, h1]; done) | rfl), by (first | (simp [put_at, put_none, fr0_at]; done) | rfl), by (first | (simp [put_at, put_none, fr0_at]; done) | rfl), Low.refl (Nat.le_refl _), .inl ⟨rfl, rfl, rfl⟩, fun j hj => by cases hj⟩
 rintro c2 α G ⟨i, v, F, hic, h0, h1, h7, h8, hlow, hown, hF⟩
 obtain ⟨v1, v2⟩ := own_nt hown
 refine aw_seq ?_
 refine aw_seq ?_
 by_cases hi : i < l.length
 case neg =>
  (refine aw_ops (by kernel_rfl) (fun K hK => ?_); simp (disch := first | omega | (simp only [lnS]; try omega)) [-getElem?_pos, -getElem?_neg, h0, h8, -notTuple, hnt, hvc, nt_intG, -xlen, hxl, hi]; refine hK _ _ ?_; clear hK K)
  refine aw_f (by (first | (simp [eval_tmp, put_at, hi]; done) | (simp [eval_tmp, put_at, hi]; omega))) (by kernel_rfl) ?_
  refine aw_exit ?_
  obtain rfl : i = l.length := by omega
  refine aw_seq ?_
  (refine aw_ops (by kernel_rfl) (fun K hK => ?_); simp (disch := first | omega | (simp only [lnS]; try omega)) [-getElem?_pos, -getElem?_neg, h7, -notTuple, v1, v2, nt_boolG]; refine hK _ _ ?_; clear hK K)
  (refine aw_ret ?_; simp (disch := first | omega | (simp only [lnS]; try omega)) [-getElem?_pos, -getElem?_neg, thenQ_ret, scopeQ_ret, inBlockQ_ret, RQ, resL, resV])
  refine ⟨_, ⟨v1, rfl⟩, ?_⟩
  exact ⟨hlow, .inl ⟨hall, v, F, rfl, hown, hF⟩⟩
 (refine aw_ops (by kernel_rfl) (fun K hK => ?_); simp (disch := first | omega | (simp only [lnS]; try omega)) [-getElem?_pos, -getElem?_neg, h0, h8, -notTuple, hnt, hvc, nt_intG, -xlen, hxl, hi]; refine hK _ _ ?_; clear hK K)
 refine aw_t (by (first | (simp [eval_tmp, put_at, hi]; done) | (simp [eval_tmp, put_at, hi]; omega))) (by kernel_rfl) ?_
 refine aw_skip ?_
 refine aw_seq ?_
 refine aw_block ?_
 refine aw_seq ?_
 (refine aw_ops (by kernel_rfl) (fun K hK => ?_); simp (disch := first | omega | (simp only [lnS]; try omega)) [-getElem?_pos, -getElem?_neg]; refine hK _ _ ?_; clear hK K)
 refine aw_seq ?_
 refine aw_seq ?_
 (refine aw_ops (by kernel_rfl) (fun K hK => ?_); simp (disch := first | omega | (simp only [lnS]; try omega)) [-getElem?_pos, -getElem?_neg]; refine hK _ _ ?_; clear hK K)
 refine aw_block ?_
 refine aw_loop (fun c3 α G' => ∃ t : Nat, t + c3 = ps.length ∧ G = G' ∧ α 0 = nv ∧ α 1 = pv ∧ α 7 = v ∧ α 8 = .int .i64 (i : Nat) ∧ α 9 = .bool (inB l l.length (ps.take t) i) ∧ α 10 = .int .i64 (t : Nat)) ps.length ?_ ?_
 ·exact ⟨0, by omega, rfl, by (first | (simp [put_at, put_none, fr0_at, h0]; done) | rfl), by (first | (simp [put_at, put_none, fr0_at, h1]; done) | rfl), by (first | (simp [put_at, put_none, fr0_at, h7]; done) | rfl), by (first | (simp [put_at, put_none, fr0_at, h8]; done) | rfl), by (first | (simp [put_at, put_none, fr0_at]; done) | rfl), by (first | (simp [put_at, put_none, fr0_at]; done) | rfl)⟩
 rintro c3 α G' ⟨t, htc, rfl, h0, h1, h7, h8, h9, h10⟩
 refine aw_seq ?_
 refine aw_seq ?_
 by_cases ht : t < ps.length
 case pos =>
  obtain ⟨p, x, p1, p2, p3, p4, p5⟩ := hacc.at_ t ht
  subst p4
  obtain ⟨pk, hpk'⟩ : ∃ pk, pk = ps.getD t [] := ⟨_, rfl⟩
  rw [← hpk'] at p5 p3
  have hpm' : ps[t]? = some pk := by rw [hpk', List.getD_eq_getElem?_getD, List.getElem?_eq_getElem ht]; rfl
  have hpl : pk.length = 32 := hpk pk (List.mem_of_getElem? hpm')
  have htake : ps.take (t + 1) = ps.take t ++ [pk] := by rw [List.take_add_one, hpm']; rfl
  have p5 := p5 G hlow
  obtain ⟨a, hf⟩ := hfound t pk hpm'
  have hal := findN_lt hf
  have hfi := rFind_rc (γ := γ) (hN'.lowG hlow) (by simp only [maxLen]; omega) hpl
  unfold findI at hfi
  rw [hf] at hfi
  have hB := inB_app l l.length (ps.take t) pk i a hf
  rw [← htake] at hB
  obtain ⟨j2, q2, bb2, qv2, hx2, hbb2, hc2, hi2, hml2, n1, n2⟩ := hN'.past_at hlow hal
  have hin := rIn_rc (γ := γ) (hi2.lowG hlow) hml2 (i : Int)
  (refine aw_ops (by kernel_rfl) (fun K hK => ?_); simp (disch := first | omega | (simp only [lnS]; try omega)) [-getElem?_pos, -getElem?_neg, h1, h10, -notTuple, k1, k2, nt_intG, -xlen, k3, ht]; refine hK _ _ ?_; clear hK K)
  refine aw_t (by (first | (simp [eval_tmp, put_at, ht]; done) | (simp [eval_tmp, put_at, ht]; omega))) (by kernel_rfl) ?_
  refine aw_skip ?_
  refine aw_seq ?_
  refine aw_block ?_
  refine aw_seq ?_
  refine aw_ops (by kernel_rfl) (fun K hK => ?_)
  simp (disch := first | omega | (simp only [lnS]; try omega)) [-getElem?_pos, -getElem?_neg, h0, h1, h10, -notTuple, hnt, hvc, k1, k2, p1, p3, nt_intG, nt_aggG, -xindexAddr, p2, -xload, p5]
  refine ⟨by kernel_rfl, ac_of_rc hfi (by simp [pv_iv, pv_int, pv_bool, pv_string, pv_tup2, pv_tup3, iv_plain, p2_int, p2_bool, p2_string]) ?_⟩
  try simp (disch := first | omega | (simp only [lnS]; try omega)) [-getElem?_pos, -getElem?_neg]
  refine hK _ _ ?_; clear hK K
  obtain ⟨B1, hB1⟩ : ∃ B, B = inB l l.length (ps.take (t + 1)) i := ⟨_, rfl⟩
  obtain ⟨B0, hB0⟩ : ∃ B, B = inB l l.length (ps.take t) i := ⟨_, rfl⟩
  rw [← hB1, ← hB0] at hB
  rw [← hB0] at h9
  obtain ⟨B2, hB2⟩ : ∃ B, B = decide ((i : Int) ∈ (nd l a).past) := ⟨_, rfl⟩
  rw [← hB2] at hB hin
  clear hB0 hB2
  cases B0 with
  | true =>
   refine aw_ops (by kernel_rfl) (fun K hK => ?_)
   simp (disch := first | omega | (simp only [lnS]; try omega)) [-getElem?_pos, -getElem?_neg, h9]
   refine hK _ _ ?_; clear hK K
   (refine aw_ops (by kernel_rfl) (fun K hK => ?_); simp (disch := first | omega | (simp only [lnS]; try omega)) [-getElem?_pos, -getElem?_neg, h10]; refine hK _ _ ?_; clear hK K)
   exact ⟨c3 - 1, by omega, t + 1, by omega, rfl, by (first | (simp [put_at, put_none, fr0_at, h0]; done) | rfl), by (first | (simp [put_at, put_none, fr0_at, h1]; done) | rfl), by (first | (simp [put_at, put_none, fr0_at, h7]; done) | rfl), by (first | (simp [put_at, put_none, fr0_at, h8]; done) | rfl), by rw [← hB1, hB]; (first | (simp [put_at, put_none, fr0_at]; done) | rfl), by (first | (simp [put_at, put_none, fr0_at]; done) | rfl)⟩
  | false =>
   refine aw_ops (by kernel_rfl) (fun K hK => ?_)
   by_cases hai : a = i
   ·have hab : ((a : Int) == (i : Int)) = true := by simp [hai]
    simp (disch := first | omega | (simp only [lnS]; try omega)) [-getElem?_pos, -getElem?_neg, h8, h9, hai, hab]
    refine hK _ _ ?_; clear hK K
    (refine aw_ops (by kernel_rfl) (fun K hK => ?_); simp (disch := first | omega | (simp only [lnS]; try omega)) [-getElem?_pos, -getElem?_neg, h10]; refine hK _ _ ?_; clear hK K)
    exact ⟨c3 - 1, by omega, t + 1, by omega, rfl, by (first | (simp [put_at, put_none, fr0_at, h0]; done) | rfl), by (first | (simp [put_at, put_none, fr0_at, h1]; done) | rfl), by (first | (simp [put_at, put_none, fr0_at, h7]; done) | rfl), by (first | (simp [put_at, put_none, fr0_at, h8]; done) | rfl), by rw [← hB1, hB]; simp [hai, put_at], by (first | (simp [put_at, put_none, fr0_at]; done) | rfl)⟩
   ·have hab : ((a : Int) == (i : Int)) = false := by
     rw [Bool.eq_false_iff]
     simp
     omega
    simp (disch := first | omega | (simp only [lnS]; try omega)) [-getElem?_pos, -getElem?_neg, h0, h8, h9, hai, hab, -notTuple, hnt, hvc, n1, n2, nt_intG, -xindexAddr, hx2, hbb2, hc2]
    refine ⟨by kernel_rfl, ac_of_rc hin (by simp [pv_iv, pv_int, pv_bool, pv_string, pv_tup2, pv_tup3, iv_plain, p2_int, p2_bool, p2_string]) ?_⟩
    try simp (disch := first | omega | (simp only [lnS]; try omega)) [-getElem?_pos, -getElem?_neg]
    refine hK _ _ ?_; clear hK K
    (refine aw_ops (by kernel_rfl) (fun K hK => ?_); simp (disch := first | omega | (simp only [lnS]; try omega)) [-getElem?_pos, -getElem?_neg, h10]; refine hK _ _ ?_; clear hK K)
    exact ⟨c3 - 1, by omega, t + 1, by omega, rfl, by (first | (simp [put_at, put_none, fr0_at, h0]; done) | rfl), by (first | (simp [put_at, put_none, fr0_at, h1]; done) | rfl), by (first | (simp [put_at, put_none, fr0_at, h7]; done) | rfl), by (first | (simp [put_at, put_none, fr0_at, h8]; done) | rfl), by rw [← hB1, hB]; simp [hai, put_at], by (first | (simp [put_at, put_none, fr0_at]; done) | rfl)⟩
 (refine aw_ops (by kernel_rfl) (fun K hK => ?_); simp (disch := first | omega | (simp only [lnS]; try omega)) [-getElem?_pos, -getElem?_neg, h1, h10, -notTuple, k1, k2, nt_intG, -xlen, k3, ht]; refine hK _ _ ?_; clear hK K)
 refine aw_f (by (first | (simp [eval_tmp, put_at, ht]; done) | (simp [eval_tmp, put_at, ht]; omega))) (by kernel_rfl) ?_
 refine aw_exit ?_
 obtain rfl : t = ps.length := by omega
 rw [List.take_length] at h9
 have hsu := pastL_succ l l.length i ps
 have hol := pastL_len l l.length i ps
 generalize ((List.range i).filter (inB l l.length ps)).map (fun k : Nat => (k : Int)) = out at *
 generalize inB l l.length ps i = B at *
 refine aw_seq ?_
 cases B with
 | false =>
  (refine aw_ops (by kernel_rfl) (fun K hK => ?_); simp (disch := first | omega | (simp only [lnS]; try omega)) [-getElem?_pos, -getElem?_neg, h9]; refine hK _ _ ?_; clear hK K)
  refine aw_f (by (first | (simp [eval_tmp, put_at]; done) | (simp [eval_tmp, put_at]; omega))) (by kernel_rfl) ?_
  refine aw_skip ?_
  (refine aw_ops (by kernel_rfl) (fun K hK => ?_); simp (disch := first | omega | (simp only [lnS]; try omega)) [-getElem?_pos, -getElem?_neg, h8]; refine hK _ _ ?_; clear hK K)
  exact ⟨c2 - 1, by omega, i + 1, v, F, by omega, by (first | (simp [put_at, put_none, fr0_at, h0]; done) | rfl), by (first | (simp [put_at, put_none, fr0_at, h1]; done) | rfl), by (first | (simp [put_at, put_none, fr0_at, h7]; done) | rfl), by (first | (simp [put_at, put_none, fr0_at]; done) | rfl), hlow, by rw [hsu]; simpa using hown, hF⟩
 | true =>
  (refine aw_ops (by kernel_rfl) (fun K hK => ?_); simp (disch := first | omega | (simp only [lnS]; try omega)) [-getElem?_pos, -getElem?_neg, h9]; refine hK _ _ ?_; clear hK K)
  refine aw_t (by (first | (simp [eval_tmp, put_at]; done) | (simp [eval_tmp, put_at]; omega))) (by kernel_rfl) ?_
  have hxc : xcells 1 (.slice (some ⟨G.length, 0, none⟩) 1 1) (G ++ [some ⟨[.int .i64 (i : Nat)], 3, some 1⟩]) = some (iv .i64 [(i : Int)]) := by simp [xcells, iv, hget_app0]
  obtain ⟨v', G3, hap, ho3, hl3, hk3⟩ := ownF_append (P := Try.prog) (nro := H.length) (t := 23) (e := 3) (H := G ++ [some ⟨[.int .i64 (i : Nat)], 3, some 1⟩]) (v := v) (x := .slice (some ⟨G.length, 0, none⟩) 1 1) (sz := 1) (cells := iv .i64 out) (news := iv .i64 [(i : Int)]) (F := F) (by simp) (by simp) (by omega) (by simp) (hown.low (fun j hj => hget_left (hown.lt j hj)))
   hF (fun s e => by cases e) hxc (by simp [iv]) (Nat.mod_one _) (by rw [iv_length, iv_length]; simp; omega) (by rw [iv_length, iv_length]; simp [maxLen]; omega)
  (refine aw_ops (by kernel_rfl) (fun K hK => ?_); simp (disch := first | omega | (simp only [lnS]; try omega)) [-getElem?_pos, -getElem?_neg, h7, h8, -notTuple, v1, v2, nt_intG, nt_slG, -xappend, hap]; refine hK _ _ ?_; clear hK K)
  (refine aw_ops (by kernel_rfl) (fun K hK => ?_); simp (disch := first | omega | (simp only [lnS]; try omega)) [-getElem?_pos, -getElem?_neg, h8]; refine hK _ _ ?_; clear hK K)
  have hlow3 : Low H.length H G3 := ⟨fun j hj => (hk3 j (by have := hlow.2; simp; omega) (fun h => by have := hF _ h; omega)).trans ((hget_left (by have := hlow.2; omega)).trans (hlow.1 j hj)), by have := hlow.2; rw [hl3]; simp; omega⟩
  refine ⟨c2 - 1, by omega, i + 1, v', _, by omega, by (first | (simp [put_at, put_none, fr0_at, h0]; done) | rfl), by (first | (simp [put_at, put_none, fr0_at, h1]; done) | rfl), by (first | (simp [put_at, put_none, fr0_at]; done) | rfl), by (first | (simp [put_at, put_none, fr0_at]; done) | rfl), hlow3, by rw [hsu, if_pos rfl, iv_append]; exact ho3, fun j hj => ?_⟩
  rw [List.mem_singleton] at hj
  rw [hj]
  have := hlow.2
  simp; omega
end
section
theorem list_getD_ext {a b : List Int} (hl : a.length = b.length) (h : ∀ k, k < a.length → a.getD k 0 = b.getD k 0) : a = b := by
 refine List.ext_getElem hl fun k h1 h2 => ?_
 have := h k h1
 rw [List.getD_eq_getElem?_getD, List.getD_eq_getElem?_getD, List.getElem?_eq_getElem h1, List.getElem?_eq_getElem h2] at this
 exact this
attribute [local simp] wb_bool wb_undef with_lit XL_nil XL_cons XLc_val XLc_call step1_eq stepW_t stepW_f stepC_n stepC_s stepX_s stepX_n stepN_s calleeX oneV xop_eq xopR_s xopR_n wantedA_eq wantedG_n wantedG_s plain1_int plain1_bool plain1_string bits_i64 bits_u64 bits_u32 bits_u16 bits_u8 xeqA xagg xcmp xarr allK_iv num_iv calleeOf xread xeff xbin xint xnil xun xstr xload xconv xpart xfield xfieldAddr xindexAddr xindex bnd asInt? xslice xlen xmin xmax xbuild xfill xappend xapp2 xappstr xappmk xcap xcopy xcells eval_tmp eval_const put_at put_none fr0_at cells_agg cells_int cells_bool cells_string cells_ptr cells_slice notTuple tab iv_all hget_app hget_app0 hget_cons0 hget_cons set_app set_app0 setR setR_one QL_nil QL_cons QLc_val stepQ_t stepQ_f stepQC_n stepQC_s stepQX_s SL_nil SL_cons SLc_val stepS_t stepS_f ltT ltF leT leF eqT eqF ltTn ltFn leTn leFn eqTn eqFn beqT beqF bneT bneF wi64 wu64 wu32 wu16 wu8 tmodP tdivP hgetL hgetNe hgetEq setL nums_def nums_len Nat.succ_le_of_lt List.getElem?_cons_zero List.getElem?_cons_succ Option.getD_some Int.toNat_add Int.toNat_mul agM okM agB agI agS agP agL agA okB okI okS okP okSl okA
theorem sameInts_rc {γ : Nat → Option Nat} {H : AH} {u v : Value} {a b : List Int} (ha : InV H u a) (hb : InV H v b) (hm : a.length ≤ maxLen) : AC Try.prog H.length γ 21 #[u, v] H (fun v' _ => v' = .bool (decide (a = b))) := by
 obtain ⟨hnt, hvc, hxl, hat⟩ := ha.acc
 obtain ⟨hnt2, hvc2, hxl2, hat2⟩ := hb.acc
 have hm63 : a.length ≤ 9223372036854775807 := by simp only [maxLen] at hm; omega
 refine ac_of_aw Try.func21 rfl Try.ntmps21 Try.results21 (by simp) ?_
 refine aw_seq ?_
 (refine aw_ops (by kernel_rfl) (fun K hK => ?_); simp (disch := first | omega | (simp only [lnS]; try omega)) [-getElem?_pos, -getElem?_neg]; refine hK _ _ ?_; clear hK K)
 refine aw_seq ?_
 refine aw_seq ?_
 by_cases hab : a.length = b.length
 case neg =>
  have hne : ((a.length : Int) == (b.length : Int)) = false := by
   rw [Bool.eq_false_iff]; simp; omega
  (refine aw_ops (by kernel_rfl) (fun K hK => ?_); simp (disch := first | omega | (simp only [lnS]; try omega)) [-getElem?_pos, -getElem?_neg, -notTuple, hnt, hvc, hnt2, hvc2, nt_intG, -xlen, hxl, hxl2, hab, hne]; refine hK _ _ ?_; clear hK K)
  refine aw_t (by (first | (simp [eval_tmp, put_at]; done) | (simp [eval_tmp, put_at]; omega))) (by kernel_rfl) ?_
  refine aw_seq ?_
  (refine aw_ops (by kernel_rfl) (fun K hK => ?_); simp (disch := first | omega | (simp only [lnS]; try omega)) [-getElem?_pos, -getElem?_neg]; refine hK _ _ ?_; clear hK K)
  (refine aw_ret ?_; simp (disch := first | omega | (simp only [lnS]; try omega)) [-getElem?_pos, -getElem?_neg, thenQ_ret, scopeQ_ret, inBlockQ_ret, RQ, resL, resV])
  all_goals exact fun h => hab (congrArg List.length h)
 (refine aw_ops (by kernel_rfl) (fun K hK => ?_); simp (disch := first | omega | (simp only [lnS]; try omega)) [-getElem?_pos, -getElem?_neg, -notTuple, hnt, hvc, hnt2, hvc2, nt_intG, -xlen, hxl, hxl2, hab]; refine hK _ _ ?_; clear hK K)
 refine aw_f (by (first | (simp [eval_tmp, put_at]; done) | (simp [eval_tmp, put_at]; omega))) (by kernel_rfl) ?_
 refine aw_skip ?_
 refine aw_seq ?_
 refine aw_seq ?_
 (refine aw_ops (by kernel_rfl) (fun K hK => ?_); simp (disch := first | omega | (simp only [lnS]; try omega)) [-getElem?_pos, -getElem?_neg]; refine hK _ _ ?_; clear hK K)
 refine aw_block ?_
 refine aw_loop (fun c α G => ∃ i : Nat, i + c = a.length ∧ H = G ∧ α 0 = u ∧ α 1 = v ∧ α 5 = .int .i64 (i : Nat) ∧ ∀ k, k < i → a.getD k 0 = b.getD k 0) a.length ?_ ?_
 ·exact ⟨0, by omega, rfl, by (first | (simp [put_at, put_none, fr0_at]; done) | rfl), by (first | (simp [put_at, put_none, fr0_at]; done) | rfl), by (first | (simp [put_at, put_none, fr0_at]; done) | rfl), fun k hk => by omega⟩
 rintro c α G ⟨i, hic, rfl, h0, h1, h5, hpre⟩
 refine aw_seq ?_
 refine aw_seq ?_
 rw [← hab] at hxl2
 by_cases hi : i < a.length
 case neg =>
  (refine aw_ops (by kernel_rfl) (fun K hK => ?_); simp (disch := first | omega | (simp only [lnS]; try omega)) [-getElem?_pos, -getElem?_neg, h0, h5, -notTuple, hnt, hvc, nt_intG, -xlen, hxl, hi]; refine hK _ _ ?_; clear hK K)
  refine aw_f (by (first | (simp [eval_tmp, put_at, hi]; done) | (simp [eval_tmp, put_at, hi]; omega))) (by kernel_rfl) ?_
  refine aw_exit ?_
  refine aw_seq ?_
  (refine aw_ops (by kernel_rfl) (fun K hK => ?_); simp (disch := first | omega | (simp only [lnS]; try omega)) [-getElem?_pos, -getElem?_neg]; refine hK _ _ ?_; clear hK K)
  (refine aw_ret ?_; simp (disch := first | omega | (simp only [lnS]; try omega)) [-getElem?_pos, -getElem?_neg, thenQ_ret, scopeQ_ret, inBlockQ_ret, RQ, resL, resV])
  exact list_getD_ext hab (fun k hk => hpre k (by omega))
 (refine aw_ops (by kernel_rfl) (fun K hK => ?_); simp (disch := first | omega | (simp only [lnS]; try omega)) [-getElem?_pos, -getElem?_neg, h0, h5, -notTuple, hnt, hvc, nt_intG, -xlen, hxl, hi]; refine hK _ _ ?_; clear hK K)
 refine aw_t (by (first | (simp [eval_tmp, put_at, hi]; done) | (simp [eval_tmp, put_at, hi]; omega))) (by kernel_rfl) ?_
 refine aw_skip ?_
 refine aw_seq ?_
 refine aw_block ?_
 obtain ⟨p, x, q1, q2, q3, rfl, q4⟩ := hat i hi
 obtain ⟨p2, x2, q12, q22, q32, rfl, q42⟩ := hat2 i (by omega)
 have q4 := q4 H (Low.refl (Nat.le_refl _))
 have q42 := q42 H (Low.refl (Nat.le_refl _))
 obtain ⟨y, hy⟩ : ∃ y, y = a.getD i 0 := ⟨_, rfl⟩
 obtain ⟨z, hz⟩ : ∃ z, z = b.getD i 0 := ⟨_, rfl⟩
 rw [← hy] at q4
 rw [← hz] at q42
 refine aw_seq ?_
 by_cases hyz : y = z
 case neg =>
  have hyb : (y == z) = false := by simp [hyz]
  (refine aw_plan [] [] [0, 1, 2, 3, 4, 5, 6, 7, 8] 9 0 (by kernel_rfl) (by kernel_rfl) (by kernel_rfl) (fun K hK => ?_)); simp only [sel, List.getElem?_cons_succ, List.getElem?_cons_zero, List.drop_succ_cons, List.drop_zero]; simp (disch := first | omega | (simp only [lnS]; try omega)) [-getElem?_pos, -getElem?_neg, h0, h1, h5, -notTuple, hnt, hvc, hnt2, hvc2, q1, q12, nt_intG, -xindexAddr, q2, q22, -xload, q4, q42, hyz, hyb, PL_nil, plainB_lit, PL_cons, PLc_val, PLc_new, stepP_t, stepP_f, stepPC_n, stepPC_s, stepPX_s, stepPX_n, stepPV_n, stepPV_s, stepPA_t, stepPA_c, stepPA_l, stepPN_s, allocOp, reloc_sl, reloc_ptr, List.map_cons, List.map_nil, List.nil_append, List.append_assoc, List.cons_append, Nat.add_assoc]
  refine hK _ _ ?_; clear hK K
  refine aw_t (by (first | (simp [eval_tmp, put_at]; done) | (simp [eval_tmp, put_at]; omega))) (by kernel_rfl) ?_
  refine aw_seq ?_
  (refine aw_ops (by kernel_rfl) (fun K hK => ?_); simp (disch := first | omega | (simp only [lnS]; try omega)) [-getElem?_pos, -getElem?_neg]; refine hK _ _ ?_; clear hK K)
  (refine aw_ret ?_; simp (disch := first | omega | (simp only [lnS]; try omega)) [-getElem?_pos, -getElem?_neg, thenQ_ret, scopeQ_ret, inBlockQ_ret, RQ, resL, resV])
  intro h
  rw [hy, hz, h] at hyz
  exact hyz rfl
 have hyb : (y == z) = true := by simp [hyz]
 (refine aw_plan [] [] [0, 1, 2, 3, 4, 5, 6, 7, 8] 9 0 (by kernel_rfl) (by kernel_rfl) (by kernel_rfl) (fun K hK => ?_)); simp only [sel, List.getElem?_cons_succ, List.getElem?_cons_zero, List.drop_succ_cons, List.drop_zero]; simp (disch := first | omega | (simp only [lnS]; try omega)) [-getElem?_pos, -getElem?_neg, h0, h1, h5, -notTuple, hnt, hvc, hnt2, hvc2, q1, q12, nt_intG, -xindexAddr, q2, q22, -xload, q4, q42, hyz, hyb, PL_nil, plainB_lit, PL_cons, PLc_val, PLc_new, stepP_t, stepP_f, stepPC_n, stepPC_s, stepPX_s, stepPX_n, stepPV_n, stepPV_s, stepPA_t, stepPA_c, stepPA_l, stepPN_s, allocOp, reloc_sl, reloc_ptr, List.map_cons, List.map_nil, List.nil_append, List.append_assoc, List.cons_append, Nat.add_assoc]
 refine hK _ _ ?_; clear hK K
 refine aw_f (by (first | (simp [eval_tmp, put_at]; done) | (simp [eval_tmp, put_at]; omega))) (by kernel_rfl) ?_
 refine aw_skip ?_
 (refine aw_ops (by kernel_rfl) (fun K hK => ?_); simp (disch := first | omega | (simp only [lnS]; try omega)) [-getElem?_pos, -getElem?_neg, h5]; refine hK _ _ ?_; clear hK K)
 refine ⟨c - 1, by omega, i + 1, by omega, rfl, by (first | (simp [put_at, put_none, fr0_at, h0]; done) | rfl), by (first | (simp [put_at, put_none, fr0_at, h1]; done) | rfl), by (first | (simp [put_at, put_none, fr0_at]; done) | rfl), fun k hk => ?_⟩
 by_cases e : k = i
 ·subst e
  rw [← hy, ← hz, hyz]
 ·exact hpre k (by omega)
end
section
def kind1B (o : OpD) (inn : Bool) : Bool := if o.kind = 1 then inn && (decide (o.parents.length = 0) && decide (o.seq = 1)) else decide (0 < o.parents.length)
def kind2B (o : OpD) (inn : Bool) : Bool := if o.kind = 2 ∨ o.kind = 3 then !inn && decide (o.who.length = 1) else if 3 < o.kind then decide (o.who.length = 0) else true
def kind3B (o : OpD) : Bool := decide (o.kind = 5 ∨ o.kind = 6) == !decide (o.of = zl 32)
def kind4B (o : OpD) : Bool := if o.kind = 7 then decide (o.check = zl 32) && decide (0 < o.text.size) else !decide (o.check = zl 32) && decide (o.text.size = 0)
def kindB (o : OpD) (inn : Bool) : Bool := kind1B o inn && (kind2B o inn && (kind3B o && kind4B o))
attribute [local simp] wb_bool wb_undef with_lit XL_nil XL_cons XLc_val XLc_call step1_eq stepW_t stepW_f stepC_n stepC_s stepX_s stepX_n stepN_s calleeX oneV xop_eq xopR_s xopR_n wantedA_eq wantedG_n wantedG_s plain1_int plain1_bool plain1_string bits_i64 bits_u64 bits_u32 bits_u16 bits_u8 xeqA xagg xcmp xarr allK_iv num_iv calleeOf xread xeff xbin xint xnil xun xstr xload xconv xpart xfield xfieldAddr xindexAddr xindex bnd asInt? xslice xlen xmin xmax xbuild xfill xappend xapp2 xappstr xappmk xcap xcopy xcells eval_tmp eval_const put_at put_none fr0_at cells_agg cells_int cells_bool cells_string cells_ptr cells_slice notTuple tab iv_all hget_app hget_app0 hget_cons0 hget_cons set_app set_app0 setR setR_one QL_nil QL_cons QLc_val stepQ_t stepQ_f stepQC_n stepQC_s stepQX_s SL_nil SL_cons SLc_val stepS_t stepS_f ltT ltF leT leF eqT eqF ltTn ltFn leTn leFn eqTn eqFn beqT beqF bneT bneF wi64 wu64 wu32 wu16 wu8 tmodP tdivP hgetL hgetNe hgetEq setL nums_def nums_len Nat.succ_le_of_lt List.getElem?_cons_zero List.getElem?_cons_succ Option.getD_some Int.toNat_add Int.toNat_mul agM okM agB agI agS agP agL agA okB okI okS okP okSl okA
theorem rkind_rc {γ : Nat → Option Nat} {H : AH} {us : List Value} {o : OpD} {pv wv bv : Value} (h : OpC H us o pv wv bv) (hw : o.Wf) (inn : Bool) : AC Try.prog H.length γ 114 #[.agg us.toArray, .bool inn] H (fun v' _ => v' = .bool (kindB o inn)) := by
 have hlen := h.len
 have c1 := h.c1
 have c2 := h.c2
 have c3 := h.c3
 have c4 := h.c4
 have c5 := h.of
 have c6 := h.check
 have c69 := h.c69
 have l5 := hw.of.1
 have l6 := hw.check.1
 have pa := h.parents.acc (fun k hk => (hw.parents k hk).1)
 have wa := h.who.acc
 have p1 := pa.nt
 have p2 := pa.cs
 have p3 := pa.len
 have w1 := wa.nt
 have w2 := wa.cs
 have w3 := wa.len
 obtain ⟨np, hnp⟩ : ∃ n, n = o.parents.length := ⟨_, rfl⟩
 obtain ⟨nw, hnw⟩ : ∃ n, n = o.who.length := ⟨_, rfl⟩
 rw [← hnp] at p3
 rw [← hnw] at w3
 have hK1 : kind1B o inn = if o.kind = 1 then inn && (decide (np = 0) && decide (o.seq = 1)) else decide (0 < np) := by rw [hnp]; rfl
 have hK2 : kind2B o inn = if o.kind = 2 ∨ o.kind = 3 then !inn && decide (nw = 1) else if 3 < o.kind then decide (nw = 0) else true := by rw [hnw]; rfl
 have bad1 : kind1B o inn = false → kindB o inn = false := fun e => by unfold kindB; rw [e]; rfl
 have bad2 : kind2B o inn = false → kindB o inn = false := fun e => by unfold kindB; rw [e]; simp
 have bad3 : kind3B o = false → kindB o inn = false := fun e => by unfold kindB; rw [e]; simp
 refine ac_of_aw Try.func114 rfl Try.ntmps114 Try.results114 (by simp) ?_
 refine aw_seq ?_
 (refine aw_ops (by kernel_rfl) (fun K hK => ?_); simp (disch := first | omega | (simp only [lnS]; try omega)) [-getElem?_pos, -getElem?_neg, hlen]; refine hK _ _ ?_; clear hK K)
 obtain ⟨hlow, hb⟩ := boxed (H := H) us 41
 generalize H ++ [some ⟨us, 41, none⟩] = G at *
 have hlowl := hlow.2
 refine aw_seq ?_
 have hz1 : setR (iv .u8 (zl 32)) 0 (iv .u8 (zl 32)) = iv .u8 (zl 32) := setR_all _ _ rfl
 (refine aw_ops (by kernel_rfl) (fun K hK => ?_); simp (disch := first | omega | (simp only [lnS]; try omega)) [-getElem?_pos, -getElem?_neg, all_zl, hz1, hlowl]; refine hK _ _ ?_; clear hK K)
 have hb1 : hget (G ++ [some ⟨iv .u8 (zl 32), 38, none⟩]) H.length = some ⟨us, 41, none⟩ := hget_left' hb
 have hb2 : hget (G ++ [some ⟨iv .u8 (zl 32), 38, none⟩]) G.length = some ⟨iv .u8 (zl 32), 38, none⟩ := by rw [hget_app0]; rfl
 generalize G ++ [some ⟨iv .u8 (zl 32), 38, none⟩] = G2 at *
 generalize G.length = g at *
 have hz2 : (zl 32).length = 32 := rfl
 have hz3 : (iv .u8 (zl 32)).take 32 = iv .u8 (zl 32) := rfl
 obtain ⟨b, hbe⟩ : ∃ b, b = H.length := ⟨_, rfl⟩
 rw [← hbe] at hb1 ⊢
 refine aw_seq ?_
 refine aw_seq ?_
 refine aw_cut (fun α G' => G2 = G' ∧ α 1 = .bool inn ∧ α 2 = .pointer (some ⟨b, 0, none⟩) ∧ α 5 = .pointer (some ⟨g, 0, none⟩) ∧ α 35 = .bool (!kind1B o inn)) ?_ ?_
 ·rw [hK1]
  by_cases k1 : o.kind = 1
  ·cases inn with
   | false =>
    (refine aw_ops (by kernel_rfl) (fun K hK => ?_); simp (disch := first | omega | (simp only [lnS]; try omega)) [-getElem?_pos, -getElem?_neg, hb1, hlen, c3, k1]; refine hK _ _ ?_; clear hK K)
    exact ⟨rfl, by (first | (simp [put_at, put_none, fr0_at]; done) | rfl), by (first | (simp [put_at, put_none, fr0_at]; done) | rfl), by (first | (simp [put_at, put_none, fr0_at]; done) | rfl), by simp [put_at, k1]⟩
   | true =>
    by_cases n0 : 0 < np
    ·have n0' : ¬ np = 0 := by omega
     (refine aw_ops (by kernel_rfl) (fun K hK => ?_); simp (disch := first | omega | (simp only [lnS]; try omega)) [-getElem?_pos, -getElem?_neg, hb1, hlen, c3, c2, k1, -notTuple, p1, p2, nt_intG, -xlen, p3, n0]; refine hK _ _ ?_; clear hK K)
     exact ⟨rfl, by (first | (simp [put_at, put_none, fr0_at]; done) | rfl), by (first | (simp [put_at, put_none, fr0_at]; done) | rfl), by (first | (simp [put_at, put_none, fr0_at]; done) | rfl), by simp [put_at, k1, n0']⟩
    ·have n0' : np = 0 := by omega
     clear hK1
     subst n0'
     by_cases hs : o.seq = 1
     ·have hs' : (o.seq == 1) = true := by simp [hs]
      (refine aw_ops (by kernel_rfl) (fun K hK => ?_); simp (disch := first | omega | (simp only [lnS]; try omega)) [-getElem?_pos, -getElem?_neg, hb1, hlen, c3, c2, c1, k1, -notTuple, p1, p2, nt_intG, -xlen, p3, hs']; refine hK _ _ ?_; clear hK K)
      exact ⟨rfl, by (first | (simp [put_at, put_none, fr0_at]; done) | rfl), by (first | (simp [put_at, put_none, fr0_at]; done) | rfl), by (first | (simp [put_at, put_none, fr0_at]; done) | rfl), by simp [put_at, k1, hs]⟩
     ·have hs' : (o.seq == 1) = false := by simp [hs]
      (refine aw_ops (by kernel_rfl) (fun K hK => ?_); simp (disch := first | omega | (simp only [lnS]; try omega)) [-getElem?_pos, -getElem?_neg, hb1, hlen, c3, c2, c1, k1, -notTuple, p1, p2, nt_intG, -xlen, p3, hs']; refine hK _ _ ?_; clear hK K)
      exact ⟨rfl, by (first | (simp [put_at, put_none, fr0_at]; done) | rfl), by (first | (simp [put_at, put_none, fr0_at]; done) | rfl), by (first | (simp [put_at, put_none, fr0_at]; done) | rfl), by simp [put_at, k1, hs]⟩
  ·have k1' : (o.kind == 1) = false := by simp [k1]
   (refine aw_ops (by kernel_rfl) (fun K hK => ?_); simp (disch := first | omega | (simp only [lnS]; try omega)) [-getElem?_pos, -getElem?_neg, hb1, hlen, c3, c2, k1, k1', -notTuple, p1, p2, nt_intG, -xlen, p3]; refine hK _ _ ?_; clear hK K)
   refine ⟨rfl, by (first | (simp [put_at, put_none, fr0_at]; done) | rfl), by (first | (simp [put_at, put_none, fr0_at]; done) | rfl), by (first | (simp [put_at, put_none, fr0_at]; done) | rfl), ?_⟩
   simp [put_at, k1]
   rw [Bool.eq_iff_iff]
   simp
 rintro α G' ⟨rfl, h1, h2, h5, h35⟩
 cases q1 : kind1B o inn with
 | false =>
  rw [q1] at h35
  refine aw_t (by (first | (simp [eval_tmp, put_at, h35]; done) | (simp [eval_tmp, put_at, h35]; omega))) (by kernel_rfl) ?_
  refine aw_seq ?_
  (refine aw_ops (by kernel_rfl) (fun K hK => ?_); simp (disch := first | omega | (simp only [lnS]; try omega)) [-getElem?_pos, -getElem?_neg]; refine hK _ _ ?_; clear hK K)
  (refine aw_ret ?_; simp (disch := first | omega | (simp only [lnS]; try omega)) [-getElem?_pos, -getElem?_neg, thenQ_ret, scopeQ_ret, inBlockQ_ret, RQ, resL, resV])
  rw [bad1 q1]
 | true =>
 rw [q1] at h35
 refine aw_f (by (first | (simp [eval_tmp, put_at, h35]; done) | (simp [eval_tmp, put_at, h35]; omega))) (by kernel_rfl) ?_
 refine aw_skip ?_
 refine aw_seq ?_
 refine aw_seq ?_
 refine aw_cut (fun α G' => G2 = G' ∧ α 2 = .pointer (some ⟨b, 0, none⟩) ∧ α 5 = .pointer (some ⟨g, 0, none⟩) ∧ α 63 = .bool (!kind2B o inn)) ?_ ?_
 ·rw [hK2]
  obtain ⟨kk, hkk⟩ : ∃ k, k = o.kind := ⟨_, rfl⟩
  rw [← hkk] at c3 ⊢
  by_cases k23 : kk = 2 ∨ kk = 3
  ·have hor : (kk == 2 || kk == 3) = true := by simpa using k23
   have k3f : ¬ 3 < kk := by omega
   have k3i : ¬ (kk > 3) := by omega
   cases inn with
   | true =>
    rcases k23 with e | e
    ·rw [e] at c3
     (refine aw_ops (by kernel_rfl) (fun K hK => ?_); simp (disch := first | omega | (simp only [lnS]; try omega)) [-getElem?_pos, -getElem?_neg, h1, h2, hb1, hlen, c3, -notTuple]; refine hK _ _ ?_; clear hK K)
     exact ⟨rfl, by (first | (simp [put_at, put_none, fr0_at, h2]; done) | rfl), by (first | (simp [put_at, put_none, fr0_at, h5]; done) | rfl), by simp [put_at, e]⟩
    ·rw [e] at c3
     (refine aw_ops (by kernel_rfl) (fun K hK => ?_); simp (disch := first | omega | (simp only [lnS]; try omega)) [-getElem?_pos, -getElem?_neg, h1, h2, hb1, hlen, c3, -notTuple]; refine hK _ _ ?_; clear hK K)
     exact ⟨rfl, by (first | (simp [put_at, put_none, fr0_at, h2]; done) | rfl), by (first | (simp [put_at, put_none, fr0_at, h5]; done) | rfl), by simp [put_at, e]⟩
   | false =>
    by_cases n1 : nw = 1
    ·clear hK2
     subst n1
     rcases k23 with e | e
     ·rw [e] at c3
      (refine aw_ops (by kernel_rfl) (fun K hK => ?_); simp (disch := first | omega | (simp only [lnS]; try omega)) [-getElem?_pos, -getElem?_neg, h1, h2, hb1, hlen, c3, c4, -notTuple, w1, w2, nt_intG, -xlen, w3]; refine hK _ _ ?_; clear hK K)
      exact ⟨rfl, by (first | (simp [put_at, put_none, fr0_at, h2]; done) | rfl), by (first | (simp [put_at, put_none, fr0_at, h5]; done) | rfl), by simp [put_at, e]⟩
     ·rw [e] at c3
      (refine aw_ops (by kernel_rfl) (fun K hK => ?_); simp (disch := first | omega | (simp only [lnS]; try omega)) [-getElem?_pos, -getElem?_neg, h1, h2, hb1, hlen, c3, c4, -notTuple, w1, w2, nt_intG, -xlen, w3]; refine hK _ _ ?_; clear hK K)
      exact ⟨rfl, by (first | (simp [put_at, put_none, fr0_at, h2]; done) | rfl), by (first | (simp [put_at, put_none, fr0_at, h5]; done) | rfl), by simp [put_at, e]⟩
    ·have n1' : ((nw : Int) == 1) = false := by
      rw [Bool.eq_false_iff]; simp; omega
     rcases k23 with e | e
     ·rw [e] at c3
      (refine aw_ops (by kernel_rfl) (fun K hK => ?_); simp (disch := first | omega | (simp only [lnS]; try omega)) [-getElem?_pos, -getElem?_neg, h1, h2, hb1, hlen, c3, c4, -notTuple, w1, w2, nt_intG, -xlen, w3, n1']; refine hK _ _ ?_; clear hK K)
      exact ⟨rfl, by (first | (simp [put_at, put_none, fr0_at, h2]; done) | rfl), by (first | (simp [put_at, put_none, fr0_at, h5]; done) | rfl), by simp [put_at, e, n1]⟩
     ·rw [e] at c3
      (refine aw_ops (by kernel_rfl) (fun K hK => ?_); simp (disch := first | omega | (simp only [lnS]; try omega)) [-getElem?_pos, -getElem?_neg, h1, h2, hb1, hlen, c3, c4, -notTuple, w1, w2, nt_intG, -xlen, w3, n1']; refine hK _ _ ?_; clear hK K)
      exact ⟨rfl, by (first | (simp [put_at, put_none, fr0_at, h2]; done) | rfl), by (first | (simp [put_at, put_none, fr0_at, h5]; done) | rfl), by simp [put_at, e, n1]⟩
  ·have e2 : (kk == 2) = false := by rw [Bool.eq_false_iff]; simp; omega
   have e3 : (kk == 3) = false := by rw [Bool.eq_false_iff]; simp; omega
   by_cases k3 : 3 < kk
   ·by_cases n0 : 0 < nw
    ·have n0' : ¬ nw = 0 := by omega
     (refine aw_ops (by kernel_rfl) (fun K hK => ?_); simp (disch := first | omega | (simp only [lnS]; try omega)) [-getElem?_pos, -getElem?_neg, h1, h2, hb1, hlen, c3, c4, e2, e3, k3, -notTuple, w1, w2, nt_intG, -xlen, w3, n0]; refine hK _ _ ?_; clear hK K)
     exact ⟨rfl, by (first | (simp [put_at, put_none, fr0_at, h2]; done) | rfl), by (first | (simp [put_at, put_none, fr0_at, h5]; done) | rfl), by simp [put_at, k23, k3, n0']⟩
    ·have n0' : nw = 0 := by omega
     clear hK2
     subst n0'
     (refine aw_ops (by kernel_rfl) (fun K hK => ?_); simp (disch := first | omega | (simp only [lnS]; try omega)) [-getElem?_pos, -getElem?_neg, h1, h2, hb1, hlen, c3, c4, e2, e3, k3, -notTuple, w1, w2, nt_intG, -xlen, w3]; refine hK _ _ ?_; clear hK K)
     exact ⟨rfl, by (first | (simp [put_at, put_none, fr0_at, h2]; done) | rfl), by (first | (simp [put_at, put_none, fr0_at, h5]; done) | rfl), by simp [put_at, k23, k3]⟩
   ·(refine aw_ops (by kernel_rfl) (fun K hK => ?_); simp (disch := first | omega | (simp only [lnS]; try omega)) [-getElem?_pos, -getElem?_neg, h1, h2, hb1, hlen, c3, c4, e2, e3, k3, -notTuple, w1, w2, nt_intG, -xlen, w3]; refine hK _ _ ?_; clear hK K)
    exact ⟨rfl, by (first | (simp [put_at, put_none, fr0_at, h2]; done) | rfl), by (first | (simp [put_at, put_none, fr0_at, h5]; done) | rfl), by simp [put_at, k23, k3]⟩
 clear h1 h2 h5 h35 α
 rintro α G' ⟨rfl, h2, h5, h63⟩
 cases q2 : kind2B o inn with
 | false =>
  rw [q2] at h63
  refine aw_t (by (first | (simp [eval_tmp, put_at, h63]; done) | (simp [eval_tmp, put_at, h63]; omega))) (by kernel_rfl) ?_
  refine aw_seq ?_
  (refine aw_ops (by kernel_rfl) (fun K hK => ?_); simp (disch := first | omega | (simp only [lnS]; try omega)) [-getElem?_pos, -getElem?_neg]; refine hK _ _ ?_; clear hK K)
  (refine aw_ret ?_; simp (disch := first | omega | (simp only [lnS]; try omega)) [-getElem?_pos, -getElem?_neg, thenQ_ret, scopeQ_ret, inBlockQ_ret, RQ, resL, resV])
  rw [bad2 q2]
 | true =>
 rw [q2] at h63
 refine aw_f (by (first | (simp [eval_tmp, put_at, h63]; done) | (simp [eval_tmp, put_at, h63]; omega))) (by kernel_rfl) ?_
 refine aw_skip ?_
 refine aw_seq ?_
 refine aw_seq ?_
 have e5 := zl32_key o.of
 have e6 := zl32_key o.check
 have hk3 : kind3B o = (decide (o.kind = 5 ∨ o.kind = 6) == !decide (o.of = zl 32)) := rfl
 have hk4 : kind4B o = if o.kind = 7 then decide (o.check = zl 32) && decide (0 < o.text.size) else !decide (o.check = zl 32) && decide (o.text.size = 0) := rfl
 have hall : kindB o inn = (kind3B o && kind4B o) := by unfold kindB; rw [q1, q2]; rfl
 rw [hall]
 obtain ⟨B5, hB5⟩ : ∃ B, B = decide (o.of = zl 32) := ⟨_, rfl⟩
 obtain ⟨B6, hB6⟩ : ∃ B, B = decide (o.check = zl 32) := ⟨_, rfl⟩
 rw [← hB5] at e5 hk3
 rw [← hB6] at e6 hk4
 clear hB5 hB6 hall bad1 bad2 bad3 hK1 hK2 q1 q2
 obtain ⟨K3, hK3⟩ : ∃ k, k = kind3B o := ⟨_, rfl⟩
 obtain ⟨K4, hK4⟩ : ∃ k, k = kind4B o := ⟨_, rfl⟩
 rw [← hK3] at hk3 ⊢
 rw [← hK4] at hk4 ⊢
 clear hK3 hK4
 obtain ⟨ts, hts⟩ : ∃ t, t = o.text := ⟨_, rfl⟩
 have htz : ts.size ≤ 9223372036854775807 := by rw [hts]; have := hw.text; simp only [maxLen] at this; omega
 rw [← hts] at c69 hk4
 obtain ⟨kk, hkk⟩ : ∃ k, k = o.kind := ⟨_, rfl⟩
 rw [← hkk] at c3 hk3 hk4
 refine aw_cut (fun α G' => G2 = G' ∧ α 2 = .pointer (some ⟨b, 0, none⟩) ∧ α 5 = .pointer (some ⟨g, 0, none⟩) ∧ α 76 = .bool (!K3)) ?_ ?_
 ·by_cases k5 : kk = 5
  ·rw [k5] at c3 hk3
   cases B5 <;>
   ·(refine aw_plan [] [] [0, 1, 2, 3, 4, 5, 6, 7, 8, 9, 10, 11, 12] 13 0 (by kernel_rfl) (by kernel_rfl) (by kernel_rfl) (fun K hK => ?_)); simp only [sel, List.getElem?_cons_succ, List.getElem?_cons_zero, List.drop_succ_cons, List.drop_zero]; simp (disch := first | omega | (simp only [lnS]; try omega)) [-getElem?_pos, -getElem?_neg, h2, h5, hb1, hb2, hlen, c3, c5, l5, hz2, hz3, e5, PL_nil, plainB_lit, PL_cons, PLc_val, PLc_new, stepP_t, stepP_f, stepPC_n, stepPC_s, stepPX_s, stepPX_n, stepPV_n, stepPV_s, stepPA_t, stepPA_c, stepPA_l, stepPN_s, allocOp, reloc_sl, reloc_ptr, List.map_cons, List.map_nil, List.nil_append, List.append_assoc, List.cons_append, Nat.add_assoc]
    refine hK _ _ ?_; clear hK K
    exact ⟨rfl, by (first | (simp [put_at, put_none, fr0_at, h2]; done) | rfl), by (first | (simp [put_at, put_none, fr0_at, h5]; done) | rfl), by rw [hk3]; simp [put_at]⟩
  ·have k5' : (kk == 5) = false := by simp [k5]
   by_cases k6 : kk = 6
   ·rw [k6] at c3 hk3
    cases B5 <;>
    ·(refine aw_plan [] [] [0, 1, 2, 3, 4, 5, 6, 7, 8, 9, 10, 11, 12] 13 0 (by kernel_rfl) (by kernel_rfl) (by kernel_rfl) (fun K hK => ?_)); simp only [sel, List.getElem?_cons_succ, List.getElem?_cons_zero, List.drop_succ_cons, List.drop_zero]; simp (disch := first | omega | (simp only [lnS]; try omega)) [-getElem?_pos, -getElem?_neg, h2, h5, hb1, hb2, hlen, c3, c5, l5, hz2, hz3, e5, PL_nil, plainB_lit, PL_cons, PLc_val, PLc_new, stepP_t, stepP_f, stepPC_n, stepPC_s, stepPX_s, stepPX_n, stepPV_n, stepPV_s, stepPA_t, stepPA_c, stepPA_l, stepPN_s, allocOp, reloc_sl, reloc_ptr, List.map_cons, List.map_nil, List.nil_append, List.append_assoc, List.cons_append, Nat.add_assoc]
     refine hK _ _ ?_; clear hK K
     exact ⟨rfl, by (first | (simp [put_at, put_none, fr0_at, h2]; done) | rfl), by (first | (simp [put_at, put_none, fr0_at, h5]; done) | rfl), by rw [hk3]; simp [put_at]⟩
   ·have k6' : (kk == 6) = false := by simp [k6]
    cases B5 <;>
    ·(refine aw_plan [] [] [0, 1, 2, 3, 4, 5, 6, 7, 8, 9, 10, 11, 12] 13 0 (by kernel_rfl) (by kernel_rfl) (by kernel_rfl) (fun K hK => ?_)); simp only [sel, List.getElem?_cons_succ, List.getElem?_cons_zero, List.drop_succ_cons, List.drop_zero]; simp (disch := first | omega | (simp only [lnS]; try omega)) [-getElem?_pos, -getElem?_neg, h2, h5, hb1, hb2, hlen, c3, c5, l5, hz2, hz3, e5, k5, k5', k6, k6', PL_nil, plainB_lit, PL_cons, PLc_val, PLc_new, stepP_t, stepP_f, stepPC_n, stepPC_s, stepPX_s, stepPX_n, stepPV_n, stepPV_s, stepPA_t, stepPA_c, stepPA_l, stepPN_s, allocOp, reloc_sl, reloc_ptr, List.map_cons, List.map_nil, List.nil_append, List.append_assoc, List.cons_append, Nat.add_assoc]
     refine hK _ _ ?_; clear hK K
     exact ⟨rfl, by (first | (simp [put_at, put_none, fr0_at, h2]; done) | rfl), by (first | (simp [put_at, put_none, fr0_at, h5]; done) | rfl), by rw [hk3]; simp [put_at, k5, k6]⟩
 clear h2 h5 h63 α
 rintro α G' ⟨rfl, h2, h5, h76⟩
 cases K3 with
 | false =>
  refine aw_t (by (first | (simp [eval_tmp, put_at, h76]; done) | (simp [eval_tmp, put_at, h76]; omega))) (by kernel_rfl) ?_
  refine aw_seq ?_
  (refine aw_ops (by kernel_rfl) (fun K hK => ?_); simp (disch := first | omega | (simp only [lnS]; try omega)) [-getElem?_pos, -getElem?_neg]; refine hK _ _ ?_; clear hK K)
  (refine aw_ret ?_; simp (disch := first | omega | (simp only [lnS]; try omega)) [-getElem?_pos, -getElem?_neg, thenQ_ret, scopeQ_ret, inBlockQ_ret, RQ, resL, resV])
 | true =>
 refine aw_f (by (first | (simp [eval_tmp, put_at, h76]; done) | (simp [eval_tmp, put_at, h76]; omega))) (by kernel_rfl) ?_
 refine aw_skip ?_
 refine aw_seq ?_
 refine aw_seq ?_
 by_cases k7 : kk = 7
 ·rw [if_pos k7] at hk4
  (refine aw_ops (by kernel_rfl) (fun K hK => ?_); simp (disch := first | omega | (simp only [lnS]; try omega)) [-getElem?_pos, -getElem?_neg, h2, hb1, hlen, c3, k7]; refine hK _ _ ?_; clear hK K)
  refine aw_t (by (first | (simp [eval_tmp, put_at]; done) | (simp [eval_tmp, put_at]; omega))) (by kernel_rfl) ?_
  refine aw_seq ?_
  cases B6 with
  | false =>
   (refine aw_ops (by kernel_rfl) (fun K hK => ?_); simp (disch := first | omega | (simp only [lnS]; try omega)) [-getElem?_pos, -getElem?_neg, h2, h5, hb1, hb2, hlen, c6, l6, hz2, hz3, e6]; refine hK _ _ ?_; clear hK K)
   (refine aw_ret ?_; simp (disch := first | omega | (simp only [lnS]; try omega)) [-getElem?_pos, -getElem?_neg, thenQ_ret, scopeQ_ret, inBlockQ_ret, RQ, resL, resV])
   rw [hk4]; rfl
  | true =>
   by_cases n0 : 0 < ts.size
   ·(refine aw_ops (by kernel_rfl) (fun K hK => ?_); simp (disch := first | omega | (simp only [lnS]; try omega)) [-getElem?_pos, -getElem?_neg, h2, h5, hb1, hb2, hlen, c6, c69, l6, hz2, hz3, e6, n0, htz]; refine hK _ _ ?_; clear hK K)
    (refine aw_ret ?_; simp (disch := first | omega | (simp only [lnS]; try omega)) [-getElem?_pos, -getElem?_neg, thenQ_ret, scopeQ_ret, inBlockQ_ret, RQ, resL, resV])
    rw [hk4]; simp [n0]
   ·(refine aw_ops (by kernel_rfl) (fun K hK => ?_); simp (disch := first | omega | (simp only [lnS]; try omega)) [-getElem?_pos, -getElem?_neg, h2, h5, hb1, hb2, hlen, c6, c69, l6, hz2, hz3, e6, n0, htz]; refine hK _ _ ?_; clear hK K)
    (refine aw_ret ?_; simp (disch := first | omega | (simp only [lnS]; try omega)) [-getElem?_pos, -getElem?_neg, thenQ_ret, scopeQ_ret, inBlockQ_ret, RQ, resL, resV])
    rw [hk4]; simp [n0]
 ·have k7' : (kk == 7) = false := by simp [k7]
  rw [if_neg k7] at hk4
  (refine aw_ops (by kernel_rfl) (fun K hK => ?_); simp (disch := first | omega | (simp only [lnS]; try omega)) [-getElem?_pos, -getElem?_neg, h2, hb1, hlen, c3, k7, k7']; refine hK _ _ ?_; clear hK K)
  refine aw_f (by (first | (simp [eval_tmp, put_at]; done) | (simp [eval_tmp, put_at]; omega))) (by kernel_rfl) ?_
  refine aw_skip ?_
  refine aw_seq ?_
  cases B6 with
  | true =>
   (refine aw_ops (by kernel_rfl) (fun K hK => ?_); simp (disch := first | omega | (simp only [lnS]; try omega)) [-getElem?_pos, -getElem?_neg, h2, h5, hb1, hb2, hlen, c6, l6, hz2, hz3, e6]; refine hK _ _ ?_; clear hK K)
   (refine aw_ret ?_; simp (disch := first | omega | (simp only [lnS]; try omega)) [-getElem?_pos, -getElem?_neg, thenQ_ret, scopeQ_ret, inBlockQ_ret, RQ, resL, resV])
   rw [hk4]; rfl
  | false =>
   by_cases n0 : ts.size = 0
   ·(refine aw_ops (by kernel_rfl) (fun K hK => ?_); simp (disch := first | omega | (simp only [lnS]; try omega)) [-getElem?_pos, -getElem?_neg, h2, h5, hb1, hb2, hlen, c6, c69, l6, hz2, hz3, e6, n0, htz]; refine hK _ _ ?_; clear hK K)
    (refine aw_ret ?_; simp (disch := first | omega | (simp only [lnS]; try omega)) [-getElem?_pos, -getElem?_neg, thenQ_ret, scopeQ_ret, inBlockQ_ret, RQ, resL, resV])
    rw [hk4]; simp [n0]
   ·have n0' : ((ts.size : Int) == 0) = false := beq_eq_false_iff_ne.2 (by omega)
    (refine aw_ops (by kernel_rfl) (fun K hK => ?_); simp (disch := first | omega | (simp only [lnS]; try omega)) [-getElem?_pos, -getElem?_neg, h2, h5, hb1, hb2, hlen, c6, c69, l6, hz2, hz3, e6, n0, n0', htz]; refine hK _ _ ?_; clear hK K)
    (refine aw_ret ?_; simp (disch := first | omega | (simp only [lnS]; try omega)) [-getElem?_pos, -getElem?_neg, thenQ_ret, scopeQ_ret, inBlockQ_ret, RQ, resL, resV])
    rw [hk4]; simp [n0]
end
section
theorem cmpI_lt {a b : Int} : cmpI a b < 0 ↔ a < b := by
 unfold cmpI
 split
 ·simp; omega
 ·split <;> simp <;> omega
theorem rise_len {l : List Int} (h1 : ∀ z ∈ l, memI z = true) (h2 : ∀ i, i + 1 < l.length → l.getD i 0 < l.getD (i + 1) 0) : l.length ≤ 8 := by
 have hlo : ∀ i, i < l.length → (i : Int) ≤ l.getD i 0 := by
  intro i
  induction i with
  | zero =>
   intro hi
   have := h1 (l.getD 0 0) (by rw [List.getD_eq_getElem?_getD, List.getElem?_eq_getElem hi]; exact List.getElem_mem hi)
   unfold memI at this
   rw [Bool.and_eq_true, decide_eq_true_eq, decide_eq_true_eq] at this
   omega
  | succ i ih =>
   intro hi
   have := ih (by omega)
   have := h2 i hi
   omega
 by_cases h : l.length = 0
 ·omega
 ·have hi : l.length - 1 < l.length := by omega
  have a := hlo (l.length - 1) hi
  have b := h1 (l.getD (l.length - 1) 0) (by rw [List.getD_eq_getElem?_getD, List.getElem?_eq_getElem hi]; exact List.getElem_mem hi)
  unfold memI at b
  rw [Bool.and_eq_true, decide_eq_true_eq, decide_eq_true_eq] at b
  omega
def refO (o : OpD) : Bool := memI o.author && (decide (o.seq ≠ 0) && (decide (1 ≤ o.kind) && (decide (o.kind ≤ 7) && (decide (o.parents.length ≤ 8) && (decide (o.boxes.length ≤ 8) && (decide (o.text.size ≤ 256) && (risesK o.parents && ((o.who.all memI && risesI o.who) && (boxesB o && kindB o (decide (o.author ∈ o.who)))))))))))
theorem boxes_len {o : OpD} (h : boxesB o = true) : o.boxes.length ≤ 8 := by
 unfold boxesB risesX at h
 rw [Bool.and_eq_true, List.all_eq_true, List.all_eq_true] at h
 have := rise_len (l := o.boxes.map BoxD.to) (fun z hz => by
  obtain ⟨b, hb, rfl⟩ := List.mem_map.1 hz
  have := h.1 b hb
  unfold boxB at this
  rw [Bool.and_eq_true] at this
  exact this.1) (fun i hi => by
  rw [List.length_map] at hi
  have := h.2 i (List.mem_range.2 (by omega))
  rw [decide_eq_true_eq, cmpI_lt] at this
  exact this)
 rwa [List.length_map] at this
theorem risesK_nil {ps : List (List Int)} (h : ps.length = 0) : risesK ps = true := by
 unfold risesK
 rw [h]; rfl
theorem refO_eq (o : OpD) : refO o = rightO o := by
 unfold refO rightO
 by_cases hb : boxesB o = true
 case neg =>
  have : boxesB o = false := by simpa using hb
  rw [this]; simp
 have hbl := boxes_len hb
 rw [hb]
 by_cases g1 : 1 ≤ o.kind
 case neg => simp [g1]
 by_cases g2 : o.kind ≤ 7
 case neg => simp [g2]
 cases g3 : memI o.author with
 | false => simp
 | true =>
 have g4 : o.boxes.length ≤ 8 := hbl
 have d8 : decide (o.boxes.length ≤ 8) = true := by simpa using g4
 have dg1 : decide (1 ≤ o.kind) = true := by simpa using g1
 have dg2 : decide (o.kind ≤ 7) = true := by simpa using g2
 rw [d8, dg1, dg2]
 unfold kindB kind1B kind2B kind3B kind4B placeB whoB keysB textOk
 have r1 : decide (0 < o.parents.length) = !decide (o.parents.length = 0) := by
  by_cases h : o.parents.length = 0
  ·simp [h]
  ·have : 0 < o.parents.length := by omega
   simp [h, this]
 have r2 : decide (o.seq ≠ 0) = !decide (o.seq = 0) := by simp
 have r3 : decide (0 < o.text.size) = !decide (o.text.size = 0) := by
  by_cases h : o.text.size = 0
  ·rw [h]; rfl
  ·have : 0 < o.text.size := by omega
   rw [decide_eq_true this, decide_eq_false h]; rfl
 have r4 : decide (o.of ≠ zl 32) = !decide (o.of = zl 32) := by simp
 have i1 : (!decide (o.parents.length = 0) || decide (o.parents.length ≤ 8)) = true := by
  by_cases h : o.parents.length = 0
  ·rw [h]; rfl
  ·rw [decide_eq_false h]; rfl
 have i2 : (!decide (o.parents.length = 0) || risesK o.parents) = true := by
  by_cases h : o.parents.length = 0
  ·rw [risesK_nil h, Bool.or_true]
  ·rw [decide_eq_false h]; rfl
 have i3 : (!decide (o.seq = 1) || !decide (o.seq = 0)) = true := by
  by_cases h : o.seq = 1
  ·rw [h]; rfl
  ·rw [decide_eq_false h]; rfl
 have i4 : (!decide (o.who.length = 0) || (o.who.all memI && risesI o.who)) = true := by
  by_cases h : o.who.length = 0
  ·have := List.eq_nil_of_length_eq_zero h
   rw [this]; rfl
  ·rw [decide_eq_false h]; rfl
 have i6 : (!decide (o.text.size = 0) || decide (o.text.size ≤ 256)) = true := by
  by_cases h : o.text.size = 0
  ·rw [h]; rfl
  ·rw [decide_eq_false h]; rfl
 rw [r1, r2, r3, r4]
 generalize decide (o.parents.length = 0) = P0 at *
 generalize decide (o.parents.length ≤ 8) = P8 at *
 generalize risesK o.parents = RK at *
 generalize decide (o.seq = 1) = S1 at *
 generalize decide (o.seq = 0) = S0 at *
 generalize decide (o.who.length = 0) = W0 at *
 generalize decide (o.who.length = 1) = W1 at *
 generalize (o.who.all memI && risesI o.who) = WA at *
 generalize decide (o.author ∈ o.who) = IN at *
 generalize decide (o.text.size = 0) = T0 at *
 generalize decide (o.text.size ≤ 256) = T8 at *
 generalize decide (o.of = zl 32) = OF at *
 generalize decide (o.check = zl 32) = C0 at *
 have hk : o.kind = 1 ∨ o.kind = 2 ∨ o.kind = 3 ∨ o.kind = 4 ∨ o.kind = 5 ∨ o.kind = 6 ∨ o.kind = 7 := by omega
 clear r1 r2 r3 r4 d8 dg1 dg2 g1 g2 g3 g4 hbl hb
 rcases hk with hk | hk | hk | hk | hk | hk | hk <;> rw [hk] <;> clear hk <;> revert P0 P8 RK S1 S0 W0 W1 WA IN T0 T8 OF C0 <;> decide +kernel
end
section
theorem nd_take {l : List NodeD} {i a : Nat} (h : a < i) : nd (l.take i) a = nd l a := by
 unfold nd
 rw [List.getD_eq_getElem?_getD, List.getD_eq_getElem?_getD, List.getElem?_take_of_lt h]
theorem find_congr {l m : List NodeD} {n : Nat} (h : ∀ a, a < n → nd l a = nd m a) (k : List Int) : findN l n k = findN m n k := by
 induction n with
 | zero => rfl
 | succ n ih => rw [findN_succ, findN_succ, ih (fun a ha => h a (by omega)), h n (by omega)]
theorem inB_congr {l m : List NodeD} {n : Nat} (h : ∀ a, a < n → nd l a = nd m a) (ps : List (List Int)) (k : Nat) : inB l n ps k = inB m n ps k := by
 unfold inB
 congr 1
 funext p
 rw [find_congr h p]
 cases hf : findN m n p with
 | none => rfl
 | some a =>
  simp only []
  rw [h a (findN_lt hf)]
theorem pastL_congr {l m : List NodeD} {n : Nat} (h : ∀ a, a < n → nd l a = nd m a) (ps : List (List Int)) : pastL l n ps = pastL m n ps := by
 unfold pastL
 congr 1
 exact List.filter_congr fun k _ => inB_congr h ps k
theorem autN_congr {l m : List NodeD} {n : Nat} (h : ∀ a, a < n → nd l a = nd m a) (x : Int) : autN l n x = autN m n x := by
 induction n with
 | zero => rfl
 | succ n ih => rw [autN_succ, autN_succ, ih (fun a ha => h a (by omega)), h n (by omega)]
theorem autA_congr {l m : List NodeD} {n : Nat} (h : ∀ a, a < n → nd l a = nd m a) (x : Int) (P : List Int) : autA l n x P = autA m n x P := by
 induction n with
 | zero => rfl
 | succ n ih => rw [autA_succ, autA_succ, ih (fun a ha => h a (by omega)), h n (by omega)]
theorem turnB_congr {l m : List NodeD} {n : Nat} (h : ∀ a, a < n → nd l a = nd m a) (o : OpD) (P : List Int) : turnB l n o P = turnB m n o P := by
 unfold turnB
 rw [autN_congr h, autA_congr h]
attribute [local simp] wb_bool wb_undef with_lit XL_nil XL_cons XLc_val XLc_call step1_eq stepW_t stepW_f stepC_n stepC_s stepX_s stepX_n stepN_s calleeX oneV xop_eq xopR_s xopR_n wantedA_eq wantedG_n wantedG_s plain1_int plain1_bool plain1_string bits_i64 bits_u64 bits_u32 bits_u16 bits_u8 xeqA xagg xcmp xarr allK_iv num_iv calleeOf xread xeff xbin xint xnil xun xstr xload xconv xpart xfield xfieldAddr xindexAddr xindex bnd asInt? xslice xlen xmin xmax xbuild xfill xappend xapp2 xappstr xappmk xcap xcopy xcells eval_tmp eval_const put_at put_none fr0_at cells_agg cells_int cells_bool cells_string cells_ptr cells_slice notTuple tab iv_all hget_app hget_app0 hget_cons0 hget_cons set_app set_app0 setR setR_one QL_nil QL_cons QLc_val stepQ_t stepQ_f stepQC_n stepQC_s stepQX_s SL_nil SL_cons SLc_val stepS_t stepS_f ltT ltF leT leF eqT eqF ltTn ltFn leTn leFn eqTn eqFn beqT beqF bneT bneF wi64 wu64 wu32 wu16 wu8 tmodP tdivP hgetL hgetNe hgetEq setL nums_def nums_len Nat.succ_le_of_lt List.getElem?_cons_zero List.getElem?_cons_succ Option.getD_some Int.toNat_add Int.toNat_mul agM okM agB agI agS agP agL agA okB okI okS okP okSl okA
theorem NdV.take {H : AH} {v : Value} {l : List NodeD} (h : NdV H v l) (hl : ∀ x ∈ l, x.Wf) {i : Nat} (hi : i < l.length) : ∃ v', NdA H v' (l.take i) ∧ ∀ G : AH, xslice Try.prog 22 v none (some (.int .i64 (i : Nat))) G = some v' := by
 have hrow : ∀ row ∈ l.map NodeD.row, row.length = 104 := fun row hr => by
  obtain ⟨y, hy, rfl⟩ := List.mem_map.1 hr
  have h1 := (hl y hy).id.1
  have h2 := (hl y hy).op.of.1
  have h3 := (hl y hy).op.check.1
  simp [NodeD.row, OpD.row, kd, h1, h2, h3]
 obtain ⟨j, b, us, hv, hb, hle, hx, hus, hul, hle2, hc, hval⟩ := val_at (P := Try.prog) (t := 22) (e := 50) (sz := 104) h (by simp) (by simp) (by omega) hrow (i := i) (row := (nd l i).row) (by rw [List.getElem?_map, nd_get hi]; rfl)
 rw [List.length_map] at hv
 have hlt : (l.take i).length = i := by rw [List.length_take]; omega
 refine ⟨.slice (some ⟨j, 0, none⟩) i i, ⟨rfl, rfl, ?_, fun x hx => hl x (List.mem_of_mem_take hx), fun k x hk => ?_⟩, fun G => ?_⟩
 ·rw [hlt]
  unfold xlen
  simp
 ·have hki : k < i := by have := (List.getElem?_eq_some_iff.1 hk).1; omega
  rw [List.getElem?_take_of_lt hki] at hk
  obtain ⟨j', b', us', hv', hb', hle', hx', hus', hul', hle2', hc', hval'⟩ := val_at (P := Try.prog) (t := 22) (e := 50) (sz := 104) h (by simp) (by simp) (by omega) hrow (i := k) (row := x.row) (by rw [List.getElem?_map, hk]; rfl)
  rw [List.length_map] at hv'
  rw [hv] at hv'
  cases hv'
  obtain ⟨pv, wv, bv, qv, hcc⟩ := node_c (hl x (List.mem_of_getElem? hk)) hval'
  refine ⟨j, k * 104, b', us', pv, wv, bv, qv, ?_, hb', hle2', hc', hus', hcc⟩
  unfold xindexAddr
  simp
  omega
 ·rw [hv]
  unfold xslice
  simp [bnd]
  omega
end
section
def bodyAt (l : List BoxD) (k : Nat) : ByteArray := ((l[k]?).map BoxD.body).getD ByteArray.empty
def greatO (o : OpD) : Bool := decide (30 < o.parents.length) || (decide (30 < o.who.length) || (decide (30 < o.boxes.length) || (decide (600 < o.text.size) || (List.range o.boxes.length).any fun k => decide (600 < (bodyAt o.boxes k).size))))
theorem any_none {n : Nat} {p : Nat → Bool} (h : ∀ k, k < n → p k = false) : (List.range n).any p = false := by
 rw [List.any_eq_false]
 intro k hk
 rw [h k (List.mem_range.1 hk)]
 decide
theorem any_some {n k : Nat} {p : Nat → Bool} (hk : k < n) (h : p k = true) : (List.range n).any p = true := List.any_eq_true.2 ⟨k, List.mem_range.2 hk, h⟩
attribute [local simp] wb_bool wb_undef with_lit XL_nil XL_cons XLc_val XLc_call step1_eq stepW_t stepW_f stepC_n stepC_s stepX_s stepX_n stepN_s calleeX oneV xop_eq xopR_s xopR_n wantedA_eq wantedG_n wantedG_s plain1_int plain1_bool plain1_string bits_i64 bits_u64 bits_u32 bits_u16 bits_u8 xeqA xagg xcmp xarr allK_iv num_iv calleeOf xread xeff xbin xint xnil xun xstr xload xconv xpart xfield xfieldAddr xindexAddr xindex bnd asInt? xslice xlen xmin xmax xbuild xfill xappend xapp2 xappstr xappmk xcap xcopy xcells eval_tmp eval_const put_at put_none fr0_at cells_agg cells_int cells_bool cells_string cells_ptr cells_slice notTuple tab iv_all hget_app hget_app0 hget_cons0 hget_cons set_app set_app0 setR setR_one QL_nil QL_cons QLc_val stepQ_t stepQ_f stepQC_n stepQC_s stepQX_s SL_nil SL_cons SLc_val stepS_t stepS_f ltT ltF leT leF eqT eqF ltTn ltFn leTn leFn eqTn eqFn beqT beqF bneT bneF wi64 wu64 wu32 wu16 wu8 tmodP tdivP hgetL hgetNe hgetEq setL nums_def nums_len Nat.succ_le_of_lt List.getElem?_cons_zero List.getElem?_cons_succ Option.getD_some Int.toNat_add Int.toNat_mul agM okM agB agI agS agP agL agA okB okI okS okP okSl okA
theorem BxV.body_at {H : AH} {v : Value} {l : List BoxD} (h : BxV H v l) (hl : ∀ b ∈ l, b.Wf) {i : Nat} (hi : i < l.length) : ∃ j q bb, xindexAddr Try.prog 39 v (.int .i64 (i : Nat)) = some (.pointer (some ⟨j, q, none⟩)) ∧ hget H j = some bb ∧ bb.cells[q + 35]? = some (.string (bodyAt l i)) ∧ (bodyAt l i).size ≤ maxLen := by
 obtain ⟨z, hz⟩ : ∃ z, l[i]? = some z := ⟨_, List.getElem?_eq_getElem hi⟩
 have hzw := hl z (List.mem_of_getElem? hz)
 obtain ⟨j, b, us, hv, hb, hle, hx, hus, hul, hle2, hc, hval⟩ := val_at (P := Try.prog) (t := 39) (e := 107) (sz := 36) h (by simp) (by simp) (by omega) (fun row hr => by
  obtain ⟨y, hy, rfl⟩ := List.mem_map.1 hr
  have := (hl y hy).pub.1
  simp [BoxD.row, kd, this]) (i := i) (row := z.row) (by rw [List.getElem?_map, hz]; rfl)
 have hbody : bodyAt l i = z.body := by simp [bodyAt, hz]
 rw [hbody]
 exact ⟨j, i * 36, b, hx, hb, (hc 35 (by omega)).trans (box_c hzw hval).c35, hzw.body⟩
theorem greatO_rc {γ : Nat → Option Nat} {H : AH} {us : List Value} {o : OpD} {pv wv bv : Value} (h : OpC H us o pv wv bv) (hw : o.Wf) : AC Try.prog H.length γ 26 #[.agg us.toArray] H (fun v' _ => v' = .bool (greatO o)) := by
 have hlen := h.len
 have c2 := h.c2
 have c4 := h.c4
 have c69 := h.c69
 have c70 := h.c70
 have pa := h.parents.acc (fun k hk => (hw.parents k hk).1)
 have wa := h.who.acc
 have ba := h.boxes.acc hw.boxes
 have p1 := pa.nt
 have p2 := pa.cs
 have p3 := pa.len
 have w1 := wa.nt
 have w2 := wa.cs
 have w3 := wa.len
 have b1 := ba.nt
 have b2 := ba.cs
 have b3 := ba.len
 have hbx := h.boxes
 obtain ⟨np, hnp⟩ : ∃ n, n = o.parents.length := ⟨_, rfl⟩
 obtain ⟨nw, hnw⟩ : ∃ n, n = o.who.length := ⟨_, rfl⟩
 obtain ⟨nb, hnb⟩ : ∃ n, n = o.boxes.length := ⟨_, rfl⟩
 obtain ⟨ts, hts⟩ : ∃ t, t = o.text := ⟨_, rfl⟩
 have htz : ts.size ≤ 9223372036854775807 := by rw [hts]; have := hw.text; simp only [maxLen] at this; omega
 have hnb63 : nb ≤ 9223372036854775807 := by rw [hnb]; have := hw.blen; simp only [maxLen] at this; omega
 have hG : greatO o = (decide (30 < np) || (decide (30 < nw) || (decide (30 < nb) || (decide (600 < ts.size) || (List.range nb).any fun k => decide (600 < (bodyAt o.boxes k).size))))) := by rw [hnp, hnw, hnb, hts]; rfl
 rw [hG]
 rw [← hnp] at p3
 rw [← hnw] at w3
 rw [← hnb] at b3
 rw [← hts] at c69
 refine ac_of_aw Try.func26 rfl Try.ntmps26 Try.results26 (by simp) ?_
 refine aw_seq ?_
 (refine aw_ops (by kernel_rfl) (fun K hK => ?_); simp (disch := first | omega | (simp only [lnS]; try omega)) [-getElem?_pos, -getElem?_neg, hlen]; refine hK _ _ ?_; clear hK K)
 obtain ⟨hlow, hb⟩ := boxed (H := H) us 41
 generalize H ++ [some ⟨us, 41, none⟩] = G at *
 obtain ⟨g, hg⟩ : ∃ g, g = H.length := ⟨_, rfl⟩
 rw [← hg] at hb ⊢
 refine aw_seq ?_
 refine aw_seq ?_
 refine aw_cut (fun α G' => G = G' ∧ α 1 = .pointer (some ⟨g, 0, none⟩) ∧ α 25 = .bool (decide (30 < np) || (decide (30 < nw) || (decide (30 < nb) || decide (600 < ts.size))))) ?_ ?_
 ·by_cases h1 : 30 < np
  ·(refine aw_ops (by kernel_rfl) (fun K hK => ?_); simp (disch := first | omega | (simp only [lnS]; try omega)) [-getElem?_pos, -getElem?_neg, hb, hlen, c2, -notTuple, p1, p2, nt_intG, -xlen, p3, h1]; refine hK _ _ ?_; clear hK K)
   exact ⟨rfl, by (first | (simp [put_at, put_none, fr0_at]; done) | rfl), by simp [put_at, h1]⟩
  ·by_cases h2 : 30 < nw
   ·(refine aw_ops (by kernel_rfl) (fun K hK => ?_); simp (disch := first | omega | (simp only [lnS]; try omega)) [-getElem?_pos, -getElem?_neg, hb, hlen, c2, c4, -notTuple, p1, p2, w1, w2, nt_intG, -xlen, p3, w3, h1, h2]; refine hK _ _ ?_; clear hK K)
    exact ⟨rfl, by (first | (simp [put_at, put_none, fr0_at]; done) | rfl), by simp [put_at, h2]⟩
   ·by_cases h3 : 30 < nb
    ·(refine aw_ops (by kernel_rfl) (fun K hK => ?_); simp (disch := first | omega | (simp only [lnS]; try omega)) [-getElem?_pos, -getElem?_neg, hb, hlen, c2, c4, c70, -notTuple, p1, p2, w1, w2, b1, b2, nt_intG, -xlen, p3, w3, b3, h1, h2, h3]; refine hK _ _ ?_; clear hK K)
     exact ⟨rfl, by (first | (simp [put_at, put_none, fr0_at]; done) | rfl), by simp [put_at, h3]⟩
    ·have hxt : xlen Try.prog 9 (.string ts) = some (.int .i64 ts.size) := by simp [xlen]
     by_cases h4 : 600 < ts.size
     ·(refine aw_ops (by kernel_rfl) (fun K hK => ?_); simp (disch := first | omega | (simp only [lnS]; try omega)) [-getElem?_pos, -getElem?_neg, hb, hlen, c2, c4, c70, c69, -notTuple, p1, p2, w1, w2, b1, b2, nt_intG, nt_strG, -xlen, p3, w3, b3, hxt, h1, h2, h3, h4]; refine hK _ _ ?_; clear hK K)
      exact ⟨rfl, by (first | (simp [put_at, put_none, fr0_at]; done) | rfl), by simp [put_at, h4]⟩
     ·(refine aw_ops (by kernel_rfl) (fun K hK => ?_); simp (disch := first | omega | (simp only [lnS]; try omega)) [-getElem?_pos, -getElem?_neg, hb, hlen, c2, c4, c70, c69, -notTuple, p1, p2, w1, w2, b1, b2, nt_intG, nt_strG, -xlen, p3, w3, b3, hxt, h1, h2, h3, h4]; refine hK _ _ ?_; clear hK K)
      exact ⟨rfl, by (first | (simp [put_at, put_none, fr0_at]; done) | rfl), by simp [put_at, h1, h2, h3, h4]⟩
 rintro α G' ⟨rfl, h1, h25⟩
 obtain ⟨B, hB⟩ : ∃ B, B = (decide (30 < np) || (decide (30 < nw) || (decide (30 < nb) || decide (600 < ts.size)))) := ⟨_, rfl⟩
 have hGB : (decide (30 < np) || (decide (30 < nw) || (decide (30 < nb) || (decide (600 < ts.size) || (List.range nb).any fun k => decide (600 < (bodyAt o.boxes k).size))))) = (B || (List.range nb).any fun k => decide (600 < (bodyAt o.boxes k).size)) := by
  rw [hB, Bool.or_assoc, Bool.or_assoc, Bool.or_assoc]
 rw [hGB]
 rw [← hB] at h25
 clear hB hGB hG
 cases B with
 | true =>
  refine aw_t (by (first | (simp [eval_tmp, put_at, h25]; done) | (simp [eval_tmp, put_at, h25]; omega))) (by kernel_rfl) ?_
  refine aw_seq ?_
  (refine aw_ops (by kernel_rfl) (fun K hK => ?_); simp (disch := first | omega | (simp only [lnS]; try omega)) [-getElem?_pos, -getElem?_neg]; refine hK _ _ ?_; clear hK K)
  (refine aw_ret ?_; simp (disch := first | omega | (simp only [lnS]; try omega)) [-getElem?_pos, -getElem?_neg, thenQ_ret, scopeQ_ret, inBlockQ_ret, RQ, resL, resV])
 | false =>
 rw [Bool.false_or]
 refine aw_f (by (first | (simp [eval_tmp, put_at, h25]; done) | (simp [eval_tmp, put_at, h25]; omega))) (by kernel_rfl) ?_
 refine aw_skip ?_
 refine aw_seq ?_
 refine aw_seq ?_
 (refine aw_ops (by kernel_rfl) (fun K hK => ?_); simp (disch := first | omega | (simp only [lnS]; try omega)) [-getElem?_pos, -getElem?_neg]; refine hK _ _ ?_; clear hK K)
 refine aw_block ?_
 refine aw_loop (fun c α G' => ∃ i : Nat, i + c = nb ∧ G = G' ∧ α 1 = .pointer (some ⟨g, 0, none⟩) ∧ α 3 = .int .i64 (i : Nat) ∧ ∀ k, k < i → decide (600 < (bodyAt o.boxes k).size) = false) nb ?_ ?_
 ·exact ⟨0, by omega, rfl, by (first | (simp [put_at, put_none, fr0_at, h1]; done) | rfl), by (first | (simp [put_at, put_none, fr0_at]; done) | rfl), fun k hk => by omega⟩
 clear h1 h25 α
 rintro c α G' ⟨i, hic, rfl, h1, h3, hpre⟩
 refine aw_seq ?_
 refine aw_seq ?_
 by_cases hi : i < nb
 case neg =>
  (refine aw_ops (by kernel_rfl) (fun K hK => ?_); simp (disch := first | omega | (simp only [lnS]; try omega)) [-getElem?_pos, -getElem?_neg, h1, h3, hb, hlen, c70, -notTuple, b1, b2, nt_intG, -xlen, b3, hi]; refine hK _ _ ?_; clear hK K)
  refine aw_f (by (first | (simp [eval_tmp, put_at, hi]; done) | (simp [eval_tmp, put_at, hi]; omega))) (by kernel_rfl) ?_
  refine aw_exit ?_
  refine aw_seq ?_
  (refine aw_ops (by kernel_rfl) (fun K hK => ?_); simp (disch := first | omega | (simp only [lnS]; try omega)) [-getElem?_pos, -getElem?_neg]; refine hK _ _ ?_; clear hK K)
  (refine aw_ret ?_; simp (disch := first | omega | (simp only [lnS]; try omega)) [-getElem?_pos, -getElem?_neg, thenQ_ret, scopeQ_ret, inBlockQ_ret, RQ, resL, resV])
  intro k hk
  have := hpre k (by omega)
  simp at this
  exact this
 obtain ⟨j, q, bb, hx, hbb, hcb, hbm⟩ := hbx.body_at hw.boxes (i := i) (by omega)
 have hbG : hget G j = some bb := (hlow.1 j (hget_lt hbb)).trans hbb
 (refine aw_ops (by kernel_rfl) (fun K hK => ?_); simp (disch := first | omega | (simp only [lnS]; try omega)) [-getElem?_pos, -getElem?_neg, h1, h3, hb, hlen, c70, -notTuple, b1, b2, nt_intG, -xlen, b3, hi]; refine hK _ _ ?_; clear hK K)
 refine aw_t (by (first | (simp [eval_tmp, put_at, hi]; done) | (simp [eval_tmp, put_at, hi]; omega))) (by kernel_rfl) ?_
 refine aw_skip ?_
 refine aw_seq ?_
 refine aw_block ?_
 obtain ⟨bd, hbd⟩ : ∃ b, b = bodyAt o.boxes i := ⟨_, rfl⟩
 rw [← hbd] at hcb hbm
 have hbz : bd.size ≤ 9223372036854775807 := by simp only [maxLen] at hbm; omega
 have hxt : xlen Try.prog 9 (.string bd) = some (.int .i64 bd.size) := by simp [xlen]
 refine aw_seq ?_
 by_cases h6 : 600 < bd.size
 ·(refine aw_ops (by kernel_rfl) (fun K hK => ?_); simp (disch := first | omega | (simp only [lnS]; try omega)) [-getElem?_pos, -getElem?_neg, h1, h3, hb, hlen, c70, -notTuple, b1, b2, nt_intG, nt_strG, -xindexAddr, hx, hbG, hcb, -xlen, hxt, h6]; refine hK _ _ ?_; clear hK K)
  refine aw_t (by (first | (simp [eval_tmp, put_at, h6]; done) | (simp [eval_tmp, put_at, h6]; omega))) (by kernel_rfl) ?_
  refine aw_seq ?_
  (refine aw_ops (by kernel_rfl) (fun K hK => ?_); simp (disch := first | omega | (simp only [lnS]; try omega)) [-getElem?_pos, -getElem?_neg]; refine hK _ _ ?_; clear hK K)
  (refine aw_ret ?_; simp (disch := first | omega | (simp only [lnS]; try omega)) [-getElem?_pos, -getElem?_neg, thenQ_ret, scopeQ_ret, inBlockQ_ret, RQ, resL, resV])
  exact ⟨i, hi, by rw [← hbd]; exact h6⟩
 ·(refine aw_ops (by kernel_rfl) (fun K hK => ?_); simp (disch := first | omega | (simp only [lnS]; try omega)) [-getElem?_pos, -getElem?_neg, h1, h3, hb, hlen, c70, -notTuple, b1, b2, nt_intG, nt_strG, -xindexAddr, hx, hbG, hcb, -xlen, hxt, h6]; refine hK _ _ ?_; clear hK K)
  refine aw_f (by (first | (simp [eval_tmp, put_at, h6]; done) | (simp [eval_tmp, put_at, h6]; omega))) (by kernel_rfl) ?_
  refine aw_skip ?_
  (refine aw_ops (by kernel_rfl) (fun K hK => ?_); simp (disch := first | omega | (simp only [lnS]; try omega)) [-getElem?_pos, -getElem?_neg, h3]; refine hK _ _ ?_; clear hK K)
  refine ⟨c - 1, by omega, i + 1, by omega, rfl, by (first | (simp [put_at, put_none, fr0_at, h1]; done) | rfl), by (first | (simp [put_at, put_none, fr0_at]; done) | rfl), fun k hk => ?_⟩
  by_cases e : k = i
  ·subst e
   rw [← hbd]
   simpa using h6
  ·exact hpre k (by omega)
def greatG (l : List NodeD) : Bool := decide (110 < l.length) || (List.range l.length).any fun k => greatO (nd l k).op || decide (200 < (nd l k).past.length)
theorem greatG_rc {γ : Nat → Option Nat} {H : AH} {nv : Value} {l : List NodeD} (hN : NdA H nv l) : AC Try.prog H.length γ 17 #[nv] H (fun v' _ => v' = .bool (greatG l)) := by
 have hN' := hN
 obtain ⟨hnt, hvc, hxl, hwf, hat⟩ := hN
 unfold greatG
 refine ac_of_aw Try.func17 rfl Try.ntmps17 Try.results17 (by simp) ?_
 refine aw_seq ?_
 (refine aw_ops (by kernel_rfl) (fun K hK => ?_); simp (disch := first | omega | (simp only [lnS]; try omega)) [-getElem?_pos, -getElem?_neg]; refine hK _ _ ?_; clear hK K)
 refine aw_seq ?_
 refine aw_seq ?_
 by_cases hl : 110 < l.length
 ·(refine aw_ops (by kernel_rfl) (fun K hK => ?_); simp (disch := first | omega | (simp only [lnS]; try omega)) [-getElem?_pos, -getElem?_neg, -notTuple, hnt, hvc, nt_intG, -xlen, hxl, hl]; refine hK _ _ ?_; clear hK K)
  refine aw_t (by (first | (simp [eval_tmp, put_at, hl]; done) | (simp [eval_tmp, put_at, hl]; omega))) (by kernel_rfl) ?_
  refine aw_seq ?_
  (refine aw_ops (by kernel_rfl) (fun K hK => ?_); simp (disch := first | omega | (simp only [lnS]; try omega)) [-getElem?_pos, -getElem?_neg]; refine hK _ _ ?_; clear hK K)
  (refine aw_ret ?_; simp (disch := first | omega | (simp only [lnS]; try omega)) [-getElem?_pos, -getElem?_neg, thenQ_ret, scopeQ_ret, inBlockQ_ret, RQ, resL, resV])
  all_goals simp [hl]
 have hlf : decide (110 < l.length) = false := by simpa using hl
 rw [hlf, Bool.false_or]
 (refine aw_ops (by kernel_rfl) (fun K hK => ?_); simp (disch := first | omega | (simp only [lnS]; try omega)) [-getElem?_pos, -getElem?_neg, -notTuple, hnt, hvc, nt_intG, -xlen, hxl, hl]; refine hK _ _ ?_; clear hK K)
 refine aw_f (by (first | (simp [eval_tmp, put_at, hl]; done) | (simp [eval_tmp, put_at, hl]; omega))) (by kernel_rfl) ?_
 refine aw_skip ?_
 refine aw_seq ?_
 refine aw_seq ?_
 (refine aw_ops (by kernel_rfl) (fun K hK => ?_); simp (disch := first | omega | (simp only [lnS]; try omega)) [-getElem?_pos, -getElem?_neg]; refine hK _ _ ?_; clear hK K)
 refine aw_block ?_
 obtain ⟨R, hR⟩ : ∃ R, R = ((List.range l.length).any fun k => greatO (nd l k).op || decide (200 < (nd l k).past.length)) := ⟨_, rfl⟩
 rw [← hR]
 refine aw_loop (fun c α G' => ∃ i : Nat, i + c = l.length ∧ H = G' ∧ α 0 = nv ∧ α 3 = .int .i64 (i : Nat) ∧ ∀ k, k < i → (greatO (nd l k).op || decide (200 < (nd l k).past.length)) = false) l.length ?_ ?_
 ·exact ⟨0, by omega, rfl, by (first | (simp [put_at, put_none, fr0_at]; done) | rfl), by (first | (simp [put_at, put_none, fr0_at]; done) | rfl), fun k hk => by omega⟩
 rintro c α G' ⟨i, hic, rfl, h0, h3, hpre⟩
 refine aw_seq ?_
 refine aw_seq ?_
 by_cases hi : i < l.length
 case neg =>
  (refine aw_ops (by kernel_rfl) (fun K hK => ?_); simp (disch := first | omega | (simp only [lnS]; try omega)) [-getElem?_pos, -getElem?_neg, h0, h3, -notTuple, hnt, hvc, nt_intG, -xlen, hxl, hi]; refine hK _ _ ?_; clear hK K)
  refine aw_f (by (first | (simp [eval_tmp, put_at, hi]; done) | (simp [eval_tmp, put_at, hi]; omega))) (by kernel_rfl) ?_
  refine aw_exit ?_
  have hRf : R = false := hR.trans (any_none (fun k hk => hpre k (by omega)))
  rw [hRf]
  refine aw_seq ?_
  (refine aw_ops (by kernel_rfl) (fun K hK => ?_); simp (disch := first | omega | (simp only [lnS]; try omega)) [-getElem?_pos, -getElem?_neg]; refine hK _ _ ?_; clear hK K)
  (refine aw_ret ?_; simp (disch := first | omega | (simp only [lnS]; try omega)) [-getElem?_pos, -getElem?_neg, thenQ_ret, scopeQ_ret, inBlockQ_ret, RQ, resL, resV])
 obtain ⟨j, q, bb, us, pv, wv', bv, qv, hx, hbb, hq, hcell, hus, hC⟩ := hat i _ (nd_get hi)
 have hwfi := hwf _ (List.mem_of_getElem? (nd_get hi))
 obtain ⟨u7, hu7⟩ : ∃ u, u = (us.drop 32).take 71 := ⟨_, rfl⟩
 have hO : OpC H u7 (nd l i).op pv wv' bv := hu7 ▸ hC.op
 have hcut : (bb.cells.drop (q + 32)).take 71 = u7 := by rw [op_cut, ← hus, hu7]
 have hu7l := hO.len
 have hgo := greatO_rc (γ := γ) hO hwfi.op
 have hqv : bb.cells[q + 103]? = some qv := (hcell 103 (by omega)).trans hC.c103
 have qa := hC.past.acc
 have q1 := qa.nt
 have q2 := qa.cs
 have q3 := qa.len
 have hRt : (greatO (nd l i).op || decide (200 < (nd l i).past.length)) = true → R = true := fun e => hR.trans (any_some hi e)
 (refine aw_ops (by kernel_rfl) (fun K hK => ?_); simp (disch := first | omega | (simp only [lnS]; try omega)) [-getElem?_pos, -getElem?_neg, h0, h3, -notTuple, hnt, hvc, nt_intG, -xlen, hxl, hi]; refine hK _ _ ?_; clear hK K)
 refine aw_t (by (first | (simp [eval_tmp, put_at, hi]; done) | (simp [eval_tmp, put_at, hi]; omega))) (by kernel_rfl) ?_
 refine aw_skip ?_
 refine aw_seq ?_
 refine aw_block ?_
 refine aw_seq ?_
 refine aw_ops (by kernel_rfl) (fun K hK => ?_)
 simp (disch := first | omega | (simp only [lnS]; try omega)) [-getElem?_pos, -getElem?_neg, h0, h3, -notTuple, hnt, hvc, nt_intG, nt_aggG, -xindexAddr, hx, hbb, hcut, hu7l]
 refine ⟨by kernel_rfl, ac_of_rc hgo (by simp [pv_iv, pv_int, pv_bool, pv_string, pv_tup2, pv_tup3, iv_plain, p2_int, p2_bool, p2_string]) ?_⟩
 cases h5 : greatO (nd l i).op with
 | true =>
  try simp (disch := first | omega | (simp only [lnS]; try omega)) [-getElem?_pos, -getElem?_neg]
  refine hK _ _ ?_; clear hK K
  refine aw_t (by (first | (simp [eval_tmp, put_at]; done) | (simp [eval_tmp, put_at]; omega))) (by kernel_rfl) ?_
  refine aw_seq ?_
  rw [hRt (by rw [h5]; rfl)]
  (refine aw_ops (by kernel_rfl) (fun K hK => ?_); simp (disch := first | omega | (simp only [lnS]; try omega)) [-getElem?_pos, -getElem?_neg]; refine hK _ _ ?_; clear hK K)
  (refine aw_ret ?_; simp (disch := first | omega | (simp only [lnS]; try omega)) [-getElem?_pos, -getElem?_neg, thenQ_ret, scopeQ_ret, inBlockQ_ret, RQ, resL, resV])
 | false =>
  by_cases h6 : 200 < (nd l i).past.length
  ·simp (disch := first | omega | (simp only [lnS]; try omega)) [-getElem?_pos, -getElem?_neg, h0, h3, -notTuple, hnt, hvc, q1, q2, nt_intG, -xindexAddr, hx, hbb, hqv, -xlen, q3, h6]
   refine hK _ _ ?_; clear hK K
   refine aw_t (by (first | (simp [eval_tmp, put_at]; done) | (simp [eval_tmp, put_at]; omega))) (by kernel_rfl) ?_
   refine aw_seq ?_
   rw [hRt (by rw [decide_eq_true h6, Bool.or_true])]
   (refine aw_ops (by kernel_rfl) (fun K hK => ?_); simp (disch := first | omega | (simp only [lnS]; try omega)) [-getElem?_pos, -getElem?_neg]; refine hK _ _ ?_; clear hK K)
   (refine aw_ret ?_; simp (disch := first | omega | (simp only [lnS]; try omega)) [-getElem?_pos, -getElem?_neg, thenQ_ret, scopeQ_ret, inBlockQ_ret, RQ, resL, resV])
  ·simp (disch := first | omega | (simp only [lnS]; try omega)) [-getElem?_pos, -getElem?_neg, h0, h3, -notTuple, hnt, hvc, q1, q2, nt_intG, -xindexAddr, hx, hbb, hqv, -xlen, q3, h6]
   refine hK _ _ ?_; clear hK K
   refine aw_f (by (first | (simp [eval_tmp, put_at]; done) | (simp [eval_tmp, put_at]; omega))) (by kernel_rfl) ?_
   refine aw_skip ?_
   (refine aw_ops (by kernel_rfl) (fun K hK => ?_); simp (disch := first | omega | (simp only [lnS]; try omega)) [-getElem?_pos, -getElem?_neg, h3]; refine hK _ _ ?_; clear hK K)
   refine ⟨c - 1, by omega, i + 1, by omega, rfl, by (first | (simp [put_at, put_none, fr0_at, h0]; done) | rfl), by (first | (simp [put_at, put_none, fr0_at]; done) | rfl), fun k hk => ?_⟩
   by_cases e : k = i
   ·subst e
    rw [h5, decide_eq_false h6]; rfl
   ·exact hpre k (by omega)
end
section
theorem first_diff : ∀ {a b : List Int}, a.length = b.length → a ≠ b → ∃ p x y r s, a = p ++ x :: r ∧ b = p ++ y :: s ∧ x ≠ y
 | [], [], _, h => absurd rfl h
 | [], _ :: _, h, _ => by cases h
 | _ :: _, [], h, _ => by cases h
 | u :: a, v :: b, hl, h => by
  by_cases e : u = v
  ·subst e
   obtain ⟨p, x, y, r, s, rfl, rfl, hxy⟩ := first_diff (a := a) (b := b) (by simpa using hl) (fun e => h (by rw [e]))
   exact ⟨u :: p, x, y, r, s, rfl, rfl, hxy⟩
  ·exact ⟨[], u, v, a, b, rfl, rfl, e⟩
theorem lt_at (p : List Int) (x y : Int) (r s : List Int) (h : x ≠ y) : p ++ x :: r < p ++ y :: s ↔ x < y := by
 induction p with
 | nil =>
  rw [List.nil_append, List.nil_append, List.cons_lt_cons_iff]
  exact ⟨fun h2 => h2.elim id (fun h3 => absurd h3.1 h), Or.inl⟩
 | cons u p ih =>
  rw [List.cons_append, List.cons_append, List.cons_lt_cons_iff]
  exact ⟨fun h2 => h2.elim (fun h3 => absurd h3 (Int.lt_irrefl _)) (fun h3 => ih.1 h3.2), fun h2 => .inr ⟨rfl, ih.2 h2⟩⟩
theorem cmpL_lt {a b : List Int} (ha : By a) (hb : By b) (hl : a.length = b.length) : cmpL a b < 0 ↔ a < b := by
 by_cases e : a = b
 ·subst e
  rw [cmpL_eq]
  exact ⟨fun h => absurd h (by omega), fun h => absurd h (List.lt_irrefl a)⟩
 ·obtain ⟨p, x, y, r, s, rfl, rfl, hxy⟩ := first_diff hl e
  rw [lt_at p x y r s hxy, cmpL_at ha hb hl (i := p.length) (x := x) (y := y) (by simp) (by simp) hxy (by simp)]
  split
  ·exact ⟨fun _ => by assumption, fun _ => by omega⟩
  ·exact ⟨fun h => by omega, fun h => by contradiction⟩
theorem cmpL_gt {a b : List Int} (ha : By a) (hb : By b) (hl : a.length = b.length) : 0 < cmpL a b ↔ b < a := by
 by_cases e : a = b
 ·subst e
  rw [cmpL_eq]
  exact ⟨fun h => absurd h (by omega), fun h => absurd h (List.lt_irrefl a)⟩
 ·obtain ⟨p, x, y, r, s, rfl, rfl, hxy⟩ := first_diff hl e
  rw [lt_at p y x s r (fun e => hxy e.symm), cmpL_at ha hb hl (i := p.length) (x := x) (y := y) (by simp) (by simp) hxy (by simp)]
  split
  ·exact ⟨fun h => by omega, fun h => by omega⟩
  ·exact ⟨fun h => by omega, fun h => by omega⟩
end
end Go.Proofs.Ytdeccbjdhcifiaa
