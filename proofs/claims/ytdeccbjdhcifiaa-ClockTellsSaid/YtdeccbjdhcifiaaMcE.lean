/-
  graph.Right.
  graph: isPlace, Ahead, Apart, count, Find.
  graph.Find.
  Own slices with their blocks as a footprint.
  graph.past: what is marked, as a map.
  graph.Past.
  The reference: Find, In, SameInts.
  The reference: turn.
  The reference: Past.
  The reference: SameInts, Member, Less.
  The reference: kind.
  What the reference's Right asks, and what the program's asks: the same.
  The first nodes of a graph, as a slice of it.
  The reference: SameKeys.
  slices.Clone at numbers, keys, boxes: what is copied lies in new memory.
  deep.Op: an operation, copied into new memory.
  deep.Nodes: a graph, copied into new memory.
  Keys in order: the comparison is the order of lists; sorted lists are told by their members.
  What holds of right graphs: pasts, authors, heads.
  Clocks of graphs by numbers: how many nodes of an author stand among some places; of right graphs, which clock is at most which.
  clock.All, clock.Of; the document's; Order, Due and the vector as values.
  The document's clocks of graphs.
-/
import Derived.Test.YtdeccbjdhcifiaaMcD
import Derived.Test.YtdeccbjdhcifiaaMcB
import Derived.Test.YtdeccbjdhcifiaaTabm
import Derived.Test.YtdeccbjdhcifiaaMcC
namespace Go.Proofs.Ytdeccbjdhcifiaa
open Go Go.RowKit
set_option linter.unusedSimpArgs false
set_option linter.unusedVariables false
set_option maxRecDepth 100000
set_option maxHeartbeats 4000000
section
/-- Is a place ahead of parents, behind the first n nodes? -/
def inB (l : List NodeD) (n : Nat) (ps : List (List Int)) (k : Nat) : Bool := ps.any fun p => match findN l n p with | some a => decide (a = k) || decide ((k : Int) ∈ (nd l a).past) | none => false
def pastL (l : List NodeD) (n : Nat) (ps : List (List Int)) : List Int := ((List.range n).filter (inB l n ps)).map fun k : Nat => (k : Int)
def autN (l : List NodeD) (n : Nat) (x : Int) : Nat := ((List.range n).filter fun a => (nd l a).op.author == x).length
def autA (l : List NodeD) (n : Nat) (x : Int) (past : List Int) : Bool := (List.range n).all fun a => !((nd l a).op.author == x) || decide ((a : Int) ∈ past)
def turnB (l : List NodeD) (n : Nat) (o : OpD) (past : List Int) : Bool := (decide (o.kind = 1) == decide (n = 0)) && (autA l n o.author past && decide (o.seq = 1 + (autN l n o.author : Nat)))
/-- Is a node right behind the first ones? -/
def stepB (l : List NodeD) (i : Nat) : Bool := (nd l i).op.parents.all (fun p => (findN l i p).isSome) && (rightO (nd l i).op && ((findN l i (nd l i).id).isNone && (decide ((nd l i).past = pastL l i (nd l i).op.parents) && turnB l i (nd l i).op (nd l i).past)))
def rightG (l : List NodeD) : Bool := decide (l.length ≤ 96) && (List.range l.length).all (stepB l)
theorem mem_pastL {l : List NodeD} {n k : Nat} {ps : List (List Int)} : (k : Int) ∈ pastL l n ps ↔ k < n ∧ inB l n ps k = true := by
  unfold pastL
  rw [List.mem_map]
  constructor
  · rintro ⟨a, ha, e⟩
    obtain rfl : a = k := by omega
    rw [List.mem_filter, List.mem_range] at ha
    exact ha
  · rintro ⟨h1, h2⟩
    exact ⟨k, by rw [List.mem_filter, List.mem_range]; exact ⟨h1, h2⟩, rfl⟩
/-- What the marks tell behind the first nodes. -/
def Mk (l : List NodeD) (W : List Nat) (i : Nat) : Prop := ∀ r k, r < 96 → k < 128 → hasW W r k = (decide (r < i) && decide ((k : Int) ∈ (nd l r).past))
theorem own_in {l : List NodeD} {W : List Nat} {i k : Nat} {ps : List (List Int)} (hM : Mk l W i) (hi : i ≤ 96) (hk : k < 128) : ownB l W i ps k = inB l i ps k := by
  unfold ownB inB
  congr 1
  funext p
  cases hf : findN l i p with
  | none => rfl
  | some a =>
    have := findN_lt hf
    simp only []
    rw [hM a k (by omega) hk]
    simp [this]
theorem mk_row {l : List NodeD} {W W' : List Nat} {i : Nat} (hM : Mk l W i) (hi : i < 96) (h : ∀ r k, r < 96 → k < 128 → hasW W' r k = (hasW W r k || (decide (r = i) && ownB l W i (nd l i).op.parents k))) : ∀ k, k < 128 → hasW W' i k = inB l i (nd l i).op.parents k := fun k hk => by
  rw [h i k hi hk, hM i k hi hk, own_in hM (by omega) hk]
  simp
theorem mark_past {l : List NodeD} {W : List Nat} {i : Nat} {ps : List (List Int)} (h : ∀ k, k < 128 → hasW W i k = inB l i ps k) (hi : i ≤ 96) : markL W i i = pastL l i ps := by
  unfold markL pastL
  congr 1
  refine List.filter_congr fun k hk => ?_
  rw [List.mem_range] at hk
  exact h k (by omega)
theorem seq_turn {l : List NodeD} {W : List Nat} {i : Nat} (h : ∀ k, k < 128 → hasW W i k = inB l i (nd l i).op.parents k) (hi : i ≤ 96) (hp : (nd l i).past = pastL l i (nd l i).op.parents) (hk : (decide ((nd l i).op.kind = 1) == decide (i = 0)) = true) : seqB l W i = turnB l i (nd l i).op (nd l i).past := by
  unfold turnB seqB
  rw [hk, Bool.true_and]
  congr 1
  unfold seqA autA
  rw [Bool.eq_iff_iff, List.all_eq_true, List.all_eq_true]
  refine forall_congr' fun a => ?_
  refine imp_congr_right fun ha => ?_
  rw [List.mem_range] at ha
  rw [h a (by omega), hp]
  have : decide ((a : Int) ∈ pastL l i (nd l i).op.parents) = inB l i (nd l i).op.parents a := by
    rw [Bool.eq_iff_iff, decide_eq_true_eq, mem_pastL]
    exact ⟨fun h => h.2, fun h => ⟨ha, h⟩⟩
  rw [this]
theorem mk_next {l : List NodeD} {W W' : List Nat} {i : Nat} (hM : Mk l W i) (hi : i < 96) (h : ∀ r k, r < 96 → k < 128 → hasW W' r k = (hasW W r k || (decide (r = i) && ownB l W i (nd l i).op.parents k))) (hp : (nd l i).past = pastL l i (nd l i).op.parents) (hall : ∀ a, a < i → (nd l a).past = pastL l a (nd l a).op.parents) : Mk l W' (i + 1) := fun r k hr hk => by
  rw [h r k hr hk, hM r k hr hk]
  by_cases e : r = i
  · subst e
    rw [own_in hM (by omega) hk, hp]
    simp only [Nat.lt_irrefl, decide_false, Bool.false_and, Bool.false_or, decide_true, Bool.true_and, Nat.lt_succ_self]
    rw [Bool.eq_iff_iff, decide_eq_true_eq, mem_pastL]
    refine ⟨fun hin => ⟨?_, hin⟩, fun h => h.2⟩
    unfold inB at hin
    rw [List.any_eq_true] at hin
    obtain ⟨p, _, hin⟩ := hin
    cases hf : findN l r p with
    | none => rw [hf] at hin; cases hin
    | some a =>
      have hlt := findN_lt hf
      rw [hf] at hin
      simp only [Bool.or_eq_true, decide_eq_true_eq] at hin
      rcases hin with rfl | hin
      · exact hlt
      · rw [hall a hlt, mem_pastL] at hin
        omega
  · have e1 : decide (r = i) = false := by simpa using e
    have e2 : decide (r < i + 1) = decide (r < i) := by
      by_cases h : r < i
      · have : r < i + 1 := by omega
        simp [h, this]
      · have : ¬ r < i + 1 := by omega
        simp [h, this]
    rw [e1, e2]
    simp
theorem rightG_bad {l : List NodeD} {i : Nat} (hi : i < l.length) (h : stepB l i = false) : rightG l = false := by
  unfold rightG
  have : (List.range l.length).all (stepB l) = false := by
    rw [List.all_eq_false]
    exact ⟨i, List.mem_range.2 hi, by rw [h]; decide⟩
  rw [this, Bool.and_false]
theorem wv_zero : wv (List.replicate 192 0) = iv .u64 (zl 192) := by kernel_rfl
theorem wzero_has (r k : Nat) : hasW (List.replicate 192 0) r k = false := by
  unfold hasW
  have : (List.replicate 192 0).getD (2 * r + k / 64) 0 = 0 := by
    rw [List.getD_eq_getElem?_getD, List.getElem?_replicate]
    split <;> rfl
  rw [this]
  exact Nat.zero_testBit _
theorem put_map {nro : Nat} {H : AH} {mi : Nat} {E : List (Value × Value)} {l : List NodeD} {i : Nat} {k : List Int} (hm : hget H mi = some (mblk 110 E)) (hE : MapP E l i) (hk : k.length = 32) (hn : nro ≤ mi) : xmapUpd Try.prog nro 110 (.map (some mi)) (.agg (iv .u8 k).toArray) (.int .i64 (i : Nat)) H = some (undef, H.set mi (some (mblk 110 (mput (kyv k) (.int .i64 (i : Nat)) E)))) := by
  have h1 : und Try.prog 110 = .map 38 3 := by kernel_rfl
  have h3 := kyv_ok hk
  unfold kyv at h3 ⊢
  unfold xmapUpd
  simp only [h1, hm, ents_mblk, h3, hE.ok]
  rw [if_pos ⟨hn, trivial, trivial, rfl⟩, mblk_ty]
theorem make_map (n : Nat) (H : AH) : xmakeMap Try.prog 110 (some (.int .i64 (n : Nat))) H = some (.map (some H.length), H ++ [some (mblk 110 [])]) := by
  have h1 : und Try.prog 110 = .map 38 3 := by kernel_rfl
  unfold xmakeMap
  simp only [h1]
attribute [local simp] wb_bool wb_undef with_lit XL_nil XL_cons XLc_val XLc_call step1_eq stepW_t stepW_f stepC_n stepC_s stepX_s stepX_n stepN_s calleeX oneV xop_eq xopR_s xopR_n wantedA_eq wantedG_n wantedG_s plain1_int plain1_bool plain1_string bits_i64 bits_u64 bits_u32 bits_u16 bits_u8 xeqA xagg xcmp xarr allK_iv num_iv calleeOf xread xeff xbin xint xnil xun xstr xload xconv xpart xfield xfieldAddr xindexAddr xindex bnd asInt? xslice xlen xmin xmax xbuild xfill xappend xapp2 xappstr xappmk xcap xcopy xcells eval_tmp eval_const put_at put_none fr0_at cells_agg cells_int cells_bool cells_string cells_ptr cells_slice notTuple tab iv_all hget_app hget_app0 hget_cons0 hget_cons set_app set_app0 setR setR_one QL_nil QL_cons QLc_val stepQ_t stepQ_f stepQC_n stepQC_s stepQX_s SL_nil SL_cons SLc_val stepS_t stepS_f ltT ltF leT leF eqT eqF ltTn ltFn leTn leFn eqTn eqFn beqT beqF bneT bneF wi64 wu64 wu32 wu16 wu8 tmodP tdivP hgetL hgetNe hgetEq setL nums_def nums_len Nat.succ_le_of_lt List.getElem?_cons_zero List.getElem?_cons_succ Option.getD_some Int.toNat_add Int.toNat_mul agM okM agB agI agS agP agL agA okB okI okS okP okSl okA
theorem graph_right_rc {γ : Nat → Option Nat} {H : AH} {nv : Value} {l : List NodeD} (hN : NdA H nv l) :
    AC Try.prog H.length γ 30 #[nv] H (fun v' _ => v' = .bool (rightG l)) := by
  obtain ⟨hnt, hvc, hxl, hwf, hat⟩ := hN
  have hN' : NdA H nv l := ⟨hnt, hvc, hxl, hwf, hat⟩
  refine ac_of_aw Try.func30 rfl Try.ntmps30 Try.results30 (by simp) ?_
  refine aw_seq ?_
  (refine aw_ops (by kernel_rfl) (fun K hK => ?_); simp (disch := first | omega | (simp only [lnS]; try omega; done)) [-getElem?_pos, -getElem?_neg]; refine hK _ _ ?_; clear hK K)
  refine aw_seq ?_
  refine aw_seq ?_
  by_cases hl : 96 < l.length
  case pos =>
    (refine aw_ops (by kernel_rfl) (fun K hK => ?_); simp (disch := first | omega | (simp only [lnS]; try omega; done)) [-getElem?_pos, -getElem?_neg, -notTuple, hnt, hvc, nt_intG, -xlen, hxl, hl]; refine hK _ _ ?_; clear hK K)
    refine aw_t (by (first | (simp [eval_tmp, put_at]; done) | (simp [eval_tmp, put_at]; omega))) (by kernel_rfl) ?_
    refine aw_seq ?_
    (refine aw_ops (by kernel_rfl) (fun K hK => ?_); simp (disch := first | omega | (simp only [lnS]; try omega; done)) [-getElem?_pos, -getElem?_neg]; refine hK _ _ ?_; clear hK K)
    (refine aw_ret ?_; simp (disch := first | omega | (simp only [lnS]; try omega; done)) [-getElem?_pos, -getElem?_neg, thenQ_ret, scopeQ_ret, inBlockQ_ret, RQ, resL, resV])
    have : ¬ l.length ≤ 96 := by omega
    simp [rightG, this]
  (refine aw_ops (by kernel_rfl) (fun K hK => ?_); simp (disch := first | omega | (simp only [lnS]; try omega; done)) [-getElem?_pos, -getElem?_neg, -notTuple, hnt, hvc, nt_intG, -xlen, hxl, hl]; refine hK _ _ ?_; clear hK K)
  refine aw_f (by (first | (simp [eval_tmp, put_at]; done) | (simp [eval_tmp, put_at]; omega))) (by kernel_rfl) ?_
  refine aw_skip ?_
  refine aw_seq ?_
  have hmm := make_map l.length H
  have hp0 : plain1 (.slice none 0 0) = true := rfl
  have hpm : plain1 (.map none) = true := rfl
  have hntm : notTuple (.map (some H.length)) = true := rfl
  have hmc : (Value.map (some H.length)).cells = #[.map (some H.length)] := rfl
  have hset : ∀ Z : List Value, Z.length = 194 → setR Z 0 (nv :: .map (some H.length) :: iv .u64 (zl 192)) = nv :: .map (some H.length) :: iv .u64 (zl 192) := fun Z hZ => setR_all _ _ (by simp [hZ])
  have hsr : setR (nv :: Value.map none :: iv .u64 (zl 192)) 1 [.map (some H.length)] = nv :: .map (some H.length) :: iv .u64 (zl 192) := by simp [setR_one]
  (refine aw_ops (by kernel_rfl) (fun K hK => ?_); simp (disch := first | omega | (simp only [lnS]; try omega; done)) [-getElem?_pos, -getElem?_neg, -notTuple, hnt, hvc, nt_intG, nt_aggG, -xlen, hxl, hl, hmm, hp0, hpm, hntm, hmc, hset, hsr, mblk_ty]; refine hK _ _ ?_; clear hK K)
  have hwz : lkC nv H.length (List.replicate 192 0) = nv :: .map (some H.length) :: iv .u64 (zl 192) := by rw [lkC, wv_zero]; rfl
  refine aw_seq ?_
  refine aw_seq ?_
  (refine aw_ops (by kernel_rfl) (fun K hK => ?_); simp (disch := first | omega | (simp only [lnS]; try omega; done)) [-getElem?_pos, -getElem?_neg, -notTuple, hnt, hvc, nt_intG, -xlen, hxl]; refine hK _ _ ?_; clear hK K)
  refine aw_block ?_
  have hlb : l.length ≤ 96 := by omega
  refine aw_loop (fun c α G => ∃ (i : Nat) (W : List Nat) (E : List (Value × Value)), i + c = l.length ∧ α 3 = .pointer (some ⟨H.length + 1, 0, none⟩) ∧ α 16 = nv ∧ α 17 = .int .i64 (l.length : Nat) ∧ α 18 = .int .i64 (i : Nat) ∧ Low H.length H G ∧ hget G (H.length + 1) = some ⟨lkC nv H.length W, 116, none⟩ ∧ hget G H.length = some (mblk 110 E) ∧ MapP E l i ∧ Wd W ∧ W.length = 192 ∧ Mk l W i ∧ ∀ a, a < i → stepB l a = true) l.length ?_ ?_
  · refine ⟨0, List.replicate 192 0, [], by omega, by (first | (simp [put_at, put_none, fr0_at]; done) | rfl), by (first | (simp [put_at, put_none, fr0_at]; done) | rfl), by (first | (simp [put_at, put_none, fr0_at]; done) | rfl), by (first | (simp [put_at, put_none, fr0_at]; done) | rfl), ?_, ?_, ?_, MapP.zero l, ?_, by simp, fun r k _ _ => by rw [wzero_has]; simp, fun a ha => by omega⟩
    · exact Low.push (Nat.le_refl _) _
    · rw [hget_app, hwz]; rfl
    · rw [hget_app0]; rfl
    · intro x hx
      rw [List.eq_of_mem_replicate hx]; decide
  rintro c α G ⟨i, W, E, hic, h3, h16, h17, h18, hlow, hb, hm, hE, hw, hW, hM, hall⟩
  refine aw_seq ?_
  by_cases hi : i < l.length
  case neg =>
    (refine aw_ops (by kernel_rfl) (fun K hK => ?_); simp (disch := first | omega | (simp only [lnS]; try omega; done)) [-getElem?_pos, -getElem?_neg, h17, h18, hi]; refine hK _ _ ?_; clear hK K)
    refine aw_seq ?_
    refine aw_f (by (first | (simp [eval_tmp, put_at, hi]; done) | (simp [eval_tmp, put_at, hi]; omega))) (by kernel_rfl) ?_
    refine aw_exit ?_
    obtain rfl : i = l.length := by omega
    refine aw_seq ?_
    (refine aw_ops (by kernel_rfl) (fun K hK => ?_); simp (disch := first | omega | (simp only [lnS]; try omega; done)) [-getElem?_pos, -getElem?_neg]; refine hK _ _ ?_; clear hK K)
    (refine aw_ret ?_; simp (disch := first | omega | (simp only [lnS]; try omega; done)) [-getElem?_pos, -getElem?_neg, thenQ_ret, scopeQ_ret, inBlockQ_ret, RQ, resL, resV])
    have : (List.range l.length).all (stepB l) = true := List.all_eq_true.2 fun a ha => hall a (List.mem_range.1 ha)
    simp [rightG, this, hlb]
  obtain ⟨j, q, bb, us, pv, wv', bv, qv, hx, hbb, hq, hcell, hus, hC⟩ := hat i _ (nd_get hi)
  have hwfi := hwf _ (List.mem_of_getElem? (nd_get hi))
  have hbG : hget G j = some bb := (hlow.1 j (hget_lt hbb)).trans hbb
  have hul := hC.len
  have hle0 := hlow.2
  (refine aw_ops (by kernel_rfl) (fun K hK => ?_); simp (disch := first | omega | (simp only [lnS]; try omega; done)) [-getElem?_pos, -getElem?_neg, h17, h18, hi]; refine hK _ _ ?_; clear hK K)
  refine aw_seq ?_
  refine aw_t (by (first | (simp [eval_tmp, put_at, hi]; done) | (simp [eval_tmp, put_at, hi]; omega))) (by kernel_rfl) ?_
  refine aw_skip ?_
  refine aw_seq ?_
  refine aw_block ?_
  refine aw_seq ?_
  have hset2 : ∀ Z : List Value, Z.length = 104 → setR Z 0 us = us := fun Z hZ => setR_all _ _ (by omega)
  have hus' := hus.symm
  clear hus
  (refine aw_ops (by kernel_rfl) (fun K hK => ?_); simp (disch := first | omega | (simp only [lnS]; try omega; done)) [-getElem?_pos, -getElem?_neg, h16, h18, -notTuple, hnt, hvc, nt_intG, nt_aggG, -xindexAddr, hx, hbG, hus', hul, hq, hle0, hp0, all_zl, hset2]; refine hK _ _ ?_; clear hK K)
  obtain ⟨hlow2, hb2⟩ := boxed (H := G) us 50
  have hbV2 := hget_left' (L := [some ⟨us, 50, none⟩]) hb
  have hmG2 := hget_left' (L := [some ⟨us, 50, none⟩]) hm
  obtain ⟨g, hg⟩ : ∃ g, g = G.length := ⟨_, rfl⟩
  rw [← hg] at hb2 ⊢
  generalize G ++ [some ⟨us, 50, none⟩] = G2 at *
  have hlowG2 : Low H.length H G2 := ⟨fun j hj => (hlow2.1 j (by omega)).trans (hlow.1 j hj), by have := hlow2.2; omega⟩
  have hlG2 := hlowG2.2
  have hid := hC.id
  have hwl : (iv .u8 (nd l i).id).length = 32 := by rw [iv_length]; exact hwfi.id.1
  obtain ⟨CW, hCW⟩ : ∃ C, C = lkC nv H.length W := ⟨_, rfl⟩
  have hv1 : CW[1]? = some (.map (some H.length)) := by rw [hCW]; rfl
  have hvl : CW.length = 194 := by rw [hCW]; simp [lkC, wv_len, hW]
  have hbV3 := hbV2
  rw [← hCW] at hbV3
  refine aw_seq ?_
  refine aw_seq ?_
  cases hf : findN l i (nd l i).id with
  | some a =>
    have hlk := look_some hmG2 hE hwfi.id.1 hf
    (refine aw_ops (by kernel_rfl) (fun K hK => ?_); simp (disch := first | omega | (simp only [lnS]; try omega; done)) [-getElem?_pos, -getElem?_neg, h3, hbV3, hv1, hvl, hb2, hul, hid, hwl, hlk, nt_aggG]; refine hK _ _ ?_; clear hK K)
    refine aw_seq ?_
    refine aw_ops (by kernel_rfl) (fun K hK => ?_)
    simp (disch := first | omega | (simp only [lnS]; try omega; done)) [-getElem?_pos, -getElem?_neg, hb2, hul]
    refine hK _ _ ?_; clear hK K
    refine aw_t (by (first | (simp [eval_tmp, put_at]; done) | (simp [eval_tmp, put_at]; omega))) (by kernel_rfl) ?_
    refine aw_seq ?_
    (refine aw_ops (by kernel_rfl) (fun K hK => ?_); simp (disch := first | omega | (simp only [lnS]; try omega; done)) [-getElem?_pos, -getElem?_neg]; refine hK _ _ ?_; clear hK K)
    (refine aw_ret ?_; simp (disch := first | omega | (simp only [lnS]; try omega; done)) [-getElem?_pos, -getElem?_neg, thenQ_ret, scopeQ_ret, inBlockQ_ret, RQ, resL, resV])
    refine rightG_bad hi ?_
    simp [stepB, hf]
  | none =>
    have hlk := look_none hmG2 hE hwfi.id.1 hf
    (refine aw_ops (by kernel_rfl) (fun K hK => ?_); simp (disch := first | omega | (simp only [lnS]; try omega; done)) [-getElem?_pos, -getElem?_neg, h3, hbV3, hv1, hvl, hb2, hul, hid, hwl, hlk, nt_aggG]; refine hK _ _ ?_; clear hK K)
    refine aw_seq ?_
    have hO : OpC G2 ((us.drop 32).take 71) (nd l i).op pv wv' bv := hC.op.low (fun j hj => hlowG2.1 j hj)
    have c3 : us[35]? = some (.int .i64 (nd l i).op.kind) := by
      have := hO.c3
      rwa [List.getElem?_take_of_lt (by omega), List.getElem?_drop] at this
    have hrr := right_rc (γ := γ) hO hwfi.op
    obtain ⟨u7, hu7⟩ : ∃ u, u = (us.drop 32).take 71 := ⟨_, rfl⟩
    have hu7l := hO.len
    rw [← hu7] at hrr hu7l
    have hu7' := hu7.symm
    refine aw_ops (by kernel_rfl) (fun K hK => ?_)
    simp (disch := first | omega | (simp only [lnS]; try omega; done)) [-getElem?_pos, -getElem?_neg, hb2, hul, hu7', hu7l, nt_aggG]
    refine ⟨by kernel_rfl, ac_of_rc hrr (by simp [pv_iv, pv_int, pv_bool, pv_string, pv_tup2, pv_tup3, iv_plain, p2_int, p2_bool, p2_string]) ?_⟩
    cases hro : rightO (nd l i).op with
    | false =>
      try simp (disch := first | omega | (simp only [lnS]; try omega; done)) [-getElem?_pos, -getElem?_neg, hb2, hul]
      refine hK _ _ ?_; clear hK K
      refine aw_t (by (first | (simp [eval_tmp, put_at]; done) | (simp [eval_tmp, put_at]; omega))) (by kernel_rfl) ?_
      refine aw_seq ?_
      (refine aw_ops (by kernel_rfl) (fun K hK => ?_); simp (disch := first | omega | (simp only [lnS]; try omega; done)) [-getElem?_pos, -getElem?_neg]; refine hK _ _ ?_; clear hK K)
      (refine aw_ret ?_; simp (disch := first | omega | (simp only [lnS]; try omega; done)) [-getElem?_pos, -getElem?_neg, thenQ_ret, scopeQ_ret, inBlockQ_ret, RQ, resL, resV])
      refine rightG_bad hi ?_
      simp [stepB, hro]
    | true =>
    have htb : (decide ((nd l i).op.kind = 1) == decide (i = 0)) = !(((nd l i).op.kind == 1) != ((i : Int) == 0)) := by
      have e1 : ((nd l i).op.kind == 1) = decide ((nd l i).op.kind = 1) := rfl
      have e2 : ((i : Int) == 0) = decide (i = 0) := by rw [Bool.eq_iff_iff]; simp
      rw [e1, e2]
      cases decide ((nd l i).op.kind = 1) <;> cases decide (i = 0) <;> rfl
    generalize hkd : (nd l i).op.kind = kd at *
    generalize hb1 : (kd == 1) = b1 at *
    generalize hb4 : ((i : Int) == 0) = b4 at *
    cases hbn : (b1 != b4) with
    | true =>
      simp (disch := first | omega | (simp only [lnS]; try omega; done)) [-getElem?_pos, -getElem?_neg, hb2, hul, c3, hb1, hb4, hbn]
      refine hK _ _ ?_; clear hK K
      refine aw_t (by (first | (simp [eval_tmp, put_at]; done) | (simp [eval_tmp, put_at]; omega))) (by kernel_rfl) ?_
      refine aw_seq ?_
      (refine aw_ops (by kernel_rfl) (fun K hK => ?_); simp (disch := first | omega | (simp only [lnS]; try omega; done)) [-getElem?_pos, -getElem?_neg]; refine hK _ _ ?_; clear hK K)
      (refine aw_ret ?_; simp (disch := first | omega | (simp only [lnS]; try omega; done)) [-getElem?_pos, -getElem?_neg, thenQ_ret, scopeQ_ret, inBlockQ_ret, RQ, resL, resV])
      refine rightG_bad hi ?_
      rw [hbn] at htb
      simp [stepB, turnB, hkd, htb]
    | false =>
    simp (disch := first | omega | (simp only [lnS]; try omega; done)) [-getElem?_pos, -getElem?_neg, hb2, hul, c3, hb1, hb4, hbn]
    refine hK _ _ ?_; clear hK K
    refine aw_f (by (first | (simp [eval_tmp, put_at]; done) | (simp [eval_tmp, put_at]; omega))) (by kernel_rfl) ?_
    refine aw_skip ?_
    rw [hbn] at htb
    have htk : (decide ((nd l i).op.kind = 1) == decide (i = 0)) = true := by rw [hkd]; simpa using htb
    refine aw_seq ?_
    refine aw_seq ?_
    refine aw_ops (by kernel_rfl) (fun K hK => ?_)
    simp (disch := first | omega | (simp only [lnS]; try omega; done)) [-getElem?_pos, -getElem?_neg, h3]
    refine ⟨by kernel_rfl, (parents_ac (γ := γ) hN' hlowG2 (by omega) (by omega) hbV2 hmG2 hE hw hW hi hlb).mono ?_⟩
    rintro _ G3 ⟨hone3, ok, rfl, hok, hpar⟩
    cases ok with
    | false =>
      try simp (disch := first | omega | (simp only [lnS]; try omega; done)) [-getElem?_pos, -getElem?_neg]
      refine hK _ _ ?_; clear hK K
      refine aw_t (by (first | (simp [eval_tmp, put_at]; done) | (simp [eval_tmp, put_at]; omega))) (by kernel_rfl) ?_
      refine aw_seq ?_
      (refine aw_ops (by kernel_rfl) (fun K hK => ?_); simp (disch := first | omega | (simp only [lnS]; try omega; done)) [-getElem?_pos, -getElem?_neg]; refine hK _ _ ?_; clear hK K)
      (refine aw_ret ?_; simp (disch := first | omega | (simp only [lnS]; try omega; done)) [-getElem?_pos, -getElem?_neg, thenQ_ret, scopeQ_ret, inBlockQ_ret, RQ, resL, resV])
      refine rightG_bad hi ?_
      unfold stepB
      rw [← hok, Bool.false_and]
    | true =>
    obtain ⟨W', hbV4, hw', hW', hrow⟩ := hpar rfl
    have hlowG3 : Low H.length H G3 := hone3.low (by omega) hlowG2 hlowG2.2
    have hmk := mk_row hM (by omega) hrow
    simp (disch := first | omega | (simp only [lnS]; try omega; done)) [-getElem?_pos, -getElem?_neg, h3]
    refine ⟨by kernel_rfl, (past_rc (γ := γ) (mi := H.length) hN' hlowG3 hbV4 hw' hW' hi hlb).mono ?_⟩
    rintro _ G4 ⟨e4, rfl⟩
    subst G4
    rw [mark_past hmk (by omega)]
    by_cases hpp : (nd l i).past = pastL l i (nd l i).op.parents
    case neg =>
      try simp (disch := first | omega | (simp only [lnS]; try omega; done)) [-getElem?_pos, -getElem?_neg, hpp]
      refine hK _ _ ?_; clear hK K
      refine aw_t (by (first | (simp [eval_tmp, put_at]; done) | (simp [eval_tmp, put_at]; omega))) (by kernel_rfl) ?_
      refine aw_seq ?_
      (refine aw_ops (by kernel_rfl) (fun K hK => ?_); simp (disch := first | omega | (simp only [lnS]; try omega; done)) [-getElem?_pos, -getElem?_neg]; refine hK _ _ ?_; clear hK K)
      (refine aw_ret ?_; simp (disch := first | omega | (simp only [lnS]; try omega; done)) [-getElem?_pos, -getElem?_neg, thenQ_ret, scopeQ_ret, inBlockQ_ret, RQ, resL, resV])
      refine rightG_bad hi ?_
      simp [stepB, hpp]
    simp (disch := first | omega | (simp only [lnS]; try omega; done)) [-getElem?_pos, -getElem?_neg, h3, hpp]
    refine ⟨by kernel_rfl, (seq_ac (γ := γ) (mi := H.length) hN' hlowG3 hbV4 hw' hW' hi hlb).mono ?_⟩
    rintro _ G5 ⟨⟨A, e5⟩, rfl⟩
    subst e5
    rw [seq_turn hmk (by omega) hpp htk]
    cases htu : turnB l i (nd l i).op (nd l i).past with
    | false =>
      try simp (disch := first | omega | (simp only [lnS]; try omega; done)) [-getElem?_pos, -getElem?_neg]
      refine hK _ _ ?_; clear hK K
      refine aw_t (by (first | (simp [eval_tmp, put_at]; done) | (simp [eval_tmp, put_at]; omega))) (by kernel_rfl) ?_
      refine aw_seq ?_
      (refine aw_ops (by kernel_rfl) (fun K hK => ?_); simp (disch := first | omega | (simp only [lnS]; try omega; done)) [-getElem?_pos, -getElem?_neg]; refine hK _ _ ?_; clear hK K)
      (refine aw_ret ?_; simp (disch := first | omega | (simp only [lnS]; try omega; done)) [-getElem?_pos, -getElem?_neg, thenQ_ret, scopeQ_ret, inBlockQ_ret, RQ, resL, resV])
      refine rightG_bad hi ?_
      simp [stepB, htu]
    | true =>
    try simp (disch := first | omega | (simp only [lnS]; try omega; done)) [-getElem?_pos, -getElem?_neg]
    refine hK _ _ ?_; clear hK K
    refine aw_f (by (first | (simp [eval_tmp, put_at]; done) | (simp [eval_tmp, put_at]; omega))) (by kernel_rfl) ?_
    refine aw_skip ?_
    have hgl := hget_lt hb2
    have hone5 : One (H.length + 1) G2 (G3 ++ [some A]) := hone3.trans (One.push G3 _)
    have hbV5 := hget_left' (L := [some A]) hbV4
    have hbg : H.length + 1 < g := by have := hget_lt hb; omega
    have hg5 : hget (G3 ++ [some A]) g = some ⟨us, 50, none⟩ := (hone5.2 g hgl (by omega)).trans hb2
    have hm5 : hget (G3 ++ [some A]) H.length = some (mblk 110 E) := (hone5.2 _ (hget_lt hmG2) (by omega)).trans hmG2
    have hlowG5 : Low H.length H (G3 ++ [some A]) := hone5.low (by omega) hlowG2 hlowG2.2
    generalize G3 ++ [some A] = G5 at *
    obtain ⟨CV, hCV⟩ : ∃ C, C = lkC nv H.length W' := ⟨_, rfl⟩
    have hv1 : CV[1]? = some (.map (some H.length)) := by rw [hCV]; rfl
    have hvl : CV.length = 194 := by rw [hCV]; simp [lkC, wv_len, hW']
    have hbV6 := hbV5
    rw [← hCV] at hbV6
    have hpm5 := put_map (nro := H.length) hm5 hE hwfi.id.1 (Nat.le_refl _)
    have hPut := hE.put hwfi.id.1 hf
    have hbS : hget (G5.set H.length (some (mblk 110 (mput (kyv (nd l i).id) (.int .i64 (i : Nat)) E)))) (H.length + 1) = some ⟨lkC nv H.length W', 116, none⟩ := by rw [hget_set_ne (by omega)]; exact hbV5
    have hmS : hget (G5.set H.length (some (mblk 110 (mput (kyv (nd l i).id) (.int .i64 (i : Nat)) E)))) H.length = some (mblk 110 (mput (kyv (nd l i).id) (.int .i64 (i : Nat)) E)) := hget_set_eq (hget_lt hm5)
    have hlS : Low H.length H (G5.set H.length (some (mblk 110 (mput (kyv (nd l i).id) (.int .i64 (i : Nat)) E)))) := ⟨fun j hj => (hget_set_ne (by omega)).trans (hlowG5.1 j hj), by rw [List.length_set]; exact hlowG5.2⟩
    generalize mput (kyv (nd l i).id) (.int .i64 (i : Nat)) E = E' at *
    (refine aw_ops (by kernel_rfl) (fun K hK => ?_); simp (disch := first | omega | (simp only [lnS]; try omega; done)) [-getElem?_pos, -getElem?_neg, h3, hbV6, hv1, hvl, hg5, hul, hid, hwl, hpm5, nt_aggG]; refine hK _ _ ?_; clear hK K)
    generalize G5.set H.length (some (mblk 110 E')) = G6 at *
    (refine aw_ops (by kernel_rfl) (fun K hK => ?_); simp (disch := first | omega | (simp only [lnS]; try omega; done)) [-getElem?_pos, -getElem?_neg, h18]; refine hK _ _ ?_; clear hK K)
    refine ⟨c - 1, by omega, i + 1, W', E', by omega, by (first | (simp [put_at, put_none, fr0_at, h3]; done) | rfl), by (first | (simp [put_at, put_none, fr0_at, h16]; done) | rfl), by (first | (simp [put_at, put_none, fr0_at, h17]; done) | rfl), by (first | (simp [put_at, put_none, fr0_at]; done) | rfl), hlS, hbS, hmS, hPut, hw', hW', mk_next hM (by omega) hrow hpp (fun a ha => ?_), fun a ha => ?_⟩
    · have := hall a ha
      simp only [stepB, Bool.and_eq_true, decide_eq_true_eq] at this
      exact this.2.2.2.1
    · by_cases e : a = i
      · subst e
        simp [stepB, ← hok, hro, hf, ← hpp, htu]
      · exact hall a (by omega)
end
section
def isP (l : List NodeD) (z : Int) : Bool := decide (0 ≤ z) && decide (z < l.length)
theorem isP_nat {l : List NodeD} {z : Int} (h : isP l z = true) : ∃ k : Nat, z = k ∧ k < l.length := by
  simp only [isP, Bool.and_eq_true, decide_eq_true_eq] at h
  exact ⟨z.toNat, by omega, by omega⟩
/-- The past of a node at a place. -/
def pastAt (l : List NodeD) (z : Int) : List Int := (nd l z.toNat).past
def aheadB (l : List NodeD) (a b : Int) : Bool := isP l a && (isP l b && (rightG l && decide (a ∈ pastAt l b)))
def apartB (l : List NodeD) (a b : Int) : Bool := !decide (a = b) && (isP l a && (isP l b && (rightG l && (!decide (a ∈ pastAt l b) && !decide (b ∈ pastAt l a)))))
/-- The past of a node by its address. -/
theorem NdA.past_at {H G : AH} {v : Value} {l : List NodeD} (h : NdA H v l) (hlow : Low H.length H G) {k : Nat} (hk : k < l.length) : ∃ j q b qv, xindexAddr Try.prog 22 v (.int .i64 (k : Nat)) = some (.pointer (some ⟨j, q, none⟩)) ∧ hget G j = some b ∧ b.cells[q + 103]? = some qv ∧ InV H qv (nd l k).past ∧ (nd l k).past.length ≤ maxLen ∧ notTuple qv = true ∧ qv.cells = #[qv] := by
  obtain ⟨j, q, b, us, pv, wv', bv, qv, hx, hb, hq, hcell, hus, hC⟩ := h.at_ k _ (nd_get hk)
  exact ⟨j, q, b, qv, hx, (hlow.1 j (hget_lt hb)).trans hb, (hcell 103 (by omega)).trans hC.c103, hC.past, (h.wf _ (List.mem_of_getElem? (nd_get hk))).plen, hC.past.acc.nt, hC.past.acc.cs⟩
theorem InV.lowG {H G : AH} {v : Value} {l : List Int} (h : InV H v l) (hlow : Low H.length H G) : InV G v l := CD.Val.low (fun j hj => hlow.1 j hj) h
attribute [local simp] wb_bool wb_undef with_lit XL_nil XL_cons XLc_val XLc_call step1_eq stepW_t stepW_f stepC_n stepC_s stepX_s stepX_n stepN_s calleeX oneV xop_eq xopR_s xopR_n wantedA_eq wantedG_n wantedG_s plain1_int plain1_bool plain1_string bits_i64 bits_u64 bits_u32 bits_u16 bits_u8 xeqA xagg xcmp xarr allK_iv num_iv calleeOf xread xeff xbin xint xnil xun xstr xload xconv xpart xfield xfieldAddr xindexAddr xindex bnd asInt? xslice xlen xmin xmax xbuild xfill xappend xapp2 xappstr xappmk xcap xcopy xcells eval_tmp eval_const put_at put_none fr0_at cells_agg cells_int cells_bool cells_string cells_ptr cells_slice notTuple tab iv_all hget_app hget_app0 hget_cons0 hget_cons set_app set_app0 setR setR_one QL_nil QL_cons QLc_val stepQ_t stepQ_f stepQC_n stepQC_s stepQX_s SL_nil SL_cons SLc_val stepS_t stepS_f ltT ltF leT leF eqT eqF ltTn ltFn leTn leFn eqTn eqFn beqT beqF bneT bneF wi64 wu64 wu32 wu16 wu8 tmodP tdivP hgetL hgetNe hgetEq setL nums_def nums_len Nat.succ_le_of_lt List.getElem?_cons_zero List.getElem?_cons_succ Option.getD_some Int.toNat_add Int.toNat_mul agM okM agB agI agS agP agL agA okB okI okS okP okSl okA
theorem isPlace_rc {γ : Nat → Option Nat} {H : AH} {nv : Value} {l : List NodeD} (hN : NdA H nv l) (z : Int) : AC Try.prog H.length γ 83 #[nv, .int .i64 z] H (fun v' _ => v' = .bool (isP l z)) := by
  obtain ⟨hnt, hvc, hxl, hwf, hat⟩ := hN
  refine ac_of_aw Try.func83 rfl Try.ntmps83 Try.results83 (by simp) ?_
  refine aw_seq ?_
  (refine aw_ops (by kernel_rfl) (fun K hK => ?_); simp (disch := first | omega | (simp only [lnS]; try omega; done)) [-getElem?_pos, -getElem?_neg]; refine hK _ _ ?_; clear hK K)
  refine aw_seq ?_
  by_cases h0 : 0 ≤ z
  · (refine aw_ops (by kernel_rfl) (fun K hK => ?_); simp (disch := first | omega | (simp only [lnS]; try omega; done)) [-getElem?_pos, -getElem?_neg, -notTuple, hnt, hvc, nt_intG, -xlen, hxl, h0]; refine hK _ _ ?_; clear hK K)
    (refine aw_ret ?_; simp (disch := first | omega | (simp only [lnS]; try omega; done)) [-getElem?_pos, -getElem?_neg, thenQ_ret, scopeQ_ret, inBlockQ_ret, RQ, resL, resV])
    simp [isP, h0]
  · (refine aw_ops (by kernel_rfl) (fun K hK => ?_); simp (disch := first | omega | (simp only [lnS]; try omega; done)) [-getElem?_pos, -getElem?_neg, -notTuple, hnt, hvc, nt_intG, -xlen, hxl, h0]; refine hK _ _ ?_; clear hK K)
    (refine aw_ret ?_; simp (disch := first | omega | (simp only [lnS]; try omega; done)) [-getElem?_pos, -getElem?_neg, thenQ_ret, scopeQ_ret, inBlockQ_ret, RQ, resL, resV])
    simp [isP, h0]
theorem ahead_rc {γ : Nat → Option Nat} {H : AH} {nv : Value} {l : List NodeD} (hN : NdA H nv l) (a b : Int) : AC Try.prog H.length γ 33 #[nv, .int .i64 a, .int .i64 b] H (fun v' _ => v' = .bool (aheadB l a b)) := by
  have r1 := isPlace_rc (γ := γ) hN a
  have r2 := isPlace_rc (γ := γ) hN b
  have r3 := graph_right_rc (γ := γ) hN
  have hN' := hN
  obtain ⟨hnt, hvc, hxl, hwf, hat⟩ := hN
  refine ac_of_aw Try.func33 rfl Try.ntmps33 Try.results33 (by simp) ?_
  refine aw_seq ?_
  (refine aw_ops (by kernel_rfl) (fun K hK => ?_); simp (disch := first | omega | (simp only [lnS]; try omega; done)) [-getElem?_pos, -getElem?_neg]; refine hK _ _ ?_; clear hK K)
  refine aw_seq ?_
  refine aw_ops (by kernel_rfl) (fun K hK => ?_)
  simp (disch := first | omega | (simp only [lnS]; try omega; done)) [-getElem?_pos, -getElem?_neg, -notTuple, hnt, hvc, nt_intG]
  refine ⟨by kernel_rfl, ac_of_rc r1 (by simp [pv_iv, pv_int, pv_bool, pv_string, pv_tup2, pv_tup3, iv_plain, p2_int, p2_bool, p2_string]) ?_⟩
  cases h1 : isP l a with
  | false =>
    try simp (disch := first | omega | (simp only [lnS]; try omega; done)) [-getElem?_pos, -getElem?_neg]
    refine hK _ _ ?_; clear hK K
    (refine aw_ret ?_; simp (disch := first | omega | (simp only [lnS]; try omega; done)) [-getElem?_pos, -getElem?_neg, thenQ_ret, scopeQ_ret, inBlockQ_ret, RQ, resL, resV])
    all_goals simp [aheadB, h1]
  | true =>
  simp (disch := first | omega | (simp only [lnS]; try omega; done)) [-getElem?_pos, -getElem?_neg, -notTuple, hnt, hvc, nt_intG]
  refine ⟨by kernel_rfl, ac_of_rc r2 (by simp [pv_iv, pv_int, pv_bool, pv_string, pv_tup2, pv_tup3, iv_plain, p2_int, p2_bool, p2_string]) ?_⟩
  cases h2 : isP l b with
  | false =>
    try simp (disch := first | omega | (simp only [lnS]; try omega; done)) [-getElem?_pos, -getElem?_neg]
    refine hK _ _ ?_; clear hK K
    (refine aw_ret ?_; simp (disch := first | omega | (simp only [lnS]; try omega; done)) [-getElem?_pos, -getElem?_neg, thenQ_ret, scopeQ_ret, inBlockQ_ret, RQ, resL, resV])
    all_goals simp [aheadB, h2]
  | true =>
  simp (disch := first | omega | (simp only [lnS]; try omega; done)) [-getElem?_pos, -getElem?_neg, -notTuple, hnt, hvc, nt_intG]
  refine ⟨by kernel_rfl, ac_of_rc r3 (by simp [pv_iv, pv_int, pv_bool, pv_string, pv_tup2, pv_tup3, iv_plain, p2_int, p2_bool, p2_string]) ?_⟩
  cases h3 : rightG l with
  | false =>
    try simp (disch := first | omega | (simp only [lnS]; try omega; done)) [-getElem?_pos, -getElem?_neg]
    refine hK _ _ ?_; clear hK K
    (refine aw_ret ?_; simp (disch := first | omega | (simp only [lnS]; try omega; done)) [-getElem?_pos, -getElem?_neg, thenQ_ret, scopeQ_ret, inBlockQ_ret, RQ, resL, resV])
    all_goals simp [aheadB, h3]
  | true =>
  obtain ⟨k, rfl, hk⟩ := isP_nat h2
  obtain ⟨j, q, bb, qv, hx, hb, hc, hi, hm, q1, q2⟩ := hN'.past_at (Low.refl (Nat.le_refl _)) hk
  have hct := contains_rc (γ := γ) hi hm a
  simp (disch := first | omega | (simp only [lnS]; try omega; done)) [-getElem?_pos, -getElem?_neg, -notTuple, hnt, hvc, nt_intG, q1, q2, -xindexAddr, hx, hb, hc]
  refine ⟨by kernel_rfl, ac_of_rc hct (by simp [pv_iv, pv_int, pv_bool, pv_string, pv_tup2, pv_tup3, iv_plain, p2_int, p2_bool, p2_string]) ?_⟩
  try simp (disch := first | omega | (simp only [lnS]; try omega; done)) [-getElem?_pos, -getElem?_neg]
  refine hK _ _ ?_; clear hK K
  (refine aw_ret ?_; simp (disch := first | omega | (simp only [lnS]; try omega; done)) [-getElem?_pos, -getElem?_neg, thenQ_ret, scopeQ_ret, inBlockQ_ret, RQ, resL, resV])
  all_goals simp [aheadB, h1, h2, h3, pastAt]
  all_goals congr
theorem apart_rc {γ : Nat → Option Nat} {H : AH} {nv : Value} {l : List NodeD} (hN : NdA H nv l) (a b : Int) : AC Try.prog H.length γ 58 #[nv, .int .i64 a, .int .i64 b] H (fun v' _ => v' = .bool (apartB l a b)) := by
  have r1 := isPlace_rc (γ := γ) hN a
  have r2 := isPlace_rc (γ := γ) hN b
  have r3 := graph_right_rc (γ := γ) hN
  have hN' := hN
  obtain ⟨hnt, hvc, hxl, hwf, hat⟩ := hN
  refine ac_of_aw Try.func58 rfl Try.ntmps58 Try.results58 (by simp) ?_
  refine aw_seq ?_
  (refine aw_ops (by kernel_rfl) (fun K hK => ?_); simp (disch := first | omega | (simp only [lnS]; try omega; done)) [-getElem?_pos, -getElem?_neg]; refine hK _ _ ?_; clear hK K)
  refine aw_seq ?_
  refine aw_ops (by kernel_rfl) (fun K hK => ?_)
  by_cases h0 : a = b
  · have h0b : (a == b) = true := by simp [h0]
    simp (disch := first | omega | (simp only [lnS]; try omega; done)) [-getElem?_pos, -getElem?_neg, h0, h0b]
    refine hK _ _ ?_; clear hK K
    (refine aw_ret ?_; simp (disch := first | omega | (simp only [lnS]; try omega; done)) [-getElem?_pos, -getElem?_neg, thenQ_ret, scopeQ_ret, inBlockQ_ret, RQ, resL, resV])
    all_goals simp [apartB, h0]
  have h0b : (a == b) = false := by simp [h0]
  simp (disch := first | omega | (simp only [lnS]; try omega; done)) [-getElem?_pos, -getElem?_neg, h0, h0b, -notTuple, hnt, hvc, nt_intG]
  refine ⟨by kernel_rfl, ac_of_rc r1 (by simp [pv_iv, pv_int, pv_bool, pv_string, pv_tup2, pv_tup3, iv_plain, p2_int, p2_bool, p2_string]) ?_⟩
  cases h1 : isP l a with
  | false =>
    try simp (disch := first | omega | (simp only [lnS]; try omega; done)) [-getElem?_pos, -getElem?_neg]
    refine hK _ _ ?_; clear hK K
    (refine aw_ret ?_; simp (disch := first | omega | (simp only [lnS]; try omega; done)) [-getElem?_pos, -getElem?_neg, thenQ_ret, scopeQ_ret, inBlockQ_ret, RQ, resL, resV])
    all_goals simp [apartB, h1]
  | true =>
  simp (disch := first | omega | (simp only [lnS]; try omega; done)) [-getElem?_pos, -getElem?_neg, -notTuple, hnt, hvc, nt_intG]
  refine ⟨by kernel_rfl, ac_of_rc r2 (by simp [pv_iv, pv_int, pv_bool, pv_string, pv_tup2, pv_tup3, iv_plain, p2_int, p2_bool, p2_string]) ?_⟩
  cases h2 : isP l b with
  | false =>
    try simp (disch := first | omega | (simp only [lnS]; try omega; done)) [-getElem?_pos, -getElem?_neg]
    refine hK _ _ ?_; clear hK K
    (refine aw_ret ?_; simp (disch := first | omega | (simp only [lnS]; try omega; done)) [-getElem?_pos, -getElem?_neg, thenQ_ret, scopeQ_ret, inBlockQ_ret, RQ, resL, resV])
    all_goals simp [apartB, h2]
  | true =>
  simp (disch := first | omega | (simp only [lnS]; try omega; done)) [-getElem?_pos, -getElem?_neg, -notTuple, hnt, hvc, nt_intG]
  refine ⟨by kernel_rfl, ac_of_rc r3 (by simp [pv_iv, pv_int, pv_bool, pv_string, pv_tup2, pv_tup3, iv_plain, p2_int, p2_bool, p2_string]) ?_⟩
  cases h3 : rightG l with
  | false =>
    try simp (disch := first | omega | (simp only [lnS]; try omega; done)) [-getElem?_pos, -getElem?_neg]
    refine hK _ _ ?_; clear hK K
    (refine aw_ret ?_; simp (disch := first | omega | (simp only [lnS]; try omega; done)) [-getElem?_pos, -getElem?_neg, thenQ_ret, scopeQ_ret, inBlockQ_ret, RQ, resL, resV])
    all_goals simp [apartB, h3]
  | true =>
  obtain ⟨k, rfl, hk⟩ := isP_nat h2
  obtain ⟨m, rfl, hm⟩ := isP_nat h1
  obtain ⟨j, q, bb, qv, hx, hb, hc, hi, hml, q1, q2⟩ := hN'.past_at (Low.refl (Nat.le_refl _)) hk
  obtain ⟨j2, q', bb2, qv2, hx2, hb2, hc2, hi2, hml2, q12, q22⟩ := hN'.past_at (Low.refl (Nat.le_refl _)) hm
  have hct := contains_rc (γ := γ) hi hml (m : Int)
  have hct2 := contains_rc (γ := γ) hi2 hml2 (k : Int)
  simp (disch := first | omega | (simp only [lnS]; try omega; done)) [-getElem?_pos, -getElem?_neg, -notTuple, hnt, hvc, nt_intG, q1, q2, -xindexAddr, hx, hb, hc]
  refine ⟨by kernel_rfl, ac_of_rc hct (by simp [pv_iv, pv_int, pv_bool, pv_string, pv_tup2, pv_tup3, iv_plain, p2_int, p2_bool, p2_string]) ?_⟩
  cases h5 : decide ((m : Int) ∈ (nd l k).past) with
  | true =>
    try simp (disch := first | omega | (simp only [lnS]; try omega; done)) [-getElem?_pos, -getElem?_neg]
    refine hK _ _ ?_; clear hK K
    (refine aw_ret ?_; simp (disch := first | omega | (simp only [lnS]; try omega; done)) [-getElem?_pos, -getElem?_neg, thenQ_ret, scopeQ_ret, inBlockQ_ret, RQ, resL, resV])
    all_goals simp at h5
    all_goals simp [apartB, pastAt, h5]
  | false =>
  simp at h5
  simp (disch := first | omega | (simp only [lnS]; try omega; done)) [-getElem?_pos, -getElem?_neg, -notTuple, hnt, hvc, nt_intG, q12, q22, -xindexAddr, hx2, hb2, hc2]
  refine ⟨by kernel_rfl, ac_of_rc hct2 (by simp [pv_iv, pv_int, pv_bool, pv_string, pv_tup2, pv_tup3, iv_plain, p2_int, p2_bool, p2_string]) ?_⟩
  try simp (disch := first | omega | (simp only [lnS]; try omega; done)) [-getElem?_pos, -getElem?_neg]
  refine hK _ _ ?_; clear hK K
  (refine aw_ret ?_; simp (disch := first | omega | (simp only [lnS]; try omega; done)) [-getElem?_pos, -getElem?_neg, thenQ_ret, scopeQ_ret, inBlockQ_ret, RQ, resL, resV])
  all_goals simp [apartB, h0, h1, h2, h3, h5, pastAt]
  all_goals congr
theorem autN_succ (l : List NodeD) (t : Nat) (x : Int) : autN l (t + 1) x = autN l t x + if (nd l t).op.author = x then 1 else 0 := by
  unfold autN
  rw [List.range_succ, List.filter_append, List.length_append]
  by_cases h : (nd l t).op.author = x
  · simp [h]
  · have : ((nd l t).op.author == x) = false := by simpa using h
    simp [this, h]
theorem autN_le (l : List NodeD) (t : Nat) (x : Int) : autN l t x ≤ t := by
  unfold autN
  exact Nat.le_trans (List.length_filter_le _ _) (by simp)
end
section
attribute [local simp] wb_bool wb_undef with_lit XL_nil XL_cons XLc_val XLc_call step1_eq stepW_t stepW_f stepC_n stepC_s stepX_s stepX_n stepN_s calleeX oneV xop_eq xopR_s xopR_n wantedA_eq wantedG_n wantedG_s plain1_int plain1_bool plain1_string bits_i64 bits_u64 bits_u32 bits_u16 bits_u8 xeqA xagg xcmp xarr allK_iv num_iv calleeOf xread xeff xbin xint xnil xun xstr xload xconv xpart xfield xfieldAddr xindexAddr xindex bnd asInt? xslice xlen xmin xmax xbuild xfill xappend xapp2 xappstr xappmk xcap xcopy xcells eval_tmp eval_const put_at put_none fr0_at cells_agg cells_int cells_bool cells_string cells_ptr cells_slice notTuple tab iv_all hget_app hget_app0 hget_cons0 hget_cons set_app set_app0 setR setR_one QL_nil QL_cons QLc_val stepQ_t stepQ_f stepQC_n stepQC_s stepQX_s SL_nil SL_cons SLc_val stepS_t stepS_f ltT ltF leT leF eqT eqF ltTn ltFn leTn leFn eqTn eqFn beqT beqF bneT bneF wi64 wu64 wu32 wu16 wu8 tmodP tdivP hgetL hgetNe hgetEq setL nums_def nums_len Nat.succ_le_of_lt List.getElem?_cons_zero List.getElem?_cons_succ Option.getD_some Int.toNat_add Int.toNat_mul agM okM agB agI agS agP agL agA okB okI okS okP okSl okA
/-- Where a node is. -/
def findI (l : List NodeD) (n : Nat) (id : List Int) : Int := match findN l n id with | some a => (a : Nat) | none => -1
theorem findI_first (l : List NodeD) (n : Nat) (id : List Int) : findI l n id = firstI n fun a => decide ((nd l a).id = id) := by
  have : (fun a => decide ((nd l a).id = id)) = fun a => (nd l a).id == id := by
    funext a
    rw [Bool.eq_iff_iff]; simp
  rw [this]
  rfl
end
section
/-- An own slice: nil, or the whole of a block, its only footprint. -/
def OwnF (H : AH) (v : Value) (e : TypeId) (sz : Nat) (cells : List Value) (F : List Nat) : Prop :=
  (v = .slice none 0 0 ∧ cells = [] ∧ F = []) ∨ ∃ j len, v = .slice (some ⟨j, 0, none⟩) len len ∧ hget H j = some ⟨cells, e, some sz⟩ ∧ cells.length = len * sz ∧ F = [j]
theorem OwnF.low {H H' : AH} {v : Value} {e : TypeId} {sz : Nat} {cells : List Value} {F : List Nat} (h : OwnF H v e sz cells F) (hl : ∀ j ∈ F, hget H' j = hget H j) : OwnF H' v e sz cells F := by
  rcases h with h | ⟨j, len, h1, h2, h3, rfl⟩
  · exact .inl h
  · exact .inr ⟨j, len, h1, by rw [hl j (by simp)]; exact h2, h3, rfl⟩
theorem OwnF.len {P : Program} {H : AH} {v : Value} {e t : TypeId} {sz : Nat} {cells : List Value} {F : List Nat} (h : OwnF H v e sz cells F) (ht : und P t = .slice e) {n : Nat} (hn : cells.length = n * sz) (h0 : 0 < sz) : xlen P t v = some (.int .i64 n) := by
  rcases h with ⟨rfl, rfl, rfl⟩ | ⟨j, len, rfl, h2, h3, rfl⟩
  · have : n = 0 := by
      have : n * sz = 0 := hn.symm
      rcases Nat.mul_eq_zero.1 this with h | h <;> omega
    subst this
    simp [xlen, ht]
  · have : len = n := Nat.eq_of_mul_eq_mul_right h0 (h3.symm.trans hn)
    subst this
    simp [xlen, ht]
theorem ownF_append {P : Program} {nro : Nat} {t e : TypeId} {H : AH} {v x : Value} {sz : Nat} {cells news : List Value} {F : List Nat} (hu : und P t = .slice e) (hs : szt P e = sz) (h0 : 0 < sz) (hz : (zer P e).map (·.cells.size) = some sz)
    (hv : OwnF H v e sz cells F) (hnro : ∀ j ∈ F, nro ≤ j) (hstr : ∀ s, x ≠ .string s) (hx : xcells sz x H = some news) (hn : news ≠ []) (hd : news.length % sz = 0) (hb : (cells.length + news.length) * byt P e ≤ 140737488355328) (hm : cells.length + news.length ≤ maxLen) :
    ∃ v' H', xappend P nro t v x H = some (v', H') ∧ OwnF H' v' e sz (cells ++ news) [H.length] ∧ H'.length = H.length + 1 ∧ ∀ j, j < H.length → j ∉ F → hget H' j = hget H j := by
  subst hs
  have hdm : news.length / szt P e * szt P e = news.length := Nat.div_mul_cancel (Nat.dvd_of_mod_eq_zero hd)
  rcases hv with ⟨rfl, rfl, rfl⟩ | ⟨j, len, rfl, h3, h4, rfl⟩
  · refine ⟨.slice (some ⟨H.length, 0, none⟩) (news.length / szt P e) (news.length / szt P e), H ++ [some ⟨news, e, some (szt P e)⟩], ?_, .inr ⟨H.length, news.length / szt P e, rfl, ?_, ?_, rfl⟩, by simp, fun i hi _ => hget_left hi⟩
    · simp only [List.length_nil, Nat.zero_add] at hb hm
      unfold xappend
      cases x <;> first | (exact absurd rfl (hstr _)) | (simp only [hu, hx]; rw [if_pos ⟨h0, hz, hb, hm⟩, if_neg hn])
    · rw [hget_app0, hget_cons0]; rfl
    · rw [hdm]; rfl
  · have hj := hget_lt h3
    refine ⟨.slice (some ⟨H.length, 0, none⟩) (len + news.length / szt P e) (len + news.length / szt P e), H.set j none ++ [some ⟨cells ++ news, e, some (szt P e)⟩], ?_, .inr ⟨H.length, len + news.length / szt P e, rfl, ?_, ?_, rfl⟩, by simp, fun i hi hni => ?_⟩
    · have hc : True ∧ 0 < szt P e ∧ (zer P e).map (·.cells.size) = some (szt P e) ∧ nro ≤ j ∧ True ∧ True ∧ len * szt P e ≤ cells.length ∧ (len * szt P e + news.length) * byt P e ≤ 140737488355328 ∧ len * szt P e + news.length ≤ maxLen :=
        ⟨trivial, h0, hz, hnro j (by simp), trivial, trivial, by omega, by rw [← h4]; exact hb, by rw [← h4]; exact hm⟩
      unfold xappend
      cases x <;> first | (exact absurd rfl (hstr _)) | (simp only [hu, hx, h3]; rw [if_pos hc, ← h4, List.take_length])
    · have : (H.set j none).length = H.length := by simp
      rw [← this, hget_app0, hget_cons0]
    · rw [List.length_append, Nat.add_mul, ← h4, hdm]
    · rw [hget_left (by simp; omega), hget_set_ne (fun e => hni (by simp [e]))]
theorem OwnF.new {H : AH} {v : Value} {e : TypeId} {sz j : Nat} {cells : List Value} (h : OwnF H v e sz cells [j]) : ∃ len, v = .slice (some ⟨j, 0, none⟩) len len := by
  rcases h with ⟨_, _, h⟩ | ⟨i, len, rfl, _, _, h⟩
  · cases h
  · cases h; exact ⟨len, rfl⟩
theorem OwnF.lt {H : AH} {v : Value} {e : TypeId} {sz : Nat} {cells : List Value} {F : List Nat} (h : OwnF H v e sz cells F) : ∀ j ∈ F, j < H.length := by
  rcases h with ⟨_, _, rfl⟩ | ⟨i, len, _, h2, _, rfl⟩
  · intro j hj; cases hj
  · intro j hj; rw [List.mem_singleton] at hj; subst hj; exact hget_lt h2
end
section
/-- What parents and what is ahead of them are. -/
def inZ (l : List NodeD) (n : Nat) (ps : List (List Int)) (y : Int) : Prop := ∃ p ∈ ps, ∃ a, findN l n p = some a ∧ (y = (a : Int) ∨ y ∈ (nd l a).past)
theorem inZ_B {l : List NodeD} {n : Nat} {ps : List (List Int)} {k : Nat} : inB l n ps k = true ↔ inZ l n ps (k : Int) := by
  unfold inB inZ
  rw [List.any_eq_true]
  refine exists_congr fun p => ?_
  refine and_congr_right fun _ => ?_
  cases hf : findN l n p with
  | none => simp
  | some a =>
    simp only [Bool.or_eq_true, decide_eq_true_eq, Option.some.injEq, exists_eq_left']
    refine or_congr ?_ Iff.rfl
    omega
theorem pastL_succ (l : List NodeD) (n t : Nat) (ps : List (List Int)) : (((List.range (t + 1)).filter (inB l n ps)).map fun k : Nat => (k : Int)) = (((List.range t).filter (inB l n ps)).map fun k : Nat => (k : Int)) ++ (if inB l n ps t = true then [(t : Int)] else []) := by
  rw [List.range_succ, List.filter_append, List.map_append]
  by_cases h : inB l n ps t = true
  · simp [h]
  · simp [h]
theorem NdA.lowG {H G : AH} {nv : Value} {l : List NodeD} (hN : NdA H nv l) (hlow : Low H.length H G) : NdA G nv l := ⟨hN.nt, hN.cs, hN.len, hN.wf, fun i x hx => by
  obtain ⟨j, q, bb, us, pv, wv', bv, qv, h1, h2, h3, h4, h5, h6⟩ := hN.at_ i x hx
  exact ⟨j, q, bb, us, pv, wv', bv, qv, h1, (hlow.1 j (hget_lt h2)).trans h2, h3, h4, h5, h6.low hlow.1⟩⟩
attribute [local simp] wb_bool wb_undef with_lit XL_nil XL_cons XLc_val XLc_call step1_eq stepW_t stepW_f stepC_n stepC_s stepX_s stepX_n stepN_s calleeX oneV xop_eq xopR_s xopR_n wantedA_eq wantedG_n wantedG_s plain1_int plain1_bool plain1_string bits_i64 bits_u64 bits_u32 bits_u16 bits_u8 xeqA xagg xcmp xarr allK_iv num_iv calleeOf xread xeff xbin xint xnil xun xstr xload xconv xpart xfield xfieldAddr xindexAddr xindex bnd asInt? xslice xlen xmin xmax xbuild xfill xappend xapp2 xappstr xappmk xcap xcopy xcells eval_tmp eval_const put_at put_none fr0_at cells_agg cells_int cells_bool cells_string cells_ptr cells_slice notTuple tab iv_all hget_app hget_app0 hget_cons0 hget_cons set_app set_app0 setR setR_one QL_nil QL_cons QLc_val stepQ_t stepQ_f stepQC_n stepQC_s stepQX_s SL_nil SL_cons SLc_val stepS_t stepS_f ltT ltF leT leF eqT eqF ltTn ltFn leTn leFn eqTn eqFn beqT beqF bneT bneF wi64 wu64 wu32 wu16 wu8 tmodP tdivP hgetL hgetNe hgetEq setL nums_def nums_len Nat.succ_le_of_lt List.getElem?_cons_zero List.getElem?_cons_succ Option.getD_some Int.toNat_add Int.toNat_mul agM okM agB agI agS agP agL agA okB okI okS okP okSl okA
end
section
theorem rightG_len {l : List NodeD} (h : rightG l = true) : l.length ≤ 96 := by
  unfold rightG at h
  rw [Bool.and_eq_true, decide_eq_true_eq] at h
  exact h.1
theorem own_nt {H : AH} {v : Value} {e : TypeId} {sz : Nat} {cells : List Value} {F : List Nat} (h : OwnF H v e sz cells F) : notTuple v = true ∧ v.cells = #[v] := by
  rcases h with ⟨rfl, _, _⟩ | ⟨j, n, rfl, _⟩ <;> exact ⟨rfl, rfl⟩
attribute [local simp] wb_bool wb_undef with_lit XL_nil XL_cons XLc_val XLc_call step1_eq stepW_t stepW_f stepC_n stepC_s stepX_s stepX_n stepN_s calleeX oneV xop_eq xopR_s xopR_n wantedA_eq wantedG_n wantedG_s plain1_int plain1_bool plain1_string bits_i64 bits_u64 bits_u32 bits_u16 bits_u8 xeqA xagg xcmp xarr allK_iv num_iv calleeOf xread xeff xbin xint xnil xun xstr xload xconv xpart xfield xfieldAddr xindexAddr xindex bnd asInt? xslice xlen xmin xmax xbuild xfill xappend xapp2 xappstr xappmk xcap xcopy xcells eval_tmp eval_const put_at put_none fr0_at cells_agg cells_int cells_bool cells_string cells_ptr cells_slice notTuple tab iv_all hget_app hget_app0 hget_cons0 hget_cons set_app set_app0 setR setR_one QL_nil QL_cons QLc_val stepQ_t stepQ_f stepQC_n stepQC_s stepQX_s SL_nil SL_cons SLc_val stepS_t stepS_f ltT ltF leT leF eqT eqF ltTn ltFn leTn leFn eqTn eqFn beqT beqF bneT bneF wi64 wu64 wu32 wu16 wu8 tmodP tdivP hgetL hgetNe hgetEq setL nums_def nums_len Nat.succ_le_of_lt List.getElem?_cons_zero List.getElem?_cons_succ Option.getD_some Int.toNat_add Int.toNat_mul agM okM agB agI agS agP agL agA okB okI okS okP okSl okA
end
section
attribute [local simp] wb_bool wb_undef with_lit XL_nil XL_cons XLc_val XLc_call step1_eq stepW_t stepW_f stepC_n stepC_s stepX_s stepX_n stepN_s calleeX oneV xop_eq xopR_s xopR_n wantedA_eq wantedG_n wantedG_s plain1_int plain1_bool plain1_string bits_i64 bits_u64 bits_u32 bits_u16 bits_u8 xeqA xagg xcmp xarr allK_iv num_iv calleeOf xread xeff xbin xint xnil xun xstr xload xconv xpart xfield xfieldAddr xindexAddr xindex bnd asInt? xslice xlen xmin xmax xbuild xfill xappend xapp2 xappstr xappmk xcap xcopy xcells eval_tmp eval_const put_at put_none fr0_at cells_agg cells_int cells_bool cells_string cells_ptr cells_slice notTuple tab iv_all hget_app hget_app0 hget_cons0 hget_cons set_app set_app0 setR setR_one QL_nil QL_cons QLc_val stepQ_t stepQ_f stepQC_n stepQC_s stepQX_s SL_nil SL_cons SLc_val stepS_t stepS_f ltT ltF leT leF eqT eqF ltTn ltFn leTn leFn eqTn eqFn beqT beqF bneT bneF wi64 wu64 wu32 wu16 wu8 tmodP tdivP hgetL hgetNe hgetEq setL nums_def nums_len Nat.succ_le_of_lt List.getElem?_cons_zero List.getElem?_cons_succ Option.getD_some Int.toNat_add Int.toNat_mul agM okM agB agI agS agP agL agA okB okI okS okP okSl okA
theorem rIn_rc {γ : Nat → Option Nat} {H : AH} {v : Value} {l : List Int} (h : InV H v l) (hm : l.length ≤ maxLen) (z : Int) : AC Try.prog H.length γ 32 #[v, .int .i64 z] H (fun v' _ => v' = .bool (decide (z ∈ l))) := by
  obtain ⟨hnt, hvc, hxl, hat⟩ := h.acc
  have hm63 : l.length ≤ 9223372036854775807 := by simp only [maxLen] at hm; omega
  refine ac_of_aw Try.func32 rfl Try.ntmps32 Try.results32 (by simp) ?_
  refine aw_seq ?_
  (refine aw_ops (by kernel_rfl) (fun K hK => ?_); simp (disch := first | omega | (simp only [lnS]; try omega; done)) [-getElem?_pos, -getElem?_neg]; refine hK _ _ ?_; clear hK K)
  refine aw_seq ?_
  refine aw_seq ?_
  (refine aw_ops (by kernel_rfl) (fun K hK => ?_); simp (disch := first | omega | (simp only [lnS]; try omega; done)) [-getElem?_pos, -getElem?_neg]; refine hK _ _ ?_; clear hK K)
  refine aw_block ?_
  refine aw_loop (fun c α G => ∃ i : Nat, i + c = l.length ∧ H = G ∧ α 0 = v ∧ α 1 = .int .i64 z ∧ α 5 = .int .i64 (i : Nat) ∧ ∀ k, k < i → (l.getD k 0 == z) = false) l.length ?_ ?_
  · exact ⟨0, by omega, rfl, by (first | (simp [put_at, put_none, fr0_at]; done) | rfl), by (first | (simp [put_at, put_none, fr0_at]; done) | rfl), by (first | (simp [put_at, put_none, fr0_at]; done) | rfl), fun k hk => by omega⟩
  rintro c α G ⟨i, hic, rfl, h0, h1, h5, hpre⟩
  refine aw_seq ?_
  refine aw_seq ?_
  by_cases hi : i < l.length
  case neg =>
    (refine aw_ops (by kernel_rfl) (fun K hK => ?_); simp (disch := first | omega | (simp only [lnS]; try omega; done)) [-getElem?_pos, -getElem?_neg, h0, h5, -notTuple, hnt, hvc, nt_intG, -xlen, hxl, hi]; refine hK _ _ ?_; clear hK K)
    refine aw_f (by (first | (simp [eval_tmp, put_at, hi]; done) | (simp [eval_tmp, put_at, hi]; omega))) (by kernel_rfl) ?_
    refine aw_exit ?_
    refine aw_seq ?_
    (refine aw_ops (by kernel_rfl) (fun K hK => ?_); simp (disch := first | omega | (simp only [lnS]; try omega; done)) [-getElem?_pos, -getElem?_neg]; refine hK _ _ ?_; clear hK K)
    (refine aw_ret ?_; simp (disch := first | omega | (simp only [lnS]; try omega; done)) [-getElem?_pos, -getElem?_neg, thenQ_ret, scopeQ_ret, inBlockQ_ret, RQ, resL, resV])
    intro hz
    obtain ⟨k, hk, he⟩ := mem_iff_getD.1 hz
    rw [hpre k (by omega)] at he
    cases he
  (refine aw_ops (by kernel_rfl) (fun K hK => ?_); simp (disch := first | omega | (simp only [lnS]; try omega; done)) [-getElem?_pos, -getElem?_neg, h0, h5, -notTuple, hnt, hvc, nt_intG, -xlen, hxl, hi]; refine hK _ _ ?_; clear hK K)
  refine aw_t (by (first | (simp [eval_tmp, put_at, hi]; done) | (simp [eval_tmp, put_at, hi]; omega))) (by kernel_rfl) ?_
  refine aw_skip ?_
  refine aw_seq ?_
  refine aw_block ?_
  obtain ⟨p, x, q1, q2, q3, rfl, q4⟩ := hat i hi
  have q4 := q4 H (Low.refl (Nat.le_refl _))
  obtain ⟨y, hy⟩ : ∃ y, y = l.getD i 0 := ⟨_, rfl⟩
  rw [← hy] at q4
  refine aw_seq ?_
  by_cases hz : y = z
  · have hz2 : (y == z) = true := by simp [hz]
    (refine aw_ops (by kernel_rfl) (fun K hK => ?_); simp (disch := first | omega | (simp only [lnS]; try omega; done)) [-getElem?_pos, -getElem?_neg, h0, h1, h5, -notTuple, hnt, hvc, q1, nt_intG, -xindexAddr, q2, -xload, q4, hz, hz2]; refine hK _ _ ?_; clear hK K)
    refine aw_t (by (first | (simp [eval_tmp, put_at]; done) | (simp [eval_tmp, put_at]; omega))) (by kernel_rfl) ?_
    refine aw_seq ?_
    (refine aw_ops (by kernel_rfl) (fun K hK => ?_); simp (disch := first | omega | (simp only [lnS]; try omega; done)) [-getElem?_pos, -getElem?_neg]; refine hK _ _ ?_; clear hK K)
    (refine aw_ret ?_; simp (disch := first | omega | (simp only [lnS]; try omega; done)) [-getElem?_pos, -getElem?_neg, thenQ_ret, scopeQ_ret, inBlockQ_ret, RQ, resL, resV])
    exact mem_iff_getD.2 ⟨i, hi, by rw [← hy]; exact hz2⟩
  · have hz2 : (y == z) = false := by simpa using hz
    (refine aw_ops (by kernel_rfl) (fun K hK => ?_); simp (disch := first | omega | (simp only [lnS]; try omega; done)) [-getElem?_pos, -getElem?_neg, h0, h1, h5, -notTuple, hnt, hvc, q1, nt_intG, -xindexAddr, q2, -xload, q4, hz, hz2]; refine hK _ _ ?_; clear hK K)
    refine aw_f (by (first | (simp [eval_tmp, put_at]; done) | (simp [eval_tmp, put_at]; omega))) (by kernel_rfl) ?_
    refine aw_skip ?_
    (refine aw_ops (by kernel_rfl) (fun K hK => ?_); simp (disch := first | omega | (simp only [lnS]; try omega; done)) [-getElem?_pos, -getElem?_neg, h5]; refine hK _ _ ?_; clear hK K)
    refine ⟨c - 1, by omega, i + 1, by omega, rfl, by (first | (simp [put_at, put_none, fr0_at, h0]; done) | rfl), by (first | (simp [put_at, put_none, fr0_at, h1]; done) | rfl), by (first | (simp [put_at, put_none, fr0_at]; done) | rfl), fun k hk => ?_⟩
    by_cases e : k = i
    · subst e
      rw [← hy]
      exact hz2
    · exact hpre k (by omega)
theorem rFind_rc {γ : Nat → Option Nat} {H : AH} {nv : Value} {l : List NodeD} (hN : NdA H nv l) (hl : l.length ≤ maxLen) {id : List Int} (hil : id.length = 32) : AC Try.prog H.length γ 67 #[nv, .agg (iv .u8 id).toArray] H (fun v' _ => v' = .int .i64 (findI l l.length id)) := by
  have hm63 : l.length ≤ 9223372036854775807 := by simp only [maxLen] at hl; omega
  have hivl : (iv .u8 id).length = 32 := by rw [iv_length, hil]
  have hta : (iv .u8 id).take 32 = iv .u8 id := List.take_of_length_le (by omega)
  rw [findI_first]
  obtain ⟨hnt, hvc, hxl, hwf, hat⟩ := hN
  refine ac_of_aw Try.func67 rfl Try.ntmps67 Try.results67 (by simp) ?_
  refine aw_seq ?_
  (refine aw_ops (by kernel_rfl) (fun K hK => ?_); simp (disch := first | omega | (simp only [lnS]; try omega; done)) [-getElem?_pos, -getElem?_neg, hivl]; refine hK _ _ ?_; clear hK K)
  obtain ⟨hlow, hb⟩ := boxed (H := H) (iv .u8 id) 38
  obtain ⟨g, hg⟩ : ∃ g, g = H.length := ⟨_, rfl⟩
  rw [← hg] at hb ⊢
  generalize H ++ [some ⟨iv .u8 id, 38, none⟩] = G at *
  refine aw_seq ?_
  refine aw_seq ?_
  (refine aw_ops (by kernel_rfl) (fun K hK => ?_); simp (disch := first | omega | (simp only [lnS]; try omega; done)) [-getElem?_pos, -getElem?_neg]; refine hK _ _ ?_; clear hK K)
  refine aw_block ?_
  refine aw_loop (fun c α G' => ∃ i : Nat, i + c = l.length ∧ G = G' ∧ α 0 = nv ∧ α 3 = .pointer (some ⟨g, 0, none⟩) ∧ α 5 = .int .i64 (i : Nat) ∧ ∀ k, k < i → decide ((nd l k).id = id) = false) l.length ?_ ?_
  · exact ⟨0, by omega, rfl, by (first | (simp [put_at, put_none, fr0_at]; done) | rfl), by (first | (simp [put_at, put_none, fr0_at]; done) | rfl), by (first | (simp [put_at, put_none, fr0_at]; done) | rfl), fun k hk => by omega⟩
  rintro c α G' ⟨i, hic, rfl, h0, h3, h5, hpre⟩
  refine aw_seq ?_
  refine aw_seq ?_
  by_cases hi : i < l.length
  case neg =>
    (refine aw_ops (by kernel_rfl) (fun K hK => ?_); simp (disch := first | omega | (simp only [lnS]; try omega; done)) [-getElem?_pos, -getElem?_neg, h0, h5, -notTuple, hnt, hvc, nt_intG, -xlen, hxl, hi]; refine hK _ _ ?_; clear hK K)
    refine aw_f (by (first | (simp [eval_tmp, put_at, hi]; done) | (simp [eval_tmp, put_at, hi]; omega))) (by kernel_rfl) ?_
    refine aw_exit ?_
    refine aw_seq ?_
    (refine aw_ops (by kernel_rfl) (fun K hK => ?_); simp (disch := first | omega | (simp only [lnS]; try omega; done)) [-getElem?_pos, -getElem?_neg]; refine hK _ _ ?_; clear hK K)
    (refine aw_ret ?_; simp (disch := first | omega | (simp only [lnS]; try omega; done)) [-getElem?_pos, -getElem?_neg, thenQ_ret, scopeQ_ret, inBlockQ_ret, RQ, resL, resV])
    exact (firstI_none (fun k hk => hpre k (by omega))).symm
  obtain ⟨j, q, bb, us, pv, wv', bv, qv, hx, hbb, hq, hcell, hus, hC⟩ := hat i _ (nd_get hi)
  have hbG : hget G j = some bb := (hlow.1 j (by have := hget_lt hbb; omega)).trans hbb
  have hwfi := hwf _ (List.mem_of_getElem? (nd_get hi))
  have hxid : (iv .u8 (nd l i).id).length = 32 := by rw [iv_length]; exact hwfi.id.1
  have hcut : (bb.cells.drop q).take 32 = iv .u8 (nd l i).id := by
    rw [← hC.id, hus, List.take_take]
    rfl
  obtain ⟨xid, hxi⟩ : ∃ x, x = (nd l i).id := ⟨_, rfl⟩
  rw [← hxi] at hxid hcut
  have hpi := hpre
  (refine aw_ops (by kernel_rfl) (fun K hK => ?_); simp (disch := first | omega | (simp only [lnS]; try omega; done)) [-getElem?_pos, -getElem?_neg, h0, h5, -notTuple, hnt, hvc, nt_intG, -xlen, hxl, hi]; refine hK _ _ ?_; clear hK K)
  refine aw_t (by (first | (simp [eval_tmp, put_at, hi]; done) | (simp [eval_tmp, put_at, hi]; omega))) (by kernel_rfl) ?_
  refine aw_skip ?_
  refine aw_seq ?_
  refine aw_block ?_
  refine aw_seq ?_
  have hq32 : q + 32 ≤ bb.cells.length := by omega
  by_cases hz : xid = id
  · have hz2 : (xid == id) = true := by simp [hz]
    (refine aw_plan [] [] [0, 1, 2, 3, 4, 5, 6] 7 0 (by kernel_rfl) (by kernel_rfl) (by kernel_rfl) (fun K hK => ?_)); simp only [sel, List.getElem?_cons_succ, List.getElem?_cons_zero, List.drop_succ_cons, List.drop_zero]; simp (disch := first | omega | (simp only [lnS]; try omega; done)) [-getElem?_pos, -getElem?_neg, h0, h3, h5, -notTuple, hnt, hvc, nt_intG, nt_aggG, -xindexAddr, hx, hbG, hq32, hcut, hxid, hb, hta, hivl, hz2, PL_nil, plainB_lit, PL_cons, PLc_val, PLc_new, stepP_t, stepP_f, stepPC_n, stepPC_s, stepPX_s, stepPX_n, stepPV_n, stepPV_s, stepPA_t, stepPA_c, stepPA_l, stepPN_s, allocOp, reloc_sl, reloc_ptr, List.map_cons, List.map_nil, List.nil_append, List.append_assoc, List.cons_append, Nat.add_assoc]
    refine hK _ _ ?_; clear hK K
    refine aw_t (by (first | (simp [eval_tmp, put_at]; done) | (simp [eval_tmp, put_at]; omega))) (by kernel_rfl) ?_
    refine aw_seq ?_
    (refine aw_ops (by kernel_rfl) (fun K hK => ?_); simp (disch := first | omega | (simp only [lnS]; try omega; done)) [-getElem?_pos, -getElem?_neg, h5]; refine hK _ _ ?_; clear hK K)
    (refine aw_ret ?_; simp (disch := first | omega | (simp only [lnS]; try omega; done)) [-getElem?_pos, -getElem?_neg, thenQ_ret, scopeQ_ret, inBlockQ_ret, RQ, resL, resV])
    exact (firstI_some hi hpre (by rw [← hxi]; simpa using hz)).symm
  · have hz2 : (xid == id) = false := by simpa using hz
    (refine aw_plan [] [] [0, 1, 2, 3, 4, 5, 6] 7 0 (by kernel_rfl) (by kernel_rfl) (by kernel_rfl) (fun K hK => ?_)); simp only [sel, List.getElem?_cons_succ, List.getElem?_cons_zero, List.drop_succ_cons, List.drop_zero]; simp (disch := first | omega | (simp only [lnS]; try omega; done)) [-getElem?_pos, -getElem?_neg, h0, h3, h5, -notTuple, hnt, hvc, nt_intG, nt_aggG, -xindexAddr, hx, hbG, hq32, hcut, hxid, hb, hta, hivl, hz2, PL_nil, plainB_lit, PL_cons, PLc_val, PLc_new, stepP_t, stepP_f, stepPC_n, stepPC_s, stepPX_s, stepPX_n, stepPV_n, stepPV_s, stepPA_t, stepPA_c, stepPA_l, stepPN_s, allocOp, reloc_sl, reloc_ptr, List.map_cons, List.map_nil, List.nil_append, List.append_assoc, List.cons_append, Nat.add_assoc]
    refine hK _ _ ?_; clear hK K
    refine aw_f (by (first | (simp [eval_tmp, put_at]; done) | (simp [eval_tmp, put_at]; omega))) (by kernel_rfl) ?_
    refine aw_skip ?_
    (refine aw_ops (by kernel_rfl) (fun K hK => ?_); simp (disch := first | omega | (simp only [lnS]; try omega; done)) [-getElem?_pos, -getElem?_neg, h5]; refine hK _ _ ?_; clear hK K)
    refine ⟨c - 1, by omega, i + 1, by omega, rfl, by (first | (simp [put_at, put_none, fr0_at, h0]; done) | rfl), by (first | (simp [put_at, put_none, fr0_at, h3]; done) | rfl), by (first | (simp [put_at, put_none, fr0_at]; done) | rfl), fun k hk => ?_⟩
    by_cases e : k = i
    · subst e
      rw [← hxi]
      simpa using hz
    · exact hpre k (by omega)
end
section
/-- An own list of numbers is such a list. -/
theorem own_inv {H : AH} {v : Value} {e : TypeId} {L : List Int} {F : List Nat} (h : OwnF H v e 1 (iv .i64 L) F) : InV H v L := by
  unfold InV
  rcases h with ⟨rfl, h, _⟩ | ⟨j, n, rfl, hb, hl, _⟩
  · have : L = [] := by
      cases L with
      | nil => rfl
      | cons a L => simp [iv] at h
    subst this
    exact .nil (fun x hx => by cases hx)
  · rw [iv_length, Nat.mul_one] at hl
    subst hl
    have := CD.Val.sl (H := H) (sz := 1) (j := j) (rows := L.map fun z => [CD.int .i64 z]) hb (by simp [iv_length]) (fun row hr => by
      obtain ⟨y, _, rfl⟩ := List.mem_map.1 hr; rfl) (fun i row c d x hr hc hx => by
      rw [List.getElem?_map] at hr
      cases hL : L[i]? with
      | none => rw [hL] at hr; cases hr
      | some z =>
        rw [hL] at hr
        cases hr
        cases c with
        | succ c => cases c <;> cases hc
        | zero =>
          cases hc
          have hx2 : (iv .i64 L)[i]? = some x := by simpa using hx
          rw [iv, List.getElem?_map, hL] at hx2
          cases hx2
          exact .int)
    rw [List.length_map] at this
    exact this
theorem autA_succ (l : List NodeD) (t : Nat) (x : Int) (P : List Int) : autA l (t + 1) x P = (autA l t x P && (!((nd l t).op.author == x) || decide ((t : Int) ∈ P))) := by
  unfold autA
  rw [List.range_succ, List.all_append]
  simp
theorem autA_down {l : List NodeD} {t n : Nat} {x : Int} {P : List Int} (htn : t < n) (h1 : (nd l t).op.author = x) (h2 : decide ((t : Int) ∈ P) = false) : autA l n x P = false := by
  unfold autA
  rw [List.all_eq_false]
  refine ⟨t, List.mem_range.2 htn, ?_⟩
  rw [h2, h1]
  simp
attribute [local simp] wb_bool wb_undef with_lit XL_nil XL_cons XLc_val XLc_call step1_eq stepW_t stepW_f stepC_n stepC_s stepX_s stepX_n stepN_s calleeX oneV xop_eq xopR_s xopR_n wantedA_eq wantedG_n wantedG_s plain1_int plain1_bool plain1_string bits_i64 bits_u64 bits_u32 bits_u16 bits_u8 xeqA xagg xcmp xarr allK_iv num_iv calleeOf xread xeff xbin xint xnil xun xstr xload xconv xpart xfield xfieldAddr xindexAddr xindex bnd asInt? xslice xlen xmin xmax xbuild xfill xappend xapp2 xappstr xappmk xcap xcopy xcells eval_tmp eval_const put_at put_none fr0_at cells_agg cells_int cells_bool cells_string cells_ptr cells_slice notTuple tab iv_all hget_app hget_app0 hget_cons0 hget_cons set_app set_app0 setR setR_one QL_nil QL_cons QLc_val stepQ_t stepQ_f stepQC_n stepQC_s stepQX_s SL_nil SL_cons SLc_val stepS_t stepS_f ltT ltF leT leF eqT eqF ltTn ltFn leTn leFn eqTn eqFn beqT beqF bneT bneF wi64 wu64 wu32 wu16 wu8 tmodP tdivP hgetL hgetNe hgetEq setL nums_def nums_len Nat.succ_le_of_lt List.getElem?_cons_zero List.getElem?_cons_succ Option.getD_some Int.toNat_add Int.toNat_mul agM okM agB agI agS agP agL agA okB okI okS okP okSl okA
theorem turn_rc {γ : Nat → Option Nat} {H : AH} {nv qv : Value} {l : List NodeD} {us : List Value} {o : OpD} {pv wv bv : Value} {P : List Int} (hN : NdA H nv l) (hl : l.length ≤ 110) (hO : OpC H us o pv wv bv) (hw : o.Wf) (hP : InV H qv P) (hPm : P.length ≤ maxLen) :
    AC Try.prog H.length γ 68 #[nv, .agg us.toArray, qv] H (fun v' _ => v' = .bool (turnB l l.length o P)) := by
  have hlen := hO.len
  have c0 := hO.c0
  have c1 := hO.c1
  have c3 := hO.c3
  have n1 := hP.acc.nt
  have n2 := hP.acc.cs
  have hN' := hN
  obtain ⟨hnt, hvc, hxl, hwf, hat⟩ := hN
  refine ac_of_aw Try.func68 rfl Try.ntmps68 Try.results68 (by simp) ?_
  refine aw_seq ?_
  (refine aw_ops (by kernel_rfl) (fun K hK => ?_); simp (disch := first | omega | (simp only [lnS]; try omega; done)) [-getElem?_pos, -getElem?_neg, hlen]; refine hK _ _ ?_; clear hK K)
  obtain ⟨hlow, hb⟩ := boxed (H := H) us 41
  obtain ⟨g, hg⟩ : ∃ g, g = H.length := ⟨_, rfl⟩
  rw [← hg] at hb ⊢
  generalize H ++ [some ⟨us, 41, none⟩] = G at *
  have hPG : InV G qv P := hP.lowG hlow
  have htb : (decide (o.kind = 1) == decide (l.length = 0)) = !((o.kind == 1) != ((l.length : Int) == 0)) := by
    have e1 : (o.kind == 1) = decide (o.kind = 1) := rfl
    have e2 : ((l.length : Int) == 0) = decide (l.length = 0) := by rw [Bool.eq_iff_iff]; simp
    rw [e1, e2]
    cases decide (o.kind = 1) <;> cases decide (l.length = 0) <;> rfl
  have hTB : turnB l l.length o P = ((!((o.kind == 1) != ((l.length : Int) == 0))) && (autA l l.length o.author P && decide (o.seq = 1 + (autN l l.length o.author : Nat)))) := by
    unfold turnB; rw [htb]
  rw [hTB]
  clear hTB htb
  refine aw_seq ?_
  refine aw_seq ?_
  obtain ⟨b1, hb1⟩ : ∃ b1, b1 = (o.kind == 1) := ⟨_, rfl⟩
  obtain ⟨b4, hb4⟩ : ∃ b4, b4 = ((l.length : Int) == 0) := ⟨_, rfl⟩
  rw [← hb1, ← hb4]
  have hb1' := hb1.symm
  have hb4' := hb4.symm
  cases hbn : (b1 != b4) with
  | true =>
    (refine aw_ops (by kernel_rfl) (fun K hK => ?_); simp (disch := first | omega | (simp only [lnS]; try omega; done)) [-getElem?_pos, -getElem?_neg, hb, hlen, c3, hb1', hb4', hbn, -notTuple, hnt, hvc, nt_intG, -xlen, hxl]; refine hK _ _ ?_; clear hK K)
    refine aw_t (by (first | (simp [eval_tmp, put_at]; done) | (simp [eval_tmp, put_at]; omega))) (by kernel_rfl) ?_
    refine aw_seq ?_
    (refine aw_ops (by kernel_rfl) (fun K hK => ?_); simp (disch := first | omega | (simp only [lnS]; try omega; done)) [-getElem?_pos, -getElem?_neg]; refine hK _ _ ?_; clear hK K)
    (refine aw_ret ?_; simp (disch := first | omega | (simp only [lnS]; try omega; done)) [-getElem?_pos, -getElem?_neg, thenQ_ret, scopeQ_ret, inBlockQ_ret, RQ, resL, resV])
  | false =>
  (refine aw_ops (by kernel_rfl) (fun K hK => ?_); simp (disch := first | omega | (simp only [lnS]; try omega; done)) [-getElem?_pos, -getElem?_neg, hb, hlen, c3, hb1', hb4', hbn, -notTuple, hnt, hvc, nt_intG, -xlen, hxl]; refine hK _ _ ?_; clear hK K)
  refine aw_f (by (first | (simp [eval_tmp, put_at]; done) | (simp [eval_tmp, put_at]; omega))) (by kernel_rfl) ?_
  refine aw_skip ?_
  refine aw_seq ?_
  (refine aw_ops (by kernel_rfl) (fun K hK => ?_); simp (disch := first | omega | (simp only [lnS]; try omega; done)) [-getElem?_pos, -getElem?_neg]; refine hK _ _ ?_; clear hK K)
  refine aw_seq ?_
  refine aw_seq ?_
  (refine aw_ops (by kernel_rfl) (fun K hK => ?_); simp (disch := first | omega | (simp only [lnS]; try omega; done)) [-getElem?_pos, -getElem?_neg]; refine hK _ _ ?_; clear hK K)
  refine aw_block ?_
  refine aw_loop (fun c α G' => ∃ t : Nat, t + c = l.length ∧ G = G' ∧ α 0 = nv ∧ α 2 = qv ∧ α 4 = .pointer (some ⟨g, 0, none⟩) ∧ α 7 = .int .u32 (autN l t o.author : Nat) ∧ α 8 = .int .i64 (t : Nat) ∧ autA l t o.author P = true) l.length ?_ ?_
  · exact ⟨0, by omega, rfl, by (first | (simp [put_at, put_none, fr0_at]; done) | rfl), by (first | (simp [put_at, put_none, fr0_at]; done) | rfl), by (first | (simp [put_at, put_none, fr0_at]; done) | rfl), by (first | (simp [put_at, put_none, fr0_at]; done) | rfl), by (first | (simp [put_at, put_none, fr0_at]; done) | rfl), rfl⟩
  rintro c α G' ⟨t, htc, rfl, h0, h2, h4, h7, h8, hpre⟩
  have hle := autN_le l t o.author
  refine aw_seq ?_
  refine aw_seq ?_
  by_cases ht : t < l.length
  case neg =>
    (refine aw_ops (by kernel_rfl) (fun K hK => ?_); simp (disch := first | omega | (simp only [lnS]; try omega; done)) [-getElem?_pos, -getElem?_neg, h0, h8, -notTuple, hnt, hvc, nt_intG, -xlen, hxl, ht]; refine hK _ _ ?_; clear hK K)
    refine aw_f (by (first | (simp [eval_tmp, put_at, ht]; done) | (simp [eval_tmp, put_at, ht]; omega))) (by kernel_rfl) ?_
    refine aw_exit ?_
    obtain rfl : t = l.length := by omega
    refine aw_seq ?_
    rw [hpre]
    generalize autN l l.length o.author = n at *
    have hwn : IntKind.u32.wrap ((n : Int) + 1) = (n : Int) + 1 := wu32 (by omega)
    obtain ⟨z, hz⟩ : ∃ z, z = o.seq := ⟨_, rfl⟩
    rw [← hz] at c1 ⊢
    (refine aw_ops (by kernel_rfl) (fun K hK => ?_); simp (disch := first | omega | (simp only [lnS]; try omega; done)) [-getElem?_pos, -getElem?_neg, h4, h7, hb, hlen, c1, hwn]; refine hK _ _ ?_; clear hK K)
    (refine aw_ret ?_; simp (disch := first | omega | (simp only [lnS]; try omega; done)) [-getElem?_pos, -getElem?_neg, thenQ_ret, scopeQ_ret, inBlockQ_ret, RQ, resL, resV])
    rw [Bool.eq_iff_iff]
    simp
    omega
  obtain ⟨j, q, bb, us2, pv2, wv2, bv2, qv2, hx, hbb, hq, hcell, hus, hC⟩ := hat t _ (nd_get ht)
  have hbG : hget G j = some bb := (hlow.1 j (hget_lt hbb)).trans hbb
  have ha2 : bb.cells[q + 32]? = some (.int .i64 (nd l t).op.author) := by
    rw [hcell 32 (by omega)]
    have := hC.op.c0
    rwa [List.getElem?_take_of_lt (by omega), List.getElem?_drop] at this
  have hsu := autN_succ l t o.author
  have has := autA_succ l t o.author P
  have hdn := autA_down (l := l) (x := o.author) (P := P) ht
  obtain ⟨x, hxa⟩ : ∃ x, x = (nd l t).op.author := ⟨_, rfl⟩
  obtain ⟨y, hya⟩ : ∃ y, y = o.author := ⟨_, rfl⟩
  rw [← hxa, ← hya] at hsu has hdn
  rw [← hxa] at ha2
  rw [← hya] at c0 h7 hle hpre
  obtain ⟨n, hn⟩ : ∃ n, n = autN l t y := ⟨_, rfl⟩
  rw [← hn] at hsu h7 hle
  rw [hpre] at has
  have hL110 : (t : Nat) ≤ 110 := by omega
  (refine aw_ops (by kernel_rfl) (fun K hK => ?_); simp (disch := first | omega | (simp only [lnS]; try omega; done)) [-getElem?_pos, -getElem?_neg, h0, h8, -notTuple, hnt, hvc, nt_intG, -xlen, hxl, ht]; refine hK _ _ ?_; clear hK K)
  refine aw_t (by (first | (simp [eval_tmp, put_at, ht]; done) | (simp [eval_tmp, put_at, ht]; omega))) (by kernel_rfl) ?_
  refine aw_skip ?_
  refine aw_seq ?_
  refine aw_block ?_
  refine aw_seq ?_
  by_cases hxy : x = y
  case neg =>
    have hxb : (x == y) = false := by simp [hxy]
    (refine aw_plan [] [] [0, 1, 2, 3, 4, 5, 6, 7, 8] 9 0 (by kernel_rfl) (by kernel_rfl) (by kernel_rfl) (fun K hK => ?_)); simp only [sel, List.getElem?_cons_succ, List.getElem?_cons_zero, List.drop_succ_cons, List.drop_zero]; simp (disch := first | omega | (simp only [lnS]; try omega; done)) [-getElem?_pos, -getElem?_neg, h0, h4, h8, -notTuple, hnt, hvc, nt_intG, -xindexAddr, hx, hbG, ha2, hq, hb, hlen, c0, hxy, hxb, PL_nil, plainB_lit, PL_cons, PLc_val, PLc_new, stepP_t, stepP_f, stepPC_n, stepPC_s, stepPX_s, stepPX_n, stepPV_n, stepPV_s, stepPA_t, stepPA_c, stepPA_l, stepPN_s, allocOp, reloc_sl, reloc_ptr, List.map_cons, List.map_nil, List.nil_append, List.append_assoc, List.cons_append, Nat.add_assoc]
    refine hK _ _ ?_; clear hK K
    refine aw_f (by (first | (simp [eval_tmp, put_at]; done) | (simp [eval_tmp, put_at]; omega))) (by kernel_rfl) ?_
    refine aw_skip ?_
    (refine aw_ops (by kernel_rfl) (fun K hK => ?_); simp (disch := first | omega | (simp only [lnS]; try omega; done)) [-getElem?_pos, -getElem?_neg, h8]; refine hK _ _ ?_; clear hK K)
    rw [if_neg hxy, Nat.add_zero] at hsu
    rw [hxb] at has
    rw [← hya]
    exact ⟨c - 1, by omega, t + 1, by omega, rfl, by (first | (simp [put_at, put_none, fr0_at, h0]; done) | rfl), by (first | (simp [put_at, put_none, fr0_at, h2]; done) | rfl), by (first | (simp [put_at, put_none, fr0_at, h4]; done) | rfl), by rw [hsu]; (first | (simp [put_at, put_none, fr0_at, h7]; done) | rfl), by (first | (simp [put_at, put_none, fr0_at]; done) | rfl), by rw [has]; rfl⟩
  have hxb : (x == y) = true := by simp [hxy]
  (refine aw_plan [] [] [0, 1, 2, 3, 4, 5, 6, 7, 8] 9 0 (by kernel_rfl) (by kernel_rfl) (by kernel_rfl) (fun K hK => ?_)); simp only [sel, List.getElem?_cons_succ, List.getElem?_cons_zero, List.drop_succ_cons, List.drop_zero]; simp (disch := first | omega | (simp only [lnS]; try omega; done)) [-getElem?_pos, -getElem?_neg, h0, h4, h8, -notTuple, hnt, hvc, nt_intG, -xindexAddr, hx, hbG, ha2, hq, hb, hlen, c0, hxy, hxb, PL_nil, plainB_lit, PL_cons, PLc_val, PLc_new, stepP_t, stepP_f, stepPC_n, stepPC_s, stepPX_s, stepPX_n, stepPV_n, stepPV_s, stepPA_t, stepPA_c, stepPA_l, stepPN_s, allocOp, reloc_sl, reloc_ptr, List.map_cons, List.map_nil, List.nil_append, List.append_assoc, List.cons_append, Nat.add_assoc]
  refine hK _ _ ?_; clear hK K
  refine aw_t (by (first | (simp [eval_tmp, put_at]; done) | (simp [eval_tmp, put_at]; omega))) (by kernel_rfl) ?_
  refine aw_seq ?_
  refine aw_seq ?_
  have hin := rIn_rc (γ := γ) hPG hPm (t : Int)
  refine aw_ops (by kernel_rfl) (fun K hK => ?_)
  simp (disch := first | omega | (simp only [lnS]; try omega; done)) [-getElem?_pos, -getElem?_neg, h2, h8, -notTuple, n1, n2, nt_intG]
  refine ⟨by kernel_rfl, ac_of_rc hin (by simp [pv_iv, pv_int, pv_bool, pv_string, pv_tup2, pv_tup3, iv_plain, p2_int, p2_bool, p2_string]) ?_⟩
  cases hh : decide ((t : Int) ∈ P) with
  | false =>
    try simp (disch := first | omega | (simp only [lnS]; try omega; done)) [-getElem?_pos, -getElem?_neg]
    refine hK _ _ ?_; clear hK K
    refine aw_t (by (first | (simp [eval_tmp, put_at]; done) | (simp [eval_tmp, put_at]; omega))) (by kernel_rfl) ?_
    refine aw_seq ?_
    (refine aw_ops (by kernel_rfl) (fun K hK => ?_); simp (disch := first | omega | (simp only [lnS]; try omega; done)) [-getElem?_pos, -getElem?_neg]; refine hK _ _ ?_; clear hK K)
    (refine aw_ret ?_; simp (disch := first | omega | (simp only [lnS]; try omega; done)) [-getElem?_pos, -getElem?_neg, thenQ_ret, scopeQ_ret, inBlockQ_ret, RQ, resL, resV])
    rw [← hya, hdn hxy hh]
    all_goals simp
  | true =>
    try simp (disch := first | omega | (simp only [lnS]; try omega; done)) [-getElem?_pos, -getElem?_neg]
    refine hK _ _ ?_; clear hK K
    refine aw_f (by (first | (simp [eval_tmp, put_at]; done) | (simp [eval_tmp, put_at]; omega))) (by kernel_rfl) ?_
    refine aw_skip ?_
    have hwn : IntKind.u32.wrap ((n : Int) + 1) = ((n + 1 : Nat) : Int) := by rw [wu32 (by omega)]; omega
    (refine aw_ops (by kernel_rfl) (fun K hK => ?_); simp (disch := first | omega | (simp only [lnS]; try omega; done)) [-getElem?_pos, -getElem?_neg, h7, hwn]; refine hK _ _ ?_; clear hK K)
    (refine aw_ops (by kernel_rfl) (fun K hK => ?_); simp (disch := first | omega | (simp only [lnS]; try omega; done)) [-getElem?_pos, -getElem?_neg, h8]; refine hK _ _ ?_; clear hK K)
    rw [if_pos hxy] at hsu
    rw [hxb, hh] at has
    rw [← hya]
    exact ⟨c - 1, by omega, t + 1, by omega, rfl, by (first | (simp [put_at, put_none, fr0_at, h0]; done) | rfl), by (first | (simp [put_at, put_none, fr0_at, h2]; done) | rfl), by (first | (simp [put_at, put_none, fr0_at, h4]; done) | rfl), by rw [hsu]; (first | (simp [put_at, put_none, fr0_at]; done) | rfl), by (first | (simp [put_at, put_none, fr0_at]; done) | rfl), by rw [has]; rfl⟩
end
section
theorem inB_app (l : List NodeD) (n : Nat) (ps : List (List Int)) (p : List Int) (k a : Nat) (hf : findN l n p = some a) : inB l n (ps ++ [p]) k = (inB l n ps k || (decide (a = k) || decide ((k : Int) ∈ (nd l a).past))) := by
  unfold inB
  rw [List.any_append]
  simp [hf]
/-- Answers of the reference's Past. -/
def RPastQ (l : List NodeD) (ps : List (List Int)) (H : AH) (v' : Value) (H' : AH) : Prop :=
  Low H.length H H' ∧ ((ps.all (fun p => (findN l l.length p).isSome) = true ∧ ∃ sv F, v' = .tuple #[sv, .bool true] ∧ OwnF H' sv 3 1 (iv .i64 (pastL l l.length ps)) F ∧ ∀ j ∈ F, H.length ≤ j) ∨ (ps.all (fun p => (findN l l.length p).isSome) = false ∧ v' = .tuple #[.slice none 0 0, .bool false]))
theorem pastL_len (l : List NodeD) (n i : Nat) (ps : List (List Int)) : (((List.range i).filter (inB l n ps)).map (fun k : Nat => (k : Int))).length ≤ i := by
  rw [List.length_map]
  exact Nat.le_trans (List.length_filter_le _ _) (by simp)
attribute [local simp] wb_bool wb_undef with_lit XL_nil XL_cons XLc_val XLc_call step1_eq stepW_t stepW_f stepC_n stepC_s stepX_s stepX_n stepN_s calleeX oneV xop_eq xopR_s xopR_n wantedA_eq wantedG_n wantedG_s plain1_int plain1_bool plain1_string bits_i64 bits_u64 bits_u32 bits_u16 bits_u8 xeqA xagg xcmp xarr allK_iv num_iv calleeOf xread xeff xbin xint xnil xun xstr xload xconv xpart xfield xfieldAddr xindexAddr xindex bnd asInt? xslice xlen xmin xmax xbuild xfill xappend xapp2 xappstr xappmk xcap xcopy xcells eval_tmp eval_const put_at put_none fr0_at cells_agg cells_int cells_bool cells_string cells_ptr cells_slice notTuple tab iv_all hget_app hget_app0 hget_cons0 hget_cons set_app set_app0 setR setR_one QL_nil QL_cons QLc_val stepQ_t stepQ_f stepQC_n stepQC_s stepQX_s SL_nil SL_cons SLc_val stepS_t stepS_f ltT ltF leT leF eqT eqF ltTn ltFn leTn leFn eqTn eqFn beqT beqF bneT bneF wi64 wu64 wu32 wu16 wu8 tmodP tdivP hgetL hgetNe hgetEq setL nums_def nums_len Nat.succ_le_of_lt List.getElem?_cons_zero List.getElem?_cons_succ Option.getD_some Int.toNat_add Int.toNat_mul agM okM agB agI agS agP agL agA okB okI okS okP okSl okA
theorem rPast_rc {γ : Nat → Option Nat} {H : AH} {nv pv : Value} {l : List NodeD} {ps : List (List Int)} (hN : NdA H nv l) (hl : l.length ≤ 110) (hP : KsV H pv ps) (hpk : ∀ k ∈ ps, k.length = 32) (hpm : ps.length ≤ maxLen) : AC Try.prog H.length γ 65 #[nv, pv] H (RPastQ l ps H) := by
  have hN' := hN
  obtain ⟨hnt, hvc, hxl, hwf, hat⟩ := hN
  have hacc := hP.acc hpk
  have k1 := hacc.nt
  have k2 := hacc.cs
  have k3 := hacc.len
  have hm63 : ps.length ≤ 9223372036854775807 := by simp only [maxLen] at hpm; omega
  refine ac_of_aw Try.func65 rfl Try.ntmps65 Try.results65 (by simp) ?_
  refine aw_seq ?_
  (refine aw_ops (by kernel_rfl) (fun K hK => ?_); simp (disch := first | omega | (simp only [lnS]; try omega; done)) [-getElem?_pos, -getElem?_neg]; refine hK _ _ ?_; clear hK K)
  refine aw_seq ?_
  refine aw_seq ?_
  (refine aw_ops (by kernel_rfl) (fun K hK => ?_); simp (disch := first | omega | (simp only [lnS]; try omega; done)) [-getElem?_pos, -getElem?_neg]; refine hK _ _ ?_; clear hK K)
  refine aw_block ?_
  refine aw_loop (fun c α G => ∃ t : Nat, t + c = ps.length ∧ H = G ∧ α 0 = nv ∧ α 1 = pv ∧ α 6 = .int .i64 (t : Nat) ∧ (ps.take t).all (fun p => (findN l l.length p).isSome) = true) ps.length ?_ ?_
  · exact ⟨0, by omega, rfl, by (first | (simp [put_at, put_none, fr0_at]; done) | rfl), by (first | (simp [put_at, put_none, fr0_at]; done) | rfl), by (first | (simp [put_at, put_none, fr0_at]; done) | rfl), rfl⟩
  rintro c α G ⟨t, htc, rfl, h0, h1, h6, hall⟩
  refine aw_seq ?_
  refine aw_seq ?_
  by_cases ht : t < ps.length
  case pos =>
    obtain ⟨p, x, p1, p2, p3, p4, p5⟩ := hacc.at_ t ht
    subst p4
    obtain ⟨pk, hpk'⟩ : ∃ pk, pk = ps.getD t [] := ⟨_, rfl⟩
    rw [← hpk'] at p5 p3
    have hpm' : ps[t]? = some pk := by rw [hpk', List.getD_eq_getElem?_getD, List.getElem?_eq_getElem ht]; rfl
    have hpl : pk.length = 32 := hpk pk (List.mem_of_getElem? hpm')
    have htake : ps.take (t + 1) = ps.take t ++ [pk] := by rw [List.take_add_one, hpm']; rfl
    have p5 := p5 H (Low.refl (Nat.le_refl _))
    have hfi := rFind_rc (γ := γ) hN' (by simp only [maxLen]; omega) hpl
    unfold findI at hfi
    (refine aw_ops (by kernel_rfl) (fun K hK => ?_); simp (disch := first | omega | (simp only [lnS]; try omega; done)) [-getElem?_pos, -getElem?_neg, h1, h6, -notTuple, k1, k2, nt_intG, -xlen, k3, ht]; refine hK _ _ ?_; clear hK K)
    refine aw_t (by (first | (simp [eval_tmp, put_at, ht]; done) | (simp [eval_tmp, put_at, ht]; omega))) (by kernel_rfl) ?_
    refine aw_skip ?_
    refine aw_seq ?_
    refine aw_block ?_
    refine aw_seq ?_
    refine aw_ops (by kernel_rfl) (fun K hK => ?_)
    simp (disch := first | omega | (simp only [lnS]; try omega; done)) [-getElem?_pos, -getElem?_neg, h0, h1, h6, -notTuple, hnt, hvc, k1, k2, p1, p3, nt_intG, nt_aggG, -xindexAddr, p2, -xload, p5]
    refine ⟨by kernel_rfl, ac_of_rc hfi (by simp [pv_iv, pv_int, pv_bool, pv_string, pv_tup2, pv_tup3, iv_plain, p2_int, p2_bool, p2_string]) ?_⟩
    cases hf : findN l l.length pk with
    | none =>
      try simp (disch := first | omega | (simp only [lnS]; try omega; done)) [-getElem?_pos, -getElem?_neg]
      refine hK _ _ ?_; clear hK K
      refine aw_t (by (first | (simp [eval_tmp, put_at]; done) | (simp [eval_tmp, put_at]; omega))) (by kernel_rfl) ?_
      refine aw_seq ?_
      (refine aw_ops (by kernel_rfl) (fun K hK => ?_); simp (disch := first | omega | (simp only [lnS]; try omega; done)) [-getElem?_pos, -getElem?_neg]; refine hK _ _ ?_; clear hK K)
      (refine aw_ret ?_; simp (disch := first | omega | (simp only [lnS]; try omega; done)) [-getElem?_pos, -getElem?_neg, thenQ_ret, scopeQ_ret, inBlockQ_ret, RQ, resL, resV])
      refine ⟨Low.refl (Nat.le_refl _), .inr ⟨?_, rfl⟩⟩
      rw [List.all_eq_false]
      exact ⟨pk, List.mem_of_getElem? hpm', by rw [hf]; simp⟩
    | some a =>
      try simp (disch := first | omega | (simp only [lnS]; try omega; done)) [-getElem?_pos, -getElem?_neg]
      refine hK _ _ ?_; clear hK K
      refine aw_f (by (first | (simp [eval_tmp, put_at]; done) | (simp [eval_tmp, put_at]; omega))) (by kernel_rfl) ?_
      refine aw_skip ?_
      (refine aw_ops (by kernel_rfl) (fun K hK => ?_); simp (disch := first | omega | (simp only [lnS]; try omega; done)) [-getElem?_pos, -getElem?_neg, h6]; refine hK _ _ ?_; clear hK K)
      refine ⟨c - 1, by omega, t + 1, by omega, rfl, by (first | (simp [put_at, put_none, fr0_at, h0]; done) | rfl), by (first | (simp [put_at, put_none, fr0_at, h1]; done) | rfl), by (first | (simp [put_at, put_none, fr0_at]; done) | rfl), ?_⟩
      rw [htake, List.all_append, hall]
      simp [hf]
  (refine aw_ops (by kernel_rfl) (fun K hK => ?_); simp (disch := first | omega | (simp only [lnS]; try omega; done)) [-getElem?_pos, -getElem?_neg, h1, h6, -notTuple, k1, k2, nt_intG, -xlen, k3, ht]; refine hK _ _ ?_; clear hK K)
  refine aw_f (by (first | (simp [eval_tmp, put_at, ht]; done) | (simp [eval_tmp, put_at, ht]; omega))) (by kernel_rfl) ?_
  refine aw_exit ?_
  obtain rfl : t = ps.length := by omega
  rw [List.take_length] at hall
  have hfound : ∀ k pk, ps[k]? = some pk → ∃ a, findN l l.length pk = some a := fun k pk hk => by
    have := List.all_eq_true.1 hall pk (List.mem_of_getElem? hk)
    cases hf : findN l l.length pk with
    | some a => exact ⟨a, rfl⟩
    | none => rw [hf] at this; cases this
  refine aw_seq ?_
  (refine aw_ops (by kernel_rfl) (fun K hK => ?_); simp (disch := first | omega | (simp only [lnS]; try omega; done)) [-getElem?_pos, -getElem?_neg]; refine hK _ _ ?_; clear hK K)
  refine aw_seq ?_
  refine aw_seq ?_
  (refine aw_ops (by kernel_rfl) (fun K hK => ?_); simp (disch := first | omega | (simp only [lnS]; try omega; done)) [-getElem?_pos, -getElem?_neg]; refine hK _ _ ?_; clear hK K)
  refine aw_block ?_
  refine aw_loop (fun c2 α G => ∃ (i : Nat) (v : Value) (F : List Nat), i + c2 = l.length ∧ α 0 = nv ∧ α 1 = pv ∧ α 7 = v ∧ α 8 = .int .i64 (i : Nat) ∧ Low H.length H G ∧ OwnF G v 3 1 (iv .i64 (((List.range i).filter (inB l l.length ps)).map fun k : Nat => (k : Int))) F ∧ ∀ j ∈ F, H.length ≤ j) l.length ?_ ?_
  · exact ⟨0, .slice none 0 0, [], by omega, by (first | (simp [put_at, put_none, fr0_at, h0]; done) | rfl), by (first | (simp [put_at, put_none, fr0_at, h1]; done) | rfl), by (first | (simp [put_at, put_none, fr0_at]; done) | rfl), by (first | (simp [put_at, put_none, fr0_at]; done) | rfl), Low.refl (Nat.le_refl _), .inl ⟨rfl, rfl, rfl⟩, fun j hj => by cases hj⟩
  rintro c2 α G ⟨i, v, F, hic, h0, h1, h7, h8, hlow, hown, hF⟩
  obtain ⟨v1, v2⟩ := own_nt hown
  refine aw_seq ?_
  refine aw_seq ?_
  by_cases hi : i < l.length
  case neg =>
    (refine aw_ops (by kernel_rfl) (fun K hK => ?_); simp (disch := first | omega | (simp only [lnS]; try omega; done)) [-getElem?_pos, -getElem?_neg, h0, h8, -notTuple, hnt, hvc, nt_intG, -xlen, hxl, hi]; refine hK _ _ ?_; clear hK K)
    refine aw_f (by (first | (simp [eval_tmp, put_at, hi]; done) | (simp [eval_tmp, put_at, hi]; omega))) (by kernel_rfl) ?_
    refine aw_exit ?_
    obtain rfl : i = l.length := by omega
    refine aw_seq ?_
    (refine aw_ops (by kernel_rfl) (fun K hK => ?_); simp (disch := first | omega | (simp only [lnS]; try omega; done)) [-getElem?_pos, -getElem?_neg, h7, -notTuple, v1, v2, nt_boolG]; refine hK _ _ ?_; clear hK K)
    (refine aw_ret ?_; simp (disch := first | omega | (simp only [lnS]; try omega; done)) [-getElem?_pos, -getElem?_neg, thenQ_ret, scopeQ_ret, inBlockQ_ret, RQ, resL, resV])
    refine ⟨_, ⟨v1, rfl⟩, ?_⟩
    exact ⟨hlow, .inl ⟨hall, v, F, rfl, hown, hF⟩⟩
  (refine aw_ops (by kernel_rfl) (fun K hK => ?_); simp (disch := first | omega | (simp only [lnS]; try omega; done)) [-getElem?_pos, -getElem?_neg, h0, h8, -notTuple, hnt, hvc, nt_intG, -xlen, hxl, hi]; refine hK _ _ ?_; clear hK K)
  refine aw_t (by (first | (simp [eval_tmp, put_at, hi]; done) | (simp [eval_tmp, put_at, hi]; omega))) (by kernel_rfl) ?_
  refine aw_skip ?_
  refine aw_seq ?_
  refine aw_block ?_
  refine aw_seq ?_
  (refine aw_ops (by kernel_rfl) (fun K hK => ?_); simp (disch := first | omega | (simp only [lnS]; try omega; done)) [-getElem?_pos, -getElem?_neg]; refine hK _ _ ?_; clear hK K)
  refine aw_seq ?_
  refine aw_seq ?_
  (refine aw_ops (by kernel_rfl) (fun K hK => ?_); simp (disch := first | omega | (simp only [lnS]; try omega; done)) [-getElem?_pos, -getElem?_neg]; refine hK _ _ ?_; clear hK K)
  refine aw_block ?_
  refine aw_loop (fun c3 α G' => ∃ t : Nat, t + c3 = ps.length ∧ G = G' ∧ α 0 = nv ∧ α 1 = pv ∧ α 7 = v ∧ α 8 = .int .i64 (i : Nat) ∧ α 9 = .bool (inB l l.length (ps.take t) i) ∧ α 10 = .int .i64 (t : Nat)) ps.length ?_ ?_
  · exact ⟨0, by omega, rfl, by (first | (simp [put_at, put_none, fr0_at, h0]; done) | rfl), by (first | (simp [put_at, put_none, fr0_at, h1]; done) | rfl), by (first | (simp [put_at, put_none, fr0_at, h7]; done) | rfl), by (first | (simp [put_at, put_none, fr0_at, h8]; done) | rfl), by (first | (simp [put_at, put_none, fr0_at]; done) | rfl), by (first | (simp [put_at, put_none, fr0_at]; done) | rfl)⟩
  rintro c3 α G' ⟨t, htc, rfl, h0, h1, h7, h8, h9, h10⟩
  refine aw_seq ?_
  refine aw_seq ?_
  by_cases ht : t < ps.length
  case pos =>
    obtain ⟨p, x, p1, p2, p3, p4, p5⟩ := hacc.at_ t ht
    subst p4
    obtain ⟨pk, hpk'⟩ : ∃ pk, pk = ps.getD t [] := ⟨_, rfl⟩
    rw [← hpk'] at p5 p3
    have hpm' : ps[t]? = some pk := by rw [hpk', List.getD_eq_getElem?_getD, List.getElem?_eq_getElem ht]; rfl
    have hpl : pk.length = 32 := hpk pk (List.mem_of_getElem? hpm')
    have htake : ps.take (t + 1) = ps.take t ++ [pk] := by rw [List.take_add_one, hpm']; rfl
    have p5 := p5 G hlow
    obtain ⟨a, hf⟩ := hfound t pk hpm'
    have hal := findN_lt hf
    have hfi := rFind_rc (γ := γ) (hN'.lowG hlow) (by simp only [maxLen]; omega) hpl
    unfold findI at hfi
    rw [hf] at hfi
    have hB := inB_app l l.length (ps.take t) pk i a hf
    rw [← htake] at hB
    obtain ⟨j2, q2, bb2, qv2, hx2, hbb2, hc2, hi2, hml2, n1, n2⟩ := hN'.past_at hlow hal
    have hin := rIn_rc (γ := γ) (hi2.lowG hlow) hml2 (i : Int)
    (refine aw_ops (by kernel_rfl) (fun K hK => ?_); simp (disch := first | omega | (simp only [lnS]; try omega; done)) [-getElem?_pos, -getElem?_neg, h1, h10, -notTuple, k1, k2, nt_intG, -xlen, k3, ht]; refine hK _ _ ?_; clear hK K)
    refine aw_t (by (first | (simp [eval_tmp, put_at, ht]; done) | (simp [eval_tmp, put_at, ht]; omega))) (by kernel_rfl) ?_
    refine aw_skip ?_
    refine aw_seq ?_
    refine aw_block ?_
    refine aw_seq ?_
    refine aw_ops (by kernel_rfl) (fun K hK => ?_)
    simp (disch := first | omega | (simp only [lnS]; try omega; done)) [-getElem?_pos, -getElem?_neg, h0, h1, h10, -notTuple, hnt, hvc, k1, k2, p1, p3, nt_intG, nt_aggG, -xindexAddr, p2, -xload, p5]
    refine ⟨by kernel_rfl, ac_of_rc hfi (by simp [pv_iv, pv_int, pv_bool, pv_string, pv_tup2, pv_tup3, iv_plain, p2_int, p2_bool, p2_string]) ?_⟩
    try simp (disch := first | omega | (simp only [lnS]; try omega; done)) [-getElem?_pos, -getElem?_neg]
    refine hK _ _ ?_; clear hK K
    obtain ⟨B1, hB1⟩ : ∃ B, B = inB l l.length (ps.take (t + 1)) i := ⟨_, rfl⟩
    obtain ⟨B0, hB0⟩ : ∃ B, B = inB l l.length (ps.take t) i := ⟨_, rfl⟩
    rw [← hB1, ← hB0] at hB
    rw [← hB0] at h9
    obtain ⟨B2, hB2⟩ : ∃ B, B = decide ((i : Int) ∈ (nd l a).past) := ⟨_, rfl⟩
    rw [← hB2] at hB hin
    clear hB0 hB2
    cases B0 with
    | true =>
      refine aw_ops (by kernel_rfl) (fun K hK => ?_)
      simp (disch := first | omega | (simp only [lnS]; try omega; done)) [-getElem?_pos, -getElem?_neg, h9]
      refine hK _ _ ?_; clear hK K
      (refine aw_ops (by kernel_rfl) (fun K hK => ?_); simp (disch := first | omega | (simp only [lnS]; try omega; done)) [-getElem?_pos, -getElem?_neg, h10]; refine hK _ _ ?_; clear hK K)
      exact ⟨c3 - 1, by omega, t + 1, by omega, rfl, by (first | (simp [put_at, put_none, fr0_at, h0]; done) | rfl), by (first | (simp [put_at, put_none, fr0_at, h1]; done) | rfl), by (first | (simp [put_at, put_none, fr0_at, h7]; done) | rfl), by (first | (simp [put_at, put_none, fr0_at, h8]; done) | rfl), by rw [← hB1, hB]; (first | (simp [put_at, put_none, fr0_at]; done) | rfl), by (first | (simp [put_at, put_none, fr0_at]; done) | rfl)⟩
    | false =>
      refine aw_ops (by kernel_rfl) (fun K hK => ?_)
      by_cases hai : a = i
      · have hab : ((a : Int) == (i : Int)) = true := by simp [hai]
        simp (disch := first | omega | (simp only [lnS]; try omega; done)) [-getElem?_pos, -getElem?_neg, h8, h9, hai, hab]
        refine hK _ _ ?_; clear hK K
        (refine aw_ops (by kernel_rfl) (fun K hK => ?_); simp (disch := first | omega | (simp only [lnS]; try omega; done)) [-getElem?_pos, -getElem?_neg, h10]; refine hK _ _ ?_; clear hK K)
        exact ⟨c3 - 1, by omega, t + 1, by omega, rfl, by (first | (simp [put_at, put_none, fr0_at, h0]; done) | rfl), by (first | (simp [put_at, put_none, fr0_at, h1]; done) | rfl), by (first | (simp [put_at, put_none, fr0_at, h7]; done) | rfl), by (first | (simp [put_at, put_none, fr0_at, h8]; done) | rfl), by rw [← hB1, hB]; simp [hai, put_at], by (first | (simp [put_at, put_none, fr0_at]; done) | rfl)⟩
      · have hab : ((a : Int) == (i : Int)) = false := by
          rw [Bool.eq_false_iff]
          simp
          omega
        simp (disch := first | omega | (simp only [lnS]; try omega; done)) [-getElem?_pos, -getElem?_neg, h0, h8, h9, hai, hab, -notTuple, hnt, hvc, n1, n2, nt_intG, -xindexAddr, hx2, hbb2, hc2]
        refine ⟨by kernel_rfl, ac_of_rc hin (by simp [pv_iv, pv_int, pv_bool, pv_string, pv_tup2, pv_tup3, iv_plain, p2_int, p2_bool, p2_string]) ?_⟩
        try simp (disch := first | omega | (simp only [lnS]; try omega; done)) [-getElem?_pos, -getElem?_neg]
        refine hK _ _ ?_; clear hK K
        (refine aw_ops (by kernel_rfl) (fun K hK => ?_); simp (disch := first | omega | (simp only [lnS]; try omega; done)) [-getElem?_pos, -getElem?_neg, h10]; refine hK _ _ ?_; clear hK K)
        exact ⟨c3 - 1, by omega, t + 1, by omega, rfl, by (first | (simp [put_at, put_none, fr0_at, h0]; done) | rfl), by (first | (simp [put_at, put_none, fr0_at, h1]; done) | rfl), by (first | (simp [put_at, put_none, fr0_at, h7]; done) | rfl), by (first | (simp [put_at, put_none, fr0_at, h8]; done) | rfl), by rw [← hB1, hB]; simp [hai, put_at], by (first | (simp [put_at, put_none, fr0_at]; done) | rfl)⟩
  (refine aw_ops (by kernel_rfl) (fun K hK => ?_); simp (disch := first | omega | (simp only [lnS]; try omega; done)) [-getElem?_pos, -getElem?_neg, h1, h10, -notTuple, k1, k2, nt_intG, -xlen, k3, ht]; refine hK _ _ ?_; clear hK K)
  refine aw_f (by (first | (simp [eval_tmp, put_at, ht]; done) | (simp [eval_tmp, put_at, ht]; omega))) (by kernel_rfl) ?_
  refine aw_exit ?_
  obtain rfl : t = ps.length := by omega
  rw [List.take_length] at h9
  have hsu := pastL_succ l l.length i ps
  have hol := pastL_len l l.length i ps
  generalize ((List.range i).filter (inB l l.length ps)).map (fun k : Nat => (k : Int)) = out at *
  generalize inB l l.length ps i = B at *
  refine aw_seq ?_
  cases B with
  | false =>
    (refine aw_ops (by kernel_rfl) (fun K hK => ?_); simp (disch := first | omega | (simp only [lnS]; try omega; done)) [-getElem?_pos, -getElem?_neg, h9]; refine hK _ _ ?_; clear hK K)
    refine aw_f (by (first | (simp [eval_tmp, put_at]; done) | (simp [eval_tmp, put_at]; omega))) (by kernel_rfl) ?_
    refine aw_skip ?_
    (refine aw_ops (by kernel_rfl) (fun K hK => ?_); simp (disch := first | omega | (simp only [lnS]; try omega; done)) [-getElem?_pos, -getElem?_neg, h8]; refine hK _ _ ?_; clear hK K)
    exact ⟨c2 - 1, by omega, i + 1, v, F, by omega, by (first | (simp [put_at, put_none, fr0_at, h0]; done) | rfl), by (first | (simp [put_at, put_none, fr0_at, h1]; done) | rfl), by (first | (simp [put_at, put_none, fr0_at, h7]; done) | rfl), by (first | (simp [put_at, put_none, fr0_at]; done) | rfl), hlow, by rw [hsu]; simpa using hown, hF⟩
  | true =>
    (refine aw_ops (by kernel_rfl) (fun K hK => ?_); simp (disch := first | omega | (simp only [lnS]; try omega; done)) [-getElem?_pos, -getElem?_neg, h9]; refine hK _ _ ?_; clear hK K)
    refine aw_t (by (first | (simp [eval_tmp, put_at]; done) | (simp [eval_tmp, put_at]; omega))) (by kernel_rfl) ?_
    have hxc : xcells 1 (.slice (some ⟨G.length, 0, none⟩) 1 1) (G ++ [some ⟨[.int .i64 (i : Nat)], 3, some 1⟩]) = some (iv .i64 [(i : Int)]) := by simp [xcells, iv, hget_app0]
    obtain ⟨v', G3, hap, ho3, hl3, hk3⟩ := ownF_append (P := Try.prog) (nro := H.length) (t := 23) (e := 3) (H := G ++ [some ⟨[.int .i64 (i : Nat)], 3, some 1⟩]) (v := v) (x := .slice (some ⟨G.length, 0, none⟩) 1 1) (sz := 1) (cells := iv .i64 out) (news := iv .i64 [(i : Int)]) (F := F) (by simp) (by simp) (by omega) (by simp) (hown.low (fun j hj => hget_left (hown.lt j hj)))
      hF (fun s e => by cases e) hxc (by simp [iv]) (Nat.mod_one _) (by rw [iv_length, iv_length]; simp; omega) (by rw [iv_length, iv_length]; simp [maxLen]; omega)
    (refine aw_ops (by kernel_rfl) (fun K hK => ?_); simp (disch := first | omega | (simp only [lnS]; try omega; done)) [-getElem?_pos, -getElem?_neg, h7, h8, -notTuple, v1, v2, nt_intG, nt_slG, -xappend, hap]; refine hK _ _ ?_; clear hK K)
    (refine aw_ops (by kernel_rfl) (fun K hK => ?_); simp (disch := first | omega | (simp only [lnS]; try omega; done)) [-getElem?_pos, -getElem?_neg, h8]; refine hK _ _ ?_; clear hK K)
    have hlow3 : Low H.length H G3 := ⟨fun j hj => (hk3 j (by have := hlow.2; simp; omega) (fun h => by have := hF _ h; omega)).trans ((hget_left (by have := hlow.2; omega)).trans (hlow.1 j hj)), by have := hlow.2; rw [hl3]; simp; omega⟩
    refine ⟨c2 - 1, by omega, i + 1, v', _, by omega, by (first | (simp [put_at, put_none, fr0_at, h0]; done) | rfl), by (first | (simp [put_at, put_none, fr0_at, h1]; done) | rfl), by (first | (simp [put_at, put_none, fr0_at]; done) | rfl), by (first | (simp [put_at, put_none, fr0_at]; done) | rfl), hlow3, by rw [hsu, if_pos rfl, iv_append]; exact ho3, fun j hj => ?_⟩
    rw [List.mem_singleton] at hj
    rw [hj]
    have := hlow.2
    simp; omega
end
section
theorem list_getD_ext {a b : List Int} (hl : a.length = b.length) (h : ∀ k, k < a.length → a.getD k 0 = b.getD k 0) : a = b := by
  refine List.ext_getElem hl fun k h1 h2 => ?_
  have := h k h1
  rw [List.getD_eq_getElem?_getD, List.getD_eq_getElem?_getD, List.getElem?_eq_getElem h1, List.getElem?_eq_getElem h2] at this
  exact this
attribute [local simp] wb_bool wb_undef with_lit XL_nil XL_cons XLc_val XLc_call step1_eq stepW_t stepW_f stepC_n stepC_s stepX_s stepX_n stepN_s calleeX oneV xop_eq xopR_s xopR_n wantedA_eq wantedG_n wantedG_s plain1_int plain1_bool plain1_string bits_i64 bits_u64 bits_u32 bits_u16 bits_u8 xeqA xagg xcmp xarr allK_iv num_iv calleeOf xread xeff xbin xint xnil xun xstr xload xconv xpart xfield xfieldAddr xindexAddr xindex bnd asInt? xslice xlen xmin xmax xbuild xfill xappend xapp2 xappstr xappmk xcap xcopy xcells eval_tmp eval_const put_at put_none fr0_at cells_agg cells_int cells_bool cells_string cells_ptr cells_slice notTuple tab iv_all hget_app hget_app0 hget_cons0 hget_cons set_app set_app0 setR setR_one QL_nil QL_cons QLc_val stepQ_t stepQ_f stepQC_n stepQC_s stepQX_s SL_nil SL_cons SLc_val stepS_t stepS_f ltT ltF leT leF eqT eqF ltTn ltFn leTn leFn eqTn eqFn beqT beqF bneT bneF wi64 wu64 wu32 wu16 wu8 tmodP tdivP hgetL hgetNe hgetEq setL nums_def nums_len Nat.succ_le_of_lt List.getElem?_cons_zero List.getElem?_cons_succ Option.getD_some Int.toNat_add Int.toNat_mul agM okM agB agI agS agP agL agA okB okI okS okP okSl okA
theorem sameInts_rc {γ : Nat → Option Nat} {H : AH} {u v : Value} {a b : List Int} (ha : InV H u a) (hb : InV H v b) (hm : a.length ≤ maxLen) : AC Try.prog H.length γ 21 #[u, v] H (fun v' _ => v' = .bool (decide (a = b))) := by
  obtain ⟨hnt, hvc, hxl, hat⟩ := ha.acc
  obtain ⟨hnt2, hvc2, hxl2, hat2⟩ := hb.acc
  have hm63 : a.length ≤ 9223372036854775807 := by simp only [maxLen] at hm; omega
  refine ac_of_aw Try.func21 rfl Try.ntmps21 Try.results21 (by simp) ?_
  refine aw_seq ?_
  (refine aw_ops (by kernel_rfl) (fun K hK => ?_); simp (disch := first | omega | (simp only [lnS]; try omega; done)) [-getElem?_pos, -getElem?_neg]; refine hK _ _ ?_; clear hK K)
  refine aw_seq ?_
  refine aw_seq ?_
  by_cases hab : a.length = b.length
  case neg =>
    have hne : ((a.length : Int) == (b.length : Int)) = false := by
      rw [Bool.eq_false_iff]; simp; omega
    (refine aw_ops (by kernel_rfl) (fun K hK => ?_); simp (disch := first | omega | (simp only [lnS]; try omega; done)) [-getElem?_pos, -getElem?_neg, -notTuple, hnt, hvc, hnt2, hvc2, nt_intG, -xlen, hxl, hxl2, hab, hne]; refine hK _ _ ?_; clear hK K)
    refine aw_t (by (first | (simp [eval_tmp, put_at]; done) | (simp [eval_tmp, put_at]; omega))) (by kernel_rfl) ?_
    refine aw_seq ?_
    (refine aw_ops (by kernel_rfl) (fun K hK => ?_); simp (disch := first | omega | (simp only [lnS]; try omega; done)) [-getElem?_pos, -getElem?_neg]; refine hK _ _ ?_; clear hK K)
    (refine aw_ret ?_; simp (disch := first | omega | (simp only [lnS]; try omega; done)) [-getElem?_pos, -getElem?_neg, thenQ_ret, scopeQ_ret, inBlockQ_ret, RQ, resL, resV])
    all_goals exact fun h => hab (congrArg List.length h)
  (refine aw_ops (by kernel_rfl) (fun K hK => ?_); simp (disch := first | omega | (simp only [lnS]; try omega; done)) [-getElem?_pos, -getElem?_neg, -notTuple, hnt, hvc, hnt2, hvc2, nt_intG, -xlen, hxl, hxl2, hab]; refine hK _ _ ?_; clear hK K)
  refine aw_f (by (first | (simp [eval_tmp, put_at]; done) | (simp [eval_tmp, put_at]; omega))) (by kernel_rfl) ?_
  refine aw_skip ?_
  refine aw_seq ?_
  refine aw_seq ?_
  (refine aw_ops (by kernel_rfl) (fun K hK => ?_); simp (disch := first | omega | (simp only [lnS]; try omega; done)) [-getElem?_pos, -getElem?_neg]; refine hK _ _ ?_; clear hK K)
  refine aw_block ?_
  refine aw_loop (fun c α G => ∃ i : Nat, i + c = a.length ∧ H = G ∧ α 0 = u ∧ α 1 = v ∧ α 5 = .int .i64 (i : Nat) ∧ ∀ k, k < i → a.getD k 0 = b.getD k 0) a.length ?_ ?_
  · exact ⟨0, by omega, rfl, by (first | (simp [put_at, put_none, fr0_at]; done) | rfl), by (first | (simp [put_at, put_none, fr0_at]; done) | rfl), by (first | (simp [put_at, put_none, fr0_at]; done) | rfl), fun k hk => by omega⟩
  rintro c α G ⟨i, hic, rfl, h0, h1, h5, hpre⟩
  refine aw_seq ?_
  refine aw_seq ?_
  rw [← hab] at hxl2
  by_cases hi : i < a.length
  case neg =>
    (refine aw_ops (by kernel_rfl) (fun K hK => ?_); simp (disch := first | omega | (simp only [lnS]; try omega; done)) [-getElem?_pos, -getElem?_neg, h0, h5, -notTuple, hnt, hvc, nt_intG, -xlen, hxl, hi]; refine hK _ _ ?_; clear hK K)
    refine aw_f (by (first | (simp [eval_tmp, put_at, hi]; done) | (simp [eval_tmp, put_at, hi]; omega))) (by kernel_rfl) ?_
    refine aw_exit ?_
    refine aw_seq ?_
    (refine aw_ops (by kernel_rfl) (fun K hK => ?_); simp (disch := first | omega | (simp only [lnS]; try omega; done)) [-getElem?_pos, -getElem?_neg]; refine hK _ _ ?_; clear hK K)
    (refine aw_ret ?_; simp (disch := first | omega | (simp only [lnS]; try omega; done)) [-getElem?_pos, -getElem?_neg, thenQ_ret, scopeQ_ret, inBlockQ_ret, RQ, resL, resV])
    exact list_getD_ext hab (fun k hk => hpre k (by omega))
  (refine aw_ops (by kernel_rfl) (fun K hK => ?_); simp (disch := first | omega | (simp only [lnS]; try omega; done)) [-getElem?_pos, -getElem?_neg, h0, h5, -notTuple, hnt, hvc, nt_intG, -xlen, hxl, hi]; refine hK _ _ ?_; clear hK K)
  refine aw_t (by (first | (simp [eval_tmp, put_at, hi]; done) | (simp [eval_tmp, put_at, hi]; omega))) (by kernel_rfl) ?_
  refine aw_skip ?_
  refine aw_seq ?_
  refine aw_block ?_
  obtain ⟨p, x, q1, q2, q3, rfl, q4⟩ := hat i hi
  obtain ⟨p2, x2, q12, q22, q32, rfl, q42⟩ := hat2 i (by omega)
  have q4 := q4 H (Low.refl (Nat.le_refl _))
  have q42 := q42 H (Low.refl (Nat.le_refl _))
  obtain ⟨y, hy⟩ : ∃ y, y = a.getD i 0 := ⟨_, rfl⟩
  obtain ⟨z, hz⟩ : ∃ z, z = b.getD i 0 := ⟨_, rfl⟩
  rw [← hy] at q4
  rw [← hz] at q42
  refine aw_seq ?_
  by_cases hyz : y = z
  case neg =>
    have hyb : (y == z) = false := by simp [hyz]
    (refine aw_plan [] [] [0, 1, 2, 3, 4, 5, 6, 7, 8] 9 0 (by kernel_rfl) (by kernel_rfl) (by kernel_rfl) (fun K hK => ?_)); simp only [sel, List.getElem?_cons_succ, List.getElem?_cons_zero, List.drop_succ_cons, List.drop_zero]; simp (disch := first | omega | (simp only [lnS]; try omega; done)) [-getElem?_pos, -getElem?_neg, h0, h1, h5, -notTuple, hnt, hvc, hnt2, hvc2, q1, q12, nt_intG, -xindexAddr, q2, q22, -xload, q4, q42, hyz, hyb, PL_nil, plainB_lit, PL_cons, PLc_val, PLc_new, stepP_t, stepP_f, stepPC_n, stepPC_s, stepPX_s, stepPX_n, stepPV_n, stepPV_s, stepPA_t, stepPA_c, stepPA_l, stepPN_s, allocOp, reloc_sl, reloc_ptr, List.map_cons, List.map_nil, List.nil_append, List.append_assoc, List.cons_append, Nat.add_assoc]
    refine hK _ _ ?_; clear hK K
    refine aw_t (by (first | (simp [eval_tmp, put_at]; done) | (simp [eval_tmp, put_at]; omega))) (by kernel_rfl) ?_
    refine aw_seq ?_
    (refine aw_ops (by kernel_rfl) (fun K hK => ?_); simp (disch := first | omega | (simp only [lnS]; try omega; done)) [-getElem?_pos, -getElem?_neg]; refine hK _ _ ?_; clear hK K)
    (refine aw_ret ?_; simp (disch := first | omega | (simp only [lnS]; try omega; done)) [-getElem?_pos, -getElem?_neg, thenQ_ret, scopeQ_ret, inBlockQ_ret, RQ, resL, resV])
    intro h
    rw [hy, hz, h] at hyz
    exact hyz rfl
  have hyb : (y == z) = true := by simp [hyz]
  (refine aw_plan [] [] [0, 1, 2, 3, 4, 5, 6, 7, 8] 9 0 (by kernel_rfl) (by kernel_rfl) (by kernel_rfl) (fun K hK => ?_)); simp only [sel, List.getElem?_cons_succ, List.getElem?_cons_zero, List.drop_succ_cons, List.drop_zero]; simp (disch := first | omega | (simp only [lnS]; try omega; done)) [-getElem?_pos, -getElem?_neg, h0, h1, h5, -notTuple, hnt, hvc, hnt2, hvc2, q1, q12, nt_intG, -xindexAddr, q2, q22, -xload, q4, q42, hyz, hyb, PL_nil, plainB_lit, PL_cons, PLc_val, PLc_new, stepP_t, stepP_f, stepPC_n, stepPC_s, stepPX_s, stepPX_n, stepPV_n, stepPV_s, stepPA_t, stepPA_c, stepPA_l, stepPN_s, allocOp, reloc_sl, reloc_ptr, List.map_cons, List.map_nil, List.nil_append, List.append_assoc, List.cons_append, Nat.add_assoc]
  refine hK _ _ ?_; clear hK K
  refine aw_f (by (first | (simp [eval_tmp, put_at]; done) | (simp [eval_tmp, put_at]; omega))) (by kernel_rfl) ?_
  refine aw_skip ?_
  (refine aw_ops (by kernel_rfl) (fun K hK => ?_); simp (disch := first | omega | (simp only [lnS]; try omega; done)) [-getElem?_pos, -getElem?_neg, h5]; refine hK _ _ ?_; clear hK K)
  refine ⟨c - 1, by omega, i + 1, by omega, rfl, by (first | (simp [put_at, put_none, fr0_at, h0]; done) | rfl), by (first | (simp [put_at, put_none, fr0_at, h1]; done) | rfl), by (first | (simp [put_at, put_none, fr0_at]; done) | rfl), fun k hk => ?_⟩
  by_cases e : k = i
  · subst e
    rw [← hy, ← hz, hyz]
  · exact hpre k (by omega)
end
section
def kind1B (o : OpD) (inn : Bool) : Bool := if o.kind = 1 then inn && (decide (o.parents.length = 0) && decide (o.seq = 1)) else decide (0 < o.parents.length)
def kind2B (o : OpD) (inn : Bool) : Bool := if o.kind = 2 ∨ o.kind = 3 then !inn && decide (o.who.length = 1) else if 3 < o.kind then decide (o.who.length = 0) else true
def kind3B (o : OpD) : Bool := decide (o.kind = 5 ∨ o.kind = 6) == !decide (o.of = zl 32)
def kind4B (o : OpD) : Bool := if o.kind = 7 then decide (o.check = zl 32) && decide (0 < o.text.size) else !decide (o.check = zl 32) && decide (o.text.size = 0)
def kindB (o : OpD) (inn : Bool) : Bool := kind1B o inn && (kind2B o inn && (kind3B o && kind4B o))
attribute [local simp] wb_bool wb_undef with_lit XL_nil XL_cons XLc_val XLc_call step1_eq stepW_t stepW_f stepC_n stepC_s stepX_s stepX_n stepN_s calleeX oneV xop_eq xopR_s xopR_n wantedA_eq wantedG_n wantedG_s plain1_int plain1_bool plain1_string bits_i64 bits_u64 bits_u32 bits_u16 bits_u8 xeqA xagg xcmp xarr allK_iv num_iv calleeOf xread xeff xbin xint xnil xun xstr xload xconv xpart xfield xfieldAddr xindexAddr xindex bnd asInt? xslice xlen xmin xmax xbuild xfill xappend xapp2 xappstr xappmk xcap xcopy xcells eval_tmp eval_const put_at put_none fr0_at cells_agg cells_int cells_bool cells_string cells_ptr cells_slice notTuple tab iv_all hget_app hget_app0 hget_cons0 hget_cons set_app set_app0 setR setR_one QL_nil QL_cons QLc_val stepQ_t stepQ_f stepQC_n stepQC_s stepQX_s SL_nil SL_cons SLc_val stepS_t stepS_f ltT ltF leT leF eqT eqF ltTn ltFn leTn leFn eqTn eqFn beqT beqF bneT bneF wi64 wu64 wu32 wu16 wu8 tmodP tdivP hgetL hgetNe hgetEq setL nums_def nums_len Nat.succ_le_of_lt List.getElem?_cons_zero List.getElem?_cons_succ Option.getD_some Int.toNat_add Int.toNat_mul agM okM agB agI agS agP agL agA okB okI okS okP okSl okA
theorem rkind_rc {γ : Nat → Option Nat} {H : AH} {us : List Value} {o : OpD} {pv wv bv : Value} (h : OpC H us o pv wv bv) (hw : o.Wf) (inn : Bool) : AC Try.prog H.length γ 114 #[.agg us.toArray, .bool inn] H (fun v' _ => v' = .bool (kindB o inn)) := by
  have hlen := h.len
  have c1 := h.c1
  have c2 := h.c2
  have c3 := h.c3
  have c4 := h.c4
  have c5 := h.of
  have c6 := h.check
  have c69 := h.c69
  have l5 := hw.of.1
  have l6 := hw.check.1
  have pa := h.parents.acc (fun k hk => (hw.parents k hk).1)
  have wa := h.who.acc
  have p1 := pa.nt
  have p2 := pa.cs
  have p3 := pa.len
  have w1 := wa.nt
  have w2 := wa.cs
  have w3 := wa.len
  obtain ⟨np, hnp⟩ : ∃ n, n = o.parents.length := ⟨_, rfl⟩
  obtain ⟨nw, hnw⟩ : ∃ n, n = o.who.length := ⟨_, rfl⟩
  rw [← hnp] at p3
  rw [← hnw] at w3
  have hK1 : kind1B o inn = if o.kind = 1 then inn && (decide (np = 0) && decide (o.seq = 1)) else decide (0 < np) := by rw [hnp]; rfl
  have hK2 : kind2B o inn = if o.kind = 2 ∨ o.kind = 3 then !inn && decide (nw = 1) else if 3 < o.kind then decide (nw = 0) else true := by rw [hnw]; rfl
  have bad1 : kind1B o inn = false → kindB o inn = false := fun e => by unfold kindB; rw [e]; rfl
  have bad2 : kind2B o inn = false → kindB o inn = false := fun e => by unfold kindB; rw [e]; simp
  have bad3 : kind3B o = false → kindB o inn = false := fun e => by unfold kindB; rw [e]; simp
  refine ac_of_aw Try.func114 rfl Try.ntmps114 Try.results114 (by simp) ?_
  refine aw_seq ?_
  (refine aw_ops (by kernel_rfl) (fun K hK => ?_); simp (disch := first | omega | (simp only [lnS]; try omega; done)) [-getElem?_pos, -getElem?_neg, hlen]; refine hK _ _ ?_; clear hK K)
  obtain ⟨hlow, hb⟩ := boxed (H := H) us 41
  generalize H ++ [some ⟨us, 41, none⟩] = G at *
  have hlowl := hlow.2
  refine aw_seq ?_
  have hz1 : setR (iv .u8 (zl 32)) 0 (iv .u8 (zl 32)) = iv .u8 (zl 32) := setR_all _ _ rfl
  (refine aw_ops (by kernel_rfl) (fun K hK => ?_); simp (disch := first | omega | (simp only [lnS]; try omega; done)) [-getElem?_pos, -getElem?_neg, all_zl, hz1, hlowl]; refine hK _ _ ?_; clear hK K)
  have hb1 : hget (G ++ [some ⟨iv .u8 (zl 32), 38, none⟩]) H.length = some ⟨us, 41, none⟩ := hget_left' hb
  have hb2 : hget (G ++ [some ⟨iv .u8 (zl 32), 38, none⟩]) G.length = some ⟨iv .u8 (zl 32), 38, none⟩ := by rw [hget_app0]; rfl
  generalize G ++ [some ⟨iv .u8 (zl 32), 38, none⟩] = G2 at *
  generalize G.length = g at *
  have hz2 : (zl 32).length = 32 := rfl
  have hz3 : (iv .u8 (zl 32)).take 32 = iv .u8 (zl 32) := rfl
  obtain ⟨b, hbe⟩ : ∃ b, b = H.length := ⟨_, rfl⟩
  rw [← hbe] at hb1 ⊢
  refine aw_seq ?_
  refine aw_seq ?_
  refine aw_cut (fun α G' => G2 = G' ∧ α 1 = .bool inn ∧ α 2 = .pointer (some ⟨b, 0, none⟩) ∧ α 5 = .pointer (some ⟨g, 0, none⟩) ∧ α 35 = .bool (!kind1B o inn)) ?_ ?_
  · rw [hK1]
    by_cases k1 : o.kind = 1
    · cases inn with
      | false =>
        (refine aw_ops (by kernel_rfl) (fun K hK => ?_); simp (disch := first | omega | (simp only [lnS]; try omega; done)) [-getElem?_pos, -getElem?_neg, hb1, hlen, c3, k1]; refine hK _ _ ?_; clear hK K)
        exact ⟨rfl, by (first | (simp [put_at, put_none, fr0_at]; done) | rfl), by (first | (simp [put_at, put_none, fr0_at]; done) | rfl), by (first | (simp [put_at, put_none, fr0_at]; done) | rfl), by simp [put_at, k1]⟩
      | true =>
        by_cases n0 : 0 < np
        · have n0' : ¬ np = 0 := by omega
          (refine aw_ops (by kernel_rfl) (fun K hK => ?_); simp (disch := first | omega | (simp only [lnS]; try omega; done)) [-getElem?_pos, -getElem?_neg, hb1, hlen, c3, c2, k1, -notTuple, p1, p2, nt_intG, -xlen, p3, n0]; refine hK _ _ ?_; clear hK K)
          exact ⟨rfl, by (first | (simp [put_at, put_none, fr0_at]; done) | rfl), by (first | (simp [put_at, put_none, fr0_at]; done) | rfl), by (first | (simp [put_at, put_none, fr0_at]; done) | rfl), by simp [put_at, k1, n0']⟩
        · have n0' : np = 0 := by omega
          clear hK1
          subst n0'
          by_cases hs : o.seq = 1
          · have hs' : (o.seq == 1) = true := by simp [hs]
            (refine aw_ops (by kernel_rfl) (fun K hK => ?_); simp (disch := first | omega | (simp only [lnS]; try omega; done)) [-getElem?_pos, -getElem?_neg, hb1, hlen, c3, c2, c1, k1, -notTuple, p1, p2, nt_intG, -xlen, p3, hs']; refine hK _ _ ?_; clear hK K)
            exact ⟨rfl, by (first | (simp [put_at, put_none, fr0_at]; done) | rfl), by (first | (simp [put_at, put_none, fr0_at]; done) | rfl), by (first | (simp [put_at, put_none, fr0_at]; done) | rfl), by simp [put_at, k1, hs]⟩
          · have hs' : (o.seq == 1) = false := by simp [hs]
            (refine aw_ops (by kernel_rfl) (fun K hK => ?_); simp (disch := first | omega | (simp only [lnS]; try omega; done)) [-getElem?_pos, -getElem?_neg, hb1, hlen, c3, c2, c1, k1, -notTuple, p1, p2, nt_intG, -xlen, p3, hs']; refine hK _ _ ?_; clear hK K)
            exact ⟨rfl, by (first | (simp [put_at, put_none, fr0_at]; done) | rfl), by (first | (simp [put_at, put_none, fr0_at]; done) | rfl), by (first | (simp [put_at, put_none, fr0_at]; done) | rfl), by simp [put_at, k1, hs]⟩
    · have k1' : (o.kind == 1) = false := by simp [k1]
      (refine aw_ops (by kernel_rfl) (fun K hK => ?_); simp (disch := first | omega | (simp only [lnS]; try omega; done)) [-getElem?_pos, -getElem?_neg, hb1, hlen, c3, c2, k1, k1', -notTuple, p1, p2, nt_intG, -xlen, p3]; refine hK _ _ ?_; clear hK K)
      refine ⟨rfl, by (first | (simp [put_at, put_none, fr0_at]; done) | rfl), by (first | (simp [put_at, put_none, fr0_at]; done) | rfl), by (first | (simp [put_at, put_none, fr0_at]; done) | rfl), ?_⟩
      simp [put_at, k1]
      rw [Bool.eq_iff_iff]
      simp
  rintro α G' ⟨rfl, h1, h2, h5, h35⟩
  cases q1 : kind1B o inn with
  | false =>
    rw [q1] at h35
    refine aw_t (by (first | (simp [eval_tmp, put_at, h35]; done) | (simp [eval_tmp, put_at, h35]; omega))) (by kernel_rfl) ?_
    refine aw_seq ?_
    (refine aw_ops (by kernel_rfl) (fun K hK => ?_); simp (disch := first | omega | (simp only [lnS]; try omega; done)) [-getElem?_pos, -getElem?_neg]; refine hK _ _ ?_; clear hK K)
    (refine aw_ret ?_; simp (disch := first | omega | (simp only [lnS]; try omega; done)) [-getElem?_pos, -getElem?_neg, thenQ_ret, scopeQ_ret, inBlockQ_ret, RQ, resL, resV])
    rw [bad1 q1]
  | true =>
  rw [q1] at h35
  refine aw_f (by (first | (simp [eval_tmp, put_at, h35]; done) | (simp [eval_tmp, put_at, h35]; omega))) (by kernel_rfl) ?_
  refine aw_skip ?_
  refine aw_seq ?_
  refine aw_seq ?_
  refine aw_cut (fun α G' => G2 = G' ∧ α 2 = .pointer (some ⟨b, 0, none⟩) ∧ α 5 = .pointer (some ⟨g, 0, none⟩) ∧ α 63 = .bool (!kind2B o inn)) ?_ ?_
  · rw [hK2]
    obtain ⟨kk, hkk⟩ : ∃ k, k = o.kind := ⟨_, rfl⟩
    rw [← hkk] at c3 ⊢
    by_cases k23 : kk = 2 ∨ kk = 3
    · have hor : (kk == 2 || kk == 3) = true := by simpa using k23
      have k3f : ¬ 3 < kk := by omega
      have k3i : ¬ (kk > 3) := by omega
      cases inn with
      | true =>
        rcases k23 with e | e
        · rw [e] at c3
          (refine aw_ops (by kernel_rfl) (fun K hK => ?_); simp (disch := first | omega | (simp only [lnS]; try omega; done)) [-getElem?_pos, -getElem?_neg, h1, h2, hb1, hlen, c3, -notTuple]; refine hK _ _ ?_; clear hK K)
          exact ⟨rfl, by (first | (simp [put_at, put_none, fr0_at, h2]; done) | rfl), by (first | (simp [put_at, put_none, fr0_at, h5]; done) | rfl), by simp [put_at, e]⟩
        · rw [e] at c3
          (refine aw_ops (by kernel_rfl) (fun K hK => ?_); simp (disch := first | omega | (simp only [lnS]; try omega; done)) [-getElem?_pos, -getElem?_neg, h1, h2, hb1, hlen, c3, -notTuple]; refine hK _ _ ?_; clear hK K)
          exact ⟨rfl, by (first | (simp [put_at, put_none, fr0_at, h2]; done) | rfl), by (first | (simp [put_at, put_none, fr0_at, h5]; done) | rfl), by simp [put_at, e]⟩
      | false =>
        by_cases n1 : nw = 1
        · clear hK2
          subst n1
          rcases k23 with e | e
          · rw [e] at c3
            (refine aw_ops (by kernel_rfl) (fun K hK => ?_); simp (disch := first | omega | (simp only [lnS]; try omega; done)) [-getElem?_pos, -getElem?_neg, h1, h2, hb1, hlen, c3, c4, -notTuple, w1, w2, nt_intG, -xlen, w3]; refine hK _ _ ?_; clear hK K)
            exact ⟨rfl, by (first | (simp [put_at, put_none, fr0_at, h2]; done) | rfl), by (first | (simp [put_at, put_none, fr0_at, h5]; done) | rfl), by simp [put_at, e]⟩
          · rw [e] at c3
            (refine aw_ops (by kernel_rfl) (fun K hK => ?_); simp (disch := first | omega | (simp only [lnS]; try omega; done)) [-getElem?_pos, -getElem?_neg, h1, h2, hb1, hlen, c3, c4, -notTuple, w1, w2, nt_intG, -xlen, w3]; refine hK _ _ ?_; clear hK K)
            exact ⟨rfl, by (first | (simp [put_at, put_none, fr0_at, h2]; done) | rfl), by (first | (simp [put_at, put_none, fr0_at, h5]; done) | rfl), by simp [put_at, e]⟩
        · have n1' : ((nw : Int) == 1) = false := by
            rw [Bool.eq_false_iff]; simp; omega
          rcases k23 with e | e
          · rw [e] at c3
            (refine aw_ops (by kernel_rfl) (fun K hK => ?_); simp (disch := first | omega | (simp only [lnS]; try omega; done)) [-getElem?_pos, -getElem?_neg, h1, h2, hb1, hlen, c3, c4, -notTuple, w1, w2, nt_intG, -xlen, w3, n1']; refine hK _ _ ?_; clear hK K)
            exact ⟨rfl, by (first | (simp [put_at, put_none, fr0_at, h2]; done) | rfl), by (first | (simp [put_at, put_none, fr0_at, h5]; done) | rfl), by simp [put_at, e, n1]⟩
          · rw [e] at c3
            (refine aw_ops (by kernel_rfl) (fun K hK => ?_); simp (disch := first | omega | (simp only [lnS]; try omega; done)) [-getElem?_pos, -getElem?_neg, h1, h2, hb1, hlen, c3, c4, -notTuple, w1, w2, nt_intG, -xlen, w3, n1']; refine hK _ _ ?_; clear hK K)
            exact ⟨rfl, by (first | (simp [put_at, put_none, fr0_at, h2]; done) | rfl), by (first | (simp [put_at, put_none, fr0_at, h5]; done) | rfl), by simp [put_at, e, n1]⟩
    · have e2 : (kk == 2) = false := by rw [Bool.eq_false_iff]; simp; omega
      have e3 : (kk == 3) = false := by rw [Bool.eq_false_iff]; simp; omega
      by_cases k3 : 3 < kk
      · by_cases n0 : 0 < nw
        · have n0' : ¬ nw = 0 := by omega
          (refine aw_ops (by kernel_rfl) (fun K hK => ?_); simp (disch := first | omega | (simp only [lnS]; try omega; done)) [-getElem?_pos, -getElem?_neg, h1, h2, hb1, hlen, c3, c4, e2, e3, k3, -notTuple, w1, w2, nt_intG, -xlen, w3, n0]; refine hK _ _ ?_; clear hK K)
          exact ⟨rfl, by (first | (simp [put_at, put_none, fr0_at, h2]; done) | rfl), by (first | (simp [put_at, put_none, fr0_at, h5]; done) | rfl), by simp [put_at, k23, k3, n0']⟩
        · have n0' : nw = 0 := by omega
          clear hK2
          subst n0'
          (refine aw_ops (by kernel_rfl) (fun K hK => ?_); simp (disch := first | omega | (simp only [lnS]; try omega; done)) [-getElem?_pos, -getElem?_neg, h1, h2, hb1, hlen, c3, c4, e2, e3, k3, -notTuple, w1, w2, nt_intG, -xlen, w3]; refine hK _ _ ?_; clear hK K)
          exact ⟨rfl, by (first | (simp [put_at, put_none, fr0_at, h2]; done) | rfl), by (first | (simp [put_at, put_none, fr0_at, h5]; done) | rfl), by simp [put_at, k23, k3]⟩
      · (refine aw_ops (by kernel_rfl) (fun K hK => ?_); simp (disch := first | omega | (simp only [lnS]; try omega; done)) [-getElem?_pos, -getElem?_neg, h1, h2, hb1, hlen, c3, c4, e2, e3, k3, -notTuple, w1, w2, nt_intG, -xlen, w3]; refine hK _ _ ?_; clear hK K)
        exact ⟨rfl, by (first | (simp [put_at, put_none, fr0_at, h2]; done) | rfl), by (first | (simp [put_at, put_none, fr0_at, h5]; done) | rfl), by simp [put_at, k23, k3]⟩
  clear h1 h2 h5 h35 α
  rintro α G' ⟨rfl, h2, h5, h63⟩
  cases q2 : kind2B o inn with
  | false =>
    rw [q2] at h63
    refine aw_t (by (first | (simp [eval_tmp, put_at, h63]; done) | (simp [eval_tmp, put_at, h63]; omega))) (by kernel_rfl) ?_
    refine aw_seq ?_
    (refine aw_ops (by kernel_rfl) (fun K hK => ?_); simp (disch := first | omega | (simp only [lnS]; try omega; done)) [-getElem?_pos, -getElem?_neg]; refine hK _ _ ?_; clear hK K)
    (refine aw_ret ?_; simp (disch := first | omega | (simp only [lnS]; try omega; done)) [-getElem?_pos, -getElem?_neg, thenQ_ret, scopeQ_ret, inBlockQ_ret, RQ, resL, resV])
    rw [bad2 q2]
  | true =>
  rw [q2] at h63
  refine aw_f (by (first | (simp [eval_tmp, put_at, h63]; done) | (simp [eval_tmp, put_at, h63]; omega))) (by kernel_rfl) ?_
  refine aw_skip ?_
  refine aw_seq ?_
  refine aw_seq ?_
  have e5 := zl32_key o.of
  have e6 := zl32_key o.check
  have hk3 : kind3B o = (decide (o.kind = 5 ∨ o.kind = 6) == !decide (o.of = zl 32)) := rfl
  have hk4 : kind4B o = if o.kind = 7 then decide (o.check = zl 32) && decide (0 < o.text.size) else !decide (o.check = zl 32) && decide (o.text.size = 0) := rfl
  have hall : kindB o inn = (kind3B o && kind4B o) := by unfold kindB; rw [q1, q2]; rfl
  rw [hall]
  obtain ⟨B5, hB5⟩ : ∃ B, B = decide (o.of = zl 32) := ⟨_, rfl⟩
  obtain ⟨B6, hB6⟩ : ∃ B, B = decide (o.check = zl 32) := ⟨_, rfl⟩
  rw [← hB5] at e5 hk3
  rw [← hB6] at e6 hk4
  clear hB5 hB6 hall bad1 bad2 bad3 hK1 hK2 q1 q2
  obtain ⟨K3, hK3⟩ : ∃ k, k = kind3B o := ⟨_, rfl⟩
  obtain ⟨K4, hK4⟩ : ∃ k, k = kind4B o := ⟨_, rfl⟩
  rw [← hK3] at hk3 ⊢
  rw [← hK4] at hk4 ⊢
  clear hK3 hK4
  obtain ⟨ts, hts⟩ : ∃ t, t = o.text := ⟨_, rfl⟩
  have htz : ts.size ≤ 9223372036854775807 := by rw [hts]; have := hw.text; simp only [maxLen] at this; omega
  rw [← hts] at c69 hk4
  obtain ⟨kk, hkk⟩ : ∃ k, k = o.kind := ⟨_, rfl⟩
  rw [← hkk] at c3 hk3 hk4
  refine aw_cut (fun α G' => G2 = G' ∧ α 2 = .pointer (some ⟨b, 0, none⟩) ∧ α 5 = .pointer (some ⟨g, 0, none⟩) ∧ α 76 = .bool (!K3)) ?_ ?_
  · by_cases k5 : kk = 5
    · rw [k5] at c3 hk3
      cases B5 <;>
      · (refine aw_plan [] [] [0, 1, 2, 3, 4, 5, 6, 7, 8, 9, 10, 11, 12] 13 0 (by kernel_rfl) (by kernel_rfl) (by kernel_rfl) (fun K hK => ?_)); simp only [sel, List.getElem?_cons_succ, List.getElem?_cons_zero, List.drop_succ_cons, List.drop_zero]; simp (disch := first | omega | (simp only [lnS]; try omega; done)) [-getElem?_pos, -getElem?_neg, h2, h5, hb1, hb2, hlen, c3, c5, l5, hz2, hz3, e5, PL_nil, plainB_lit, PL_cons, PLc_val, PLc_new, stepP_t, stepP_f, stepPC_n, stepPC_s, stepPX_s, stepPX_n, stepPV_n, stepPV_s, stepPA_t, stepPA_c, stepPA_l, stepPN_s, allocOp, reloc_sl, reloc_ptr, List.map_cons, List.map_nil, List.nil_append, List.append_assoc, List.cons_append, Nat.add_assoc]
        refine hK _ _ ?_; clear hK K
        exact ⟨rfl, by (first | (simp [put_at, put_none, fr0_at, h2]; done) | rfl), by (first | (simp [put_at, put_none, fr0_at, h5]; done) | rfl), by rw [hk3]; simp [put_at]⟩
    · have k5' : (kk == 5) = false := by simp [k5]
      by_cases k6 : kk = 6
      · rw [k6] at c3 hk3
        cases B5 <;>
        · (refine aw_plan [] [] [0, 1, 2, 3, 4, 5, 6, 7, 8, 9, 10, 11, 12] 13 0 (by kernel_rfl) (by kernel_rfl) (by kernel_rfl) (fun K hK => ?_)); simp only [sel, List.getElem?_cons_succ, List.getElem?_cons_zero, List.drop_succ_cons, List.drop_zero]; simp (disch := first | omega | (simp only [lnS]; try omega; done)) [-getElem?_pos, -getElem?_neg, h2, h5, hb1, hb2, hlen, c3, c5, l5, hz2, hz3, e5, PL_nil, plainB_lit, PL_cons, PLc_val, PLc_new, stepP_t, stepP_f, stepPC_n, stepPC_s, stepPX_s, stepPX_n, stepPV_n, stepPV_s, stepPA_t, stepPA_c, stepPA_l, stepPN_s, allocOp, reloc_sl, reloc_ptr, List.map_cons, List.map_nil, List.nil_append, List.append_assoc, List.cons_append, Nat.add_assoc]
          refine hK _ _ ?_; clear hK K
          exact ⟨rfl, by (first | (simp [put_at, put_none, fr0_at, h2]; done) | rfl), by (first | (simp [put_at, put_none, fr0_at, h5]; done) | rfl), by rw [hk3]; simp [put_at]⟩
      · have k6' : (kk == 6) = false := by simp [k6]
        cases B5 <;>
        · (refine aw_plan [] [] [0, 1, 2, 3, 4, 5, 6, 7, 8, 9, 10, 11, 12] 13 0 (by kernel_rfl) (by kernel_rfl) (by kernel_rfl) (fun K hK => ?_)); simp only [sel, List.getElem?_cons_succ, List.getElem?_cons_zero, List.drop_succ_cons, List.drop_zero]; simp (disch := first | omega | (simp only [lnS]; try omega; done)) [-getElem?_pos, -getElem?_neg, h2, h5, hb1, hb2, hlen, c3, c5, l5, hz2, hz3, e5, k5, k5', k6, k6', PL_nil, plainB_lit, PL_cons, PLc_val, PLc_new, stepP_t, stepP_f, stepPC_n, stepPC_s, stepPX_s, stepPX_n, stepPV_n, stepPV_s, stepPA_t, stepPA_c, stepPA_l, stepPN_s, allocOp, reloc_sl, reloc_ptr, List.map_cons, List.map_nil, List.nil_append, List.append_assoc, List.cons_append, Nat.add_assoc]
          refine hK _ _ ?_; clear hK K
          exact ⟨rfl, by (first | (simp [put_at, put_none, fr0_at, h2]; done) | rfl), by (first | (simp [put_at, put_none, fr0_at, h5]; done) | rfl), by rw [hk3]; simp [put_at, k5, k6]⟩
  clear h2 h5 h63 α
  rintro α G' ⟨rfl, h2, h5, h76⟩
  cases K3 with
  | false =>
    refine aw_t (by (first | (simp [eval_tmp, put_at, h76]; done) | (simp [eval_tmp, put_at, h76]; omega))) (by kernel_rfl) ?_
    refine aw_seq ?_
    (refine aw_ops (by kernel_rfl) (fun K hK => ?_); simp (disch := first | omega | (simp only [lnS]; try omega; done)) [-getElem?_pos, -getElem?_neg]; refine hK _ _ ?_; clear hK K)
    (refine aw_ret ?_; simp (disch := first | omega | (simp only [lnS]; try omega; done)) [-getElem?_pos, -getElem?_neg, thenQ_ret, scopeQ_ret, inBlockQ_ret, RQ, resL, resV])
  | true =>
  refine aw_f (by (first | (simp [eval_tmp, put_at, h76]; done) | (simp [eval_tmp, put_at, h76]; omega))) (by kernel_rfl) ?_
  refine aw_skip ?_
  refine aw_seq ?_
  refine aw_seq ?_
  by_cases k7 : kk = 7
  · rw [if_pos k7] at hk4
    (refine aw_ops (by kernel_rfl) (fun K hK => ?_); simp (disch := first | omega | (simp only [lnS]; try omega; done)) [-getElem?_pos, -getElem?_neg, h2, hb1, hlen, c3, k7]; refine hK _ _ ?_; clear hK K)
    refine aw_t (by (first | (simp [eval_tmp, put_at]; done) | (simp [eval_tmp, put_at]; omega))) (by kernel_rfl) ?_
    refine aw_seq ?_
    cases B6 with
    | false =>
      (refine aw_ops (by kernel_rfl) (fun K hK => ?_); simp (disch := first | omega | (simp only [lnS]; try omega; done)) [-getElem?_pos, -getElem?_neg, h2, h5, hb1, hb2, hlen, c6, l6, hz2, hz3, e6]; refine hK _ _ ?_; clear hK K)
      (refine aw_ret ?_; simp (disch := first | omega | (simp only [lnS]; try omega; done)) [-getElem?_pos, -getElem?_neg, thenQ_ret, scopeQ_ret, inBlockQ_ret, RQ, resL, resV])
      rw [hk4]; rfl
    | true =>
      by_cases n0 : 0 < ts.size
      · (refine aw_ops (by kernel_rfl) (fun K hK => ?_); simp (disch := first | omega | (simp only [lnS]; try omega; done)) [-getElem?_pos, -getElem?_neg, h2, h5, hb1, hb2, hlen, c6, c69, l6, hz2, hz3, e6, n0, htz]; refine hK _ _ ?_; clear hK K)
        (refine aw_ret ?_; simp (disch := first | omega | (simp only [lnS]; try omega; done)) [-getElem?_pos, -getElem?_neg, thenQ_ret, scopeQ_ret, inBlockQ_ret, RQ, resL, resV])
        rw [hk4]; simp [n0]
      · (refine aw_ops (by kernel_rfl) (fun K hK => ?_); simp (disch := first | omega | (simp only [lnS]; try omega; done)) [-getElem?_pos, -getElem?_neg, h2, h5, hb1, hb2, hlen, c6, c69, l6, hz2, hz3, e6, n0, htz]; refine hK _ _ ?_; clear hK K)
        (refine aw_ret ?_; simp (disch := first | omega | (simp only [lnS]; try omega; done)) [-getElem?_pos, -getElem?_neg, thenQ_ret, scopeQ_ret, inBlockQ_ret, RQ, resL, resV])
        rw [hk4]; simp [n0]
  · have k7' : (kk == 7) = false := by simp [k7]
    rw [if_neg k7] at hk4
    (refine aw_ops (by kernel_rfl) (fun K hK => ?_); simp (disch := first | omega | (simp only [lnS]; try omega; done)) [-getElem?_pos, -getElem?_neg, h2, hb1, hlen, c3, k7, k7']; refine hK _ _ ?_; clear hK K)
    refine aw_f (by (first | (simp [eval_tmp, put_at]; done) | (simp [eval_tmp, put_at]; omega))) (by kernel_rfl) ?_
    refine aw_skip ?_
    refine aw_seq ?_
    cases B6 with
    | true =>
      (refine aw_ops (by kernel_rfl) (fun K hK => ?_); simp (disch := first | omega | (simp only [lnS]; try omega; done)) [-getElem?_pos, -getElem?_neg, h2, h5, hb1, hb2, hlen, c6, l6, hz2, hz3, e6]; refine hK _ _ ?_; clear hK K)
      (refine aw_ret ?_; simp (disch := first | omega | (simp only [lnS]; try omega; done)) [-getElem?_pos, -getElem?_neg, thenQ_ret, scopeQ_ret, inBlockQ_ret, RQ, resL, resV])
      rw [hk4]; rfl
    | false =>
      by_cases n0 : ts.size = 0
      · (refine aw_ops (by kernel_rfl) (fun K hK => ?_); simp (disch := first | omega | (simp only [lnS]; try omega; done)) [-getElem?_pos, -getElem?_neg, h2, h5, hb1, hb2, hlen, c6, c69, l6, hz2, hz3, e6, n0, htz]; refine hK _ _ ?_; clear hK K)
        (refine aw_ret ?_; simp (disch := first | omega | (simp only [lnS]; try omega; done)) [-getElem?_pos, -getElem?_neg, thenQ_ret, scopeQ_ret, inBlockQ_ret, RQ, resL, resV])
        rw [hk4]; simp [n0]
      · have n0' : ((ts.size : Int) == 0) = false := beq_eq_false_iff_ne.2 (by omega)
        (refine aw_ops (by kernel_rfl) (fun K hK => ?_); simp (disch := first | omega | (simp only [lnS]; try omega; done)) [-getElem?_pos, -getElem?_neg, h2, h5, hb1, hb2, hlen, c6, c69, l6, hz2, hz3, e6, n0, n0', htz]; refine hK _ _ ?_; clear hK K)
        (refine aw_ret ?_; simp (disch := first | omega | (simp only [lnS]; try omega; done)) [-getElem?_pos, -getElem?_neg, thenQ_ret, scopeQ_ret, inBlockQ_ret, RQ, resL, resV])
        rw [hk4]; simp [n0]
end
section
theorem cmpI_lt {a b : Int} : cmpI a b < 0 ↔ a < b := by
  unfold cmpI
  split
  · simp; omega
  · split <;> simp <;> omega
/-- Members that rise are no more than eight. -/
theorem rise_len {l : List Int} (h1 : ∀ z ∈ l, memI z = true) (h2 : ∀ i, i + 1 < l.length → l.getD i 0 < l.getD (i + 1) 0) : l.length ≤ 8 := by
  have hlo : ∀ i, i < l.length → (i : Int) ≤ l.getD i 0 := by
    intro i
    induction i with
    | zero =>
      intro hi
      have := h1 (l.getD 0 0) (by rw [List.getD_eq_getElem?_getD, List.getElem?_eq_getElem hi]; exact List.getElem_mem hi)
      unfold memI at this
      rw [Bool.and_eq_true, decide_eq_true_eq, decide_eq_true_eq] at this
      omega
    | succ i ih =>
      intro hi
      have := ih (by omega)
      have := h2 i hi
      omega
  by_cases h : l.length = 0
  · omega
  · have hi : l.length - 1 < l.length := by omega
    have a := hlo (l.length - 1) hi
    have b := h1 (l.getD (l.length - 1) 0) (by rw [List.getD_eq_getElem?_getD, List.getElem?_eq_getElem hi]; exact List.getElem_mem hi)
    unfold memI at b
    rw [Bool.and_eq_true, decide_eq_true_eq, decide_eq_true_eq] at b
    omega
def refO (o : OpD) : Bool := memI o.author && (decide (o.seq ≠ 0) && (decide (1 ≤ o.kind) && (decide (o.kind ≤ 7) && (decide (o.parents.length ≤ 8) && (decide (o.boxes.length ≤ 8) && (decide (o.text.size ≤ 256) && (risesK o.parents && ((o.who.all memI && risesI o.who) && (boxesB o && kindB o (decide (o.author ∈ o.who)))))))))))
theorem boxes_len {o : OpD} (h : boxesB o = true) : o.boxes.length ≤ 8 := by
  unfold boxesB risesX at h
  rw [Bool.and_eq_true, List.all_eq_true, List.all_eq_true] at h
  have := rise_len (l := o.boxes.map BoxD.to) (fun z hz => by
    obtain ⟨b, hb, rfl⟩ := List.mem_map.1 hz
    have := h.1 b hb
    unfold boxB at this
    rw [Bool.and_eq_true] at this
    exact this.1) (fun i hi => by
    rw [List.length_map] at hi
    have := h.2 i (List.mem_range.2 (by omega))
    rw [decide_eq_true_eq, cmpI_lt] at this
    exact this)
  rwa [List.length_map] at this
theorem risesK_nil {ps : List (List Int)} (h : ps.length = 0) : risesK ps = true := by
  unfold risesK
  rw [h]; rfl
theorem refO_eq (o : OpD) : refO o = rightO o := by
  unfold refO rightO
  by_cases hb : boxesB o = true
  case neg =>
    have : boxesB o = false := by simpa using hb
    rw [this]; simp
  have hbl := boxes_len hb
  rw [hb]
  by_cases g1 : 1 ≤ o.kind
  case neg => simp [g1]
  by_cases g2 : o.kind ≤ 7
  case neg => simp [g2]
  cases g3 : memI o.author with
  | false => simp
  | true =>
  have g4 : o.boxes.length ≤ 8 := hbl
  have d8 : decide (o.boxes.length ≤ 8) = true := by simpa using g4
  have dg1 : decide (1 ≤ o.kind) = true := by simpa using g1
  have dg2 : decide (o.kind ≤ 7) = true := by simpa using g2
  rw [d8, dg1, dg2]
  unfold kindB kind1B kind2B kind3B kind4B placeB whoB keysB textOk
  have r1 : decide (0 < o.parents.length) = !decide (o.parents.length = 0) := by
    by_cases h : o.parents.length = 0
    · simp [h]
    · have : 0 < o.parents.length := by omega
      simp [h, this]
  have r2 : decide (o.seq ≠ 0) = !decide (o.seq = 0) := by simp
  have r3 : decide (0 < o.text.size) = !decide (o.text.size = 0) := by
    by_cases h : o.text.size = 0
    · rw [h]; rfl
    · have : 0 < o.text.size := by omega
      rw [decide_eq_true this, decide_eq_false h]; rfl
  have r4 : decide (o.of ≠ zl 32) = !decide (o.of = zl 32) := by simp
  have i1 : (!decide (o.parents.length = 0) || decide (o.parents.length ≤ 8)) = true := by
    by_cases h : o.parents.length = 0
    · rw [h]; rfl
    · rw [decide_eq_false h]; rfl
  have i2 : (!decide (o.parents.length = 0) || risesK o.parents) = true := by
    by_cases h : o.parents.length = 0
    · rw [risesK_nil h, Bool.or_true]
    · rw [decide_eq_false h]; rfl
  have i3 : (!decide (o.seq = 1) || !decide (o.seq = 0)) = true := by
    by_cases h : o.seq = 1
    · rw [h]; rfl
    · rw [decide_eq_false h]; rfl
  have i4 : (!decide (o.who.length = 0) || (o.who.all memI && risesI o.who)) = true := by
    by_cases h : o.who.length = 0
    · have := List.eq_nil_of_length_eq_zero h
      rw [this]; rfl
    · rw [decide_eq_false h]; rfl
  have i6 : (!decide (o.text.size = 0) || decide (o.text.size ≤ 256)) = true := by
    by_cases h : o.text.size = 0
    · rw [h]; rfl
    · rw [decide_eq_false h]; rfl
  rw [r1, r2, r3, r4]
  generalize decide (o.parents.length = 0) = P0 at *
  generalize decide (o.parents.length ≤ 8) = P8 at *
  generalize risesK o.parents = RK at *
  generalize decide (o.seq = 1) = S1 at *
  generalize decide (o.seq = 0) = S0 at *
  generalize decide (o.who.length = 0) = W0 at *
  generalize decide (o.who.length = 1) = W1 at *
  generalize (o.who.all memI && risesI o.who) = WA at *
  generalize decide (o.author ∈ o.who) = IN at *
  generalize decide (o.text.size = 0) = T0 at *
  generalize decide (o.text.size ≤ 256) = T8 at *
  generalize decide (o.of = zl 32) = OF at *
  generalize decide (o.check = zl 32) = C0 at *
  have hk : o.kind = 1 ∨ o.kind = 2 ∨ o.kind = 3 ∨ o.kind = 4 ∨ o.kind = 5 ∨ o.kind = 6 ∨ o.kind = 7 := by omega
  clear r1 r2 r3 r4 d8 dg1 dg2 g1 g2 g3 g4 hbl hb
  rcases hk with hk | hk | hk | hk | hk | hk | hk <;> rw [hk] <;> clear hk <;> revert P0 P8 RK S1 S0 W0 W1 WA IN T0 T8 OF C0 <;> decide +kernel
end
section
theorem nd_take {l : List NodeD} {i a : Nat} (h : a < i) : nd (l.take i) a = nd l a := by
  unfold nd
  rw [List.getD_eq_getElem?_getD, List.getD_eq_getElem?_getD, List.getElem?_take_of_lt h]
theorem find_congr {l m : List NodeD} {n : Nat} (h : ∀ a, a < n → nd l a = nd m a) (k : List Int) : findN l n k = findN m n k := by
  induction n with
  | zero => rfl
  | succ n ih => rw [findN_succ, findN_succ, ih (fun a ha => h a (by omega)), h n (by omega)]
theorem inB_congr {l m : List NodeD} {n : Nat} (h : ∀ a, a < n → nd l a = nd m a) (ps : List (List Int)) (k : Nat) : inB l n ps k = inB m n ps k := by
  unfold inB
  congr 1
  funext p
  rw [find_congr h p]
  cases hf : findN m n p with
  | none => rfl
  | some a =>
    simp only []
    rw [h a (findN_lt hf)]
theorem pastL_congr {l m : List NodeD} {n : Nat} (h : ∀ a, a < n → nd l a = nd m a) (ps : List (List Int)) : pastL l n ps = pastL m n ps := by
  unfold pastL
  congr 1
  exact List.filter_congr fun k _ => inB_congr h ps k
theorem autN_congr {l m : List NodeD} {n : Nat} (h : ∀ a, a < n → nd l a = nd m a) (x : Int) : autN l n x = autN m n x := by
  induction n with
  | zero => rfl
  | succ n ih => rw [autN_succ, autN_succ, ih (fun a ha => h a (by omega)), h n (by omega)]
theorem autA_congr {l m : List NodeD} {n : Nat} (h : ∀ a, a < n → nd l a = nd m a) (x : Int) (P : List Int) : autA l n x P = autA m n x P := by
  induction n with
  | zero => rfl
  | succ n ih => rw [autA_succ, autA_succ, ih (fun a ha => h a (by omega)), h n (by omega)]
theorem turnB_congr {l m : List NodeD} {n : Nat} (h : ∀ a, a < n → nd l a = nd m a) (o : OpD) (P : List Int) : turnB l n o P = turnB m n o P := by
  unfold turnB
  rw [autN_congr h, autA_congr h]
attribute [local simp] wb_bool wb_undef with_lit XL_nil XL_cons XLc_val XLc_call step1_eq stepW_t stepW_f stepC_n stepC_s stepX_s stepX_n stepN_s calleeX oneV xop_eq xopR_s xopR_n wantedA_eq wantedG_n wantedG_s plain1_int plain1_bool plain1_string bits_i64 bits_u64 bits_u32 bits_u16 bits_u8 xeqA xagg xcmp xarr allK_iv num_iv calleeOf xread xeff xbin xint xnil xun xstr xload xconv xpart xfield xfieldAddr xindexAddr xindex bnd asInt? xslice xlen xmin xmax xbuild xfill xappend xapp2 xappstr xappmk xcap xcopy xcells eval_tmp eval_const put_at put_none fr0_at cells_agg cells_int cells_bool cells_string cells_ptr cells_slice notTuple tab iv_all hget_app hget_app0 hget_cons0 hget_cons set_app set_app0 setR setR_one QL_nil QL_cons QLc_val stepQ_t stepQ_f stepQC_n stepQC_s stepQX_s SL_nil SL_cons SLc_val stepS_t stepS_f ltT ltF leT leF eqT eqF ltTn ltFn leTn leFn eqTn eqFn beqT beqF bneT bneF wi64 wu64 wu32 wu16 wu8 tmodP tdivP hgetL hgetNe hgetEq setL nums_def nums_len Nat.succ_le_of_lt List.getElem?_cons_zero List.getElem?_cons_succ Option.getD_some Int.toNat_add Int.toNat_mul agM okM agB agI agS agP agL agA okB okI okS okP okSl okA
theorem NdV.take {H : AH} {v : Value} {l : List NodeD} (h : NdV H v l) (hl : ∀ x ∈ l, x.Wf) {i : Nat} (hi : i < l.length) : ∃ v', NdA H v' (l.take i) ∧ ∀ G : AH, xslice Try.prog 22 v none (some (.int .i64 (i : Nat))) G = some v' := by
  have hrow : ∀ row ∈ l.map NodeD.row, row.length = 104 := fun row hr => by
    obtain ⟨y, hy, rfl⟩ := List.mem_map.1 hr
    have h1 := (hl y hy).id.1
    have h2 := (hl y hy).op.of.1
    have h3 := (hl y hy).op.check.1
    simp [NodeD.row, OpD.row, kd, h1, h2, h3]
  obtain ⟨j, b, us, hv, hb, hle, hx, hus, hul, hle2, hc, hval⟩ := val_at (P := Try.prog) (t := 22) (e := 50) (sz := 104) h (by simp) (by simp) (by omega) hrow (i := i) (row := (nd l i).row) (by rw [List.getElem?_map, nd_get hi]; rfl)
  rw [List.length_map] at hv
  have hlt : (l.take i).length = i := by rw [List.length_take]; omega
  refine ⟨.slice (some ⟨j, 0, none⟩) i i, ⟨rfl, rfl, ?_, fun x hx => hl x (List.mem_of_mem_take hx), fun k x hk => ?_⟩, fun G => ?_⟩
  · rw [hlt]
    unfold xlen
    simp
  · have hki : k < i := by have := (List.getElem?_eq_some_iff.1 hk).1; omega
    rw [List.getElem?_take_of_lt hki] at hk
    obtain ⟨j', b', us', hv', hb', hle', hx', hus', hul', hle2', hc', hval'⟩ := val_at (P := Try.prog) (t := 22) (e := 50) (sz := 104) h (by simp) (by simp) (by omega) hrow (i := k) (row := x.row) (by rw [List.getElem?_map, hk]; rfl)
    rw [List.length_map] at hv'
    rw [hv] at hv'
    cases hv'
    obtain ⟨pv, wv, bv, qv, hcc⟩ := node_c (hl x (List.mem_of_getElem? hk)) hval'
    refine ⟨j, k * 104, b', us', pv, wv, bv, qv, ?_, hb', hle2', hc', hus', hcc⟩
    unfold xindexAddr
    simp
    omega
  · rw [hv]
    unfold xslice
    simp [bnd]
    omega
end
section
attribute [local simp] wb_bool wb_undef with_lit XL_nil XL_cons XLc_val XLc_call step1_eq stepW_t stepW_f stepC_n stepC_s stepX_s stepX_n stepN_s calleeX oneV xop_eq xopR_s xopR_n wantedA_eq wantedG_n wantedG_s plain1_int plain1_bool plain1_string bits_i64 bits_u64 bits_u32 bits_u16 bits_u8 xeqA xagg xcmp xarr allK_iv num_iv calleeOf xread xeff xbin xint xnil xun xstr xload xconv xpart xfield xfieldAddr xindexAddr xindex bnd asInt? xslice xlen xmin xmax xbuild xfill xappend xapp2 xappstr xappmk xcap xcopy xcells eval_tmp eval_const put_at put_none fr0_at cells_agg cells_int cells_bool cells_string cells_ptr cells_slice notTuple tab iv_all hget_app hget_app0 hget_cons0 hget_cons set_app set_app0 setR setR_one QL_nil QL_cons QLc_val stepQ_t stepQ_f stepQC_n stepQC_s stepQX_s SL_nil SL_cons SLc_val stepS_t stepS_f ltT ltF leT leF eqT eqF ltTn ltFn leTn leFn eqTn eqFn beqT beqF bneT bneF wi64 wu64 wu32 wu16 wu8 tmodP tdivP hgetL hgetNe hgetEq setL nums_def nums_len Nat.succ_le_of_lt List.getElem?_cons_zero List.getElem?_cons_succ Option.getD_some Int.toNat_add Int.toNat_mul agM okM agB agI agS agP agL agA okB okI okS okP okSl okA
end
section
attribute [local simp] wb_bool wb_undef with_lit XL_nil XL_cons XLc_val XLc_call step1_eq stepW_t stepW_f stepC_n stepC_s stepX_s stepX_n stepN_s calleeX oneV xop_eq xopR_s xopR_n wantedA_eq wantedG_n wantedG_s plain1_int plain1_bool plain1_string bits_i64 bits_u64 bits_u32 bits_u16 bits_u8 xeqA xagg xcmp xarr allK_iv num_iv calleeOf xread xeff xbin xint xnil xun xstr xload xconv xpart xfield xfieldAddr xindexAddr xindex bnd asInt? xslice xlen xmin xmax xbuild xfill xappend xapp2 xappstr xappmk xcap xcopy xcells eval_tmp eval_const put_at put_none fr0_at cells_agg cells_int cells_bool cells_string cells_ptr cells_slice notTuple tab iv_all hget_app hget_app0 hget_cons0 hget_cons set_app set_app0 setR setR_one QL_nil QL_cons QLc_val stepQ_t stepQ_f stepQC_n stepQC_s stepQX_s SL_nil SL_cons SLc_val stepS_t stepS_f ltT ltF leT leF eqT eqF ltTn ltFn leTn leFn eqTn eqFn beqT beqF bneT bneF wi64 wu64 wu32 wu16 wu8 tmodP tdivP hgetL hgetNe hgetEq setL nums_def nums_len Nat.succ_le_of_lt List.getElem?_cons_zero List.getElem?_cons_succ Option.getD_some Int.toNat_add Int.toNat_mul agM okM agB agI agS agP agL agA okB okI okS okP okSl okA
end
section
def opRow (o : OpD) (pv wv bv : Value) : List Value := [.int .i64 o.author, .int .u32 o.seq, pv, .int .i64 o.kind, wv] ++ (iv .u8 o.of ++ (iv .u8 o.check ++ [.string o.text, bv]))
def nodeRow (x : NodeD) (pv wv bv qv : Value) : List Value := iv .u8 x.id ++ (opRow x.op pv wv bv ++ [qv])
theorem OpC.row {H : AH} {us : List Value} {o : OpD} {pv wv bv : Value} (h : OpC H us o pv wv bv) (hw : o.Wf) : us = opRow o pv wv bv := by
  have hl := h.len
  have e0 : us.take 5 = [.int .i64 o.author, .int .u32 o.seq, pv, .int .i64 o.kind, wv] := by
    apply List.ext_getElem?
    intro i
    match i with
    | 0 => rw [List.getElem?_take_of_lt (by omega), h.c0]; rfl
    | 1 => rw [List.getElem?_take_of_lt (by omega), h.c1]; rfl
    | 2 => rw [List.getElem?_take_of_lt (by omega), h.c2]; rfl
    | 3 => rw [List.getElem?_take_of_lt (by omega), h.c3]; rfl
    | 4 => rw [List.getElem?_take_of_lt (by omega), h.c4]; rfl
    | i + 5 => rw [List.getElem?_eq_none (by rw [List.length_take]; omega), List.getElem?_eq_none (by simp)]
  have e2 : us.drop 69 = [.string o.text, bv] := by
    apply List.ext_getElem?
    intro i
    match i with
    | 0 => rw [List.getElem?_drop, h.c69]; rfl
    | 1 => rw [List.getElem?_drop, h.c70]; rfl
    | i + 2 => rw [List.getElem?_eq_none (by rw [List.length_drop]; omega), List.getElem?_eq_none (by simp)]
  have e1 : us.drop 5 = iv .u8 o.of ++ us.drop 37 := by
    have := (List.take_append_drop 32 (us.drop 5)).symm
    rwa [h.of, List.drop_drop] at this
  have e3 : us.drop 37 = iv .u8 o.check ++ us.drop 69 := by
    have := (List.take_append_drop 32 (us.drop 37)).symm
    rwa [h.check, List.drop_drop] at this
  have := (List.take_append_drop 5 us).symm
  rwa [e0, e1, e3, e2] at this
theorem NodeC.row {H : AH} {us : List Value} {x : NodeD} {pv wv bv qv : Value} (h : NodeC H us x pv wv bv qv) (hw : x.Wf) : us = nodeRow x pv wv bv qv := by
  have hl := h.len
  have e0 := h.op.row hw.op
  have e2 : us.drop 103 = [qv] := by
    apply List.ext_getElem?
    intro i
    match i with
    | 0 => rw [List.getElem?_drop, h.c103]; rfl
    | i + 1 => rw [List.getElem?_eq_none (by rw [List.length_drop]; omega), List.getElem?_eq_none (by simp)]
  have e1 : us.drop 32 = opRow x.op pv wv bv ++ us.drop 103 := by
    have := (List.take_append_drop 71 (us.drop 32)).symm
    rwa [e0, List.drop_drop] at this
  have := (List.take_append_drop 32 us).symm
  rwa [h.id, e1, e2] at this
theorem ValL.one {H : AH} {d : CD} {u : Value} {ds : List CD} {us : List Value} (h : CD.Val H d u) (h2 : ValL H ds us) : ValL H (d :: ds) (u :: us) := by
  refine ⟨by simp [h2.1], fun c d' u' hd hu => ?_⟩
  cases c with
  | zero => cases hd; cases hu; exact h
  | succ c => exact h2.2 c d' u' (by simpa using hd) (by simpa using hu)
theorem ValL.none {H : AH} : ValL H [] [] := ⟨rfl, fun c d u hd _ => by cases hd⟩
/-- Blocks from n on are as they were. -/
def KeepN (n : Nat) (H G : AH) : Prop := ∀ j, n ≤ j → j < H.length → hget G j = hget H j
attribute [local simp] wb_bool wb_undef with_lit XL_nil XL_cons XLc_val XLc_call step1_eq stepW_t stepW_f stepC_n stepC_s stepX_s stepX_n stepN_s calleeX oneV xop_eq xopR_s xopR_n wantedA_eq wantedG_n wantedG_s plain1_int plain1_bool plain1_string bits_i64 bits_u64 bits_u32 bits_u16 bits_u8 xeqA xagg xcmp xarr allK_iv num_iv calleeOf xread xeff xbin xint xnil xun xstr xload xconv xpart xfield xfieldAddr xindexAddr xindex bnd asInt? xslice xlen xmin xmax xbuild xfill xappend xapp2 xappstr xappmk xcap xcopy xcells eval_tmp eval_const put_at put_none fr0_at cells_agg cells_int cells_bool cells_string cells_ptr cells_slice notTuple tab iv_all hget_app hget_app0 hget_cons0 hget_cons set_app set_app0 setR setR_one QL_nil QL_cons QLc_val stepQ_t stepQ_f stepQC_n stepQC_s stepQX_s SL_nil SL_cons SLc_val stepS_t stepS_f ltT ltF leT leF eqT eqF ltTn ltFn leTn leFn eqTn eqFn beqT beqF bneT bneF wi64 wu64 wu32 wu16 wu8 tmodP tdivP hgetL hgetNe hgetEq setL nums_def nums_len Nat.succ_le_of_lt List.getElem?_cons_zero List.getElem?_cons_succ Option.getD_some Int.toNat_add Int.toNat_mul agM okM agB agI agS agP agL agA okB okI okS okP okSl okA
end
section
theorem KeepN.trans {n : Nat} {A B C : AH} (h : KeepN n A B) (k : KeepN n B C) (hl : A.length ≤ B.length) : KeepN n A C := fun j h1 h2 => (k j h1 (by omega)).trans (h j h1 h2)
attribute [local simp] wb_bool wb_undef with_lit XL_nil XL_cons XLc_val XLc_call step1_eq stepW_t stepW_f stepC_n stepC_s stepX_s stepX_n stepN_s calleeX oneV xop_eq xopR_s xopR_n wantedA_eq wantedG_n wantedG_s plain1_int plain1_bool plain1_string bits_i64 bits_u64 bits_u32 bits_u16 bits_u8 xeqA xagg xcmp xarr allK_iv num_iv calleeOf xread xeff xbin xint xnil xun xstr xload xconv xpart xfield xfieldAddr xindexAddr xindex bnd asInt? xslice xlen xmin xmax xbuild xfill xappend xapp2 xappstr xappmk xcap xcopy xcells eval_tmp eval_const put_at put_none fr0_at cells_agg cells_int cells_bool cells_string cells_ptr cells_slice notTuple tab iv_all hget_app hget_app0 hget_cons0 hget_cons set_app set_app0 setR setR_one QL_nil QL_cons QLc_val stepQ_t stepQ_f stepQC_n stepQC_s stepQX_s SL_nil SL_cons SLc_val stepS_t stepS_f ltT ltF leT leF eqT eqF ltTn ltFn leTn leFn eqTn eqFn beqT beqF bneT bneF wi64 wu64 wu32 wu16 wu8 tmodP tdivP hgetL hgetNe hgetEq setL nums_def nums_len Nat.succ_le_of_lt List.getElem?_cons_zero List.getElem?_cons_succ Option.getD_some Int.toNat_add Int.toNat_mul agM okM agB agI agS agP agL agA okB okI okS okP okSl okA
/-- Rows of new memory that show nodes. -/
def NewRows (n : Nat) (H : AH) (R : List (List Value)) (l : List NodeD) : Prop := R.length = l.length ∧ ∀ (k : Nat) (us : List Value) (x : NodeD), R[k]? = some us → l[k]? = some x → us.length = 104 ∧ ∀ G, KeepN n H G → ValL G x.row us
theorem NewRows.keep {n : Nat} {H G : AH} {R : List (List Value)} {l : List NodeD} (h : NewRows n H R l) (hk : KeepN n H G) (hl : H.length ≤ G.length) : NewRows n G R l :=
  ⟨h.1, fun k us x h1 h2 => ⟨(h.2 k us x h1 h2).1, fun B hB => (h.2 k us x h1 h2).2 B (hk.trans hB hl)⟩⟩
theorem NewRows.len {n : Nat} {H : AH} {R : List (List Value)} {l : List NodeD} (h : NewRows n H R l) : ∀ r ∈ R, r.length = 104 := fun r hr => by
  obtain ⟨k, hk⟩ := List.getElem?_of_mem hr
  have hkl := (List.getElem?_eq_some_iff.1 hk).1
  have := h.1
  exact (h.2 k r _ hk (List.getElem?_eq_getElem (show k < l.length by omega))).1
theorem NewRows.push {n : Nat} {H : AH} {R : List (List Value)} {l : List NodeD} {us : List Value} {x : NodeD} (h : NewRows n H R l) (h1 : us.length = 104) (h2 : ∀ G, KeepN n H G → ValL G x.row us) : NewRows n H (R ++ [us]) (l ++ [x]) := by
  have hl := h.1
  refine ⟨by simp [hl], fun k r y hr hy => ?_⟩
  rcases Nat.lt_or_ge k R.length with hk | hk
  · rw [List.getElem?_append_left hk] at hr
    rw [List.getElem?_append_left (by omega)] at hy
    exact h.2 k r y hr hy
  · rw [List.getElem?_append_right hk] at hr
    rw [List.getElem?_append_right (by omega)] at hy
    rw [hl] at hr
    match k - l.length, hr, hy with
    | 0, hr, hy => cases hr; cases hy; exact ⟨h1, h2⟩
end
section
theorem first_diff : ∀ {a b : List Int}, a.length = b.length → a ≠ b → ∃ p x y r s, a = p ++ x :: r ∧ b = p ++ y :: s ∧ x ≠ y
  | [], [], _, h => absurd rfl h
  | [], _ :: _, h, _ => by cases h
  | _ :: _, [], h, _ => by cases h
  | u :: a, v :: b, hl, h => by
    by_cases e : u = v
    · subst e
      obtain ⟨p, x, y, r, s, rfl, rfl, hxy⟩ := first_diff (a := a) (b := b) (by simpa using hl) (fun e => h (by rw [e]))
      exact ⟨u :: p, x, y, r, s, rfl, rfl, hxy⟩
    · exact ⟨[], u, v, a, b, rfl, rfl, e⟩
theorem lt_at (p : List Int) (x y : Int) (r s : List Int) (h : x ≠ y) : p ++ x :: r < p ++ y :: s ↔ x < y := by
  induction p with
  | nil =>
    rw [List.nil_append, List.nil_append, List.cons_lt_cons_iff]
    exact ⟨fun h2 => h2.elim id (fun h3 => absurd h3.1 h), Or.inl⟩
  | cons u p ih =>
    rw [List.cons_append, List.cons_append, List.cons_lt_cons_iff]
    exact ⟨fun h2 => h2.elim (fun h3 => absurd h3 (Int.lt_irrefl _)) (fun h3 => ih.1 h3.2), fun h2 => .inr ⟨rfl, ih.2 h2⟩⟩
theorem cmpL_lt {a b : List Int} (ha : By a) (hb : By b) (hl : a.length = b.length) : cmpL a b < 0 ↔ a < b := by
  by_cases e : a = b
  · subst e
    rw [cmpL_eq]
    exact ⟨fun h => absurd h (by omega), fun h => absurd h (List.lt_irrefl a)⟩
  · obtain ⟨p, x, y, r, s, rfl, rfl, hxy⟩ := first_diff hl e
    rw [lt_at p x y r s hxy, cmpL_at ha hb hl (i := p.length) (x := x) (y := y) (by simp) (by simp) hxy (by simp)]
    split
    · exact ⟨fun _ => by assumption, fun _ => by omega⟩
    · exact ⟨fun h => by omega, fun h => by contradiction⟩
theorem cmpL_gt {a b : List Int} (ha : By a) (hb : By b) (hl : a.length = b.length) : 0 < cmpL a b ↔ b < a := by
  by_cases e : a = b
  · subst e
    rw [cmpL_eq]
    exact ⟨fun h => absurd h (by omega), fun h => absurd h (List.lt_irrefl a)⟩
  · obtain ⟨p, x, y, r, s, rfl, rfl, hxy⟩ := first_diff hl e
    rw [lt_at p y x s r (fun e => hxy e.symm), cmpL_at ha hb hl (i := p.length) (x := x) (y := y) (by simp) (by simp) hxy (by simp)]
    split
    · exact ⟨fun h => by omega, fun h => by omega⟩
    · exact ⟨fun h => by omega, fun h => by omega⟩
end
section
section
variable {l : List NodeD}
theorem right_step (h : rightG l = true) {i : Nat} (hi : i < l.length) : stepB l i = true := by
  unfold rightG at h
  rw [Bool.and_eq_true, List.all_eq_true] at h
  exact h.2 i (List.mem_range.2 hi)
theorem step_iff {i : Nat} : stepB l i = true ↔ ((nd l i).op.parents.all (fun p => (findN l i p).isSome) = true ∧ rightO (nd l i).op = true ∧ findN l i (nd l i).id = none ∧ (nd l i).past = pastL l i (nd l i).op.parents ∧ turnB l i (nd l i).op (nd l i).past = true) := by
  unfold stepB
  rw [Bool.and_eq_true, Bool.and_eq_true, Bool.and_eq_true, Bool.and_eq_true, decide_eq_true_eq, Option.isNone_iff_eq_none]
theorem right_past (h : rightG l = true) {i : Nat} (hi : i < l.length) : (nd l i).past = pastL l i (nd l i).op.parents := (step_iff.1 (right_step h hi)).2.2.2.1
theorem right_op (h : rightG l = true) {i : Nat} (hi : i < l.length) : rightO (nd l i).op = true := (step_iff.1 (right_step h hi)).2.1
theorem right_turn (h : rightG l = true) {i : Nat} (hi : i < l.length) : turnB l i (nd l i).op (nd l i).past = true := (step_iff.1 (right_step h hi)).2.2.2.2
theorem pastL_bd {n : Nat} {ps : List (List Int)} {z : Int} (h : z ∈ pastL l n ps) : ∃ k : Nat, z = k ∧ k < n ∧ inB l n ps k = true := by
  unfold pastL at h
  obtain ⟨k, hk, rfl⟩ := List.mem_map.1 h
  rw [List.mem_filter, List.mem_range] at hk
  exact ⟨k, rfl, hk.1, hk.2⟩
theorem past_bd (h : rightG l = true) {i : Nat} (hi : i < l.length) {z : Int} (hz : z ∈ (nd l i).past) : ∃ k : Nat, z = k ∧ k < i := by
  rw [right_past h hi] at hz
  obtain ⟨k, e, hk, _⟩ := pastL_bd hz
  exact ⟨k, e, hk⟩
theorem pastL_length (l : List NodeD) (n : Nat) (ps : List (List Int)) : (pastL l n ps).length ≤ n := by
  unfold pastL
  rw [List.length_map]
  exact Nat.le_trans (List.length_filter_le _ _) (by simp)
theorem past_len (h : rightG l = true) {i : Nat} (hi : i < l.length) : (nd l i).past.length ≤ i := by
  rw [right_past h hi]; exact pastL_length _ _ _
theorem rightO_author {o : OpD} (h : rightO o = true) : 0 ≤ o.author ∧ o.author < 8 := by
  unfold rightO at h
  simp only [Bool.and_eq_true] at h
  have := h.2.2.1
  unfold memI at this
  simpa using this
theorem author_ahead (h : rightG l = true) {i j : Nat} (hij : i < j) (hj : j < l.length) (he : (nd l i).op.author = (nd l j).op.author) : (i : Int) ∈ (nd l j).past := by
  have := right_turn h hj
  unfold turnB autA at this
  simp only [Bool.and_eq_true, List.all_eq_true] at this
  have := this.2.1 i (List.mem_range.2 hij)
  simpa [he] using this
theorem inB_iff {n k : Nat} {ps : List (List Int)} : inB l n ps k = true ↔ ∃ p ∈ ps, ∃ a, findN l n p = some a ∧ (a = k ∨ (k : Int) ∈ (nd l a).past) := by
  rw [inZ_B]
  unfold inZ
  refine exists_congr fun p => and_congr_right fun _ => exists_congr fun a => and_congr_right fun _ => or_congr ?_ Iff.rfl
  omega
theorem past_trans (h : rightG l = true) : ∀ (c : Nat), c < l.length → ∀ (a b : Nat), (a : Int) ∈ (nd l b).past → (b : Int) ∈ (nd l c).past → (a : Int) ∈ (nd l c).past := by
  intro c
  induction c using Nat.strongRecOn with
  | ind c ih =>
    intro hc a b hab hbc
    have hbc' := hbc
    obtain ⟨b', hb', hlt⟩ := past_bd h hc hbc
    obtain rfl : b = b' := by omega
    obtain ⟨a', ha', hlt2⟩ := past_bd h (by omega) hab
    obtain rfl : a = a' := by omega
    rw [right_past h hc, mem_pastL] at hbc ⊢
    refine ⟨by omega, ?_⟩
    rw [inB_iff] at *
    obtain ⟨p, hp, q, hq, hor⟩ := hbc.2
    refine ⟨p, hp, q, hq, .inr ?_⟩
    have hql := findN_lt hq
    rcases hor with rfl | hor
    · exact hab
    · exact ih q hql (by omega) a b hab hor
end
end
section
def cntL (l : List NodeD) (S : List Nat) (w : Nat) : Nat := (S.filter fun i => (nd l i).op.author == (w : Int)).length
def clkV (l : List NodeD) (S : List Nat) : List Int := (List.range 8).map fun w => (cntL l S w : Int)
def pN (l : List NodeD) (i : Nat) : List Nat := (List.range i).filter (inB l i (nd l i).op.parents)
def ofS (l : List NodeD) (i : Nat) : List Nat := i :: pN l i
section
variable {l : List NodeD}
theorem cntL_app (S T : List Nat) (w : Nat) : cntL l (S ++ T) w = cntL l S w + cntL l T w := by simp [cntL]
theorem cntL_perm {S T : List Nat} (h : S.Perm T) (w : Nat) : cntL l S w = cntL l T w := (h.filter _).length_eq
theorem cntL_le (S : List Nat) (w : Nat) : cntL l S w ≤ S.length := List.length_filter_le _ _
theorem cntL_one (i w : Nat) : cntL l [i] w = if (nd l i).op.author = (w : Int) then 1 else 0 := by
  unfold cntL
  by_cases h : (nd l i).op.author = (w : Int) <;> simp [h]
theorem clkV_len (S : List Nat) : (clkV l S).length = 8 := by simp [clkV]
theorem clkV_at (S : List Nat) {w : Nat} (hw : w < 8) : (clkV l S)[w]? = some (cntL l S w : Int) := by simp [clkV, hw]
theorem clkV_getD (S : List Nat) {w : Nat} (hw : w < 8) : (clkV l S).getD w 0 = (cntL l S w : Int) := by
  rw [List.getD_eq_getElem?_getD, clkV_at S hw]; rfl
theorem clkV_perm {S T : List Nat} (h : S.Perm T) : clkV l S = clkV l T := by
  unfold clkV
  exact List.map_congr_left fun w _ => by rw [cntL_perm h]
theorem clkV_nil : clkV l [] = zl 8 := by
  unfold clkV zl
  rfl
theorem clkV_step (S : List Nat) {i a : Nat} (ha : (nd l i).op.author = (a : Int)) (h8 : a < 8) : (clkV l S).set a ((cntL l S a : Int) + 1) = clkV l (S ++ [i]) := by
  apply List.ext_getElem?
  intro w
  by_cases hw : w < 8
  case neg => rw [List.getElem?_eq_none (by rw [List.length_set, clkV_len]; omega), List.getElem?_eq_none (by rw [clkV_len]; omega)]
  rw [clkV_at _ hw, cntL_app, cntL_one, ha, List.getElem?_set, clkV_len]
  by_cases e : a = w
  · subst e
    simp [hw]
  · rw [if_neg e, clkV_at _ hw]
    have : ¬ (a : Int) = (w : Int) := by omega
    rw [if_neg this]
    rfl
theorem past_pN (h : rightG l = true) {i : Nat} (hi : i < l.length) : (nd l i).past = (pN l i).map fun k : Nat => (k : Int) := right_past h hi
theorem mem_pN (h : rightG l = true) {i k : Nat} (hi : i < l.length) : k ∈ pN l i ↔ (k : Int) ∈ (nd l i).past := by
  rw [past_pN h hi, List.mem_map]
  constructor
  · intro hk; exact ⟨k, hk, rfl⟩
  · rintro ⟨a, ha, e⟩
    obtain rfl : a = k := by omega
    exact ha
theorem pN_lt {i k : Nat} (h : k ∈ pN l i) : k < i := by
  unfold pN at h
  rw [List.mem_filter, List.mem_range] at h
  exact h.1
theorem pN_nodup (i : Nat) : (pN l i).Nodup := (List.nodup_range).filter _
theorem ofS_nodup (i : Nat) : (ofS l i).Nodup := List.nodup_cons.2 ⟨fun h => by have := pN_lt h; omega, pN_nodup i⟩
theorem pN_length (i : Nat) : (pN l i).length ≤ i := by
  unfold pN
  exact Nat.le_trans (List.length_filter_le _ _) (by simp)
theorem ofS_length (i : Nat) : (ofS l i).length ≤ i + 1 := by
  have := pN_length (l := l) i
  simp [ofS]; omega
/-- More places, more of each author. -/
theorem cntL_sub {S T : List Nat} (hS : S.Nodup) (w : Nat) (h : ∀ x ∈ S, (nd l x).op.author = (w : Int) → x ∈ T) : cntL l S w ≤ cntL l T w :=
  List.Nodup.length_le_of_subset (hS.filter _) (fun x hx => by
    rw [List.mem_filter] at hx ⊢
    exact ⟨h x hx.1 (by simpa using hx.2), hx.2⟩)
theorem author_nat (h : rightG l = true) {i : Nat} (hi : i < l.length) : ∃ a : Nat, (nd l i).op.author = (a : Int) ∧ a < 8 := by
  have := rightO_author (right_op h hi)
  exact ⟨(nd l i).op.author.toNat, by omega, by omega⟩
theorem ahead_le (h : rightG l = true) {a b : Nat} (ha : a < l.length) (hb : b < l.length) (hab : (a : Int) ∈ (nd l b).past ∨ a = b) (w : Nat) : cntL l (ofS l a) w ≤ cntL l (ofS l b) w := by
  rcases hab with hab | rfl
  · refine cntL_sub (ofS_nodup a) w fun x hx _ => ?_
    rcases List.mem_cons.1 hx with rfl | hx
    · exact List.mem_cons_of_mem _ ((mem_pN h hb).2 hab)
    · exact List.mem_cons_of_mem _ ((mem_pN h hb).2 (past_trans h b hb x a ((mem_pN h ha).1 hx) hab))
  · exact Nat.le_refl _
theorem le_ahead (h : rightG l = true) {a b : Nat} (ha : a < l.length) (hb : b < l.length) (hle : ∀ w, w < 8 → cntL l (ofS l a) w ≤ cntL l (ofS l b) w) : (a : Int) ∈ (nd l b).past ∨ a = b := by
  by_cases e : a = b
  · exact .inr e
  by_cases hp : (a : Int) ∈ (nd l b).past
  · exact .inl hp
  exfalso
  obtain ⟨w, hw, h8⟩ := author_nat h ha
  have h1 := hle w h8
  have h2 : cntL l (ofS l b) w ≤ cntL l (pN l a) w := by
    refine cntL_sub (ofS_nodup b) w fun x hx hxw => ?_
    have hxl : x < l.length := by
      rcases List.mem_cons.1 hx with rfl | hx
      · exact hb
      · have := pN_lt hx; omega
    have hxa : x ≠ a := by
      rintro rfl
      rcases List.mem_cons.1 hx with rfl | hx
      · exact e rfl
      · exact hp ((mem_pN h hb).1 hx)
    rcases Nat.lt_or_ge x a with hlt | hge
    · exact (mem_pN h ha).2 (author_ahead h hlt ha (by rw [hxw, hw]))
    · have h3 := author_ahead h (i := a) (j := x) (by omega) hxl (by rw [hxw, hw])
      exfalso
      rcases List.mem_cons.1 hx with rfl | hx
      · exact hp h3
      · exact hp (past_trans h b hb a x h3 ((mem_pN h hb).1 hx))
  have h3 : cntL l (ofS l a) w = cntL l (pN l a) w + 1 := by
    unfold ofS
    have := cntL_app (l := l) [a] (pN l a) w
    rw [cntL_one, if_pos hw] at this
    simp only [List.cons_append, List.nil_append] at this
    omega
  omega
theorem past_asym (h : rightG l = true) {a b : Nat} (ha : a < l.length) (hb : b < l.length) (h1 : (a : Int) ∈ (nd l b).past) : a < b := by
  obtain ⟨k, e, hk⟩ := past_bd h hb h1
  omega
/-- What stands among the first nodes, of an author, and behind them. -/
theorem due_iff (h : rightG l = true) {k i : Nat} (hi : i < l.length) (hk : k ≤ l.length) {w : Nat} (hw : (nd l i).op.author = (w : Int)) (h8 : w < 8) :
    (cntL l (ofS l i) w = cntL l (List.range k) w + 1 ∧ ∀ v, v < 8 → v ≠ w → cntL l (ofS l i) v ≤ cntL l (List.range k) v) ↔ (k ≤ i ∧ ∀ x ∈ pN l i, x < k) := by
  have hof : ∀ v, cntL l (ofS l i) v = (if v = w then 1 else 0) + cntL l (pN l i) v := fun v => by
    unfold ofS
    have := cntL_app (l := l) [i] (pN l i) v
    rw [cntL_one, hw] at this
    simp only [List.cons_append, List.nil_append] at this
    rw [this]
    by_cases e : v = w
    · subst e; simp
    · have : ¬ (w : Int) = (v : Int) := by omega
      simp [e, this]
  constructor
  · rintro ⟨h1, h2⟩
    rw [hof w, if_pos rfl] at h1
    have hki : k ≤ i := by
      rcases Nat.lt_or_ge i k with hlt | hge
      · exfalso
        have : cntL l (ofS l i) w ≤ cntL l (List.range k) w := cntL_sub (ofS_nodup i) w fun x hx _ => by
          rw [List.mem_range]
          rcases List.mem_cons.1 hx with rfl | hx
          · exact hlt
          · have := pN_lt hx; omega
        rw [hof w, if_pos rfl] at this
        omega
      · exact hge
    refine ⟨hki, fun x hx => ?_⟩
    rcases Nat.lt_or_ge x k with hlt | hge
    · exact hlt
    exfalso
    have hxi := pN_lt hx
    obtain ⟨v, hv, hv8⟩ := author_nat h (i := x) (by omega)
    have hsub : cntL l (List.range k ++ [x]) v ≤ cntL l (pN l i) v := by
      refine cntL_sub ?_ v fun y hy hyv => ?_
      · rw [List.nodup_append]
        exact ⟨List.nodup_range, by simp, fun a ha b hb => by
          rw [List.mem_range] at ha
          rw [List.mem_singleton] at hb
          omega⟩
      · rcases List.mem_append.1 hy with hy | hy
        · rw [List.mem_range] at hy
          exact (mem_pN h hi).2 (past_trans h i hi y x (author_ahead h (by omega) (by omega) (by rw [hyv, hv])) ((mem_pN h hi).1 hx))
        · rw [List.mem_singleton] at hy
          subst hy; exact hx
    rw [cntL_app, cntL_one, if_pos hv] at hsub
    by_cases e : v = w
    · subst e; omega
    · have := h2 v hv8 e
      rw [hof v, if_neg e] at this
      omega
  · rintro ⟨hki, hall⟩
    have hle : ∀ v, cntL l (pN l i) v ≤ cntL l (List.range k) v := fun v => cntL_sub (pN_nodup i) v fun x hx _ => List.mem_range.2 (hall x hx)
    refine ⟨?_, fun v _ e => ?_⟩
    · rw [hof w, if_pos rfl]
      have : cntL l (List.range k) w ≤ cntL l (pN l i) w := cntL_sub List.nodup_range w fun x hx hxw => by
        rw [List.mem_range] at hx
        exact (mem_pN h hi).2 (author_ahead h (by omega) hi (by rw [hxw, hw]))
      have := hle w
      omega
    · rw [hof v, if_neg e]
      have := hle v
      omega
theorem cnt_take (k : Nat) (hk : k ≤ l.length) (w : Nat) : cntL (l.take k) (List.range k) w = cntL l (List.range k) w := by
  unfold cntL
  congr 1
  refine List.filter_congr fun i hi => ?_
  rw [List.mem_range] at hi
  rw [nd_take hi]
theorem sum_cnt (h : rightG l = true) {n : Nat} (hn : n ≤ l.length) : ((List.range 8).map (cntL l (List.range n))).sum = n := by
  induction n with
  | zero => rfl
  | succ n ih =>
    obtain ⟨a, ha, h8⟩ := author_nat h (i := n) (by omega)
    have ih := ih (by omega)
    have e : ∀ w, cntL l (List.range (n + 1)) w = cntL l (List.range n) w + if a = w then 1 else 0 := fun w => by
      rw [List.range_succ, cntL_app, cntL_one, ha]
      congr 1
      by_cases e : a = w
      · subst e; simp
      · have : ¬ (a : Int) = (w : Int) := by omega
        simp [e, this]
    have e8 : List.range 8 = [0, 1, 2, 3, 4, 5, 6, 7] := by decide
    rw [e8] at ih ⊢
    simp only [List.map_cons, List.map_nil, List.sum_cons, List.sum_nil] at ih ⊢
    simp only [e]
    rcases (by omega : a = 0 ∨ a = 1 ∨ a = 2 ∨ a = 3 ∨ a = 4 ∨ a = 5 ∨ a = 6 ∨ a = 7) with rfl | rfl | rfl | rfl | rfl | rfl | rfl | rfl <;> simp <;> omega
theorem rightG_take (h : rightG l = true) (k : Nat) : rightG (l.take k) = true := by
  have hl := rightG_len h
  unfold rightG
  rw [Bool.and_eq_true, decide_eq_true_eq, List.all_eq_true]
  refine ⟨by rw [List.length_take]; omega, fun i hi => ?_⟩
  rw [List.mem_range, List.length_take] at hi
  have hs := step_iff.1 (right_step h (i := i) (by omega))
  have hc : ∀ a, a < i → nd (l.take k) a = nd l a := fun a ha => nd_take (by omega)
  have hi2 : nd (l.take k) i = nd l i := nd_take (by omega)
  refine step_iff.2 ?_
  rw [hi2, find_congr hc, pastL_congr hc, turnB_congr hc]
  obtain ⟨h1, h2, h3, h4, h5⟩ := hs
  refine ⟨?_, h2, h3, h4, h5⟩
  rw [List.all_eq_true] at h1 ⊢
  intro p hp
  rw [find_congr hc]
  exact h1 p hp
/-- The document's way: all places that are the node's, or ahead of it. -/
theorem of_perm (h : rightG l = true) {i : Nat} (hi : i < l.length) : ((List.range l.length).filter fun k => decide (k = i) || decide ((k : Int) ∈ (nd l i).past)).Perm (ofS l i) := by
  refine (List.perm_ext_iff_of_nodup (List.nodup_range.filter _) (ofS_nodup i)).2 fun k => ?_
  rw [List.mem_filter, List.mem_range, Bool.or_eq_true, decide_eq_true_eq, decide_eq_true_eq, ofS, List.mem_cons, mem_pN h hi]
  constructor
  · exact fun h => h.2
  · rintro (rfl | hk)
    · exact ⟨hi, .inl rfl⟩
    · exact ⟨by have := past_asym h (a := k) (b := i) (by obtain ⟨q, e, hq⟩ := past_bd h hi hk; omega) hi hk; omega, .inr hk⟩
end
end
section
theorem calive_vc : VC Try.prog 52 #[] (.bool true) := fun w => .inl ⟨by kernel_rfl, Ck.alive_any w⟩
/-- A clock as a function. -/
def fnC (l : List Int) : Nat → Int := fun i => l.getD i 0
theorem cl_iv {l : List Int} (h : l.length = 8) : Ck.cl (fnC l) = (iv .u32 l).toArray := by
  match l, h with
  | [a, b, c, d, e, f, g, i], _ => rfl
theorem order_vc {a b : List Int} (ha : a.length = 8) (hb : b.length = 8) : VC Try.prog 57 #[.agg (iv .u32 a).toArray, .agg (iv .u32 b).toArray] (.int .i64 (Ck.orderOf (fnC a) (fnC b))) := fun w => .inl ⟨by kernel_rfl, by
  have := Ck.order_any (fnC a) (fnC b) w
  rwa [cl_iv ha, cl_iv hb] at this⟩
theorem due_vc {a b : List Int} (ha : a.length = 8) (hb : b.length = 8) (hu : ∀ x ∈ b, 0 ≤ x ∧ x ≤ 4294967295) (z : Int) : VC Try.prog 60 #[.agg (iv .u32 a).toArray, .agg (iv .u32 b).toArray, .int .i64 z] (.bool (Ck.dueB (fnC a) (fnC b) z)) := fun w => .inl ⟨by kernel_rfl, by
  have := Ck.due_any (fnC a) (fnC b) (fun j => by
    unfold fnC
    rw [List.getD_eq_getElem?_getD]
    cases hq : b[j]? with
    | none => simp
    | some x => simpa using hu x (List.mem_of_getElem? hq)) z w
  rwa [cl_iv ha, cl_iv hb] at this⟩
def allC (l : List NodeD) : List Int := if rightG l then clkV l (List.range l.length) else zl 8
theorem clk_u32 {l : List NodeD} {S : List Nat} (h : S.length ≤ 1000) : ∀ x ∈ clkV l S, 0 ≤ x ∧ x ≤ 4294967295 := fun x hx => by
  unfold clkV at hx
  obtain ⟨w, _, rfl⟩ := List.mem_map.1 hx
  have := cntL_le (l := l) S w
  omega
/-- A node's author, by its address. -/
theorem NdA.author_at {H G : AH} {v : Value} {l : List NodeD} (h : NdA H v l) (hlow : Low H.length H G) {k : Nat} (hk : k < l.length) : ∃ j q b, xindexAddr Try.prog 22 v (.int .i64 (k : Nat)) = some (.pointer (some ⟨j, q, none⟩)) ∧ j < H.length ∧ hget G j = some b ∧ q + 104 ≤ b.cells.length ∧ b.cells[q + 32]? = some (.int .i64 (nd l k).op.author) := by
  obtain ⟨j, q, b, us, pv, wv', bv, qv, hx, hb, hq, hcell, hus, hC⟩ := h.at_ k _ (nd_get hk)
  refine ⟨j, q, b, hx, hget_lt hb, (hlow.1 j (hget_lt hb)).trans hb, hq, ?_⟩
  rw [hcell 32 (by omega)]
  have := hC.op.c0
  rwa [List.getElem?_take_of_lt (by omega), List.getElem?_drop] at this
def ofE (l : List NodeD) (z : Int) : Int := if rightG l then (if isP l z then 0 else 22) else 1
def ofC (l : List NodeD) (z : Int) : List Int := if rightG l && isP l z then clkV l (ofS l z.toNat) else zl 8
attribute [local simp] wb_bool wb_undef with_lit XL_nil XL_cons XLc_val XLc_call step1_eq stepW_t stepW_f stepC_n stepC_s stepX_s stepX_n stepN_s calleeX oneV xop_eq xopR_s xopR_n wantedA_eq wantedG_n wantedG_s plain1_int plain1_bool plain1_string bits_i64 bits_u64 bits_u32 bits_u16 bits_u8 xeqA xagg xcmp xarr allK_iv num_iv calleeOf xread xeff xbin xint xnil xun xstr xload xconv xpart xfield xfieldAddr xindexAddr xindex bnd asInt? xslice xlen xmin xmax xbuild xfill xappend xapp2 xappstr xappmk xcap xcopy xcells eval_tmp eval_const put_at put_none fr0_at cells_agg cells_int cells_bool cells_string cells_ptr cells_slice notTuple tab iv_all hget_app hget_app0 hget_cons0 hget_cons set_app set_app0 setR setR_one QL_nil QL_cons QLc_val stepQ_t stepQ_f stepQC_n stepQC_s stepQX_s SL_nil SL_cons SLc_val stepS_t stepS_f ltT ltF leT leF eqT eqF ltTn ltFn leTn leFn eqTn eqFn beqT beqF bneT bneF wi64 wu64 wu32 wu16 wu8 tmodP tdivP hgetL hgetNe hgetEq setL nums_def nums_len Nat.succ_le_of_lt List.getElem?_cons_zero List.getElem?_cons_succ Option.getD_some Int.toNat_add Int.toNat_mul agM okM agB agI agS agP agL agA okB okI okS okP okSl okA
theorem clkAll_rc {γ : Nat → Option Nat} {H : AH} {nv : Value} {l : List NodeD} (hN : NdA H nv l) : AC Try.prog H.length γ 54 #[nv] H (fun v' _ => v' = .tuple #[.agg (iv .u32 (allC l)).toArray, .int .i64 (if rightG l then 0 else 1)]) := by
  have hN' := hN
  obtain ⟨hnt, hvc, hxl, hwf, hat⟩ := hN
  refine ac_of_aw Try.func54 rfl Try.ntmps54 Try.results54 (by simp) ?_
  refine aw_seq ?_
  (refine aw_ops (by kernel_rfl) (fun K hK => ?_); simp (disch := first | omega | (simp only [lnS]; try omega; done)) [-getElem?_pos, -getElem?_neg]; refine hK _ _ ?_; clear hK K)
  refine aw_seq ?_
  (refine aw_ops (by kernel_rfl) (fun K hK => ?_); simp (disch := first | omega | (simp only [lnS]; try omega; done)) [-getElem?_pos, -getElem?_neg]; refine hK _ _ ?_; clear hK K)
  obtain ⟨n, hn⟩ : ∃ n, n = H.length := ⟨_, rfl⟩
  obtain ⟨G, hG⟩ : ∃ G : AH, G = H ++ [some ⟨iv .u32 (zl 8), 79, none⟩, some ⟨iv .u32 (zl 8), 79, none⟩] := ⟨_, rfl⟩
  have b2 : hget G n = some ⟨iv .u32 (zl 8), 79, none⟩ := by rw [hG, hn, hget_app0]; rfl
  have b4 : hget G (n + 1) = some ⟨iv .u32 (zl 8), 79, none⟩ := by rw [hG, hn, hget_app]; rfl
  have lw : Low H.length H G := by rw [hG]; exact Low.push (Nat.le_refl _) _
  have gl : n + 2 ≤ G.length := by rw [hG, hn]; simp
  rw [← hG, ← hn]
  have r3 := graph_right_rc (γ := γ) (hN'.lowG lw)
  clear hG
  have zc : ∀ (c : List Int), c.length = 8 → setR (iv .u32 (zl 8)) 0 (iv .u32 c) = iv .u32 c := fun c hc => setR_all _ _ (by rw [iv_length, iv_length, hc, zl_length])
  have tz : ∀ (c : List Int), c.length = 8 → (iv .u32 c).take 8 = iv .u32 c := fun c hc => List.take_of_length_le (by rw [iv_length, hc]; omega)
  have tz0 := tz (zl 8) rfl
  have zz := zc (zl 8) rfl
  refine aw_seq ?_
  refine aw_seq ?_
  refine aw_ops (by kernel_rfl) (fun K hK => ?_)
  simp (disch := first | omega | (simp only [lnS]; try omega; done)) [-getElem?_pos, -getElem?_neg, -notTuple, hnt, hvc, nt_intG]
  refine ⟨by kernel_rfl, ac_of_rc r3 (by simp [pv_iv, pv_int, pv_bool, pv_string, pv_tup2, pv_tup3, iv_plain, p2_int, p2_bool, p2_string]) ?_⟩
  cases h3 : rightG l with
  | false =>
    try simp (disch := first | omega | (simp only [lnS]; try omega; done)) [-getElem?_pos, -getElem?_neg]
    refine hK _ _ ?_; clear hK K
    refine aw_t (by (first | (simp [eval_tmp, put_at]; done) | (simp [eval_tmp, put_at]; omega))) (by kernel_rfl) ?_
    refine aw_seq ?_
    (refine aw_ops (by kernel_rfl) (fun K hK => ?_); simp (disch := first | omega | (simp only [lnS]; try omega; done)) [-getElem?_pos, -getElem?_neg, b2, b4, tz0, zz]; refine hK _ _ ?_; clear hK K)
    (refine aw_ret ?_; simp (disch := first | omega | (simp only [lnS]; try omega; done)) [-getElem?_pos, -getElem?_neg, thenQ_ret, scopeQ_ret, inBlockQ_ret, RQ, resL, resV, tz0])
    all_goals simp [allC, h3]
  | true =>
  try simp (disch := first | omega | (simp only [lnS]; try omega; done)) [-getElem?_pos, -getElem?_neg]
  refine hK _ _ ?_; clear hK K
  refine aw_f (by (first | (simp [eval_tmp, put_at]; done) | (simp [eval_tmp, put_at]; omega))) (by kernel_rfl) ?_
  refine aw_skip ?_
  have hl96 := rightG_len h3
  refine aw_seq ?_
  refine aw_seq ?_
  (refine aw_ops (by kernel_rfl) (fun K hK => ?_); simp (disch := first | omega | (simp only [lnS]; try omega; done)) [-getElem?_pos, -getElem?_neg, -notTuple, hnt, hvc, nt_intG, -xlen, hxl]; refine hK _ _ ?_; clear hK K)
  refine aw_block ?_
  refine aw_loop (fun c α G' => ∃ i : Nat, i + c = l.length ∧ Low n H G' ∧ hget G' n = some ⟨iv .u32 (zl 8), 79, none⟩ ∧ hget G' (n + 1) = some ⟨iv .u32 (clkV l (List.range i)), 79, none⟩ ∧ α 2 = .pointer (some ⟨n, 0, none⟩) ∧ α 4 = .pointer (some ⟨n + 1, 0, none⟩) ∧ α 11 = nv ∧ α 12 = .int .i64 (l.length : Nat) ∧ α 13 = .int .i64 (i : Nat)) l.length ?_ ?_
  · exact ⟨0, by omega, hn ▸ lw, b2, by rw [List.range_zero, clkV_nil]; exact b4, by (first | (simp [put_at, put_none, fr0_at]; done) | rfl), by (first | (simp [put_at, put_none, fr0_at]; done) | rfl), by (first | (simp [put_at, put_none, fr0_at]; done) | rfl), by (first | (simp [put_at, put_none, fr0_at]; done) | rfl), by (first | (simp [put_at, put_none, fr0_at]; done) | rfl)⟩
  clear lw b2 b4 gl r3
  rintro c α G' ⟨i, hic, lw, b2, b4, h2, h4, h11, h12, h13⟩
  refine aw_seq ?_
  by_cases hi : i < l.length
  case neg =>
    (refine aw_ops (by kernel_rfl) (fun K hK => ?_); simp (disch := first | omega | (simp only [lnS]; try omega; done)) [-getElem?_pos, -getElem?_neg, h12, h13, hi]; refine hK _ _ ?_; clear hK K)
    refine aw_seq ?_
    refine aw_f (by (first | (simp [eval_tmp, put_at, hi]; done) | (simp [eval_tmp, put_at, hi]; omega))) (by kernel_rfl) ?_
    refine aw_exit ?_
    obtain rfl : i = l.length := by omega
    refine aw_seq ?_
    have hcl := clkV_len (l := l) (List.range l.length)
    have ea : allC l = clkV l (List.range l.length) := by unfold allC; rw [if_pos h3]
    rw [ea]
    generalize clkV l (List.range l.length) = V at *
    have zv := zc V hcl
    have tv := tz V hcl
    have g4 := hget_lt b4
    (refine aw_ops (by kernel_rfl) (fun K hK => ?_); simp (disch := first | omega | (simp only [lnS]; try omega; done)) [-getElem?_pos, -getElem?_neg, h2, h4, b2, b4, zv, hcl, tv]; refine hK _ _ ?_; clear hK K)
    (refine aw_ret ?_; simp (disch := first | omega | (simp only [lnS]; try omega; done)) [-getElem?_pos, -getElem?_neg, thenQ_ret, scopeQ_ret, inBlockQ_ret, RQ, resL, resV, h2, tv, h3])
  obtain ⟨j, q, bb, us, pv, wv', bv, qv, hx, hbb, hq, hcell, hus, hC⟩ := hat i _ (nd_get hi)
  have hbG : hget G' j = some bb := (lw.1 j (hn ▸ hget_lt hbb)).trans hbb
  have hul := hC.len
  have hle0 := lw.2
  obtain ⟨a, ha, ha8⟩ := author_nat h3 hi
  have c0 : us[32]? = some (.int .i64 (a : Nat)) := by
    have := hC.op.c0
    rw [ha] at this
    rwa [List.getElem?_take_of_lt (by omega), List.getElem?_drop] at this
  have hset2 : ∀ Z : List Value, Z.length = 104 → setR Z 0 us = us := fun Z hZ => setR_all _ _ (by omega)
  have hus' := hus.symm
  have hp0 : plain1 (.slice none 0 0) = true := rfl
  clear hus
  (refine aw_ops (by kernel_rfl) (fun K hK => ?_); simp (disch := first | omega | (simp only [lnS]; try omega; done)) [-getElem?_pos, -getElem?_neg, h12, h13, hi]; refine hK _ _ ?_; clear hK K)
  refine aw_seq ?_
  refine aw_t (by (first | (simp [eval_tmp, put_at, hi]; done) | (simp [eval_tmp, put_at, hi]; omega))) (by kernel_rfl) ?_
  refine aw_skip ?_
  refine aw_seq ?_
  refine aw_block ?_
  refine aw_seq ?_
  (refine aw_ops (by kernel_rfl) (fun K hK => ?_); simp (disch := first | omega | (simp only [lnS]; try omega; done)) [-getElem?_pos, -getElem?_neg, h11, h13, -notTuple, hnt, hvc, nt_intG, nt_aggG, -xindexAddr, hx, hbG, hus', hul, hq, hle0, hp0, all_zl, hset2]; refine hK _ _ ?_; clear hK K)
  obtain ⟨hlow2, hb2⟩ := boxed (H := G') us 50
  obtain ⟨g, hg⟩ : ∃ g, g = G'.length := ⟨_, rfl⟩
  have g4 := hget_lt b4
  rw [← hg] at hb2 hlow2 g4 hle0 ⊢
  generalize G' ++ [some ⟨us, 50, none⟩] = G2 at *
  have lw2 : Low n H G2 := ⟨fun j hj => (hlow2.1 j (by omega)).trans (lw.1 j hj), by have := hlow2.2; omega⟩
  have b2' := (hlow2.1 n (by omega)).trans b2
  have b4' := (hlow2.1 (n + 1) (by omega)).trans b4
  have hst := clkV_step (l := l) (List.range i) ha ha8
  rw [← List.range_succ] at hst
  have hca := clkV_at (l := l) (List.range i) ha8
  have hcl := clkV_len (l := l) (List.range i)
  have hcb := cntL_le (l := l) (List.range i) a
  rw [List.length_range] at hcb
  generalize clkV l (List.range i) = V at *
  obtain ⟨V', hV'⟩ : ∃ V', V' = clkV l (List.range (i + 1)) := ⟨_, rfl⟩
  rw [← hV'] at hst
  generalize cntL l (List.range i) a = m at *
  have hVa : (iv .u32 V)[a]? = some (.int .u32 (m : Nat)) := by simp [iv, hca]
  have hVs : (iv .u32 V).set a (.int .u32 ((m : Int) + 1)) = iv .u32 V' := by rw [iv_set, hst]
  have g2l := hlow2.2
  (refine aw_ops (by kernel_rfl) (fun K hK => ?_); simp (disch := first | omega | (simp only [lnS]; try omega; done)) [-getElem?_pos, -getElem?_neg, h4, hb2, hul, c0, b4', hVa, hVs, hcl, ha8]; refine hK _ _ ?_; clear hK K)
  (refine aw_ops (by kernel_rfl) (fun K hK => ?_); simp (disch := first | omega | (simp only [lnS]; try omega; done)) [-getElem?_pos, -getElem?_neg, h13]; refine hK _ _ ?_; clear hK K)
  exact ⟨c - 1, by omega, i + 1, by omega, ⟨fun j hj => (hget_set_ne (by omega)).trans (lw2.1 j hj), by rw [List.length_set]; exact lw2.2⟩, by rw [hget_set_ne (by omega)]; exact b2', by rw [hget_set_eq (by omega), hV'], by (first | (simp [put_at, put_none, fr0_at, h2]; done) | rfl), by (first | (simp [put_at, put_none, fr0_at, h4]; done) | rfl), by (first | (simp [put_at, put_none, fr0_at, h11]; done) | rfl), by (first | (simp [put_at, put_none, fr0_at, h12]; done) | rfl), by (first | (simp [put_at, put_none, fr0_at]; done) | rfl)⟩
theorem clk_addr {m a : Nat} (h : a < 8) : xindexAddr Try.prog 79 (.pointer (some ⟨m, 0, none⟩)) (.int .i64 (a : Nat)) = some (.pointer (some ⟨m, a, none⟩)) := by
  simp [xindexAddr]
  omega
theorem clkOf_rc {γ : Nat → Option Nat} {H : AH} {nv : Value} {l : List NodeD} (hN : NdA H nv l) (z : Int) : AC Try.prog H.length γ 53 #[nv, .int .i64 z] H (fun v' _ => v' = .tuple #[.agg (iv .u32 (ofC l z)).toArray, .int .i64 (ofE l z)]) := by
  have hN' := hN
  obtain ⟨hnt, hvc, hxl, hwf, hat⟩ := hN
  have zc : ∀ (c : List Int), c.length = 8 → setR (iv .u32 (zl 8)) 0 (iv .u32 c) = iv .u32 c := fun c hc => setR_all _ _ (by rw [iv_length, iv_length, hc, zl_length])
  have tz : ∀ (c : List Int), c.length = 8 → (iv .u32 c).take 8 = iv .u32 c := fun c hc => List.take_of_length_le (by rw [iv_length, hc]; omega)
  have tz0 := tz (zl 8) rfl
  have zz := zc (zl 8) rfl
  refine ac_of_aw Try.func53 rfl Try.ntmps53 Try.results53 (by simp) ?_
  refine aw_seq ?_
  (refine aw_ops (by kernel_rfl) (fun K hK => ?_); simp (disch := first | omega | (simp only [lnS]; try omega; done)) [-getElem?_pos, -getElem?_neg]; refine hK _ _ ?_; clear hK K)
  obtain ⟨n, hn⟩ : ∃ n, n = H.length := ⟨_, rfl⟩
  obtain ⟨lw, b2⟩ := boxed (H := H) (iv .u32 (zl 8)) 79
  generalize H ++ [some ⟨iv .u32 (zl 8), 79, none⟩] = G at *
  have r3 := graph_right_rc (γ := γ) (hN'.lowG lw)
  have gl := lw.2
  rw [← hn] at b2 gl ⊢
  have g2 := hget_lt b2
  refine aw_seq ?_
  refine aw_seq ?_
  refine aw_ops (by kernel_rfl) (fun K hK => ?_)
  simp (disch := first | omega | (simp only [lnS]; try omega; done)) [-getElem?_pos, -getElem?_neg, -notTuple, hnt, hvc, nt_intG]
  refine ⟨by kernel_rfl, ac_of_rc r3 (by simp [pv_iv, pv_int, pv_bool, pv_string, pv_tup2, pv_tup3, iv_plain, p2_int, p2_bool, p2_string]) ?_⟩
  cases h3 : rightG l with
  | false =>
    try simp (disch := first | omega | (simp only [lnS]; try omega; done)) [-getElem?_pos, -getElem?_neg]
    refine hK _ _ ?_; clear hK K
    refine aw_t (by (first | (simp [eval_tmp, put_at]; done) | (simp [eval_tmp, put_at]; omega))) (by kernel_rfl) ?_
    refine aw_seq ?_
    (refine aw_ops (by kernel_rfl) (fun K hK => ?_); simp (disch := first | omega | (simp only [lnS]; try omega; done)) [-getElem?_pos, -getElem?_neg, b2, tz0, zz]; refine hK _ _ ?_; clear hK K)
    (refine aw_ret ?_; simp (disch := first | omega | (simp only [lnS]; try omega; done)) [-getElem?_pos, -getElem?_neg, thenQ_ret, scopeQ_ret, inBlockQ_ret, RQ, resL, resV, tz0, zz])
    all_goals simp [ofC, ofE, h3]
  | true =>
  try simp (disch := first | omega | (simp only [lnS]; try omega; done)) [-getElem?_pos, -getElem?_neg]
  refine hK _ _ ?_; clear hK K
  refine aw_f (by (first | (simp [eval_tmp, put_at]; done) | (simp [eval_tmp, put_at]; omega))) (by kernel_rfl) ?_
  refine aw_skip ?_
  refine aw_seq ?_
  refine aw_seq ?_
  refine aw_cut (fun α G2 => α 20 = .bool (!isP l z) ∧ α 0 = nv ∧ α 1 = .int .i64 z ∧ α 4 = .pointer (some ⟨n, 0, none⟩) ∧ G2 = G) ?_ ?_
  · by_cases h0 : z < 0
    · have ep : isP l z = false := by unfold isP; simp; omega
      (refine aw_ops (by kernel_rfl) (fun K hK => ?_); simp (disch := first | omega | (simp only [lnS]; try omega; done)) [-getElem?_pos, -getElem?_neg, -notTuple, hnt, hvc, nt_intG, -xlen, hxl, h0]; refine hK _ _ ?_; clear hK K)
      exact ⟨by rw [ep]; (first | (simp [put_at, put_none, fr0_at]; done) | rfl), by (first | (simp [put_at, put_none, fr0_at]; done) | rfl), by (first | (simp [put_at, put_none, fr0_at]; done) | rfl), by (first | (simp [put_at, put_none, fr0_at]; done) | rfl), rfl⟩
    · by_cases h1 : (l.length : Int) ≤ z
      · have ep : isP l z = false := by unfold isP; simp; omega
        (refine aw_ops (by kernel_rfl) (fun K hK => ?_); simp (disch := first | omega | (simp only [lnS]; try omega; done)) [-getElem?_pos, -getElem?_neg, -notTuple, hnt, hvc, nt_intG, -xlen, hxl, h0, h1]; refine hK _ _ ?_; clear hK K)
        exact ⟨by rw [ep]; (first | (simp [put_at, put_none, fr0_at]; done) | rfl), by (first | (simp [put_at, put_none, fr0_at]; done) | rfl), by (first | (simp [put_at, put_none, fr0_at]; done) | rfl), by (first | (simp [put_at, put_none, fr0_at]; done) | rfl), rfl⟩
      · have ep : isP l z = true := by unfold isP; simp; omega
        (refine aw_ops (by kernel_rfl) (fun K hK => ?_); simp (disch := first | omega | (simp only [lnS]; try omega; done)) [-getElem?_pos, -getElem?_neg, -notTuple, hnt, hvc, nt_intG, -xlen, hxl, h0, h1]; refine hK _ _ ?_; clear hK K)
        exact ⟨by rw [ep]; (first | (simp [put_at, put_none, fr0_at]; done) | rfl), by (first | (simp [put_at, put_none, fr0_at]; done) | rfl), by (first | (simp [put_at, put_none, fr0_at]; done) | rfl), by (first | (simp [put_at, put_none, fr0_at]; done) | rfl), rfl⟩
  rintro α G2 ⟨q20, q0, q1, q4, rfl⟩
  cases hp : isP l z with
  | false =>
    rw [hp] at q20
    refine aw_t (by (first | (simp [eval_tmp, put_at, q20]; done) | (simp [eval_tmp, put_at, q20]; omega))) (by kernel_rfl) ?_
    refine aw_seq ?_
    (refine aw_ops (by kernel_rfl) (fun K hK => ?_); simp (disch := first | omega | (simp only [lnS]; try omega; done)) [-getElem?_pos, -getElem?_neg, q4, b2, tz0, zz]; refine hK _ _ ?_; clear hK K)
    (refine aw_ret ?_; simp (disch := first | omega | (simp only [lnS]; try omega; done)) [-getElem?_pos, -getElem?_neg, thenQ_ret, scopeQ_ret, inBlockQ_ret, RQ, resL, resV, q4, tz0, zz])
    all_goals simp [ofC, ofE, h3, hp]
  | true =>
  rw [hp] at q20
  refine aw_f (by (first | (simp [eval_tmp, put_at, q20]; done) | (simp [eval_tmp, put_at, q20]; omega))) (by kernel_rfl) ?_
  refine aw_skip ?_
  obtain ⟨i, rfl, hi⟩ := isP_nat hp
  have hl96 := rightG_len h3
  refine aw_seq ?_
  (refine aw_ops (by kernel_rfl) (fun K hK => ?_); simp (disch := first | omega | (simp only [lnS]; try omega; done)) [-getElem?_pos, -getElem?_neg]; refine hK _ _ ?_; clear hK K)
  obtain ⟨lw1, b4⟩ := boxed (H := G2) (iv .u32 (zl 8)) 79
  obtain ⟨m, hm⟩ : ∃ m, m = G2.length := ⟨_, rfl⟩
  rw [← hm] at lw1 b4 gl g2 ⊢
  generalize G2 ++ [some ⟨iv .u32 (zl 8), 79, none⟩] = G3 at *
  have lw3 : Low H.length H G3 := ⟨fun j hj => (lw1.1 j (by omega)).trans (lw.1 j hj), by have := lw1.2; omega⟩
  have b2 := (lw1.1 n (by omega)).trans b2
  obtain ⟨a, ha, ha8⟩ := author_nat h3 hi
  obtain ⟨j, q, bb, hx, hjl, hbG, hq, c32⟩ := hN'.author_at lw3 hi
  rw [ha] at c32
  have hst := clkV_step (l := l) [] ha ha8
  have hc0 : cntL l [] a = 0 := rfl
  rw [clkV_nil, hc0] at hst
  have hVa : (iv .u32 (zl 8))[a]? = some (.int .u32 0) := by
    rw [iv_get _ _ _ (by rw [zl_length]; exact ha8)]
    congr 2
    unfold zl
    rw [List.getD_eq_getElem?_getD, List.getElem?_replicate]
    split <;> rfl
  have hVs : (iv .u32 (zl 8)).set a (.int .u32 1) = iv .u32 (clkV l [i]) := by
    rw [iv_set]
    exact congrArg (iv .u32) hst
  have g3l := lw1.2
  refine aw_seq ?_
  have hxa := clk_addr (m := m) ha8
  (refine aw_ops (by kernel_rfl) (fun K hK => ?_); simp (disch := first | omega | (simp only [lnS]; try omega; done)) [-getElem?_pos, -getElem?_neg, q0, q1, -notTuple, hnt, hvc, nt_intG, -xindexAddr, hx, hxa, hbG, hq, c32, b4, hVa, hVs, ha8]; refine hK _ _ ?_; clear hK K)
  have g4 := hget_lt b4
  have b4' : hget (G3.set m (some ⟨iv .u32 (clkV l [i]), 79, none⟩)) m = some ⟨iv .u32 (clkV l [i]), 79, none⟩ := by rw [hget_set_eq (by omega)]
  have nm : n < m := by omega
  have b2' : hget (G3.set m (some ⟨iv .u32 (clkV l [i]), 79, none⟩)) n = some ⟨iv .u32 (zl 8), 79, none⟩ := by rw [hget_set_ne (by omega)]; exact b2
  have lw4 : Low n H (G3.set m (some ⟨iv .u32 (clkV l [i]), 79, none⟩)) := ⟨fun j hj => (hget_set_ne (by omega)).trans (lw3.1 j (by omega)), by rw [List.length_set]; have := lw3.2; omega⟩
  clear b4 b2 lw3 lw1 lw
  generalize G3.set m (some ⟨iv .u32 (clkV l [i]), 79, none⟩) = G4 at *
  obtain ⟨j', q', bb', pq, px, pb, pc, pI, pml, p1, p2⟩ := hN'.past_at (hn ▸ lw4) hi
  have pacc := pI.acc
  have pxl := pacc.len
  have hpl := past_len h3 hi
  refine aw_seq ?_
  refine aw_seq ?_
  (refine aw_ops (by kernel_rfl) (fun K hK => ?_); simp (disch := first | omega | (simp only [lnS]; try omega; done)) [-getElem?_pos, -getElem?_neg, q0, q1, -notTuple, hnt, hvc, nt_intG, -xindexAddr, px, pb, pc, p1, p2, -xlen, pxl]; refine hK _ _ ?_; clear hK K)
  refine aw_block ?_
  refine aw_loop (fun c α G' => ∃ k : Nat, k + c = (nd l i).past.length ∧ Low n H G' ∧ hget G' n = some ⟨iv .u32 (zl 8), 79, none⟩ ∧ hget G' m = some ⟨iv .u32 (clkV l (i :: (pN l i).take k)), 79, none⟩ ∧ α 0 = nv ∧ α 4 = .pointer (some ⟨n, 0, none⟩) ∧ α 6 = .pointer (some ⟨m, 0, none⟩) ∧ α 36 = pq ∧ α 37 = .int .i64 ((nd l i).past.length : Nat) ∧ α 38 = .int .i64 (k : Nat)) (nd l i).past.length ?_ ?_
  · exact ⟨0, by omega, lw4, b2', b4', by (first | (simp [put_at, put_none, fr0_at, q0]; done) | rfl), by (first | (simp [put_at, put_none, fr0_at, q4]; done) | rfl), by (first | (simp [put_at, put_none, fr0_at]; done) | rfl), by (first | (simp [put_at, put_none, fr0_at]; done) | rfl), by (first | (simp [put_at, put_none, fr0_at]; done) | rfl), by (first | (simp [put_at, put_none, fr0_at]; done) | rfl)⟩
  clear q0 q1 q4 b2' b4' lw4 g3l gl g2 g4
  rintro c α G' ⟨k, hkc, lw, b2, b4, q0, q4, q6, q36, q37, q38⟩
  have hpm := past_pN h3 hi
  have hpml : (nd l i).past.length = (pN l i).length := by rw [hpm, List.length_map]
  have g4 := hget_lt b4
  have g2 := hget_lt b2
  refine aw_seq ?_
  by_cases hk : k < (nd l i).past.length
  case neg =>
    (refine aw_ops (by kernel_rfl) (fun K hK => ?_); simp (disch := first | omega | (simp only [lnS]; try omega; done)) [-getElem?_pos, -getElem?_neg, q37, q38, hk]; refine hK _ _ ?_; clear hK K)
    refine aw_seq ?_
    refine aw_f (by (first | (simp [eval_tmp, put_at, hk]; done) | (simp [eval_tmp, put_at, hk]; omega))) (by kernel_rfl) ?_
    refine aw_exit ?_
    refine aw_seq ?_
    have hcl := clkV_len (l := l) (i :: (pN l i).take k)
    have ea : ofC l i = clkV l (i :: (pN l i).take k) := by
      unfold ofC ofS
      rw [h3, hp, List.take_of_length_le (by omega)]
      rfl
    rw [ea]
    have ee : ofE l i = 0 := by simp [ofE, h3, hp]
    rw [ee]
    generalize clkV l (i :: (pN l i).take k) = V at *
    have zv := zc V hcl
    have tv := tz V hcl
    (refine aw_ops (by kernel_rfl) (fun K hK => ?_); simp (disch := first | omega | (simp only [lnS]; try omega; done)) [-getElem?_pos, -getElem?_neg, q6, q4, b2, b4, zv, hcl, tv]; refine hK _ _ ?_; clear hK K)
    (refine aw_ret ?_; simp (disch := first | omega | (simp only [lnS]; try omega; done)) [-getElem?_pos, -getElem?_neg, thenQ_ret, scopeQ_ret, inBlockQ_ret, RQ, resL, resV, q4, tv])
  obtain ⟨p, x, r1, r2, r3, r4, r5⟩ := pacc.at_ k hk
  have r5 := r5 G' (hn ▸ lw)
  obtain ⟨pk, hpk⟩ : ∃ pk, (pN l i)[k]? = some pk := ⟨_, List.getElem?_eq_getElem (by omega)⟩
  have hpki := pN_lt (List.mem_of_getElem? hpk)
  have r6 : (nd l i).past.getD k 0 = (pk : Int) := by rw [hpm, List.getD_eq_getElem?_getD, List.getElem?_map, hpk]; rfl
  rw [r6] at r4
  subst r4
  obtain ⟨a, ha, ha8⟩ := author_nat h3 (i := pk) (by omega)
  obtain ⟨j, q, bb, hx, hjl, hbG, hq, c32⟩ := hN'.author_at (hn ▸ lw) (k := pk) (by omega)
  rw [ha] at c32
  (refine aw_ops (by kernel_rfl) (fun K hK => ?_); simp (disch := first | omega | (simp only [lnS]; try omega; done)) [-getElem?_pos, -getElem?_neg, q37, q38, hk]; refine hK _ _ ?_; clear hK K)
  refine aw_seq ?_
  refine aw_t (by (first | (simp [eval_tmp, put_at, hk]; done) | (simp [eval_tmp, put_at, hk]; omega))) (by kernel_rfl) ?_
  refine aw_skip ?_
  refine aw_seq ?_
  refine aw_block ?_
  refine aw_seq ?_
  (refine aw_ops (by kernel_rfl) (fun K hK => ?_); simp (disch := first | omega | (simp only [lnS]; try omega; done)) [-getElem?_pos, -getElem?_neg, q36, q38, -xindexAddr, r2, -xload, r5]; refine hK _ _ ?_; clear hK K)
  have hst := clkV_step (l := l) (i :: (pN l i).take k) ha ha8
  have hts : i :: (pN l i).take k ++ [pk] = i :: (pN l i).take (k + 1) := by rw [List.take_add_one, hpk]; rfl
  rw [hts] at hst
  have hca := clkV_at (l := l) (i :: (pN l i).take k) ha8
  have hcl := clkV_len (l := l) (i :: (pN l i).take k)
  have hcb := cntL_le (l := l) (i :: (pN l i).take k) a
  have hcb2 : (i :: (pN l i).take k).length ≤ 1000 := by rw [List.length_cons, List.length_take]; omega
  generalize clkV l (i :: (pN l i).take k) = V at *
  obtain ⟨V', hV'⟩ : ∃ V', V' = clkV l (i :: (pN l i).take (k + 1)) := ⟨_, rfl⟩
  rw [← hV'] at hst
  generalize cntL l (i :: (pN l i).take k) a = ma at *
  have hVa : (iv .u32 V)[a]? = some (.int .u32 (ma : Nat)) := by simp [iv, hca]
  have hVs : (iv .u32 V).set a (.int .u32 ((ma : Int) + 1)) = iv .u32 V' := by rw [iv_set, hst]
  have hxa := clk_addr (m := m) ha8
  (refine aw_ops (by kernel_rfl) (fun K hK => ?_); simp (disch := first | omega | (simp only [lnS]; try omega; done)) [-getElem?_pos, -getElem?_neg, q0, q6, -notTuple, hnt, hvc, nt_intG, -xindexAddr, hx, hxa, hbG, hq, c32, b4, hVa, hVs, hcl, ha8]; refine hK _ _ ?_; clear hK K)
  (refine aw_ops (by kernel_rfl) (fun K hK => ?_); simp (disch := first | omega | (simp only [lnS]; try omega; done)) [-getElem?_pos, -getElem?_neg, q38]; refine hK _ _ ?_; clear hK K)
  exact ⟨c - 1, by omega, k + 1, by omega, ⟨fun j hj => (hget_set_ne (by omega)).trans (lw.1 j hj), by rw [List.length_set]; exact lw.2⟩, by rw [hget_set_ne (by omega)]; exact b2, by rw [hget_set_eq (by omega), hV'], by (first | (simp [put_at, put_none, fr0_at, q0]; done) | rfl), by (first | (simp [put_at, put_none, fr0_at, q4]; done) | rfl), by (first | (simp [put_at, put_none, fr0_at, q6]; done) | rfl), by (first | (simp [put_at, put_none, fr0_at, q36]; done) | rfl), by (first | (simp [put_at, put_none, fr0_at, q37]; done) | rfl), by (first | (simp [put_at, put_none, fr0_at]; done) | rfl)⟩
end
section
attribute [local simp] wb_bool wb_undef with_lit XL_nil XL_cons XLc_val XLc_call step1_eq stepW_t stepW_f stepC_n stepC_s stepX_s stepX_n stepN_s calleeX oneV xop_eq xopR_s xopR_n wantedA_eq wantedG_n wantedG_s plain1_int plain1_bool plain1_string bits_i64 bits_u64 bits_u32 bits_u16 bits_u8 xeqA xagg xcmp xarr allK_iv num_iv calleeOf xread xeff xbin xint xnil xun xstr xload xconv xpart xfield xfieldAddr xindexAddr xindex bnd asInt? xslice xlen xmin xmax xbuild xfill xappend xapp2 xappstr xappmk xcap xcopy xcells eval_tmp eval_const put_at put_none fr0_at cells_agg cells_int cells_bool cells_string cells_ptr cells_slice notTuple tab iv_all hget_app hget_app0 hget_cons0 hget_cons set_app set_app0 setR setR_one QL_nil QL_cons QLc_val stepQ_t stepQ_f stepQC_n stepQC_s stepQX_s SL_nil SL_cons SLc_val stepS_t stepS_f ltT ltF leT leF eqT eqF ltTn ltFn leTn leFn eqTn eqFn beqT beqF bneT bneF wi64 wu64 wu32 wu16 wu8 tmodP tdivP hgetL hgetNe hgetEq setL nums_def nums_len Nat.succ_le_of_lt List.getElem?_cons_zero List.getElem?_cons_succ Option.getD_some Int.toNat_add Int.toNat_mul agM okM agB agI agS agP agL agA okB okI okS okP okSl okA
theorem rAll_rc {γ : Nat → Option Nat} {H : AH} {nv : Value} {l : List NodeD} (hN : NdA H nv l) (h3 : rightG l = true) : AC Try.prog H.length γ 55 #[nv] H (fun v' _ => v' = .agg (iv .u32 (clkV l (List.range l.length))).toArray) := by
  have hN' := hN
  obtain ⟨hnt, hvc, hxl, hwf, hat⟩ := hN
  have zc : ∀ (c : List Int), c.length = 8 → setR (iv .u32 (zl 8)) 0 (iv .u32 c) = iv .u32 c := fun c hc => setR_all _ _ (by rw [iv_length, iv_length, hc, zl_length])
  have tz : ∀ (c : List Int), c.length = 8 → (iv .u32 c).take 8 = iv .u32 c := fun c hc => List.take_of_length_le (by rw [iv_length, hc]; omega)
  have hl96 := rightG_len h3
  refine ac_of_aw Try.func55 rfl Try.ntmps55 Try.results55 (by simp) ?_
  refine aw_seq ?_
  (refine aw_ops (by kernel_rfl) (fun K hK => ?_); simp (disch := first | omega | (simp only [lnS]; try omega; done)) [-getElem?_pos, -getElem?_neg]; refine hK _ _ ?_; clear hK K)
  refine aw_seq ?_
  (refine aw_ops (by kernel_rfl) (fun K hK => ?_); simp (disch := first | omega | (simp only [lnS]; try omega; done)) [-getElem?_pos, -getElem?_neg]; refine hK _ _ ?_; clear hK K)
  obtain ⟨n, hn⟩ : ∃ n, n = H.length := ⟨_, rfl⟩
  obtain ⟨G, hG⟩ : ∃ G : AH, G = H ++ [some ⟨iv .u32 (zl 8), 79, none⟩, some ⟨iv .u32 (zl 8), 79, none⟩] := ⟨_, rfl⟩
  have b2 : hget G n = some ⟨iv .u32 (zl 8), 79, none⟩ := by rw [hG, hn, hget_app0]; rfl
  have b4 : hget G (n + 1) = some ⟨iv .u32 (zl 8), 79, none⟩ := by rw [hG, hn, hget_app]; rfl
  have lw : Low H.length H G := by rw [hG]; exact Low.push (Nat.le_refl _) _
  rw [← hG, ← hn]
  clear hG
  refine aw_seq ?_
  refine aw_seq ?_
  (refine aw_ops (by kernel_rfl) (fun K hK => ?_); simp (disch := first | omega | (simp only [lnS]; try omega; done)) [-getElem?_pos, -getElem?_neg]; refine hK _ _ ?_; clear hK K)
  refine aw_block ?_
  refine aw_loop (fun c α G' => ∃ i : Nat, i + c = l.length ∧ Low n H G' ∧ hget G' n = some ⟨iv .u32 (zl 8), 79, none⟩ ∧ hget G' (n + 1) = some ⟨iv .u32 (clkV l (List.range i)), 79, none⟩ ∧ α 0 = nv ∧ α 2 = .pointer (some ⟨n, 0, none⟩) ∧ α 3 = .pointer (some ⟨n + 1, 0, none⟩) ∧ α 4 = .int .i64 (i : Nat)) l.length ?_ ?_
  · exact ⟨0, by omega, hn ▸ lw, b2, by rw [List.range_zero, clkV_nil]; exact b4, by (first | (simp [put_at, put_none, fr0_at]; done) | rfl), by (first | (simp [put_at, put_none, fr0_at]; done) | rfl), by (first | (simp [put_at, put_none, fr0_at]; done) | rfl), by (first | (simp [put_at, put_none, fr0_at]; done) | rfl)⟩
  clear lw b2 b4
  rintro c α G' ⟨i, hic, lw, b2, b4, q0, q2, q3, q4⟩
  have g4 := hget_lt b4
  refine aw_seq ?_
  refine aw_seq ?_
  by_cases hi : i < l.length
  case neg =>
    (refine aw_ops (by kernel_rfl) (fun K hK => ?_); simp (disch := first | omega | (simp only [lnS]; try omega; done)) [-getElem?_pos, -getElem?_neg, q0, q4, -notTuple, hnt, hvc, nt_intG, -xlen, hxl, hi]; refine hK _ _ ?_; clear hK K)
    refine aw_f (by (first | (simp [eval_tmp, put_at, hi]; done) | (simp [eval_tmp, put_at, hi]; omega))) (by kernel_rfl) ?_
    refine aw_exit ?_
    obtain rfl : i = l.length := by omega
    refine aw_seq ?_
    have hcl := clkV_len (l := l) (List.range l.length)
    generalize clkV l (List.range l.length) = V at *
    have zv := zc V hcl
    have tv := tz V hcl
    (refine aw_ops (by kernel_rfl) (fun K hK => ?_); simp (disch := first | omega | (simp only [lnS]; try omega; done)) [-getElem?_pos, -getElem?_neg, q2, q3, b2, b4, zv, hcl, tv]; refine hK _ _ ?_; clear hK K)
    (refine aw_ret ?_; simp (disch := first | omega | (simp only [lnS]; try omega; done)) [-getElem?_pos, -getElem?_neg, thenQ_ret, scopeQ_ret, inBlockQ_ret, RQ, resL, resV, q2, tv])
  obtain ⟨a, ha, ha8⟩ := author_nat h3 hi
  obtain ⟨j, q, bb, hx, hjl, hbG, hq, c32⟩ := hN'.author_at (hn ▸ lw) hi
  rw [ha] at c32
  (refine aw_ops (by kernel_rfl) (fun K hK => ?_); simp (disch := first | omega | (simp only [lnS]; try omega; done)) [-getElem?_pos, -getElem?_neg, q0, q4, -notTuple, hnt, hvc, nt_intG, -xlen, hxl, hi]; refine hK _ _ ?_; clear hK K)
  refine aw_t (by (first | (simp [eval_tmp, put_at, hi]; done) | (simp [eval_tmp, put_at, hi]; omega))) (by kernel_rfl) ?_
  refine aw_skip ?_
  refine aw_seq ?_
  refine aw_block ?_
  have hst := clkV_step (l := l) (List.range i) ha ha8
  rw [← List.range_succ] at hst
  have hca := clkV_at (l := l) (List.range i) ha8
  have hcl := clkV_len (l := l) (List.range i)
  have hcb := cntL_le (l := l) (List.range i) a
  rw [List.length_range] at hcb
  generalize clkV l (List.range i) = V at *
  obtain ⟨V', hV'⟩ : ∃ V', V' = clkV l (List.range (i + 1)) := ⟨_, rfl⟩
  rw [← hV'] at hst
  generalize cntL l (List.range i) a = m at *
  have hVa : (iv .u32 V)[a]? = some (.int .u32 (m : Nat)) := by simp [iv, hca]
  have hVs : (iv .u32 V).set a (.int .u32 ((m : Int) + 1)) = iv .u32 V' := by rw [iv_set, hst]
  have hxa := clk_addr (m := n + 1) ha8
  (refine aw_ops (by kernel_rfl) (fun K hK => ?_); simp (disch := first | omega | (simp only [lnS]; try omega; done)) [-getElem?_pos, -getElem?_neg, q0, q4, q3, -notTuple, hnt, hvc, nt_intG, -xindexAddr, hx, hxa, hbG, hq, c32, b4, hVa, hVs, hcl, ha8]; refine hK _ _ ?_; clear hK K)
  (refine aw_ops (by kernel_rfl) (fun K hK => ?_); simp (disch := first | omega | (simp only [lnS]; try omega; done)) [-getElem?_pos, -getElem?_neg, q4]; refine hK _ _ ?_; clear hK K)
  exact ⟨c - 1, by omega, i + 1, by omega, ⟨fun j hj => (hget_set_ne (by omega)).trans (lw.1 j hj), by rw [List.length_set]; exact lw.2⟩, by rw [hget_set_ne (by omega)]; exact b2, by rw [hget_set_eq (by omega), hV'], by (first | (simp [put_at, put_none, fr0_at, q0]; done) | rfl), by (first | (simp [put_at, put_none, fr0_at, q2]; done) | rfl), by (first | (simp [put_at, put_none, fr0_at, q3]; done) | rfl), by (first | (simp [put_at, put_none, fr0_at]; done) | rfl)⟩
/-- The places that are the node's own or ahead of it, among the first. -/
def ofP (l : List NodeD) (t k : Nat) : List Nat := (List.range k).filter fun x => decide (x = t) || decide ((x : Int) ∈ (nd l t).past)
theorem ofP_succ (l : List NodeD) (t k : Nat) : ofP l t (k + 1) = if k = t ∨ (k : Int) ∈ (nd l t).past then ofP l t k ++ [k] else ofP l t k := by
  unfold ofP
  rw [List.range_succ, List.filter_append]
  by_cases h : k = t ∨ (k : Int) ∈ (nd l t).past
  · rw [if_pos h]
    congr 1
    rw [List.filter_cons]
    have : (decide (k = t) || decide ((k : Int) ∈ (nd l t).past)) = true := by simpa using h
    rw [this]
    rfl
  · rw [if_neg h]
    have : (decide (k = t) || decide ((k : Int) ∈ (nd l t).past)) = false := by
      rw [Bool.or_eq_false_iff, decide_eq_false_iff_not, decide_eq_false_iff_not]
      exact not_or.1 h
    rw [List.filter_cons, this]
    simp
theorem ofP_le (l : List NodeD) (t k : Nat) : (ofP l t k).length ≤ k := by
  unfold ofP
  exact Nat.le_trans (List.length_filter_le _ _) (by simp)
theorem rOf_rc {γ : Nat → Option Nat} {H : AH} {nv : Value} {l : List NodeD} (hN : NdA H nv l) (h3 : rightG l = true) {t : Nat} (ht : t < l.length) : AC Try.prog H.length γ 56 #[nv, .int .i64 (t : Nat)] H (fun v' _ => v' = .agg (iv .u32 (clkV l (ofS l t))).toArray) := by
  have hN' := hN
  obtain ⟨hnt, hvc, hxl, hwf, hat⟩ := hN
  have zc : ∀ (c : List Int), c.length = 8 → setR (iv .u32 (zl 8)) 0 (iv .u32 c) = iv .u32 c := fun c hc => setR_all _ _ (by rw [iv_length, iv_length, hc, zl_length])
  have tz : ∀ (c : List Int), c.length = 8 → (iv .u32 c).take 8 = iv .u32 c := fun c hc => List.take_of_length_le (by rw [iv_length, hc]; omega)
  have hl96 := rightG_len h3
  have hpe : clkV l (ofS l t) = clkV l (ofP l t l.length) := clkV_perm (of_perm h3 ht).symm
  rw [hpe]
  refine ac_of_aw Try.func56 rfl Try.ntmps56 Try.results56 (by simp) ?_
  refine aw_seq ?_
  (refine aw_ops (by kernel_rfl) (fun K hK => ?_); simp (disch := first | omega | (simp only [lnS]; try omega; done)) [-getElem?_pos, -getElem?_neg]; refine hK _ _ ?_; clear hK K)
  refine aw_seq ?_
  (refine aw_ops (by kernel_rfl) (fun K hK => ?_); simp (disch := first | omega | (simp only [lnS]; try omega; done)) [-getElem?_pos, -getElem?_neg]; refine hK _ _ ?_; clear hK K)
  obtain ⟨n, hn⟩ : ∃ n, n = H.length := ⟨_, rfl⟩
  obtain ⟨G, hG⟩ : ∃ G : AH, G = H ++ [some ⟨iv .u32 (zl 8), 79, none⟩, some ⟨iv .u32 (zl 8), 79, none⟩] := ⟨_, rfl⟩
  have b2 : hget G n = some ⟨iv .u32 (zl 8), 79, none⟩ := by rw [hG, hn, hget_app0]; rfl
  have b4 : hget G (n + 1) = some ⟨iv .u32 (zl 8), 79, none⟩ := by rw [hG, hn, hget_app]; rfl
  have lw : Low H.length H G := by rw [hG]; exact Low.push (Nat.le_refl _) _
  rw [← hG, ← hn]
  clear hG
  refine aw_seq ?_
  refine aw_seq ?_
  (refine aw_ops (by kernel_rfl) (fun K hK => ?_); simp (disch := first | omega | (simp only [lnS]; try omega; done)) [-getElem?_pos, -getElem?_neg]; refine hK _ _ ?_; clear hK K)
  refine aw_block ?_
  refine aw_loop (fun c α G' => ∃ i : Nat, i + c = l.length ∧ Low n H G' ∧ hget G' n = some ⟨iv .u32 (zl 8), 79, none⟩ ∧ hget G' (n + 1) = some ⟨iv .u32 (clkV l (ofP l t i)), 79, none⟩ ∧ α 0 = nv ∧ α 1 = .int .i64 (t : Nat) ∧ α 4 = .pointer (some ⟨n, 0, none⟩) ∧ α 5 = .pointer (some ⟨n + 1, 0, none⟩) ∧ α 6 = .int .i64 (i : Nat)) l.length ?_ ?_
  · exact ⟨0, by omega, hn ▸ lw, b2, by show hget G (n + 1) = some ⟨iv .u32 (clkV l []), _, _⟩; rw [clkV_nil]; exact b4, by (first | (simp [put_at, put_none, fr0_at]; done) | rfl), by (first | (simp [put_at, put_none, fr0_at]; done) | rfl), by (first | (simp [put_at, put_none, fr0_at]; done) | rfl), by (first | (simp [put_at, put_none, fr0_at]; done) | rfl), by (first | (simp [put_at, put_none, fr0_at]; done) | rfl)⟩
  clear lw b2 b4
  rintro c α G' ⟨i, hic, lw, b2, b4, q0, q1, q4, q5, q6⟩
  have g4 := hget_lt b4
  refine aw_seq ?_
  refine aw_seq ?_
  by_cases hi : i < l.length
  case neg =>
    (refine aw_ops (by kernel_rfl) (fun K hK => ?_); simp (disch := first | omega | (simp only [lnS]; try omega; done)) [-getElem?_pos, -getElem?_neg, q0, q6, -notTuple, hnt, hvc, nt_intG, -xlen, hxl, hi]; refine hK _ _ ?_; clear hK K)
    refine aw_f (by (first | (simp [eval_tmp, put_at, hi]; done) | (simp [eval_tmp, put_at, hi]; omega))) (by kernel_rfl) ?_
    refine aw_exit ?_
    obtain rfl : i = l.length := by omega
    refine aw_seq ?_
    have hcl := clkV_len (l := l) (ofP l t l.length)
    generalize clkV l (ofP l t l.length) = V at *
    have zv := zc V hcl
    have tv := tz V hcl
    (refine aw_ops (by kernel_rfl) (fun K hK => ?_); simp (disch := first | omega | (simp only [lnS]; try omega; done)) [-getElem?_pos, -getElem?_neg, q4, q5, b2, b4, zv, hcl, tv]; refine hK _ _ ?_; clear hK K)
    (refine aw_ret ?_; simp (disch := first | omega | (simp only [lnS]; try omega; done)) [-getElem?_pos, -getElem?_neg, thenQ_ret, scopeQ_ret, inBlockQ_ret, RQ, resL, resV, q4, tv])
  obtain ⟨a, ha, ha8⟩ := author_nat h3 hi
  obtain ⟨j, q, bb, hx, hjl, hbG, hq, c32⟩ := hN'.author_at (hn ▸ lw) hi
  rw [ha] at c32
  obtain ⟨j', q', bb', pq, px, pb, pc, pI, pml, p1, p2⟩ := hN'.past_at (hn ▸ lw) ht
  have rin := rIn_rc (γ := γ) (pI.lowG (hn ▸ lw)) pml (i : Int)
  (refine aw_ops (by kernel_rfl) (fun K hK => ?_); simp (disch := first | omega | (simp only [lnS]; try omega; done)) [-getElem?_pos, -getElem?_neg, q0, q6, -notTuple, hnt, hvc, nt_intG, -xlen, hxl, hi]; refine hK _ _ ?_; clear hK K)
  refine aw_t (by (first | (simp [eval_tmp, put_at, hi]; done) | (simp [eval_tmp, put_at, hi]; omega))) (by kernel_rfl) ?_
  refine aw_skip ?_
  refine aw_seq ?_
  refine aw_block ?_
  refine aw_seq ?_
  have hsu := ofP_succ l t i
  refine aw_cut (fun α' G2 => α' 24 = .bool (decide (i = t ∨ (i : Int) ∈ (nd l t).past)) ∧ α' 0 = nv ∧ α' 1 = .int .i64 (t : Nat) ∧ α' 4 = .pointer (some ⟨n, 0, none⟩) ∧ α' 5 = .pointer (some ⟨n + 1, 0, none⟩) ∧ α' 6 = .int .i64 (i : Nat) ∧ G' = G2) ?_ ?_
  · by_cases e : i = t
    · have e2 : ((i : Int) == (t : Int)) = true := by simp [e]
      (refine aw_ops (by kernel_rfl) (fun K hK => ?_); simp (disch := first | omega | (simp only [lnS]; try omega; done)) [-getElem?_pos, -getElem?_neg, q0, q1, q6, e2]; refine hK _ _ ?_; clear hK K)
      exact ⟨by (first | (simp [put_at, put_none, fr0_at, e]; done) | rfl), by (first | (simp [put_at, put_none, fr0_at, q0]; done) | rfl), by (first | (simp [put_at, put_none, fr0_at, q1]; done) | rfl), by (first | (simp [put_at, put_none, fr0_at, q4]; done) | rfl), by (first | (simp [put_at, put_none, fr0_at, q5]; done) | rfl), by (first | (simp [put_at, put_none, fr0_at, q6]; done) | rfl), rfl⟩
    · have e2 : ((i : Int) == (t : Int)) = false := by simp; omega
      refine aw_ops (by kernel_rfl) (fun K hK => ?_)
      simp (disch := first | omega | (simp only [lnS]; try omega; done)) [-getElem?_pos, -getElem?_neg, q0, q1, q6, e2, -notTuple, hnt, hvc, nt_intG, -xindexAddr, px, pb, pc, p1, p2]
      refine ⟨by kernel_rfl, ac_of_rc rin (by simp [pv_iv, pv_int, pv_bool, pv_string, pv_tup2, pv_tup3, iv_plain, p2_int, p2_bool, p2_string]) ?_⟩
      try simp (disch := first | omega | (simp only [lnS]; try omega; done)) [-getElem?_pos, -getElem?_neg]
      refine hK _ _ ?_; clear hK K
      exact ⟨by (first | (simp [put_at, put_none, fr0_at, e]; done) | rfl), by (first | (simp [put_at, put_none, fr0_at, q0]; done) | rfl), by (first | (simp [put_at, put_none, fr0_at, q1]; done) | rfl), by (first | (simp [put_at, put_none, fr0_at, q4]; done) | rfl), by (first | (simp [put_at, put_none, fr0_at, q5]; done) | rfl), by (first | (simp [put_at, put_none, fr0_at, q6]; done) | rfl), rfl⟩
  clear q0 q1 q4 q5 q6
  rintro α G2 ⟨q24, q0, q1, q4, q5, q6, rfl⟩
  by_cases hb : i = t ∨ (i : Int) ∈ (nd l t).past
  · rw [decide_eq_true hb] at q24
    rw [if_pos hb] at hsu
    refine aw_t (by (first | (simp [eval_tmp, put_at, q24]; done) | (simp [eval_tmp, put_at, q24]; omega))) (by kernel_rfl) ?_
    have hst := clkV_step (l := l) (ofP l t i) ha ha8
    rw [← hsu] at hst
    have hca := clkV_at (l := l) (ofP l t i) ha8
    have hcl := clkV_len (l := l) (ofP l t i)
    have hcb := cntL_le (l := l) (ofP l t i) a
    have hcb2 := ofP_le l t i
    generalize clkV l (ofP l t i) = V at *
    obtain ⟨V', hV'⟩ : ∃ V', V' = clkV l (ofP l t (i + 1)) := ⟨_, rfl⟩
    rw [← hV'] at hst
    generalize cntL l (ofP l t i) a = m at *
    have hVa : (iv .u32 V)[a]? = some (.int .u32 (m : Nat)) := by simp [iv, hca]
    have hVs : (iv .u32 V).set a (.int .u32 ((m : Int) + 1)) = iv .u32 V' := by rw [iv_set, hst]
    have hxa := clk_addr (m := n + 1) ha8
    (refine aw_ops (by kernel_rfl) (fun K hK => ?_); simp (disch := first | omega | (simp only [lnS]; try omega; done)) [-getElem?_pos, -getElem?_neg, q0, q5, q6, -notTuple, hnt, hvc, nt_intG, -xindexAddr, hx, hxa, hbG, hq, c32, b4, hVa, hVs, hcl, ha8]; refine hK _ _ ?_; clear hK K)
    (refine aw_ops (by kernel_rfl) (fun K hK => ?_); simp (disch := first | omega | (simp only [lnS]; try omega; done)) [-getElem?_pos, -getElem?_neg, q6]; refine hK _ _ ?_; clear hK K)
    exact ⟨c - 1, by omega, i + 1, by omega, ⟨fun j hj => (hget_set_ne (by omega)).trans (lw.1 j hj), by rw [List.length_set]; exact lw.2⟩, by rw [hget_set_ne (by omega)]; exact b2, by rw [hget_set_eq (by omega), hV'], by (first | (simp [put_at, put_none, fr0_at, q0]; done) | rfl), by (first | (simp [put_at, put_none, fr0_at, q1]; done) | rfl), by (first | (simp [put_at, put_none, fr0_at, q4]; done) | rfl), by (first | (simp [put_at, put_none, fr0_at, q5]; done) | rfl), by (first | (simp [put_at, put_none, fr0_at]; done) | rfl)⟩
  · rw [decide_eq_false hb] at q24
    rw [if_neg hb] at hsu
    refine aw_f (by (first | (simp [eval_tmp, put_at, q24]; done) | (simp [eval_tmp, put_at, q24]; omega))) (by kernel_rfl) ?_
    refine aw_skip ?_
    (refine aw_ops (by kernel_rfl) (fun K hK => ?_); simp (disch := first | omega | (simp only [lnS]; try omega; done)) [-getElem?_pos, -getElem?_neg, q6]; refine hK _ _ ?_; clear hK K)
    exact ⟨c - 1, by omega, i + 1, by omega, lw, b2, by rw [hsu]; exact b4, by (first | (simp [put_at, put_none, fr0_at, q0]; done) | rfl), by (first | (simp [put_at, put_none, fr0_at, q1]; done) | rfl), by (first | (simp [put_at, put_none, fr0_at, q4]; done) | rfl), by (first | (simp [put_at, put_none, fr0_at, q5]; done) | rfl), by (first | (simp [put_at, put_none, fr0_at]; done) | rfl)⟩
end
end Go.Proofs.Ytdeccbjdhcifiaa
