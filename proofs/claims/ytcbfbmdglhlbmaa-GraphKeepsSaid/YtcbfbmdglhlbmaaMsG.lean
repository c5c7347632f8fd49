/-
  cabalref15.Same: are two graphs the same?
  graph.Add.
  The vector that every right program answers: three nodes, put behind one another.
  GraphOrder: the law, walked.
  GraphHeads: the law, walked.
  The same operations in another order: what is ahead, and the heads.
  cabalref15.Add.
  Rows within a block; noughts; new slices by append, stored into an own operation.
  GraphAdds: the law, walked.
  GraphKeeps: the law, walked.
-/
import Derived.Test.YtcbfbmdglhlbmaaMsF
import Derived.Test.YtcbfbmdglhlbmaaMsD
import Derived.Test.YtcbfbmdglhlbmaaMsC
import Derived.Test.YtcbfbmdglhlbmaaMsE
namespace Go.Proofs.Ytcbfbmdglhlbmaa
open Go Go.RowKit
set_option linter.unusedSimpArgs false
set_option linter.unusedVariables false
set_option maxRecDepth 100000
set_option maxHeartbeats 4000000
section
def Sm6 (l : List NodeD) : Prop := ∀ x ∈ l, x.op.parents.length ≤ 1000000 ∧ x.op.who.length ≤ 1000000 ∧ x.op.boxes.length ≤ 1000000
theorem nodes_ext {l m : List NodeD} (hl : l.length = m.length) (h : ∀ k, k < l.length → nd l k = nd m k) : l = m := by
  apply List.ext_getElem?
  intro k
  rcases Nat.lt_or_ge k l.length with hk | hk
  · rw [nd_get hk, nd_get (show k < m.length by omega), h k hk]
  · rw [List.getElem?_eq_none hk, List.getElem?_eq_none (by omega)]
/-- A node by its address: what is loaded of it. -/
structure NodeAt (H : AH) (v : Value) (i : Nat) (x : NodeD) (j q : Nat) (bb : Blk) (us : List Value) (qv : Value) : Prop where
  addr : xindexAddr Try.prog 22 v (.int .i64 (i : Nat)) = some (.pointer (some ⟨j, q, none⟩))
  blk : hget H j = some bb
  le : q + 104 ≤ bb.cells.length
  id : (bb.cells.drop q).take 32 = iv .u8 x.id
  op : (bb.cells.drop (q + 32)).take 71 = us
  past : bb.cells[q + 103]? = some qv
  inv : InV H qv x.past
theorem NdA.node {H : AH} {v : Value} {l : List NodeD} (h : NdA H v l) {i : Nat} (hi : i < l.length) : ∃ j q bb us pv wv bv qv, NodeAt H v i (nd l i) j q bb us qv ∧ OpC H us (nd l i).op pv wv bv := by
  obtain ⟨j, q, bb, us, pv, wv', bv, qv, hx, hbb, hq, hcell, hus, hC⟩ := h.at_ i _ (nd_get hi)
  refine ⟨j, q, bb, (us.drop 32).take 71, pv, wv', bv, qv, ⟨hx, hbb, hq, ?_, by rw [op_cut, ← hus], (hcell 103 (by omega)).trans hC.c103, hC.past⟩, hC.op⟩
  have := hC.id
  rw [hus, List.take_take] at this
  simpa using this
attribute [local simp] wb_bool wb_undef with_lit XL_nil XL_cons XLc_val XLc_call step1_eq stepW_t stepW_f stepC_n stepC_s stepX_s stepX_n stepN_s calleeX oneV xop_eq xopR_s xopR_n wantedA_eq wantedG_n wantedG_s plain1_int plain1_bool plain1_string bits_i64 bits_u64 bits_u32 bits_u16 bits_u8 xeqA xagg xcmp xarr allK_iv num_iv calleeOf xread xeff xbin xint xnil xun xstr xload xconv xpart xfield xfieldAddr xindexAddr xindex bnd asInt? xslice xlen xmin xmax xbuild xfill xappend xapp2 xappstr xappmk xcap xcopy xcells eval_tmp eval_const put_at put_none fr0_at cells_agg cells_int cells_bool cells_string cells_ptr cells_slice notTuple tab iv_all hget_app hget_app0 hget_cons0 hget_cons set_app set_app0 setR setR_one QL_nil QL_cons QLc_val stepQ_t stepQ_f stepQC_n stepQC_s stepQX_s SL_nil SL_cons SLc_val stepS_t stepS_f ltT ltF leT leF eqT eqF ltTn ltFn leTn leFn eqTn eqFn beqT beqF bneT bneF wi64 wu64 wu32 wu16 wu8 tmodP tdivP hgetL hgetNe hgetEq setL nums_def nums_len Nat.succ_le_of_lt List.getElem?_cons_zero List.getElem?_cons_succ Option.getD_some Int.toNat_add Int.toNat_mul agM okM agB agI agS agP agL agA okB okI okS okP okSl okA
theorem rSame_rc {γ : Nat → Option Nat} {H : AH} {u v : Value} {l m : List NodeD} (hU : NdA H u l) (hV : NdA H v m) (sl : Sm6 l) (sm : Sm6 m) (hl : l.length ≤ maxLen) : AC Try.prog H.length γ 16 #[u, v] H (fun v' _ => v' = .bool (decide (l = m))) := by
  have u1 := hU.nt
  have u2 := hU.cs
  have u3 := hU.len
  have v1 := hV.nt
  have v2 := hV.cs
  have v3 := hV.len
  have hm63 : l.length ≤ 9223372036854775807 := by simp only [maxLen] at hl; omega
  refine ac_of_aw Try.func16 rfl Try.ntmps16 Try.results16 (by simp) ?_
  refine aw_seq ?_
  (refine aw_ops (by kernel_rfl) (fun K hK => ?_); simp (disch := first | omega | (simp only [lnS]; try omega; done)) [-getElem?_pos, -getElem?_neg]; refine hK _ _ ?_; clear hK K)
  refine aw_seq ?_
  refine aw_seq ?_
  by_cases hab : l.length = m.length
  case neg =>
    have hne : ((l.length : Int) == (m.length : Int)) = false := by rw [beq_eq_false_iff_ne]; omega
    have hne2 : ¬ (l.length : Int) = (m.length : Int) := by omega
    (refine aw_ops (by kernel_rfl) (fun K hK => ?_); simp (disch := first | omega | (simp only [lnS]; try omega; done)) [-getElem?_pos, -getElem?_neg, -notTuple, u1, u2, v1, v2, nt_intG, -xlen, u3, v3, hne, hne2]; refine hK _ _ ?_; clear hK K)
    refine aw_t (by (first | (simp [eval_tmp, put_at]; done) | (simp [eval_tmp, put_at]; omega))) (by kernel_rfl) ?_
    refine aw_seq ?_
    (refine aw_ops (by kernel_rfl) (fun K hK => ?_); simp (disch := first | omega | (simp only [lnS]; try omega; done)) [-getElem?_pos, -getElem?_neg]; refine hK _ _ ?_; clear hK K)
    (refine aw_ret ?_; simp (disch := first | omega | (simp only [lnS]; try omega; done)) [-getElem?_pos, -getElem?_neg, thenQ_ret, scopeQ_ret, inBlockQ_ret, RQ, resL, resV])
    all_goals exact fun h => hab (congrArg List.length h)
  have heq : ((l.length : Int) == (m.length : Int)) = true := by rw [beq_iff_eq]; omega
  have heq2 : (l.length : Int) = (m.length : Int) := by omega
  (refine aw_ops (by kernel_rfl) (fun K hK => ?_); simp (disch := first | omega | (simp only [lnS]; try omega; done)) [-getElem?_pos, -getElem?_neg, -notTuple, u1, u2, v1, v2, nt_intG, -xlen, u3, v3, hab, heq, heq2]; refine hK _ _ ?_; clear hK K)
  refine aw_f (by (first | (simp [eval_tmp, put_at]; done) | (simp [eval_tmp, put_at]; omega))) (by kernel_rfl) ?_
  refine aw_skip ?_
  refine aw_seq ?_
  refine aw_seq ?_
  (refine aw_ops (by kernel_rfl) (fun K hK => ?_); simp (disch := first | omega | (simp only [lnS]; try omega; done)) [-getElem?_pos, -getElem?_neg]; refine hK _ _ ?_; clear hK K)
  refine aw_block ?_
  refine aw_loop (fun c α G => ∃ i : Nat, i + c = l.length ∧ α 0 = u ∧ α 1 = v ∧ α 5 = .int .i64 (i : Nat) ∧ G = H ∧ ∀ k, k < i → nd l k = nd m k) l.length ?_ ?_
  · exact ⟨0, by omega, by (first | (simp [put_at, put_none, fr0_at]; done) | rfl), by (first | (simp [put_at, put_none, fr0_at]; done) | rfl), by (first | (simp [put_at, put_none, fr0_at]; done) | rfl), rfl, fun k hk => by omega⟩
  rintro c α G ⟨i, hic, q0, q1, q5, rfl, hpre⟩
  refine aw_seq ?_
  refine aw_seq ?_
  by_cases hi : i < l.length
  case neg =>
    (refine aw_ops (by kernel_rfl) (fun K hK => ?_); simp (disch := first | omega | (simp only [lnS]; try omega; done)) [-getElem?_pos, -getElem?_neg, q0, q5, -notTuple, u1, u2, nt_intG, -xlen, u3, hi]; refine hK _ _ ?_; clear hK K)
    refine aw_f (by (first | (simp [eval_tmp, put_at, hi]; done) | (simp [eval_tmp, put_at, hi]; omega))) (by kernel_rfl) ?_
    refine aw_exit ?_
    refine aw_seq ?_
    (refine aw_ops (by kernel_rfl) (fun K hK => ?_); simp (disch := first | omega | (simp only [lnS]; try omega; done)) [-getElem?_pos, -getElem?_neg]; refine hK _ _ ?_; clear hK K)
    (refine aw_ret ?_; simp (disch := first | omega | (simp only [lnS]; try omega; done)) [-getElem?_pos, -getElem?_neg, thenQ_ret, scopeQ_ret, inBlockQ_ret, RQ, resL, resV])
    all_goals exact nodes_ext hab (fun k hk => hpre k (by omega))
  obtain ⟨j, q, bb, us, pv, wv', bv, qv, hn1, hO1⟩ := hU.node hi
  obtain ⟨j', q', bb', us', pv', wv'', bv', qv', hn2, hO2⟩ := hV.node (show i < m.length by omega)
  have xw := hU.wf _ (List.mem_of_getElem? (nd_get hi))
  have yw := hV.wf _ (List.mem_of_getElem? (nd_get (show i < m.length by omega)))
  obtain ⟨a1, a2, a3, a4, a5, a6, a7⟩ := hn1
  obtain ⟨d1, d2, d3, d4, d5, d6, d7⟩ := hn2
  have n1 := val_nt a7
  have n2 := val_nt d7
  have la : (iv .u8 (nd l i).id).length = 32 := by rw [iv_length, xw.id.1]
  have ld : (iv .u8 (nd m i).id).length = 32 := by rw [iv_length, yw.id.1]
  have hol := hO1.len
  have hol' := hO2.len
  (refine aw_ops (by kernel_rfl) (fun K hK => ?_); simp (disch := first | omega | (simp only [lnS]; try omega; done)) [-getElem?_pos, -getElem?_neg, q0, q5, -notTuple, u1, u2, nt_intG, -xlen, u3, hi]; refine hK _ _ ?_; clear hK K)
  refine aw_t (by (first | (simp [eval_tmp, put_at, hi]; done) | (simp [eval_tmp, put_at, hi]; omega))) (by kernel_rfl) ?_
  refine aw_skip ?_
  refine aw_seq ?_
  refine aw_block ?_
  refine aw_seq ?_
  refine aw_cut (fun α G2 => α 55 = .bool (!decide (nd l i = nd m i)) ∧ α 0 = u ∧ α 1 = v ∧ α 5 = .int .i64 (i : Nat) ∧ G2 = G) ?_ ?_
  · by_cases e1 : (nd l i).id = (nd m i).id
    case neg =>
      have k1 : ((nd l i).id == (nd m i).id) = false := by rw [beq_eq_false_iff_ne]; exact e1
      have hd : decide (nd l i = nd m i) = false := decide_eq_false (fun hh => e1 (by rw [hh]))
      (refine aw_plan [] [] [0, 1, 2, 3, 4, 5, 6, 7, 8, 9, 10, 11, 12, 13, 14, 15, 16, 17, 18, 19, 20, 21, 22, 23, 24, 25, 26, 27, 28, 29, 30, 31, 32, 33, 34, 35, 36, 37, 38] 39 0 (by kernel_rfl) (by kernel_rfl) (by kernel_rfl) (fun K hK => ?_)); simp only [sel, List.getElem?_cons_succ, List.getElem?_cons_zero, List.drop_succ_cons, List.drop_zero]; simp (disch := first | omega | (simp only [lnS]; try omega; done)) [-getElem?_pos, -getElem?_neg, q0, q1, q5, -notTuple, u1, u2, v1, v2, n1.1, n1.2, n2.1, n2.2, nt_intG, nt_ptrG, nt_aggG, -xindexAddr, a1, d1, a2, d2, a4, d4, a5, d5, a6, d6, la, ld, k1, PL_nil, plainB_lit, PL_cons, PLc_val, PLc_new, stepP_t, stepP_f, stepPC_n, stepPC_s, stepPX_s, stepPX_n, stepPV_n, stepPV_s, stepPA_t, stepPA_c, stepPA_l, stepPN_s, allocOp, reloc_sl, reloc_ptr, List.map_cons, List.map_nil, List.nil_append, List.append_assoc, List.cons_append, Nat.add_assoc]
      refine hK _ _ ?_; clear hK K
      exact ⟨by rw [hd]; (first | (simp [put_at, put_none, fr0_at]; done) | rfl), by (first | (simp [put_at, put_none, fr0_at, q0]; done) | rfl), by (first | (simp [put_at, put_none, fr0_at, q1]; done) | rfl), by (first | (simp [put_at, put_none, fr0_at, q5]; done) | rfl), rfl⟩
    have k1 : ((nd l i).id == (nd m i).id) = true := by rw [beq_iff_eq]; exact e1
    (refine aw_plan [] [] [0, 1, 2, 3, 4, 5, 6, 7, 8, 9, 10, 11, 12, 13, 14, 15, 16, 17, 18, 19, 20, 21, 22, 23, 24, 25, 26, 27, 28, 29, 30, 31, 32, 33, 34, 35, 36, 37, 38] 39 0 (by kernel_rfl) (by kernel_rfl) (by kernel_rfl) (fun K hK => ?_)); simp only [sel, List.getElem?_cons_succ, List.getElem?_cons_zero, List.drop_succ_cons, List.drop_zero]; simp (disch := first | omega | (simp only [lnS]; try omega; done)) [-getElem?_pos, -getElem?_neg, q0, q1, q5, -notTuple, u1, u2, v1, v2, n1.1, n1.2, n2.1, n2.2, nt_intG, nt_ptrG, nt_aggG, -xindexAddr, a1, d1, a2, d2, a4, d4, a5, d5, a6, d6, la, ld, k1, PL_nil, plainB_lit, PL_cons, PLc_val, PLc_new, stepP_t, stepP_f, stepPC_n, stepPC_s, stepPX_s, stepPX_n, stepPV_n, stepPV_s, stepPA_t, stepPA_c, stepPA_l, stepPN_s, allocOp, reloc_sl, reloc_ptr, List.map_cons, List.map_nil, List.nil_append, List.append_assoc, List.cons_append, Nat.add_assoc]
    refine PLc_call (v := .bool (decide ((nd l i).past = (nd m i).past))) (by kernel_rfl) (fun L hL => sameInts_rc (CD.Val.low (fun j hj => hget_left hj) a7) (CD.Val.low (fun j hj => hget_left hj) d7) xw.plen) (by simp [pv_iv, pv_int, pv_bool, pv_string, pv_tup2, pv_tup3, iv_plain, p2_int, p2_bool, p2_string]) ?_
    by_cases e2 : (nd l i).past = (nd m i).past
    case neg =>
      have hd : decide (nd l i = nd m i) = false := decide_eq_false (fun hh => e2 (by rw [hh]))
      simp (disch := first | omega | (simp only [lnS]; try omega; done)) [-getElem?_pos, -getElem?_neg, e2, PL_nil, plainB_lit, PL_cons, PLc_val, PLc_new, stepP_t, stepP_f, stepPC_n, stepPC_s, stepPX_s, stepPX_n, stepPV_n, stepPV_s, stepPA_t, stepPA_c, stepPA_l, stepPN_s, allocOp, reloc_sl, reloc_ptr, List.map_cons, List.map_nil, List.nil_append, List.append_assoc, List.cons_append, Nat.add_assoc]
      refine hK _ _ ?_; clear hK K
      exact ⟨by rw [hd]; (first | (simp [put_at, put_none, fr0_at]; done) | rfl), by (first | (simp [put_at, put_none, fr0_at, q0]; done) | rfl), by (first | (simp [put_at, put_none, fr0_at, q1]; done) | rfl), by (first | (simp [put_at, put_none, fr0_at, q5]; done) | rfl), rfl⟩
    simp (disch := first | omega | (simp only [lnS]; try omega; done)) [-getElem?_pos, -getElem?_neg, e2, q0, q1, q5, -notTuple, u1, u2, v1, v2, nt_intG, nt_ptrG, nt_aggG, -xindexAddr, a1, d1, a2, d2, a5, d5, PL_nil, plainB_lit, PL_cons, PLc_val, PLc_new, stepP_t, stepP_f, stepPC_n, stepPC_s, stepPX_s, stepPX_n, stepPV_n, stepPV_s, stepPA_t, stepPA_c, stepPA_l, stepPN_s, allocOp, reloc_sl, reloc_ptr, List.map_cons, List.map_nil, List.nil_append, List.append_assoc, List.cons_append, Nat.add_assoc]
    refine PLc_call (v := .bool (decide ((nd l i).op = (nd m i).op))) (by kernel_rfl) (fun L hL => sameOp_rc (hO1.low (fun j hj => hget_left hj)) (hO2.low (fun j hj => hget_left hj)) xw.op yw.op (sl _ (List.mem_of_getElem? (nd_get hi)))) (by simp [pv_iv, pv_int, pv_bool, pv_string, pv_tup2, pv_tup3, iv_plain, p2_int, p2_bool, p2_string]) ?_
    by_cases e3 : (nd l i).op = (nd m i).op
    case neg =>
      have hd : decide (nd l i = nd m i) = false := decide_eq_false (fun hh => e3 (by rw [hh]))
      simp (disch := first | omega | (simp only [lnS]; try omega; done)) [-getElem?_pos, -getElem?_neg, e3, PL_nil, plainB_lit, PL_cons, PLc_val, PLc_new, stepP_t, stepP_f, stepPC_n, stepPC_s, stepPX_s, stepPX_n, stepPV_n, stepPV_s, stepPA_t, stepPA_c, stepPA_l, stepPN_s, allocOp, reloc_sl, reloc_ptr, List.map_cons, List.map_nil, List.nil_append, List.append_assoc, List.cons_append, Nat.add_assoc]
      refine hK _ _ ?_; clear hK K
      exact ⟨by rw [hd]; (first | (simp [put_at, put_none, fr0_at]; done) | rfl), by (first | (simp [put_at, put_none, fr0_at, q0]; done) | rfl), by (first | (simp [put_at, put_none, fr0_at, q1]; done) | rfl), by (first | (simp [put_at, put_none, fr0_at, q5]; done) | rfl), rfl⟩
    have hd : decide (nd l i = nd m i) = true := decide_eq_true (NodeD.ext e1 e3 e2)
    simp (disch := first | omega | (simp only [lnS]; try omega; done)) [-getElem?_pos, -getElem?_neg, e3, PL_nil, plainB_lit, PL_cons, PLc_val, PLc_new, stepP_t, stepP_f, stepPC_n, stepPC_s, stepPX_s, stepPX_n, stepPV_n, stepPV_s, stepPA_t, stepPA_c, stepPA_l, stepPN_s, allocOp, reloc_sl, reloc_ptr, List.map_cons, List.map_nil, List.nil_append, List.append_assoc, List.cons_append, Nat.add_assoc]
    refine hK _ _ ?_; clear hK K
    exact ⟨by rw [hd]; (first | (simp [put_at, put_none, fr0_at]; done) | rfl), by (first | (simp [put_at, put_none, fr0_at, q0]; done) | rfl), by (first | (simp [put_at, put_none, fr0_at, q1]; done) | rfl), by (first | (simp [put_at, put_none, fr0_at, q5]; done) | rfl), rfl⟩
  clear q0 q1 q5
  rintro α G2 ⟨q55, q0, q1, q5, rfl⟩
  by_cases hd : nd l i = nd m i
  · rw [decide_eq_true hd] at q55
    refine aw_f (by (first | (simp [eval_tmp, put_at, q55]; done) | (simp [eval_tmp, put_at, q55]; omega))) (by kernel_rfl) ?_
    refine aw_skip ?_
    (refine aw_ops (by kernel_rfl) (fun K hK => ?_); simp (disch := first | omega | (simp only [lnS]; try omega; done)) [-getElem?_pos, -getElem?_neg, q5]; refine hK _ _ ?_; clear hK K)
    refine ⟨c - 1, by omega, i + 1, by omega, by (first | (simp [put_at, put_none, fr0_at, q0]; done) | rfl), by (first | (simp [put_at, put_none, fr0_at, q1]; done) | rfl), by (first | (simp [put_at, put_none, fr0_at]; done) | rfl), rfl, fun k hk => ?_⟩
    by_cases e : k = i
    · subst e; exact hd
    · exact hpre k (by omega)
  · rw [decide_eq_false hd] at q55
    refine aw_t (by (first | (simp [eval_tmp, put_at, q55]; done) | (simp [eval_tmp, put_at, q55]; omega))) (by kernel_rfl) ?_
    refine aw_seq ?_
    (refine aw_ops (by kernel_rfl) (fun K hK => ?_); simp (disch := first | omega | (simp only [lnS]; try omega; done)) [-getElem?_pos, -getElem?_neg]; refine hK _ _ ?_; clear hK K)
    (refine aw_ret ?_; simp (disch := first | omega | (simp only [lnS]; try omega; done)) [-getElem?_pos, -getElem?_neg, thenQ_ret, scopeQ_ret, inBlockQ_ret, RQ, resL, resV])
    all_goals exact fun hh => hd (by rw [hh])
end
section
/-- How many of a past are an author's. -/
def aheadL (l : List NodeD) (P : List Int) (x : Int) : Nat := (P.filter fun z => (nd l z.toNat).op.author == x).length
theorem aheadL_pastL (l : List NodeD) (n : Nat) (ps : List (List Int)) (x : Int) : aheadL l (pastL l n ps) x = (((List.range n).filter fun a => (nd l a).op.author == x).filter (inB l n ps)).length := by
  unfold aheadL pastL
  rw [List.filter_map, List.length_map, List.filter_filter, List.filter_filter]
  congr 1
  refine List.filter_congr fun k _ => ?_
  show (_ && _) = (_ && _)
  rw [Bool.and_comm]
  rfl
theorem ahead_all (l : List NodeD) (n : Nat) (ps : List (List Int)) (x : Int) : aheadL l (pastL l n ps) x = autN l n x ↔ autA l n x (pastL l n ps) = true := by
  rw [aheadL_pastL]
  unfold autN autA
  rw [List.length_filter_eq_length_iff, List.all_eq_true]
  refine ⟨fun h k hk => ?_, fun h k hk => ?_⟩
  · by_cases e : ((nd l k).op.author == x) = true
    · have := h k (List.mem_filter.2 ⟨hk, e⟩)
      have h2 : (k : Int) ∈ pastL l n ps := mem_pastL.2 ⟨List.mem_range.1 hk, this⟩
      simp [h2]
    · simp only [Bool.not_eq_true] at e
      simp [e]
  · rw [List.mem_filter] at hk
    have := h k hk.1
    rw [hk.2] at this
    have h2 : (k : Int) ∈ pastL l n ps := by simpa using this
    exact (mem_pastL.1 h2).2
theorem aheadL_le (l : List NodeD) (P : List Int) (x : Int) : aheadL l P x ≤ P.length := List.length_filter_le _ _
theorem aheadL_succ {l : List NodeD} {P : List Int} {e : Nat} {z : Int} (x : Int) (h : P[e]? = some z) : aheadL l (P.take (e + 1)) x = aheadL l (P.take e) x + if (nd l z.toNat).op.author = x then 1 else 0 := by
  unfold aheadL
  rw [List.take_add_one, h, List.filter_append, List.length_append]
  congr 1
  show (List.filter _ [z]).length = _
  by_cases hc : (nd l z.toNat).op.author = x
  · simp [hc]
  · have : ((nd l z.toNat).op.author == x) = false := by simpa using hc
    simp [this, hc]
/-- May it be put behind? -/
def seqOk (l : List NodeD) (o : OpD) : Bool := !(decide (o.kind = 1) && decide (0 < l.length)) && (decide (o.seq = 1 + (aheadL l (pastL l l.length o.parents) o.author : Nat)) && decide (aheadL l (pastL l l.length o.parents) o.author = autN l l.length o.author))
def addE (l : List NodeD) (id : List Int) (o : OpD) : Int :=
  if rightG l = false then 1 else if rightO o = false then 1 else if (findN l l.length id).isSome = true then 13 else if l.length = 96 then 8 else if o.parents.all (fun p => (findN l l.length p).isSome) = false then 14 else if seqOk l o = false then 15 else 0
def addD (l : List NodeD) (id : List Int) (o : OpD) : NodeD := ⟨id, o, pastL l l.length o.parents⟩
/-- New memory that shows nodes. -/
def NewG (n : Nat) (H : AH) (v : Value) (l : List NodeD) : Prop := ∀ G, KeepN n H G → NdV G v l
def AddQ (l : List NodeD) (id : List Int) (o : OpD) (H : AH) (v' : Value) (H' : AH) : Prop :=
  Low H.length H H' ∧ ∃ sv, v' = .tuple #[sv, .int .i64 (addE l id o)] ∧ ((addE l id o = 0 ∧ NewG H.length H' sv (l ++ [addD l id o])) ∨ (addE l id o ≠ 0 ∧ sv = .slice none 0 0))
theorem AddQ.bad {l : List NodeD} {id : List Int} {o : OpD} {H H' : AH} {z : Int} (hl : Low H.length H H') (h : addE l id o = z) (hz : z ≠ 0) : AddQ l id o H (.tuple #[.slice none 0 0, .int .i64 z]) H' :=
  ⟨hl, _, by rw [h], .inr ⟨by rw [h]; exact hz, rfl⟩⟩
theorem fill_row {Z row : List Value} (hr : row.length = 104) (hZ : Z.length = 104) : xfill (fun i => some (i * 104, 104)) Z [(0, .agg row.toArray)] = some row := by
  have h1 : (Value.agg row.toArray).cells.size = 104 := by simpa [Value.cells] using hr
  unfold xfill
  simp only [Nat.zero_mul]
  rw [if_pos ⟨h1, by omega⟩]
  unfold xfill
  rw [setR_all _ _ (by simp [Value.cells, hr, hZ])]
  rfl
attribute [local simp] wb_bool wb_undef with_lit XL_nil XL_cons XLc_val XLc_call step1_eq stepW_t stepW_f stepC_n stepC_s stepX_s stepX_n stepN_s calleeX oneV xop_eq xopR_s xopR_n wantedA_eq wantedG_n wantedG_s plain1_int plain1_bool plain1_string bits_i64 bits_u64 bits_u32 bits_u16 bits_u8 xeqA xagg xcmp xarr allK_iv num_iv calleeOf xread xeff xbin xint xnil xun xstr xload xconv xpart xfield xfieldAddr xindexAddr xindex bnd asInt? xslice xlen xmin xmax xbuild xfill xappend xapp2 xappstr xappmk xcap xcopy xcells eval_tmp eval_const put_at put_none fr0_at cells_agg cells_int cells_bool cells_string cells_ptr cells_slice notTuple tab iv_all hget_app hget_app0 hget_cons0 hget_cons set_app set_app0 setR setR_one QL_nil QL_cons QLc_val stepQ_t stepQ_f stepQC_n stepQC_s stepQX_s SL_nil SL_cons SLc_val stepS_t stepS_f ltT ltF leT leF eqT eqF ltTn ltFn leTn leFn eqTn eqFn beqT beqF bneT bneF wi64 wu64 wu32 wu16 wu8 tmodP tdivP hgetL hgetNe hgetEq setL nums_def nums_len Nat.succ_le_of_lt List.getElem?_cons_zero List.getElem?_cons_succ Option.getD_some Int.toNat_add Int.toNat_mul agM okM agB agI agS agP agL agA okB okI okS okP okSl okA
theorem add_rc {γ : Nat → Option Nat} {H : AH} {nv pv wv bv : Value} {l : List NodeD} {id : List Int} {us : List Value} {o : OpD} (hN : NdA H nv l) (hid : Key32 id) (hO : OpC H us o pv wv bv) (hw : o.Wf) : AC Try.prog H.length γ 24 #[nv, .agg (iv .u8 id).toArray, .agg us.toArray] H (AddQ l id o H) := by
  have hivl : (iv .u8 id).length = 32 := by rw [iv_length, hid.1]
  have hta : (iv .u8 id).take 32 = iv .u8 id := List.take_of_length_le (by omega)
  have hul := hO.len
  have htu : us.take 71 = us := List.take_of_length_le (by omega)
  refine ac_of_aw Try.func24 rfl Try.ntmps24 Try.results24 (by simp) ?_
  refine aw_seq ?_
  (refine aw_ops (by kernel_rfl) (fun K hK => ?_); simp (disch := first | omega | (simp only [lnS]; try omega; done)) [-getElem?_pos, -getElem?_neg, hivl, hul, nt_aggG]; refine hK _ _ ?_; clear hK K)
  obtain ⟨G, hG⟩ : ∃ G : AH, G = H ++ [some ⟨iv .u8 id, 24, none⟩, some ⟨us, 37, none⟩] := ⟨_, rfl⟩
  have b4 : hget G H.length = some ⟨iv .u8 id, 24, none⟩ := by rw [hG, hget_app0]; rfl
  have b5 : hget G (H.length + 1) = some ⟨us, 37, none⟩ := by rw [hG, hget_app]; rfl
  have lw : Low H.length H G := hG ▸ Low.push (Nat.le_refl _) _
  have gl : G.length = H.length + 2 := by simp [hG]
  rw [← hG]
  clear hG
  have hNG := hN.lowG lw
  have hOG : OpC G us o pv wv bv := hO.low lw.1
  have hnt := hN.nt
  have hvc := hN.cs
  have hxl := hN.len
  have r1 := graph_right_rc (γ := γ) hNG
  have r2 := right_rc (γ := γ) hOG hw
  obtain ⟨n, hn⟩ : ∃ n, n = H.length := ⟨_, rfl⟩
  rw [← hn] at b4 b5 gl lw ⊢
  refine aw_seq ?_
  refine aw_block ?_
  refine aw_seq ?_
  refine aw_seq ?_
  refine aw_ops (by kernel_rfl) (fun K hK => ?_)
  simp (disch := first | omega | (simp only [lnS]; try omega; done)) [-getElem?_pos, -getElem?_neg, -notTuple, hnt, hvc, nt_intG]
  refine ⟨by kernel_rfl, ac_of_rc r1 (by simp [pv_iv, pv_int, pv_bool, pv_string, pv_tup2, pv_tup3, iv_plain, p2_int, p2_bool, p2_string]) ?_⟩
  cases h1 : rightG l with
  | false =>
    try simp (disch := first | omega | (simp only [lnS]; try omega; done)) [-getElem?_pos, -getElem?_neg]
    refine hK _ _ ?_; clear hK K
    refine aw_t (by (first | (simp [eval_tmp, put_at]; done) | (simp [eval_tmp, put_at]; omega))) (by kernel_rfl) ?_
    refine aw_skip ?_
    refine aw_t (by (first | (simp [eval_tmp, put_at]; done) | (simp [eval_tmp, put_at]; omega))) (by kernel_rfl) ?_
    refine aw_seq ?_
    (refine aw_ops (by kernel_rfl) (fun K hK => ?_); simp (disch := first | omega | (simp only [lnS]; try omega; done)) [-getElem?_pos, -getElem?_neg]; refine hK _ _ ?_; clear hK K)
    (refine aw_ret ?_; simp (disch := first | omega | (simp only [lnS]; try omega; done)) [-getElem?_pos, -getElem?_neg, thenQ_ret, scopeQ_ret, inBlockQ_ret, RQ, resL, resV])
    exact AddQ.bad (hn ▸ lw) (by simp [addE, h1]) (by decide)
  | true =>
  try simp (disch := first | omega | (simp only [lnS]; try omega; done)) [-getElem?_pos, -getElem?_neg]
  refine hK _ _ ?_; clear hK K
  refine aw_f (by (first | (simp [eval_tmp, put_at]; done) | (simp [eval_tmp, put_at]; omega))) (by kernel_rfl) ?_
  refine aw_ops (by kernel_rfl) (fun K hK => ?_)
  simp (disch := first | omega | (simp only [lnS]; try omega; done)) [-getElem?_pos, -getElem?_neg, b5, hul, htu, nt_aggG]
  refine ⟨by kernel_rfl, ac_of_rc r2 (by simp [pv_iv, pv_int, pv_bool, pv_string, pv_tup2, pv_tup3, iv_plain, p2_int, p2_bool, p2_string]) ?_⟩
  cases h2 : rightO o with
  | false =>
    try simp (disch := first | omega | (simp only [lnS]; try omega; done)) [-getElem?_pos, -getElem?_neg]
    refine hK _ _ ?_; clear hK K
    refine aw_t (by (first | (simp [eval_tmp, put_at]; done) | (simp [eval_tmp, put_at]; omega))) (by kernel_rfl) ?_
    refine aw_seq ?_
    (refine aw_ops (by kernel_rfl) (fun K hK => ?_); simp (disch := first | omega | (simp only [lnS]; try omega; done)) [-getElem?_pos, -getElem?_neg]; refine hK _ _ ?_; clear hK K)
    (refine aw_ret ?_; simp (disch := first | omega | (simp only [lnS]; try omega; done)) [-getElem?_pos, -getElem?_neg, thenQ_ret, scopeQ_ret, inBlockQ_ret, RQ, resL, resV])
    exact AddQ.bad (hn ▸ lw) (by simp [addE, h1, h2]) (by decide)
  | true =>
  try simp (disch := first | omega | (simp only [lnS]; try omega; done)) [-getElem?_pos, -getElem?_neg]
  refine hK _ _ ?_; clear hK K
  refine aw_f (by (first | (simp [eval_tmp, put_at]; done) | (simp [eval_tmp, put_at]; omega))) (by kernel_rfl) ?_
  have hl := rightG_len h1
  have r4 := find_rc (γ := γ) hNG (by simp only [maxLen]; omega) hid.1
  refine aw_seq ?_
  refine aw_ops (by kernel_rfl) (fun K hK => ?_)
  simp (disch := first | omega | (simp only [lnS]; try omega; done)) [-getElem?_pos, -getElem?_neg, b4, hivl, hta, -notTuple, hnt, hvc, nt_intG, nt_aggG]
  refine ⟨by kernel_rfl, ac_of_rc r4 (by simp [pv_iv, pv_int, pv_bool, pv_string, pv_tup2, pv_tup3, iv_plain, p2_int, p2_bool, p2_string]) ?_⟩
  unfold findI
  cases h3 : findN l l.length id with
  | some a =>
    have ha := findN_lt h3
    try simp (disch := first | omega | (simp only [lnS]; try omega; done)) [-getElem?_pos, -getElem?_neg]
    refine hK _ _ ?_; clear hK K
    refine aw_t (by (first | (simp [eval_tmp, put_at]; done) | (simp [eval_tmp, put_at]; omega))) (by kernel_rfl) ?_
    refine aw_seq ?_
    (refine aw_ops (by kernel_rfl) (fun K hK => ?_); simp (disch := first | omega | (simp only [lnS]; try omega; done)) [-getElem?_pos, -getElem?_neg]; refine hK _ _ ?_; clear hK K)
    (refine aw_ret ?_; simp (disch := first | omega | (simp only [lnS]; try omega; done)) [-getElem?_pos, -getElem?_neg, thenQ_ret, scopeQ_ret, inBlockQ_ret, RQ, resL, resV])
    exact AddQ.bad (hn ▸ lw) (by simp [addE, h1, h2, h3]) (by decide)
  | none =>
  try simp (disch := first | omega | (simp only [lnS]; try omega; done)) [-getElem?_pos, -getElem?_neg]
  refine hK _ _ ?_; clear hK K
  refine aw_f (by (first | (simp [eval_tmp, put_at]; done) | (simp [eval_tmp, put_at]; omega))) (by kernel_rfl) ?_
  refine aw_seq ?_
  by_cases h4 : l.length = 96
  · (refine aw_ops (by kernel_rfl) (fun K hK => ?_); simp (disch := first | omega | (simp only [lnS]; try omega; done)) [-getElem?_pos, -getElem?_neg, -notTuple, hnt, hvc, nt_intG, -xlen, hxl, h4]; refine hK _ _ ?_; clear hK K)
    refine aw_t (by (first | (simp [eval_tmp, put_at, h4]; done) | (simp [eval_tmp, put_at, h4]; omega))) (by kernel_rfl) ?_
    refine aw_seq ?_
    (refine aw_ops (by kernel_rfl) (fun K hK => ?_); simp (disch := first | omega | (simp only [lnS]; try omega; done)) [-getElem?_pos, -getElem?_neg]; refine hK _ _ ?_; clear hK K)
    (refine aw_ret ?_; simp (disch := first | omega | (simp only [lnS]; try omega; done)) [-getElem?_pos, -getElem?_neg, thenQ_ret, scopeQ_ret, inBlockQ_ret, RQ, resL, resV])
    exact AddQ.bad (hn ▸ lw) (by unfold addE; rw [h1, h2, h3, if_neg (by simp), if_neg (by simp), if_neg (by simp), if_pos h4]) (by decide)
  have h4n : l.length < 96 := by omega
  have h4i : ¬ (l.length : Int) = 96 := by omega
  (refine aw_ops (by kernel_rfl) (fun K hK => ?_); simp (disch := first | omega | (simp only [lnS]; try omega; done)) [-getElem?_pos, -getElem?_neg, -notTuple, hnt, hvc, nt_intG, -xlen, hxl, h4i]; refine hK _ _ ?_; clear hK K)
  refine aw_f (by (first | (simp [eval_tmp, put_at]; done) | (simp [eval_tmp, put_at]; omega))) (by kernel_rfl) ?_
  refine aw_skip ?_
  have hP := hOG.parents
  have hP4 := val_nt hP
  have hps := rightO_sm h2
  have c2 := hOG.c2
  have hpk : ∀ k ∈ o.parents, k.length = 32 := fun k hk => (hw.parents k hk).1
  have rp := (pastF_rc (γ := γ) hNG hl hP hpk (by simp only [maxLen]; omega)).thaw (nro := n) (fun v H' h => ⟨h.1.2, h.1.1⟩)
  refine aw_seq ?_
  refine aw_ops (by kernel_rfl) (fun K hK => ?_)
  simp (disch := first | omega | (simp only [lnS]; try omega; done)) [-getElem?_pos, -getElem?_neg, b5, hul, c2, -notTuple, hnt, hvc, hP4.1, hP4.2, nt_intG, nt_aggG]
  refine ⟨by kernel_rfl, rp.mono ?_⟩
  rintro v1 G1 ⟨hlow1, ⟨hall, sv, F, rfl, hown, hF⟩ | ⟨hall, rfl⟩⟩
  case inr =>
    simp (disch := first | omega | (simp only [lnS]; try omega; done)) [-getElem?_pos, -getElem?_neg]
    refine hK _ _ ?_; clear hK K
    refine aw_seq ?_
    refine aw_seq ?_
    (refine aw_ops (by kernel_rfl) (fun K hK => ?_); simp (disch := first | omega | (simp only [lnS]; try omega; done)) [-getElem?_pos, -getElem?_neg]; refine hK _ _ ?_; clear hK K)
    refine aw_t (by (first | (simp [eval_tmp, put_at]; done) | (simp [eval_tmp, put_at]; omega))) (by kernel_rfl) ?_
    refine aw_seq ?_
    (refine aw_ops (by kernel_rfl) (fun K hK => ?_); simp (disch := first | omega | (simp only [lnS]; try omega; done)) [-getElem?_pos, -getElem?_neg]; refine hK _ _ ?_; clear hK K)
    (refine aw_ret ?_; simp (disch := first | omega | (simp only [lnS]; try omega; done)) [-getElem?_pos, -getElem?_neg, thenQ_ret, scopeQ_ret, inBlockQ_ret, RQ, resL, resV])
    exact AddQ.bad ⟨fun j hj => (hlow1.1 j (by have := lw.2; omega)).trans (lw.1 j (by omega)), by have := hlow1.2; have := lw.2; omega⟩ (by simp [addE, h1, h2, h3, h4, hall]) (by decide)
  obtain ⟨v1, v2⟩ := own_nt hown
  have hFn : ∀ j ∈ F, n + 2 ≤ j := fun j hj => by have := hF j hj; omega
  clear hF
  simp (disch := first | omega | (simp only [lnS]; try omega; done)) [-getElem?_pos, -getElem?_neg, -notTuple, v1, v2, nt_intG]
  refine hK _ _ ?_; clear hK K
  refine aw_seq ?_
  refine aw_seq ?_
  (refine aw_ops (by kernel_rfl) (fun K hK => ?_); simp (disch := first | omega | (simp only [lnS]; try omega; done)) [-getElem?_pos, -getElem?_neg]; refine hK _ _ ?_; clear hK K)
  refine aw_f (by (first | (simp [eval_tmp, put_at]; done) | (simp [eval_tmp, put_at]; omega))) (by kernel_rfl) ?_
  refine aw_skip ?_
  have hPl := pastL_length l l.length o.parents
  have hPb : ∀ z ∈ pastL l l.length o.parents, ∃ k : Nat, z = k ∧ k < l.length := fun z hz => by
    obtain ⟨k, e, hk, _⟩ := pastL_bd hz
    exact ⟨k, e, hk⟩
  have hseq : seqOk l o = (!(decide (o.kind = 1) && decide (0 < l.length)) && (decide (o.seq = 1 + (aheadL l (pastL l l.length o.parents) o.author : Nat)) && decide (aheadL l (pastL l l.length o.parents) o.author = autN l l.length o.author))) := rfl
  have hle : addE l id o = if seqOk l o = false then 15 else 0 := by unfold addE; rw [h1, h2, h3, hall, if_neg (by simp), if_neg (by simp), if_neg (by simp), if_neg h4, if_neg (by simp)]
  have hInv := own_inv hown
  have hacc := hInv.acc
  have hdd : addD l id o = ⟨id, o, pastL l l.length o.parents⟩ := rfl
  obtain ⟨P, hPe⟩ : ∃ P, P = pastL l l.length o.parents := ⟨_, rfl⟩
  rw [← hPe] at hPl hPb hown hInv hacc hseq hdd
  have hlowG1 : Low n H G1 := ⟨fun j hj => (hlow1.1 j (by omega)).trans (lw.1 j (by omega)), by have := hlow1.2; omega⟩
  have hNG1 := hN.lowG (hn ▸ hlowG1)
  have d4 := (hlow1.1 n (by omega)).trans b4
  have d5 := (hlow1.1 (n + 1) (by omega)).trans b5
  have hOG1 : OpC G1 us o pv wv bv := hOG.low hlow1.1
  have hat := hNG1.at_
  have ca := hOG1.c0
  have hlG1 : n + 2 ≤ G1.length := by have := hlow1.2; omega
  refine aw_seq ?_
  (refine aw_ops (by kernel_rfl) (fun K hK => ?_); simp (disch := first | omega | (simp only [lnS]; try omega; done)) [-getElem?_pos, -getElem?_neg]; refine hK _ _ ?_; clear hK K)
  refine aw_seq ?_
  refine aw_seq ?_
  (refine aw_ops (by kernel_rfl) (fun K hK => ?_); simp (disch := first | omega | (simp only [lnS]; try omega; done)) [-getElem?_pos, -getElem?_neg, -notTuple, v1, v2, nt_intG, -xlen, hacc.len]; refine hK _ _ ?_; clear hK K)
  refine aw_block ?_
  refine aw_loop (fun c α G => ∃ e : Nat, e + c = P.length ∧ G = G1 ∧ α 0 = nv ∧ α 4 = .pointer (some ⟨n, 0, none⟩) ∧ α 5 = .pointer (some ⟨n + 1, 0, none⟩) ∧ α 8 = sv ∧ α 10 = .int .i64 (aheadL l (P.take e) o.author : Nat) ∧ α 39 = sv ∧ α 40 = .int .i64 (P.length : Nat) ∧ α 41 = .int .i64 (e : Nat)) P.length ?_ ?_
  · exact ⟨0, by omega, rfl, by (first | (simp [put_at, put_none, fr0_at]; done) | rfl), by (first | (simp [put_at, put_none, fr0_at]; done) | rfl), by (first | (simp [put_at, put_none, fr0_at]; done) | rfl), by (first | (simp [put_at, put_none, fr0_at]; done) | rfl), by (first | (simp [put_at, put_none, fr0_at]; done) | rfl), by (first | (simp [put_at, put_none, fr0_at]; done) | rfl), by (first | (simp [put_at, put_none, fr0_at]; done) | rfl), by (first | (simp [put_at, put_none, fr0_at]; done) | rfl)⟩
  rintro c α G2 ⟨e, hec, rfl, q0, q4, q5, q8, q10, q39, q40, q41⟩
  refine aw_seq ?_
  by_cases he : e < P.length
  case pos =>
    obtain ⟨p2, x2, p21, p22, p23, p24, p25⟩ := hacc.at_ e he
    subst p24
    obtain ⟨z, hz⟩ : ∃ z, z = P.getD e 0 := ⟨_, rfl⟩
    rw [← hz] at p25
    have hze : P[e]? = some z := by rw [hz, List.getD_eq_getElem?_getD, List.getElem?_eq_getElem he]; rfl
    have hsu := aheadL_succ (l := l) o.author hze
    have hal := aheadL_le l (P.take e) o.author
    rw [List.length_take] at hal
    have p25 := p25 G2 (Low.refl (Nat.le_refl _))
    obtain ⟨kz, rfl, hkz⟩ := hPb z (List.mem_of_getElem? hze)
    rw [Int.toNat_natCast] at hsu
    obtain ⟨j, q, bb, ws, pv', wv', bv', qv', hx, hbb, hq, hcell, hws, hC⟩ := hat kz _ (nd_get hkz)
    have cz : bb.cells[q + 32]? = some (.int .i64 (nd l kz).op.author) := by
      have := hC.op.c0
      rw [List.getElem?_take_of_lt (by omega), List.getElem?_drop] at this
      exact (hcell 32 (by omega)).trans this
    (refine aw_ops (by kernel_rfl) (fun K hK => ?_); simp (disch := first | omega | (simp only [lnS]; try omega; done)) [-getElem?_pos, -getElem?_neg, q40, q41, he]; refine hK _ _ ?_; clear hK K)
    refine aw_seq ?_
    refine aw_t (by (first | (simp [eval_tmp, put_at, he]; done) | (simp [eval_tmp, put_at, he]; omega))) (by kernel_rfl) ?_
    refine aw_skip ?_
    refine aw_seq ?_
    refine aw_block ?_
    refine aw_seq ?_
    (refine aw_ops (by kernel_rfl) (fun K hK => ?_); simp (disch := first | omega | (simp only [lnS]; try omega; done)) [-getElem?_pos, -getElem?_neg, q39, q41, -notTuple, v1, v2, p21, nt_intG, -xindexAddr, p22, -xload, p25]; refine hK _ _ ?_; clear hK K)
    refine aw_seq ?_
    obtain ⟨x, hxa⟩ : ∃ x, x = (nd l kz).op.author := ⟨_, rfl⟩
    rw [← hxa] at cz hsu
    by_cases hxz : x = o.author
    · have hxb : (x == o.author) = true := by simp [hxz]
      rw [if_pos hxz] at hsu
      (refine aw_plan [] [] [0, 1, 2, 3, 4, 5, 6, 7, 8] 9 0 (by kernel_rfl) (by kernel_rfl) (by kernel_rfl) (fun K hK => ?_)); simp only [sel, List.getElem?_cons_succ, List.getElem?_cons_zero, List.drop_succ_cons, List.drop_zero]; simp (disch := first | omega | (simp only [lnS]; try omega; done)) [-getElem?_pos, -getElem?_neg, q0, q5, -notTuple, hnt, hvc, nt_intG, nt_ptrG, -xindexAddr, hx, hbb, cz, d5, ca, hxz, hxb, PL_nil, plainB_lit, PL_cons, PLc_val, PLc_new, stepP_t, stepP_f, stepPC_n, stepPC_s, stepPX_s, stepPX_n, stepPV_n, stepPV_s, stepPA_t, stepPA_c, stepPA_l, stepPN_s, allocOp, reloc_sl, reloc_ptr, List.map_cons, List.map_nil, List.nil_append, List.append_assoc, List.cons_append, Nat.add_assoc]
      refine hK _ _ ?_; clear hK K
      refine aw_t (by (first | (simp [eval_tmp, put_at, hxz, hxb]; done) | (simp [eval_tmp, put_at, hxz, hxb]; omega))) (by kernel_rfl) ?_
      (refine aw_ops (by kernel_rfl) (fun K hK => ?_); simp (disch := first | omega | (simp only [lnS]; try omega; done)) [-getElem?_pos, -getElem?_neg, q10]; refine hK _ _ ?_; clear hK K)
      (refine aw_ops (by kernel_rfl) (fun K hK => ?_); simp (disch := first | omega | (simp only [lnS]; try omega; done)) [-getElem?_pos, -getElem?_neg, q41]; refine hK _ _ ?_; clear hK K)
      exact ⟨c - 1, by omega, e + 1, by omega, rfl, by (first | (simp [put_at, put_none, fr0_at, q0]; done) | rfl), by (first | (simp [put_at, put_none, fr0_at, q4]; done) | rfl), by (first | (simp [put_at, put_none, fr0_at, q5]; done) | rfl), by (first | (simp [put_at, put_none, fr0_at, q8]; done) | rfl), by rw [hsu]; (first | (simp [put_at, put_none, fr0_at]; done) | rfl), by (first | (simp [put_at, put_none, fr0_at, q39]; done) | rfl), by (first | (simp [put_at, put_none, fr0_at, q40]; done) | rfl), by (first | (simp [put_at, put_none, fr0_at]; done) | rfl)⟩
    · have hxb : (x == o.author) = false := by simp [hxz]
      rw [if_neg hxz] at hsu
      (refine aw_plan [] [] [0, 1, 2, 3, 4, 5, 6, 7, 8] 9 0 (by kernel_rfl) (by kernel_rfl) (by kernel_rfl) (fun K hK => ?_)); simp only [sel, List.getElem?_cons_succ, List.getElem?_cons_zero, List.drop_succ_cons, List.drop_zero]; simp (disch := first | omega | (simp only [lnS]; try omega; done)) [-getElem?_pos, -getElem?_neg, q0, q5, -notTuple, hnt, hvc, nt_intG, nt_ptrG, -xindexAddr, hx, hbb, cz, d5, ca, hxz, hxb, PL_nil, plainB_lit, PL_cons, PLc_val, PLc_new, stepP_t, stepP_f, stepPC_n, stepPC_s, stepPX_s, stepPX_n, stepPV_n, stepPV_s, stepPA_t, stepPA_c, stepPA_l, stepPN_s, allocOp, reloc_sl, reloc_ptr, List.map_cons, List.map_nil, List.nil_append, List.append_assoc, List.cons_append, Nat.add_assoc]
      refine hK _ _ ?_; clear hK K
      refine aw_f (by (first | (simp [eval_tmp, put_at, hxz, hxb]; done) | (simp [eval_tmp, put_at, hxz, hxb]; omega))) (by kernel_rfl) ?_
      refine aw_skip ?_
      (refine aw_ops (by kernel_rfl) (fun K hK => ?_); simp (disch := first | omega | (simp only [lnS]; try omega; done)) [-getElem?_pos, -getElem?_neg, q41]; refine hK _ _ ?_; clear hK K)
      exact ⟨c - 1, by omega, e + 1, by omega, rfl, by (first | (simp [put_at, put_none, fr0_at, q0]; done) | rfl), by (first | (simp [put_at, put_none, fr0_at, q4]; done) | rfl), by (first | (simp [put_at, put_none, fr0_at, q5]; done) | rfl), by (first | (simp [put_at, put_none, fr0_at, q8]; done) | rfl), by rw [hsu]; (first | (simp [put_at, put_none, fr0_at, q10]; done) | rfl), by (first | (simp [put_at, put_none, fr0_at, q39]; done) | rfl), by (first | (simp [put_at, put_none, fr0_at, q40]; done) | rfl), by (first | (simp [put_at, put_none, fr0_at]; done) | rfl)⟩
  (refine aw_ops (by kernel_rfl) (fun K hK => ?_); simp (disch := first | omega | (simp only [lnS]; try omega; done)) [-getElem?_pos, -getElem?_neg, q40, q41, he]; refine hK _ _ ?_; clear hK K)
  refine aw_seq ?_
  refine aw_f (by (first | (simp [eval_tmp, put_at, he]; done) | (simp [eval_tmp, put_at, he]; omega))) (by kernel_rfl) ?_
  refine aw_exit ?_
  obtain rfl : e = P.length := by omega
  rw [List.take_length] at q10
  have c3 := hOG1.c3
  have c1 := hOG1.c1
  have hsq := hw.seq
  unfold U32 at hsq
  have hal := aheadL_le l P o.author
  have rc := count_rc (γ := γ) hNG1 (by simp only [maxLen]; omega) o.author
  have hcl := autN_le l l.length o.author
  generalize aheadL l P o.author = ah at *
  generalize autN l l.length o.author = cn at *
  refine aw_seq ?_
  refine aw_seq ?_
  refine aw_cut (fun α G => α 81 = .bool (!seqOk l o) ∧ α 0 = nv ∧ α 4 = .pointer (some ⟨n, 0, none⟩) ∧ α 5 = .pointer (some ⟨n + 1, 0, none⟩) ∧ α 8 = sv ∧ G = G2) ?_ ?_
  · by_cases hk : o.kind = 1
    · by_cases h0 : 0 < l.length
      · (refine aw_ops (by kernel_rfl) (fun K hK => ?_); simp (disch := first | omega | (simp only [lnS]; try omega; done)) [-getElem?_pos, -getElem?_neg, q0, q5, q10, hk, h0, d5, c3, c1, ca, hul, -notTuple, hnt, hvc, nt_intG, nt_ptrG, -xlen, hxl]; refine hK _ _ ?_; clear hK K)
        exact ⟨by rw [hseq]; simp [hk, h0, put_at], by (first | (simp [put_at, put_none, fr0_at, q0]; done) | rfl), by (first | (simp [put_at, put_none, fr0_at, q4]; done) | rfl), by (first | (simp [put_at, put_none, fr0_at, q5]; done) | rfl), by (first | (simp [put_at, put_none, fr0_at, q8]; done) | rfl), rfl⟩
      · have h0e : l.length = 0 := by omega
        by_cases hs1 : o.seq = 1 + (ah : Int)
        · have hs2 : ¬ o.seq ≠ 1 + (ah : Int) := by omega
          have hs3 : (o.seq == 1 + (ah : Int)) = true := by simp [hs1]
          refine aw_ops (by kernel_rfl) (fun K hK => ?_)
          simp (disch := first | omega | (simp only [lnS]; try omega; done)) [-getElem?_pos, -getElem?_neg, q0, q5, q10, hk, h0, h0e, d5, c3, c1, ca, hul, -notTuple, hnt, hvc, nt_intG, nt_ptrG, -xlen, hxl, hs1, hs3]
          refine ⟨by kernel_rfl, ac_of_rc rc (by simp [pv_iv, pv_int, pv_bool, pv_string, pv_tup2, pv_tup3, iv_plain, p2_int, p2_bool, p2_string]) ?_⟩
          by_cases hcn : ah = cn
          · have hcb : ((ah : Int) == (cn : Int)) = true := by simp [hcn]
            have hci : (ah : Int) = (cn : Int) := by omega
            try simp (disch := first | omega | (simp only [lnS]; try omega; done)) [-getElem?_pos, -getElem?_neg, hcb, hci]
            refine hK _ _ ?_; clear hK K
            refine ⟨by rw [hseq]; simp [hk, h0, h0e, hs1, hcn, put_at], by (first | (simp [put_at, put_none, fr0_at, q0]; done) | rfl), by (first | (simp [put_at, put_none, fr0_at, q4]; done) | rfl), by (first | (simp [put_at, put_none, fr0_at, q5]; done) | rfl), by (first | (simp [put_at, put_none, fr0_at, q8]; done) | rfl), rfl⟩
          · have hci : ¬ (ah : Int) = (cn : Int) := by omega
            have hcb : ((ah : Int) == (cn : Int)) = false := by simp [hci]
            try simp (disch := first | omega | (simp only [lnS]; try omega; done)) [-getElem?_pos, -getElem?_neg, hcb, hci]
            refine hK _ _ ?_; clear hK K
            refine ⟨by rw [hseq]; simp [hci, hk, h0, h0e, hs1, hcn, put_at], by (first | (simp [put_at, put_none, fr0_at, q0]; done) | rfl), by (first | (simp [put_at, put_none, fr0_at, q4]; done) | rfl), by (first | (simp [put_at, put_none, fr0_at, q5]; done) | rfl), by (first | (simp [put_at, put_none, fr0_at, q8]; done) | rfl), rfl⟩
        · have hs3 : (o.seq == 1 + (ah : Int)) = false := by simp [hs1]
          (refine aw_ops (by kernel_rfl) (fun K hK => ?_); simp (disch := first | omega | (simp only [lnS]; try omega; done)) [-getElem?_pos, -getElem?_neg, q0, q5, q10, hk, h0, h0e, d5, c3, c1, ca, hul, -notTuple, hnt, hvc, nt_intG, nt_ptrG, -xlen, hxl, hs1, hs3]; refine hK _ _ ?_; clear hK K)
          refine ⟨by rw [hseq]; simp [hk, h0, h0e, hs1, put_at], by (first | (simp [put_at, put_none, fr0_at, q0]; done) | rfl), by (first | (simp [put_at, put_none, fr0_at, q4]; done) | rfl), by (first | (simp [put_at, put_none, fr0_at, q5]; done) | rfl), by (first | (simp [put_at, put_none, fr0_at, q8]; done) | rfl), rfl⟩
    · have hkb : (o.kind == 1) = false := by simp [hk]
      by_cases hs1 : o.seq = 1 + (ah : Int)
      · have hs2 : ¬ o.seq ≠ 1 + (ah : Int) := by omega
        have hs3 : (o.seq == 1 + (ah : Int)) = true := by simp [hs1]
        refine aw_ops (by kernel_rfl) (fun K hK => ?_)
        simp (disch := first | omega | (simp only [lnS]; try omega; done)) [-getElem?_pos, -getElem?_neg, q0, q5, q10, hk, hkb, d5, c3, c1, ca, hul, -notTuple, hnt, hvc, nt_intG, nt_ptrG, -xlen, hxl, hs1, hs3]
        refine ⟨by kernel_rfl, ac_of_rc rc (by simp [pv_iv, pv_int, pv_bool, pv_string, pv_tup2, pv_tup3, iv_plain, p2_int, p2_bool, p2_string]) ?_⟩
        by_cases hcn : ah = cn
        · have hcb : ((ah : Int) == (cn : Int)) = true := by simp [hcn]
          have hci : (ah : Int) = (cn : Int) := by omega
          try simp (disch := first | omega | (simp only [lnS]; try omega; done)) [-getElem?_pos, -getElem?_neg, hcb, hci]
          refine hK _ _ ?_; clear hK K
          refine ⟨by rw [hseq]; simp [hk, hkb, hs1, hcn, put_at], by (first | (simp [put_at, put_none, fr0_at, q0]; done) | rfl), by (first | (simp [put_at, put_none, fr0_at, q4]; done) | rfl), by (first | (simp [put_at, put_none, fr0_at, q5]; done) | rfl), by (first | (simp [put_at, put_none, fr0_at, q8]; done) | rfl), rfl⟩
        · have hci : ¬ (ah : Int) = (cn : Int) := by omega
          have hcb : ((ah : Int) == (cn : Int)) = false := by simp [hci]
          try simp (disch := first | omega | (simp only [lnS]; try omega; done)) [-getElem?_pos, -getElem?_neg, hcb, hci]
          refine hK _ _ ?_; clear hK K
          refine ⟨by rw [hseq]; simp [hci, hk, hkb, hs1, hcn, put_at], by (first | (simp [put_at, put_none, fr0_at, q0]; done) | rfl), by (first | (simp [put_at, put_none, fr0_at, q4]; done) | rfl), by (first | (simp [put_at, put_none, fr0_at, q5]; done) | rfl), by (first | (simp [put_at, put_none, fr0_at, q8]; done) | rfl), rfl⟩
      · have hs3 : (o.seq == 1 + (ah : Int)) = false := by simp [hs1]
        (refine aw_ops (by kernel_rfl) (fun K hK => ?_); simp (disch := first | omega | (simp only [lnS]; try omega; done)) [-getElem?_pos, -getElem?_neg, q0, q5, q10, hk, hkb, d5, c3, c1, ca, hul, -notTuple, hnt, hvc, nt_intG, nt_ptrG, -xlen, hxl, hs1, hs3]; refine hK _ _ ?_; clear hK K)
        refine ⟨by rw [hseq]; simp [hk, hkb, hs1, put_at], by (first | (simp [put_at, put_none, fr0_at, q0]; done) | rfl), by (first | (simp [put_at, put_none, fr0_at, q4]; done) | rfl), by (first | (simp [put_at, put_none, fr0_at, q5]; done) | rfl), by (first | (simp [put_at, put_none, fr0_at, q8]; done) | rfl), rfl⟩
  clear q0 q4 q5 q8 q10 q39 q40 q41
  rintro α G3 ⟨q81, q0, q4, q5, q8, rfl⟩
  cases hso : seqOk l o with
  | false =>
    rw [hso] at q81
    refine aw_t (by (first | (simp [eval_tmp, put_at, q81]; done) | (simp [eval_tmp, put_at, q81]; omega))) (by kernel_rfl) ?_
    refine aw_seq ?_
    (refine aw_ops (by kernel_rfl) (fun K hK => ?_); simp (disch := first | omega | (simp only [lnS]; try omega; done)) [-getElem?_pos, -getElem?_neg]; refine hK _ _ ?_; clear hK K)
    (refine aw_ret ?_; simp (disch := first | omega | (simp only [lnS]; try omega; done)) [-getElem?_pos, -getElem?_neg, thenQ_ret, scopeQ_ret, inBlockQ_ret, RQ, resL, resV])
    exact AddQ.bad (hn ▸ hlowG1) (by rw [hle, if_pos hso]) (by decide)
  | true =>
  rw [hso] at q81
  refine aw_f (by (first | (simp [eval_tmp, put_at, q81]; done) | (simp [eval_tmp, put_at, q81]; omega))) (by kernel_rfl) ?_
  refine aw_skip ?_
  refine aw_seq ?_
  have hadd0 : addE l id o = 0 := by rw [hle, if_neg (by simp [hso])]
  obtain ⟨L0, hL0⟩ : ∃ k, k = G3.length := ⟨_, rfl⟩
  obtain ⟨N, hcN⟩ := deepNodes_ac (nro := n) (γ := γ) hNG1 (by omega) (right_sm h1) (by omega)
  rw [← hL0] at hcN
  have hxw : (addD l id o).Wf := by
    rw [hdd]
    refine ⟨hid, hw, fun z hz => ?_, by simp only [maxLen]; omega⟩
    obtain ⟨k, rfl, hk⟩ := hPb z hz
    unfold I64
    omega
  have hcO : ∀ A : AH, A.length = N → Low L0 G3 A → AC Try.prog n γ 55 #[.agg us.toArray] A (DeepO A o pv wv bv) := fun A hA hlow => deepOp_ac (nro := n) (γ := γ) (hOG1.low (fun j hj => hlow.1 j (by omega))) hw ⟨by omega, by omega, by omega⟩ (by have := hlow.2; omega)
  unfold DeepO at hcO
  have hbl := build_node (x := addD l id o) (pv := opP pv N) (wv := opW pv wv N) (bv := opB pv wv bv N) hxw v1 v2
  have hrl := nodeRow_len hxw (opP pv N) (opW pv wv N) (opB pv wv bv N) sv
  have hrv : ∀ D : AH, KsV D (opP pv N) o.parents → InV D (opW pv wv N) o.who → BxV D (opB pv wv bv N) o.boxes → InV D sv P → ValL D (addD l id o).row (nodeRow (addD l id o) (opP pv N) (opW pv wv N) (opB pv wv bv N) sv) := fun D k1 k2 k3 k4 => by
    have : (addD l id o).past = P := by rw [hdd]
    exact node_val (x := addD l id o) k1 k2 k3 (by rw [this]; exact k4)
  have hxid : (addD l id o).id = id := rfl
  have hxop : (addD l id o).op = o := rfl
  rw [hxid, hxop] at hbl
  obtain ⟨ov, hov⟩ : ∃ ov, ov = opRow o (opP pv N) (opW pv wv N) (opB pv wv bv N) := ⟨_, rfl⟩
  have hovl := opRow_len hw (opP pv N) (opW pv wv N) (opB pv wv bv N)
  rw [← hov] at hbl hovl
  have hwfx : ∀ x ∈ l ++ [addD l id o], x.Wf := fun x hx => by
    rcases List.mem_append.1 hx with hx | hx
    · exact hN.wf x hx
    · rw [List.mem_singleton] at hx; subst hx; exact hxw
  obtain ⟨row, hrow⟩ : ∃ r, r = nodeRow (addD l id o) (opP pv N) (opW pv wv N) (opB pv wv bv N) sv := ⟨_, rfl⟩
  rw [← hrow] at hbl hrl hrv
  have hown0 := hown
  have hFl := hown.lt
  obtain ⟨N2, hN2⟩ : ∃ k, k = N + opN pv wv bv := ⟨_, rfl⟩
  obtain ⟨Φ, e0, e1, e2, e3, e4, eS⟩ : ∃ Φ : Nat → AH → Prop, (∀ A, Φ 0 A ↔ A = G3) ∧ (∀ A, Φ 1 A ↔ (A.length = N ∧ Low L0 G3 A ∧ ∃ R, NewRows (L0 + 1) A R l ∧ hget A L0 = some ⟨R.flatten, 39, some 104⟩)) ∧
      (∀ A, Φ 2 A ↔ (A.length = N2 ∧ Low L0 G3 A ∧ L0 < N ∧ NewO N A o (opP pv N) (opW pv wv N) (opB pv wv bv N) ∧ ∃ R, NewRows (L0 + 1) A R l ∧ hget A L0 = some ⟨R.flatten, 39, some 104⟩)) ∧
      (∀ A, Φ 3 A ↔ ∃ B, Φ 2 B ∧ A = B ++ [some ⟨row, 39, some 104⟩]) ∧ (∀ A, Φ 4 A ↔ (Low L0 G3 A ∧ NewG n A (.slice (some ⟨N2 + 1, 0, none⟩) (l.length + 1) (l.length + 1)) (l ++ [addD l id o]))) ∧ (∀ s A, Φ s A → Low L0 G3 A) := by
    refine ⟨fun s A => match s with
      | 0 => A = G3
      | 1 => A.length = N ∧ Low L0 G3 A ∧ ∃ R, NewRows (L0 + 1) A R l ∧ hget A L0 = some ⟨R.flatten, 39, some 104⟩
      | 2 => A.length = N2 ∧ Low L0 G3 A ∧ L0 < N ∧ NewO N A o (opP pv N) (opW pv wv N) (opB pv wv bv N) ∧ ∃ R, NewRows (L0 + 1) A R l ∧ hget A L0 = some ⟨R.flatten, 39, some 104⟩
      | 3 => ∃ B : AH, (B.length = N2 ∧ Low L0 G3 B ∧ L0 < N ∧ NewO N B o (opP pv N) (opW pv wv N) (opB pv wv bv N) ∧ ∃ R, NewRows (L0 + 1) B R l ∧ hget B L0 = some ⟨R.flatten, 39, some 104⟩) ∧ A = B ++ [some ⟨row, 39, some 104⟩]
      | _ => Low L0 G3 A ∧ NewG n A (.slice (some ⟨N2 + 1, 0, none⟩) (l.length + 1) (l.length + 1)) (l ++ [addD l id o]), fun _ => Iff.rfl, fun _ => Iff.rfl, fun _ => Iff.rfl, fun _ => Iff.rfl, fun _ => Iff.rfl, fun s A h => ?_⟩
    match s, h with
    | 0, h => cases h; rw [hL0]; exact Low.refl (Nat.le_refl _)
    | 1, h => exact h.2.1
    | 2, h => exact h.2.1
    | 3, ⟨B, h, hA⟩ => rw [hA]; exact ⟨fun j hj => (hget_left (by have := h.2.1.2; omega)).trans (h.2.1.1 j hj), by have := h.2.1.2; rw [List.length_append]; omega⟩
    | s + 4, h => exact h.1
  refine aw_chain (fun j => j == n || j == n + 1) Φ (by kernel_rfl) (by kernel_rfl) (by kernel_rfl) (fun s A h j hj => by
    have e : j = n ∨ j = n + 1 := by simpa using hj
    exact (eS s A h).1 j (by omega)) ((e0 _).2 rfl) (fun K hK => ?_)
  simp (disch := first | omega | (simp only [lnS]; try omega; done)) [-getElem?_pos, -getElem?_neg, q0, q4, q5, q8, d4, d5, hivl, hta, hul, htu, -notTuple, hnt, hvc, v1, v2, nt_intG, nt_aggG, nt_slG, CL_nil, CL_cons, CLc_val, CLc_skip, memS, inS, inSp, isCallF, effF]
  refine CLc_call (v := .slice (some ⟨L0, 0, none⟩) l.length l.length) (by kernel_rfl) (fun A hA => ?_) ?_
  · obtain rfl := (e0 _).1 hA
    exact hcN.mono fun v' A' h => ⟨h.1, (e1 _).2 h.2⟩
  try simp (disch := first | omega | (simp only [lnS]; try omega; done)) [-getElem?_pos, -getElem?_neg, q0, q4, q5, q8, d4, d5, hivl, hta, hul, htu, -notTuple, hnt, hvc, v1, v2, nt_intG, nt_aggG, nt_slG, CL_nil, CL_cons, CLc_val, CLc_skip, memS, inS, inSp, isCallF, effF]
  refine CLc_call (v := .agg ov.toArray) (by kernel_rfl) (fun A hA => ?_) ?_
  · obtain ⟨g1, g2, R, g3, g4⟩ := (e1 _).1 hA
    refine (hcO A g1 g2).mono ?_
    rintro v' A' ⟨k1, k2, k3, k4⟩
    rw [g1] at k1 k2 k3 k4
    have hL0A := hget_lt g4
    refine ⟨by rw [hov]; exact k1, (e2 _).2 ⟨by omega, ⟨fun j hj => (k3.1 j (by omega)).trans (g2.1 j hj), by have := k3.2; omega⟩, by omega, k4, R, g3.keep (fun j _ hj => k3.1 j (by omega)) (by have := k3.2; omega), (k3.1 L0 (by omega)).trans g4⟩⟩
  try simp (disch := first | omega | (simp only [lnS]; try omega; done)) [-getElem?_pos, -getElem?_neg, q0, q4, q5, q8, d4, d5, hivl, hta, hul, htu, -notTuple, hnt, hvc, v1, v2, nt_intG, nt_aggG, nt_slG, -xbuild, hbl, CL_nil, CL_cons, CLc_val, CLc_skip, memS, inS, inSp, isCallF, effF]
  have hfil : ∀ Z : List Value, Z.length = 104 → xfill (fun i => some (i * 104, 104)) Z [(0, .agg row.toArray)] = some row := fun Z hZ => fill_row hrl hZ
  have hp0 : plain1 (.slice none 0 0) = true := rfl
  refine CLc_eff (v := .slice (some ⟨N2, 0, none⟩) 1 1) (fun A hA => ?_) ?_
  · have hA' := (e2 _).1 hA
    refine ⟨A ++ [some ⟨row, 39, some 104⟩], ?_, (e3 _).2 ⟨A, hA, rfl⟩⟩
    have g1 := hA'.1
    simp (disch := first | omega | (simp only [lnS]; try omega; done)) [-getElem?_pos, -getElem?_neg, -xfill, nt_aggG, hp0, all_zl, g1]
    rw [hfil _ (by simp)]
  try simp (disch := first | omega | (simp only [lnS]; try omega; done)) [-getElem?_pos, -getElem?_neg, CL_nil, CL_cons, CLc_val, CLc_skip, memS, inS, inSp, isCallF, effF]
  refine CLc_eff (v := .slice (some ⟨N2 + 1, 0, none⟩) (l.length + 1) (l.length + 1)) (fun A hA => ?_) ?_
  · obtain ⟨B, hB, rfl⟩ := (e3 _).1 hA
    obtain ⟨g1, g2, hLN, g3, R, g4, g5⟩ := (e2 _).1 hB
    have hL0B := hget_lt g5
    have hRl := fl_len g4.len
    rw [g4.1] at hRl
    have htr : List.take 104 row = row := List.take_of_length_le (by omega)
    have hxc : xcells 104 (.slice (some ⟨N2, 0, none⟩) 1 1) (B ++ [some ⟨row, 39, some 104⟩]) = some row := by rw [← g1]; simp [xcells, hget_app0, hrl, htr]
    obtain ⟨v', H', hap, ho, hl', hk'⟩ := ownF_append (P := Try.prog) (nro := n) (t := 22) (e := 39) (H := B ++ ([some ⟨row, 39, some 104⟩] : AH)) (v := .slice (some ⟨L0, 0, none⟩) l.length l.length) (x := .slice (some ⟨N2, 0, none⟩) 1 1) (sz := 104) (cells := R.flatten) (news := row) (F := [L0]) (by simp) (by simp) (by omega) (by simp) (.inr ⟨L0, l.length, rfl, hget_left' g5, hRl, rfl⟩)
      (fun j hj => by simp at hj; omega) (fun s e => by cases e) hxc (fun e => by rw [e] at hrl; simp at hrl) (by rw [hrl]) (by rw [hRl, hrl]; simp; omega) (by rw [hRl, hrl]; simp only [maxLen]; omega)
    have hBl : (B ++ ([some ⟨row, 39, some 104⟩] : AH)).length = N2 + 1 := by simp [g1]
    rw [hBl] at ho hl' hk'
    obtain ⟨len, rfl⟩ := ho.new
    have hlen : len = l.length + 1 := by
      rcases ho with ⟨h, _, _⟩ | ⟨i, k, he, _, h3, _⟩
      · cases h
      · cases he
        rw [List.length_append, hRl, hrl] at h3
        omega
    subst hlen
    have hnew : hget H' (N2 + 1) = some ⟨R.flatten ++ row, 39, some 104⟩ := by
      rcases ho with ⟨h, _, _⟩ | ⟨i, k, he, h2, _, _⟩
      · cases h
      · cases he; exact h2
    have hold : ∀ j, j < N2 → j ≠ L0 → hget H' j = hget B j := fun j hj hn => (hk' j (by omega) (by simpa using hn)).trans (hget_left (by omega))
    refine ⟨H', ?_, (e4 _).2 ⟨⟨fun j hj => (hold j (by omega) (by omega)).trans (g2.1 j hj), by omega⟩, fun D hD => ?_⟩⟩
    · simp (disch := first | omega | (simp only [lnS]; try omega; done)) [-getElem?_pos, -getElem?_neg, -xappend, hap]
    · have hD2 : ∀ j, n ≤ j → j < N2 → j ≠ L0 → hget D j = hget B j := fun j h1 h2 h3 => (hD j h1 (by omega)).trans (hold j h2 h3)
      obtain ⟨k1, k2, k3⟩ := g3 D (fun j h1 h2 => hD2 j (by omega) (by omega) (by omega))
      have ho2 := hown0.low (H' := D) (fun j hj => (hD2 j (by have := hFn j hj; omega) (by have := hFl j hj; omega) (by have := hFl j hj; omega)).trans (g2.1 j (by have := hFl j hj; omega)))
      have hrow2 := hrv D k1 k2 k3 (own_inv ho2)
      have hfin := rows_val (D := D) (b := N2 + 1) (T := 39) (es := some 104) (R := R ++ [row]) (L := l ++ [addD l id o]) (by rw [hD (N2 + 1) (by omega) (by omega), hnew]; simp) (by simp [g4.1]) hwfx (fun k us' x hk hx => by
        rcases Nat.lt_or_ge k l.length with hkl | hkl
        · rw [List.getElem?_append_left (by rw [g4.1]; exact hkl)] at hk
          rw [List.getElem?_append_left hkl] at hx
          have := g4.2 k us' x hk hx
          exact ⟨this.1, this.2 D (fun j h1 h2 => hD2 j (by omega) (by omega) (by omega))⟩
        · rw [List.getElem?_append_right (by rw [g4.1]; exact hkl), g4.1] at hk
          rw [List.getElem?_append_right hkl] at hx
          match k - l.length, hk, hx with
          | 0, hk, hx => cases hk; cases hx; exact ⟨hrl, hrow2⟩)
      rw [List.length_append] at hfin
      exact hfin
  try simp (disch := first | omega | (simp only [lnS]; try omega; done)) [-getElem?_pos, -getElem?_neg, CL_nil, CL_cons, CLc_val, CLc_skip, memS, inS, inSp, isCallF, effF]
  intro A hA
  obtain ⟨g1, g2⟩ := (e4 _).1 hA
  refine hK _ _ ?_; clear hK K
  (refine aw_ret ?_; simp (disch := first | omega | (simp only [lnS]; try omega; done)) [-getElem?_pos, -getElem?_neg, thenQ_ret, scopeQ_ret, inBlockQ_ret, RQ, resL, resV])
  refine ⟨⟨fun j hj => (g1.1 j (by omega)).trans (hlowG1.1 j (by omega)), by have := g1.2; omega⟩, _, by rw [hadd0], .inl ⟨hadd0, hn ▸ g2⟩⟩
end
section
theorem opC_row {G : AH} {o : OpD} {pv wv bv : Value} (hw : o.Wf) (h1 : KsV G pv o.parents) (h2 : InV G wv o.who) (h3 : BxV G bv o.boxes) : OpC G (opRow o pv wv bv) o pv wv bv := by
  obtain ⟨pv', wv', bv', h⟩ := op_c hw (op_val h1 h2 h3)
  have e2 := h.c2
  have e4 := h.c4
  have e70 := h.c70
  rw [opRow_2] at e2
  rw [opRow_4] at e4
  rw [opRow_70 hw] at e70
  cases e2; cases e4; cases e70
  exact h
def key1 (x : Int) : List Int := x :: zl 31
def opC1 (a s k : Int) (ps : List (List Int)) (who : List Int) : OpD := ⟨a, s, ps, k, who, zl 32, key1 1, ByteArray.empty, []⟩
theorem key1_32 (x : Int) : (key1 x).length = 32 := by simp [key1]
theorem key1_ok {x : Int} (h : 0 ≤ x ∧ x ≤ 255) : Key32 (key1 x) := ⟨key1_32 x, fun y hy => by
  rcases List.mem_cons.1 hy with rfl | hy
  · exact h
  · have : y = 0 := by
      unfold zl at hy
      exact (List.mem_replicate.1 hy).2
    omega⟩
theorem build_key (x : Int) : xbuild Try.prog 24 [(0, .int .u8 x)] = some (.agg (iv .u8 (key1 x)).toArray) := by
  kernel_rfl
theorem build_create (x : Int) (d : Addr) (n : Nat) : xbuild Try.prog 37 [(0, .int .i64 x), (1, .int .u32 1), (3, .int .i64 1), (4, .slice (some d) n n), (6, .agg (iv .u8 (key1 1)).toArray)] = some (.agg (opRow (opC1 x 1 1 [] []) (.slice none 0 0) (.slice (some d) n n) (.slice none 0 0)).toArray) := by kernel_rfl
theorem build_update (x s : Int) (d : Addr) (n : Nat) : xbuild Try.prog 37 [(0, .int .i64 x), (1, .int .u32 s), (3, .int .i64 4), (2, .slice (some d) n n), (6, .agg (iv .u8 (key1 1)).toArray)] = some (.agg (opRow (opC1 x s 4 [] []) (.slice (some d) n n) (.slice none 0 0) (.slice none 0 0)).toArray) := by kernel_rfl
/-- Parents and who don't stand in the row itself. -/
theorem opRow_c1 (a s k : Int) (ps : List (List Int)) (who : List Int) (pv wv bv : Value) : opRow (opC1 a s k [] []) pv wv bv = opRow (opC1 a s k ps who) pv wv bv := rfl
attribute [local simp] wb_bool wb_undef with_lit XL_nil XL_cons XLc_val XLc_call step1_eq stepW_t stepW_f stepC_n stepC_s stepX_s stepX_n stepN_s calleeX oneV xop_eq xopR_s xopR_n wantedA_eq wantedG_n wantedG_s plain1_int plain1_bool plain1_string bits_i64 bits_u64 bits_u32 bits_u16 bits_u8 xeqA xagg xcmp xarr allK_iv num_iv calleeOf xread xeff xbin xint xnil xun xstr xload xconv xpart xfield xfieldAddr xindexAddr xindex bnd asInt? xslice xlen xmin xmax xbuild xfill xappend xapp2 xappstr xappmk xcap xcopy xcells eval_tmp eval_const put_at put_none fr0_at cells_agg cells_int cells_bool cells_string cells_ptr cells_slice notTuple tab iv_all hget_app hget_app0 hget_cons0 hget_cons set_app set_app0 setR setR_one QL_nil QL_cons QLc_val stepQ_t stepQ_f stepQC_n stepQC_s stepQX_s SL_nil SL_cons SLc_val stepS_t stepS_f ltT ltF leT leF eqT eqF ltTn ltFn leTn leFn eqTn eqFn beqT beqF bneT bneF wi64 wu64 wu32 wu16 wu8 tmodP tdivP hgetL hgetNe hgetEq setL nums_def nums_len Nat.succ_le_of_lt List.getElem?_cons_zero List.getElem?_cons_succ Option.getD_some Int.toNat_add Int.toNat_mul agM okM agB agI agS agP agL agA okB okI okS okP okSl okA
theorem create_ac {nro : Nat} {γ : Nat → Option Nat} {H : AH} {d : Addr} {l : List Int} {a : Int} (h : InV H (.slice (some d) l.length l.length) l) (h0 : l[0]? = some a) (hnro : nro ≤ H.length) : AC Try.prog nro γ 29 #[.slice (some d) l.length l.length] H (fun v' H' => v' = .agg (opRow (opC1 a 1 1 [] l) (.slice none 0 0) (.slice (some d) l.length l.length) (.slice none 0 0)).toArray ∧ Low H.length H H') := by
  have hl0 := (List.getElem?_eq_some_iff.1 h0).1
  obtain ⟨p, x, p1, p2, p3, p4, p5⟩ := h.acc.at_ 0 hl0
  have ha : l.getD 0 0 = a := by rw [List.getD_eq_getElem?_getD, h0]; rfl
  rw [ha] at p4
  subst p4
  have hb := build_create a d l.length
  have hk := build_key 1
  rw [opRow_c1 a 1 1 [] l] at hb
  have hrl : (opRow (opC1 a 1 1 [] l) (.slice none 0 0) (.slice (some d) l.length l.length) (.slice none 0 0)).length = 71 := rfl
  generalize iv .u8 (key1 1) = kk at *
  generalize opRow (opC1 a 1 1 [] l) (.slice none 0 0) (.slice (some d) l.length l.length) (.slice none 0 0) = R at *
  have hset : ∀ Z : List Value, Z.length = 71 → setR Z 0 R = R := fun Z hZ => setR_all _ _ (by omega)
  have htk : R.take 71 = R := List.take_of_length_le (by omega)
  have p2 : xindexAddr Try.prog 34 (.slice (some d) l.length l.length) (.int .i64 0) = some p := p2
  refine ac_of_aw Try.func29 rfl Try.ntmps29 Try.results29 (by simp) ?_
  refine aw_seq ?_
  (refine aw_ops (by kernel_rfl) (fun K hK => ?_); simp (disch := first | omega | (simp only [lnS]; try omega; done)) [-getElem?_pos, -getElem?_neg, all_zl]; refine hK _ _ ?_; clear hK K)
  have p5 : ∀ B : Blk, xload Try.prog 3 p (H ++ [some B]) = some (.int .i64 a) := fun B => p5 _ (Low.push (Nat.le_refl _) _)
  refine aw_seq ?_
  refine aw_ops (by kernel_rfl) (fun K hK => ?_)
  simp (disch := first | omega | (simp only [lnS]; try omega; done)) [-getElem?_pos, -getElem?_neg, -xindexAddr, p2, p1, -xload, p5, -xbuild, hk, hb, nt_aggG, hrl, hset, hnro]
  refine hK _ _ ?_; clear hK K
  obtain ⟨hlow2, hb2⟩ := boxed (H := H) R 37
  generalize H ++ [some ⟨R, 37, none⟩] = G at *
  (refine aw_ret ?_; simp (disch := first | omega | (simp only [lnS]; try omega; done)) [-getElem?_pos, -getElem?_neg, thenQ_ret, scopeQ_ret, inBlockQ_ret, RQ, resL, resV, hb2, hrl, htk])
  exact hlow2
theorem update_ac {nro : Nat} {γ : Nat → Option Nat} {H : AH} {d : Addr} {ps : List (List Int)} {a s : Int} (hnro : nro ≤ H.length) : AC Try.prog nro γ 30 #[.int .i64 a, .int .u32 s, .slice (some d) ps.length ps.length] H (fun v' H' => v' = .agg (opRow (opC1 a s 4 ps []) (.slice (some d) ps.length ps.length) (.slice none 0 0) (.slice none 0 0)).toArray ∧ Low H.length H H') := by
  have hb := build_update a s d ps.length
  have hk := build_key 1
  rw [opRow_c1 a s 4 ps []] at hb
  have hrl : (opRow (opC1 a s 4 ps []) (.slice (some d) ps.length ps.length) (.slice none 0 0) (.slice none 0 0)).length = 71 := rfl
  generalize iv .u8 (key1 1) = kk at *
  generalize opRow (opC1 a s 4 ps []) (.slice (some d) ps.length ps.length) (.slice none 0 0) (.slice none 0 0) = R at *
  have hset : ∀ Z : List Value, Z.length = 71 → setR Z 0 R = R := fun Z hZ => setR_all _ _ (by omega)
  have htk : R.take 71 = R := List.take_of_length_le (by omega)
  refine ac_of_aw Try.func30 rfl Try.ntmps30 Try.results30 (by simp) ?_
  refine aw_seq ?_
  (refine aw_ops (by kernel_rfl) (fun K hK => ?_); simp (disch := first | omega | (simp only [lnS]; try omega; done)) [-getElem?_pos, -getElem?_neg, all_zl]; refine hK _ _ ?_; clear hK K)
  refine aw_seq ?_
  (refine aw_ops (by kernel_rfl) (fun K hK => ?_); simp (disch := first | omega | (simp only [lnS]; try omega; done)) [-getElem?_pos, -getElem?_neg, -xbuild, hk, hb, nt_aggG, hrl, hset, hnro]; refine hK _ _ ?_; clear hK K)
  obtain ⟨hlow2, hb2⟩ := boxed (H := H) R 37
  generalize H ++ [some ⟨R, 37, none⟩] = G at *
  (refine aw_ret ?_; simp (disch := first | omega | (simp only [lnS]; try omega; done)) [-getElem?_pos, -getElem?_neg, thenQ_ret, scopeQ_ret, inBlockQ_ret, RQ, resL, resV, hb2, hrl, htk])
  exact hlow2
def aO1 : OpD := opC1 0 1 1 [] [0, 1]
def aO2 : OpD := opC1 1 1 4 [key1 1] []
def aO3 : OpD := opC1 0 2 4 [key1 1] []
def aL1 : List NodeD := [⟨key1 1, aO1, []⟩]
def aL2 : List NodeD := aL1 ++ [⟨key1 2, aO2, [0]⟩]
def aL3 : List NodeD := aL2 ++ [⟨key1 3, aO3, [0]⟩]
theorem opC1_wf {a s k : Int} {ps : List (List Int)} {who : List Int} (ha : I64 a) (hs : U32 s) (hk : I64 k) (hp : ∀ p ∈ ps, Key32 p) (hpl : ps.length ≤ 100) (hw : ∀ z ∈ who, I64 z) (hwl : who.length ≤ 100) : (opC1 a s k ps who).Wf := by
  refine ⟨ha, hs, hp, by simp only [maxLen]; show ps.length ≤ _; omega, hk, hw, by simp only [maxLen]; show who.length ≤ _; omega, ⟨by simp [opC1], fun y hy => ?_⟩, key1_ok (by omega), by simp [opC1], fun b hb => (by cases hb), by simp [opC1]⟩
  have : y = 0 := (List.mem_replicate.1 hy).2
  omega
theorem aO1_wf : aO1.Wf := opC1_wf (by unfold I64; omega) (by unfold U32; omega) (by unfold I64; omega) (by simp) (by simp) (by unfold I64; simp) (by simp)
theorem aO2_wf : aO2.Wf := opC1_wf (by unfold I64; omega) (by unfold U32; omega) (by unfold I64; omega) (fun p hp => by simp at hp; subst hp; exact key1_ok (by omega)) (by simp) (by simp) (by simp)
theorem aO3_wf : aO3.Wf := opC1_wf (by unfold I64; omega) (by unfold U32; omega) (by unfold I64; omega) (fun p hp => by simp at hp; subst hp; exact key1_ok (by omega)) (by simp) (by simp) (by simp)
theorem aL1_wf : ∀ x ∈ aL1, x.Wf := fun x hx => by
  rw [aL1, List.mem_singleton] at hx
  subst hx
  exact ⟨key1_ok (by omega), aO1_wf, fun z hz => (by cases hz), by simp⟩
theorem aL2_wf : ∀ x ∈ aL2, x.Wf := fun x hx => by
  rcases List.mem_append.1 hx with hx | hx
  · exact aL1_wf x hx
  · rw [List.mem_singleton] at hx
    subst hx
    exact ⟨key1_ok (by omega), aO2_wf, fun z hz => by unfold I64; simp at hz; subst hz; omega, by simp [maxLen]⟩
theorem aL3_wf : ∀ x ∈ aL3, x.Wf := fun x hx => by
  rcases List.mem_append.1 hx with hx | hx
  · exact aL2_wf x hx
  · rw [List.mem_singleton] at hx
    subst hx
    exact ⟨key1_ok (by omega), aO3_wf, fun z hz => by unfold I64; simp at hz; subst hz; omega, by simp [maxLen]⟩
theorem add1 : addE [] (key1 1) aO1 = 0 ∧ [] ++ [addD [] (key1 1) aO1] = aL1 := ⟨by decide +kernel, by unfold addD aL1; rfl⟩
theorem past2 : pastL aL1 aL1.length aO2.parents = [0] := by decide +kernel
theorem past3 : pastL aL2 aL2.length aO3.parents = [0] := by decide +kernel
theorem add2 : addE aL1 (key1 2) aO2 = 0 ∧ aL1 ++ [addD aL1 (key1 2) aO2] = aL2 := ⟨by decide +kernel, by unfold addD; rw [past2]; rfl⟩
theorem add3 : addE aL2 (key1 3) aO3 = 0 ∧ aL2 ++ [addD aL2 (key1 3) aO3] = aL3 := ⟨by decide +kernel, by unfold addD; rw [past3]; rfl⟩
theorem al_apart : apartB aL3 1 2 = true := by decide +kernel
theorem al_ahead : aheadB aL3 0 2 = true := by decide +kernel
theorem al_right : rightG aL3 = true := by decide +kernel
theorem al_heads : headsL aL3 = [key1 2, key1 3] := by
  have e : headK aL3 = [key1 2, key1 3] := by decide +kernel
  unfold headsL
  rw [e]
  refine (sortK_eq (.refl _) ?_).symm
  unfold Rise
  decide +kernel
/-- Nodes of new memory, by their addresses. -/
theorem NewG.nda {n : Nat} {H G : AH} {v : Value} {l : List NodeD} (h : NewG n H v l) (hw : ∀ x ∈ l, x.Wf) (hk : KeepN n H G) : NdA G v l := (h G hk).nda hw
theorem nil_nda (H : AH) : NdA H (.slice none 0 0) [] := NdV.nda (CD.Val.nil (fun x e => by cases e)) (fun x hx => by cases hx)
theorem AddQ.zero {l : List NodeD} {id : List Int} {o : OpD} {H : AH} {v' : Value} {H' : AH} {L : List NodeD} (h : AddQ l id o H v' H') (hz : addE l id o = 0 ∧ l ++ [addD l id o] = L) : Low H.length H H' ∧ ∃ sv, v' = .tuple #[sv, .int .i64 0] ∧ NewG H.length H' sv L := by
  obtain ⟨h1, sv, h2, h3⟩ := h
  rw [hz.1] at h2
  refine ⟨h1, sv, h2, ?_⟩
  rcases h3 with ⟨_, h3⟩ | ⟨h3, _⟩
  · rw [← hz.2]; exact h3
  · exact absurd hz.1 h3
theorem NewG.sh {n : Nat} {H : AH} {v : Value} {l : List NodeD} (h : NewG n H v l) : notTuple v = true ∧ v.cells = #[v] := val_nt (h H (fun _ _ _ => rfl))
theorem kr_ksv {G : AH} {v : Value} {F : List Nat} {ps : List (List Int)} (h : OwnF G v 24 32 (kr ps) F) (hk : K32 ps) : KsV G v ps := by
  rw [← ksC_kr] at h
  exact own_val (by omega) h (kd_len hk) (kd_flat ps)
theorem alive_rc {γ : Nat → Option Nat} {H : AH} : AC Try.prog H.length γ 9 #[] H (fun v' _ => v' = .bool true) := by
  have k1 := build_key 1
  have k2 := build_key 2
  have k3 := build_key 3
  obtain ⟨n, hn⟩ : ∃ n, n = H.length := ⟨_, rfl⟩
  rw [← hn]
  refine ac_of_aw Try.func9 rfl Try.ntmps9 Try.results9 (by simp) ?_
  refine aw_seq ?_
  (refine aw_ops (by kernel_rfl) (fun K hK => ?_); simp (disch := first | omega | (simp only [lnS]; try omega; done)) [-getElem?_pos, -getElem?_neg]; refine hK _ _ ?_; clear hK K)
  refine aw_seq ?_
  refine aw_ops (by kernel_rfl) (fun K hK => ?_)
  have f2 : ((List.map (fun j => [Value.int .i64 0][j % 1]?.getD undef) (List.range 2)).set 0 (.int .i64 0)).set 1 (.int .i64 1) = iv .i64 [0, 1] := rfl
  have x0 : notTuple (.slice none 0 0) = true := rfl
  have x1 : (Value.slice none 0 0).cells = #[.slice none 0 0] := rfl
  have q1 : (iv .u8 (key1 1)).length = 32 := by rw [iv_length, key1_32]
  have fk := fill_keyG (k := .u8) (x := key1 1) (n := 32) (zl 32) q1
  have hnil : ∀ G : AH, KsV G (.slice none 0 0) [] ∧ InV G (.slice none 0 0) [] ∧ BxV G (.slice none 0 0) [] := fun G => ⟨.nil (fun x e => by cases e), .nil (fun x e => by cases e), .nil (fun x e => by cases e)⟩
  have thw : ∀ {G : AH} {l : List NodeD} {id : List Int} {o : OpD} (v : Value) (G' : AH), AddQ l id o G v G' → G.length ≤ G'.length ∧ ∀ j, j < G.length → hget G' j = hget G j := fun v G' h => ⟨h.1.2, h.1.1⟩
  simp (disch := first | omega | (simp only [lnS]; try omega; done)) [-getElem?_pos, -getElem?_neg, -xbuild, k1, f2]
  rw [← hn]
  obtain ⟨G1, hG1⟩ : ∃ G : AH, G = H ++ [some ⟨iv .i64 [0, 1], 3, some 1⟩] := ⟨_, rfl⟩
  have lw1 : Low n H G1 := by rw [hG1, hn]; exact Low.push (Nat.le_refl _) _
  have i1 : InV G1 (.slice (some ⟨n, 0, none⟩) 2 2) [0, 1] := own_inv (e := 3) (F := [n]) (.inr ⟨n, 2, rfl, by rw [hG1, hn, hget_app0]; rfl, rfl, rfl⟩)
  rw [← hG1]
  clear hG1
  refine ⟨by kernel_rfl, (create_ac (nro := n) (γ := γ) (l := [0, 1]) (a := 0) i1 rfl lw1.2).mono ?_⟩
  rintro v G2 ⟨rfl, lw2⟩
  have o1 : OpC G2 _ aO1 _ _ _ := opC_row aO1_wf (hnil G2).1 (i1.lowG lw2) (hnil G2).2.2
  refine ⟨by kernel_rfl, ((add_rc (γ := γ) (nil_nda G2) (key1_ok (x := 1) (by omega)) o1 aO1_wf).thaw thw).mono ?_⟩
  rintro v G3 hq
  obtain ⟨lw3, sv, rfl, hnew⟩ := hq.zero add1
  obtain ⟨v1, v2⟩ := hnew.sh
  have N1 := hnew.nda aL1_wf (fun _ _ _ => rfl)
  have low3 : Low n H G3 := ⟨fun j hj => (lw3.1 j (by have := lw2.2; have := lw1.2; omega)).trans ((lw2.1 j (by have := lw1.2; omega)).trans (lw1.1 j hj)), by have := lw3.2; have := lw2.2; have := lw1.2; omega⟩
  clear hnew hq lw1 lw2 lw3 i1 o1
  simp (disch := first | omega | (simp only [lnS]; try omega; done)) [-getElem?_pos, -getElem?_neg, -notTuple, v1, v2, nt_intG]
  refine hK _ _ ?_; clear hK K
  -- the second node
  refine aw_seq ?_
  refine aw_ops (by kernel_rfl) (fun K hK => ?_)
  simp (disch := first | omega | (simp only [lnS]; try omega; done)) [-getElem?_pos, -getElem?_neg, -xbuild, k1, k2, -notTuple, v1, v2, nt_intG, nt_aggG, all_zl, q1, -xfill, fk]
  obtain ⟨G4, hG1⟩ : ∃ G : AH, G = G3 ++ [some ⟨iv .u8 (key1 1), 24, some 32⟩] := ⟨_, rfl⟩
  have lw1 : Low G3.length G3 G4 := by rw [hG1]; exact Low.push (Nat.le_refl _) _
  have i1 : KsV G4 (.slice (some ⟨G3.length, 0, none⟩) 1 1) [key1 1] := kr_ksv (F := [G3.length]) (.inr ⟨G3.length, 1, rfl, by rw [hG1, hget_app0, kr_one]; rfl, by rw [kr_one, q1], rfl⟩) (fun k hk => by simp at hk; subst hk; exact key1_32 1)
  rw [← hG1]
  clear hG1
  have hle0 := low3.2
  have hle1 := lw1.2
  refine ⟨by kernel_rfl, (update_ac (nro := n) (γ := γ) (H := G4) (ps := [key1 1]) (a := 1) (s := 1) (by omega)).mono ?_⟩
  rintro v G5 ⟨rfl, lw2⟩
  have hle2 := lw2.2
  have lw12 : Low G3.length G3 G5 := ⟨fun j hj => (lw2.1 j (by omega)).trans (lw1.1 j hj), by omega⟩
  have o1 : OpC G5 _ aO2 _ _ _ := opC_row aO2_wf (CD.Val.low (fun j hj => lw2.1 j hj) i1) (hnil G5).2.1 (hnil G5).2.2
  refine ⟨by kernel_rfl, ((add_rc (γ := γ) (N1.lowG lw12) (key1_ok (x := 2) (by omega)) o1 aO2_wf).thaw thw).mono ?_⟩
  rintro v G6 hq
  obtain ⟨lw3, su, rfl, hnew⟩ := hq.zero add2
  obtain ⟨u1, u2⟩ := hnew.sh
  have N2 := hnew.nda aL2_wf (fun _ _ _ => rfl)
  have hle3 := lw3.2
  have low6 : Low n H G6 := ⟨fun j hj => (lw3.1 j (by omega)).trans ((lw12.1 j (by omega)).trans (low3.1 j hj)), by omega⟩
  clear hnew hq lw1 lw2 lw12 lw3 i1 o1 hle1 hle2 hle3 N1
  simp (disch := first | omega | (simp only [lnS]; try omega; done)) [-getElem?_pos, -getElem?_neg, -notTuple, u1, u2, nt_intG]
  refine hK _ _ ?_; clear hK K
  refine aw_seq ?_
  refine aw_ops (by kernel_rfl) (fun K hK => ?_)
  simp (disch := first | omega | (simp only [lnS]; try omega; done)) [-getElem?_pos, -getElem?_neg, -xbuild, k1, k3, -notTuple, u1, u2, nt_intG, nt_aggG, all_zl, q1, -xfill, fk]
  obtain ⟨G7, hG1⟩ : ∃ G : AH, G = G6 ++ [some ⟨iv .u8 (key1 1), 24, some 32⟩] := ⟨_, rfl⟩
  have lw1 : Low G6.length G6 G7 := by rw [hG1]; exact Low.push (Nat.le_refl _) _
  have i1 : KsV G7 (.slice (some ⟨G6.length, 0, none⟩) 1 1) [key1 1] := kr_ksv (F := [G6.length]) (.inr ⟨G6.length, 1, rfl, by rw [hG1, hget_app0, kr_one]; rfl, by rw [kr_one, q1], rfl⟩) (fun k hk => by simp at hk; subst hk; exact key1_32 1)
  rw [← hG1]
  clear hG1
  have hle0 := low6.2
  have hle1 := lw1.2
  refine ⟨by kernel_rfl, (update_ac (nro := n) (γ := γ) (H := G7) (ps := [key1 1]) (a := 0) (s := 2) (by omega)).mono ?_⟩
  rintro v G8 ⟨rfl, lw2⟩
  have hle2 := lw2.2
  have lw12 : Low G6.length G6 G8 := ⟨fun j hj => (lw2.1 j (by omega)).trans (lw1.1 j hj), by omega⟩
  have o1 : OpC G8 _ aO3 _ _ _ := opC_row aO3_wf (CD.Val.low (fun j hj => lw2.1 j hj) i1) (hnil G8).2.1 (hnil G8).2.2
  refine ⟨by kernel_rfl, ((add_rc (γ := γ) (N2.lowG lw12) (key1_ok (x := 3) (by omega)) o1 aO3_wf).thaw thw).mono ?_⟩
  rintro v G9 hq
  obtain ⟨lw3, st, rfl, hnew⟩ := hq.zero add3
  obtain ⟨t1, t2⟩ := hnew.sh
  have N3 := hnew.nda aL3_wf (fun _ _ _ => rfl)
  have hle3 := lw3.2
  have low9 : Low n H G9 := ⟨fun j hj => (lw3.1 j (by omega)).trans ((lw12.1 j (by omega)).trans (low6.1 j hj)), by omega⟩
  clear hnew hq lw1 lw2 lw12 lw3 i1 o1 hle1 hle2 hle3 N2
  simp (disch := first | omega | (simp only [lnS]; try omega; done)) [-getElem?_pos, -getElem?_neg, -notTuple, t1, t2, nt_intG]
  refine hK _ _ ?_; clear hK K
  -- the heads
  refine aw_seq ?_
  refine aw_ops (by kernel_rfl) (fun K hK => ?_)
  simp (disch := first | omega | (simp only [lnS]; try omega; done)) [-getElem?_pos, -getElem?_neg, -notTuple, t1, t2, nt_intG]
  refine ⟨by kernel_rfl, ((heads_rc (γ := γ) N3).thaw (fun v G' h => ⟨h.1.2, h.1.1⟩)).mono ?_⟩
  rintro hv G10 ⟨lw10, ⟨_, F, ho, hF⟩ | ⟨hbad, _⟩⟩
  case inr => rw [al_right] at hbad; cases hbad
  rw [al_heads] at ho
  have hkk : K32 [key1 2, key1 3] := fun k hk => by
    rcases List.mem_cons.1 hk with rfl | hk
    · exact key1_32 2
    · rw [List.mem_singleton] at hk; subst hk; exact key1_32 3
  obtain ⟨h1, h2⟩ := own_nt ho
  have hxl := ho.len (P := Try.prog) (t := 30) (by simp) (kr_len hkk) (by omega)
  obtain ⟨b, rfl, hbk⟩ : ∃ b, hv = .slice (some ⟨b, 0, none⟩) 2 2 ∧ hget G10 b = some ⟨kr [key1 2, key1 3], 24, some 32⟩ := by
    rcases ho with ⟨_, hc, _⟩ | ⟨b, len, rfl, hb, hl, _⟩
    · have := congrArg List.length hc
      rw [kr_len hkk] at this
      cases this
    · rw [kr_len hkk] at hl
      have : len = 2 := by simp at hl; omega
      subst this
      exact ⟨b, rfl, hb⟩
  have N4 := N3.lowG lw10
  have hxa := kr_addr (n := 2) (b := b) (j := 1) (by omega)
  have hld := kr_load hkk (j := 1) (k := key1 3) rfl hbk
  have hxn := N4.len
  have ra := apart_rc (γ := γ) N4 1 2
  have rb := ahead_rc (γ := γ) N4 0 2
  have rc := graph_right_rc (γ := γ) N4
  rw [al_apart] at ra
  rw [al_ahead] at rb
  rw [al_right] at rc
  have e3 : ((aL3.length : Nat) : Int) = 3 := rfl
  try simp (disch := first | omega | (simp only [lnS]; try omega; done)) [-getElem?_pos, -getElem?_neg]
  refine hK _ _ ?_; clear hK K
  refine aw_seq ?_
  refine aw_ops (by kernel_rfl) (fun K hK => ?_)
  simp (disch := first | omega | (simp only [lnS]; try omega; done)) [-getElem?_pos, -getElem?_neg, -notTuple, t1, t2, nt_intG, -xlen, hxn, hxl, e3]
  refine ⟨by kernel_rfl, ac_of_rc ra (by simp [pv_iv, pv_int, pv_bool, pv_string, pv_tup2, pv_tup3, iv_plain, p2_int, p2_bool, p2_string]) ?_⟩
  simp (disch := first | omega | (simp only [lnS]; try omega; done)) [-getElem?_pos, -getElem?_neg, -notTuple, t1, t2, nt_intG]
  refine ⟨by kernel_rfl, ac_of_rc rb (by simp [pv_iv, pv_int, pv_bool, pv_string, pv_tup2, pv_tup3, iv_plain, p2_int, p2_bool, p2_string]) ?_⟩
  have hxa : xindexAddr Try.prog 30 (.slice (some ⟨b, 0, none⟩) 2 2) (.int .i64 1) = some (.pointer (some ⟨b, 1 * 32, none⟩)) := hxa
  have hll : (iv .u8 (key1 3)).length = 32 := by rw [iv_length, key1_32]
  simp (disch := first | omega | (simp only [lnS]; try omega; done)) [-getElem?_pos, -getElem?_neg, -notTuple, t1, t2, nt_intG, nt_aggG, -xlen, hxl, -xindexAddr, hxa, -xload, hld, -xbuild, k3, hll]
  refine ⟨by kernel_rfl, ac_of_rc rc (by simp [pv_iv, pv_int, pv_bool, pv_string, pv_tup2, pv_tup3, iv_plain, p2_int, p2_bool, p2_string]) ?_⟩
  refine hK _ _ ?_; clear hK K
  (refine aw_ret ?_; simp (disch := first | omega | (simp only [lnS]; try omega; done)) [-getElem?_pos, -getElem?_neg, thenQ_ret, scopeQ_ret, inBlockQ_ret, RQ, resL, resV])
end
section
/-- What comes in: a graph; an operation. -/
theorem nodes_in {H : AH} {ds : List CD} {u : Value} (ho : OkL [.sl nodeK] ds) (hv : ValL H ds [u]) : ∃ l, NdV H u l ∧ (∀ x ∈ l, x.Wf) ∧ l.length ≤ maxLen := by
  obtain ⟨d, r, rfl, h1, h2⟩ := ho.cons
  obtain rfl := h2.nil
  obtain ⟨l, rfl, h3, h4⟩ := nodes_of h1
  obtain ⟨u', r', e, h5, h6⟩ := hv.cons
  cases e
  exact ⟨l, h5, h3, h4⟩
theorem op_in {H : AH} {ds : List CD} {us : List Value} (ho : OkL opK ds) (hv : ValL H ds us) : ∃ o pv wv bv, OpC H us o pv wv bv ∧ o.Wf := by
  obtain ⟨o, rfl, hw⟩ := op_of ho
  obtain ⟨pv, wv, bv, h⟩ := op_c hw hv
  exact ⟨o, pv, wv, bv, h, hw⟩
section
variable {l : List NodeD}
end
attribute [local simp] wb_bool wb_undef with_lit XL_nil XL_cons XLc_val XLc_call step1_eq stepW_t stepW_f stepC_n stepC_s stepX_s stepX_n stepN_s calleeX oneV xop_eq xopR_s xopR_n wantedA_eq wantedG_n wantedG_s plain1_int plain1_bool plain1_string bits_i64 bits_u64 bits_u32 bits_u16 bits_u8 xeqA xagg xcmp xarr allK_iv num_iv calleeOf xread xeff xbin xint xnil xun xstr xload xconv xpart xfield xfieldAddr xindexAddr xindex bnd asInt? xslice xlen xmin xmax xbuild xfill xappend xapp2 xappstr xappmk xcap xcopy xcells eval_tmp eval_const put_at put_none fr0_at cells_agg cells_int cells_bool cells_string cells_ptr cells_slice notTuple tab iv_all hget_app hget_app0 hget_cons0 hget_cons set_app set_app0 setR setR_one QL_nil QL_cons QLc_val stepQ_t stepQ_f stepQC_n stepQC_s stepQX_s SL_nil SL_cons SLc_val stepS_t stepS_f ltT ltF leT leF eqT eqF ltTn ltFn leTn leFn eqTn eqFn beqT beqF bneT bneF wi64 wu64 wu32 wu16 wu8 tmodP tdivP hgetL hgetNe hgetEq setL nums_def nums_len Nat.succ_le_of_lt List.getElem?_cons_zero List.getElem?_cons_succ Option.getD_some Int.toNat_add Int.toNat_mul agM okM agB agI agS agP agL agA okB okI okS okP okSl okA
end
section
section
variable {l : List NodeD}
end
attribute [local simp] wb_bool wb_undef with_lit XL_nil XL_cons XLc_val XLc_call step1_eq stepW_t stepW_f stepC_n stepC_s stepX_s stepX_n stepN_s calleeX oneV xop_eq xopR_s xopR_n wantedA_eq wantedG_n wantedG_s plain1_int plain1_bool plain1_string bits_i64 bits_u64 bits_u32 bits_u16 bits_u8 xeqA xagg xcmp xarr allK_iv num_iv calleeOf xread xeff xbin xint xnil xun xstr xload xconv xpart xfield xfieldAddr xindexAddr xindex bnd asInt? xslice xlen xmin xmax xbuild xfill xappend xapp2 xappstr xappmk xcap xcopy xcells eval_tmp eval_const put_at put_none fr0_at cells_agg cells_int cells_bool cells_string cells_ptr cells_slice notTuple tab iv_all hget_app hget_app0 hget_cons0 hget_cons set_app set_app0 setR setR_one QL_nil QL_cons QLc_val stepQ_t stepQ_f stepQC_n stepQC_s stepQX_s SL_nil SL_cons SLc_val stepS_t stepS_f ltT ltF leT leF eqT eqF ltTn ltFn leTn leFn eqTn eqFn beqT beqF bneT bneF wi64 wu64 wu32 wu16 wu8 tmodP tdivP hgetL hgetNe hgetEq setL nums_def nums_len Nat.succ_le_of_lt List.getElem?_cons_zero List.getElem?_cons_succ Option.getD_some Int.toNat_add Int.toNat_mul agM okM agB agI agS agP agL agA okB okI okS okP okSl okA
end
section
theorem nd_push {m : List NodeD} {x : NodeD} {a : Nat} (h : a < m.length) : nd (m ++ [x]) a = nd m a := by
  unfold nd
  rw [List.getD_eq_getElem?_getD, List.getD_eq_getElem?_getD, List.getElem?_append_left h]
theorem nd_last (m : List NodeD) (x : NodeD) : nd (m ++ [x]) m.length = x := nd_eq (by rw [List.getElem?_append_right (Nat.le_refl _)]; simp)
theorem stepB_congr {l m : List NodeD} {i : Nat} (h : ∀ a, a ≤ i → nd l a = nd m a) : stepB l i = stepB m i := by
  have h' : ∀ a, a < i → nd l a = nd m a := fun a ha => h a (by omega)
  unfold stepB
  rw [h i (Nat.le_refl _), pastL_congr h', turnB_congr h']
  have : (fun p => (findN l i p).isSome) = fun p => (findN m i p).isSome := by
    funext p
    rw [find_congr h']
  rw [this, find_congr h']
section
variable {l m : List NodeD}
theorem add_facts {id : List Int} {o : OpD} (h : addE m id o = 0) : rightG m = true ∧ rightO o = true ∧ findN m m.length id = none ∧ m.length ≠ 96 ∧ o.parents.all (fun p => (findN m m.length p).isSome) = true ∧ seqOk m o = true := by
  unfold addE at h
  split at h
  · cases h
  rename_i h1
  split at h
  · cases h
  rename_i h2
  split at h
  · cases h
  rename_i h3
  split at h
  · cases h
  rename_i h4
  split at h
  · cases h
  rename_i h5
  split at h
  · cases h
  rename_i h6
  exact ⟨eq_true_of_ne_false h1, eq_true_of_ne_false h2, by simpa using h3, h4, eq_true_of_ne_false h5, eq_true_of_ne_false h6⟩
theorem rightO_first {o : OpD} (h : rightO o = true) (hk : o.kind ≠ 1) : 0 < o.parents.length := by
  unfold rightO at h
  simp only [Bool.and_eq_true] at h
  have := h.2.2.2.1
  unfold placeB at this
  rw [if_neg hk] at this
  simp only [Bool.and_eq_true, decide_eq_true_eq] at this
  exact this.2.1
theorem add_turn {id : List Int} {o : OpD} (h : addE m id o = 0) : turnB m m.length o (pastL m m.length o.parents) = true := by
  obtain ⟨h1, h2, h3, h4, h5, h6⟩ := add_facts h
  unfold seqOk at h6
  simp only [Bool.and_eq_true, Bool.not_eq_true', Bool.and_eq_false_iff, decide_eq_true_eq, decide_eq_false_iff_not] at h6
  obtain ⟨h7, h8, h9⟩ := h6
  unfold turnB
  rw [(ahead_all m m.length o.parents o.author).1 h9, Bool.true_and, Bool.and_eq_true, decide_eq_true_eq]
  refine ⟨?_, by rw [← h9]; exact h8⟩
  rw [beq_iff_eq, decide_eq_decide]
  constructor
  · intro hk
    rcases h7 with h7 | h7
    · exact absurd hk h7
    · omega
  · intro hn
    refine Decidable.byContradiction fun hk => ?_
    have hp := rightO_first h2 hk
    rw [List.all_eq_true] at h5
    obtain ⟨p, hp⟩ := List.exists_mem_of_length_pos hp
    have := h5 p hp
    rw [hn, findN_zero] at this
    cases this
theorem add_rightG {id : List Int} {o : OpD} (h : addE m id o = 0) : rightG (m ++ [addD m id o]) = true := by
  obtain ⟨h1, h2, h3, h4, h5, h6⟩ := add_facts h
  have hl := rightG_len h1
  have ht := add_turn h
  have hc : ∀ a, a < m.length → nd (m ++ [addD m id o]) a = nd m a := fun a ha => nd_push ha
  unfold rightG
  rw [Bool.and_eq_true, decide_eq_true_eq, List.all_eq_true]
  refine ⟨by simp; omega, fun i hi => ?_⟩
  rw [List.mem_range, List.length_append] at hi
  rcases Nat.lt_or_ge i m.length with hil | hil
  · rw [stepB_congr (fun a ha => hc a (by omega))]
    exact right_step h1 hil
  · have : i = m.length := by simp at hi; omega
    subst this
    rw [step_iff, nd_last]
    have hps : (fun p => (findN (m ++ [addD m id o]) m.length p).isSome) = fun p => (findN m m.length p).isSome := by
      funext p
      rw [find_congr hc]
    have e1 : (addD m id o).op = o := rfl
    have e2 : (addD m id o).id = id := rfl
    have e3 : (addD m id o).past = pastL m m.length o.parents := rfl
    rw [e1, e2, e3, hps, find_congr hc, pastL_congr hc, turnB_congr hc]
    exact ⟨h5, h2, h3, rfl, ht⟩
theorem ids_inj (h : rightG l = true) {i j : Nat} (hi : i < l.length) (hj : j < l.length) (e : (nd l i).id = (nd l j).id) : i = j := by
  rcases Nat.lt_trichotomy i j with hlt | rfl | hlt
  · exact absurd e (ids_ne h hlt hj)
  · rfl
  · exact absurd e.symm (ids_ne h hlt hi)
/-- A part of a graph's operations, in an order of its own. -/
structure Sub (l m : List NodeD) : Prop where
  left : rightG l = true
  right : rightG m = true
  at_ : ∀ j, j < m.length → ∃ i, i < l.length ∧ (nd m j).id = (nd l i).id ∧ (nd m j).op = (nd l i).op
theorem Sub.op (h : Sub l m) {i j : Nat} (hi : i < l.length) (hj : j < m.length) (e : (nd m j).id = (nd l i).id) : (nd m j).op = (nd l i).op := by
  obtain ⟨i', h1, h2, h3⟩ := h.at_ j hj
  obtain rfl : i = i' := ids_inj h.left hi h1 (e.symm.trans h2)
  exact h3
theorem in_past (h : rightG l = true) {i k : Nat} (hi : i < l.length) : (k : Int) ∈ (nd l i).past ↔ ∃ p ∈ (nd l i).op.parents, ∃ a, findN l i p = some a ∧ (a = k ∨ (k : Int) ∈ (nd l a).past) := by
  rw [right_past h hi, mem_pastL, inB_iff]
  refine ⟨fun h => h.2, fun hh => ⟨?_, hh⟩⟩
  obtain ⟨p, hp, a, ha, hor⟩ := hh
  have hal := findN_lt ha
  rcases hor with rfl | hor
  · exact hal
  · obtain ⟨k', e, hk⟩ := past_bd h (by omega) hor
    omega
/-- The same is ahead of the same. -/
theorem Sub.past (h : Sub l m) : ∀ (j : Nat), j < m.length → ∀ (i j' i' : Nat), i < l.length → (nd m j).id = (nd l i).id → j' < m.length → i' < l.length → (nd m j').id = (nd l i').id → ((j' : Int) ∈ (nd m j).past ↔ (i' : Int) ∈ (nd l i).past) := by
  intro j
  induction j using Nat.strongRecOn with
  | ind j ih =>
    intro hj i j' i' hi e hj' hi' e'
    have hop := h.op hi hj e
    rw [in_past h.right hj, in_past h.left hi, hop]
    refine exists_congr fun p => and_congr_right fun hp => ?_
    obtain ⟨a, ha⟩ := right_par h.right hj (by rw [hop]; exact hp)
    obtain ⟨b, hb⟩ := right_par h.left hi hp
    have hal := findN_lt ha
    have hbl := findN_lt hb
    have hia := findN_id ha
    have hib := findN_id hb
    rw [ha, hb]
    have eab : (nd m a).id = (nd l b).id := hia.trans hib.symm
    simp only [Option.some.injEq, exists_eq_left']
    refine or_congr ?_ (ih a hal (by omega) b j' i' (by omega) eab hj' hi' e')
    constructor
    · rintro rfl
      exact ids_inj h.left (by omega) hi' (eab.symm.trans e')
    · rintro rfl
      exact ids_inj h.right (by omega) hj' (eab.trans e'.symm)
/-- What is ahead of what is there is there. -/
theorem Sub.closed (h : Sub l m) : ∀ (j : Nat), j < m.length → ∀ (i i' : Nat), i < l.length → (nd m j).id = (nd l i).id → (i' : Int) ∈ (nd l i).past → ∃ j', j' < m.length ∧ (nd m j').id = (nd l i').id := by
  intro j
  induction j using Nat.strongRecOn with
  | ind j ih =>
    intro hj i i' hi e hp
    have hop := h.op hi hj e
    rw [in_past h.left hi] at hp
    obtain ⟨p, hp, b, hb, hor⟩ := hp
    obtain ⟨a, ha⟩ := right_par h.right hj (by rw [hop]; exact hp)
    have hal := findN_lt ha
    have hbl := findN_lt hb
    have eab : (nd m a).id = (nd l b).id := (findN_id ha).trans (findN_id hb).symm
    rcases hor with rfl | hor
    · exact ⟨a, by omega, eab⟩
    · exact ih a hal (by omega) b i' (by omega) eab hor
theorem ids_nodup (h : rightG l = true) (n : Nat) (hn : n ≤ l.length) (p : Nat → Bool) : (((List.range n).filter p).map fun k => (nd l k).id).Nodup := by
  rw [List.Nodup, List.pairwise_map]
  refine List.Pairwise.imp_of_mem ?_ (List.Pairwise.filter _ List.pairwise_lt_range)
  intro i j hi hj hij
  exact ids_ne h hij (by have := List.mem_range.1 (List.mem_filter.1 hj).1; omega)
theorem mem_ids {n : Nat} {p : Nat → Bool} {k : List Int} : k ∈ ((List.range n).filter p).map (fun k => (nd l k).id) ↔ ∃ i, i < n ∧ p i = true ∧ (nd l i).id = k := by
  rw [List.mem_map]
  refine exists_congr fun i => ?_
  rw [List.mem_filter, List.mem_range]
  exact and_assoc
theorem filtT (n : Nat) : (List.range n).filter (fun _ => true) = List.range n := List.filter_eq_self.2 (fun _ _ => rfl)
theorem Sub.len (h : Sub l m) : m.length ≤ l.length := by
  have := List.Nodup.length_le_of_subset (l₂ := ((List.range l.length).filter fun _ => true).map fun k => (nd l k).id) (ids_nodup h.right m.length (Nat.le_refl _) (fun _ => true)) (fun k hk => by
    obtain ⟨j, hj, _, rfl⟩ := mem_ids.1 hk
    obtain ⟨i, hi, e, _⟩ := h.at_ j hj
    exact mem_ids.2 ⟨i, hi, rfl, e.symm⟩)
  simpa [filtT] using this
theorem Sub.nil (h : rightG l = true) : Sub l [] := ⟨h, rfl, fun j hj => by simp at hj⟩
theorem Sub.push (h : Sub l m) {i : Nat} (hi : i < l.length) (h0 : addE m (nd l i).id (nd l i).op = 0) : Sub l (m ++ [addD m (nd l i).id (nd l i).op]) := by
  refine ⟨h.left, add_rightG h0, fun j hj => ?_⟩
  rcases Nat.lt_or_ge j m.length with hjl | hjl
  · rw [nd_push hjl]
    exact h.at_ j hjl
  · have : j = m.length := by simp at hj; omega
    subst this
    rw [nd_last]
    exact ⟨i, hi, rfl, rfl⟩
theorem Sub.all (h : Sub l m) (he : m.length = l.length) : ∀ i, i < l.length → ∃ j, j < m.length ∧ (nd m j).id = (nd l i).id := fun i hi => by
  refine Classical.byContradiction fun hn => ?_
  have := List.Nodup.length_le_of_subset (l₁ := (nd l i).id :: ((List.range m.length).filter fun _ => true).map fun k => (nd m k).id) (l₂ := ((List.range l.length).filter fun _ => true).map fun k => (nd l k).id) (by
    rw [List.nodup_cons]
    exact ⟨fun hm => hn (by obtain ⟨j, hj, _, e⟩ := mem_ids.1 hm; exact ⟨j, hj, e⟩), ids_nodup h.right m.length (Nat.le_refl _) _⟩) (fun k hk => by
    rcases List.mem_cons.1 hk with rfl | hk
    · exact mem_ids.2 ⟨i, hi, rfl, rfl⟩
    · obtain ⟨j, hj, _, rfl⟩ := mem_ids.1 hk
      obtain ⟨i', hi', e, _⟩ := h.at_ j hj
      exact mem_ids.2 ⟨i', hi', rfl, e.symm⟩)
  simp [filtT] at this
  omega
theorem Sub.heads (h : Sub l m) (he : m.length = l.length) : headsL l = headsL m := by
  unfold headsL
  refine sortK_of_perm ?_
  refine (List.perm_ext_iff_of_nodup (headK_nodup h.left) (headK_nodup h.right)).2 (fun k => ?_)
  unfold headK
  rw [List.mem_map, List.mem_map]
  constructor
  · rintro ⟨i, hi, rfl⟩
    rw [mem_headP] at hi
    obtain ⟨j, hj, e⟩ := h.all he i hi.1
    refine ⟨j, mem_headP.2 ⟨hj, fun j2 hj2 hm => ?_⟩, e⟩
    obtain ⟨i2, hi2, e2, _⟩ := h.at_ j2 hj2
    exact hi.2 i2 hi2 ((h.past j2 hj2 i2 j i hi2 e2 hj hi.1 e).1 hm)
  · rintro ⟨j, hj, rfl⟩
    rw [mem_headP] at hj
    obtain ⟨i, hi, e, _⟩ := h.at_ j hj.1
    refine ⟨i, mem_headP.2 ⟨hi, fun i2 hi2 hm => ?_⟩, e.symm⟩
    obtain ⟨j2, hj2, e2⟩ := h.all he i2 hi2
    exact hj.2 j2 hj2 ((h.past j2 hj2 i2 j i hi2 e2 hj.1 hi e).2 hm)
end
end
section
theorem rows_flat (C : List Value) (n : Nat) (h : n * 104 ≤ C.length) : ((List.range n).map fun i => (C.drop (i * 104)).take 104).flatten = C.take (n * 104) := by
  induction n with
  | zero => simp
  | succ n ih =>
    rw [List.range_succ, List.map_append, List.flatten_append, ih (by omega)]
    have e : (n + 1) * 104 = n * 104 + 104 := by omega
    rw [e, List.take_add]
    simp
/-- A graph's rows. -/
theorem nodes_cells {H : AH} {v : Value} {l : List NodeD} (h : NdV H v l) (hw : ∀ x ∈ l, x.Wf) : ∃ R : List (List Value), R.length = l.length ∧ (∀ (k : Nat) (us : List Value) (x : NodeD), R[k]? = some us → l[k]? = some x → us.length = 104 ∧ ∀ G, Low H.length H G → ValL G x.row us) ∧ ∀ G, Low H.length H G → xcells 104 v G = some R.flatten := by
  have hN := h.nda hw
  have h2 := h
  unfold NdV at h
  generalize hd : CD.sl (l.map NodeD.row) = d at h
  cases h with
  | int => cases hd
  | str => cases hd
  | bool => cases hd
  | @nil a ha =>
    injection hd with hd
    have hl : l = [] := List.map_eq_nil_iff.1 hd
    subst hl
    refine ⟨[], rfl, fun k us x h => by simp at h, fun G hG => ?_⟩
    cases a with
    | none => rfl
    | some y =>
      obtain ⟨j, off, spot⟩ := y
      have hsp : spot = some 0 := ha _ rfl
      subst hsp
      rfl
  | @sl sz j b rows h1 h2' h3 h4 =>
    injection hd with hd
    subst hd
    have hle : l.length * 104 ≤ b.cells.length := by
      cases l with
      | nil => simp
      | cons x0 l0 =>
        have e1 := h3 x0.row (by simp)
        rw [node_row_len (hw x0 (by simp))] at e1
        subst e1
        simpa using h2'
    refine ⟨(List.range l.length).map fun i => (b.cells.drop (i * 104)).take 104, by simp, fun k us x hk hx => ?_, fun G hG => ?_⟩
    · have hkl := (List.getElem?_eq_some_iff.1 hx).1
      rw [List.getElem?_map, List.getElem?_range hkl] at hk
      cases hk
      obtain ⟨j', b', us, hv, hb, hle', hx', hus, hul, hle2, hc, hval⟩ := val_at (P := Try.prog) (t := 22) (e := 39) (sz := 104) h2 (by kernel_rfl) (by kernel_rfl) (by omega) (fun row hr => by
        obtain ⟨y, hy, rfl⟩ := List.mem_map.1 hr
        exact node_row_len (hw y hy)) (i := k) (row := x.row) (by rw [List.getElem?_map, hx]; rfl)
      cases hv
      rw [h1] at hb
      cases hb
      refine ⟨by rw [hus] at hul; exact hul, fun G hG => ?_⟩
      have := hval.low (H' := G) hG.1
      rw [hus] at this
      exact this
    · have hg := (hG.1 j (hget_lt h1)).trans h1
      rw [rows_flat _ _ hle, List.length_map]
      unfold xcells
      simp only [hg]
      rw [if_pos (by omega), List.drop_zero]
theorem turn_seq {l : List NodeD} {o : OpD} (h2 : rightO o = true) (h5 : o.parents.all (fun p => (findN l l.length p).isSome) = true) : turnB l l.length o (pastL l l.length o.parents) = seqOk l o := by
  have hk0 : 0 = l.length → o.kind = 1 := fun hn => by
    refine Decidable.byContradiction fun hk => ?_
    have hp := rightO_first h2 hk
    rw [List.all_eq_true] at h5
    obtain ⟨p, hp⟩ := List.exists_mem_of_length_pos hp
    have := h5 p hp
    rw [← hn, findN_zero] at this
    cases this
  unfold turnB seqOk
  by_cases ha : aheadL l (pastL l l.length o.parents) o.author = autN l l.length o.author
  · rw [(ahead_all l l.length o.parents o.author).1 ha, ha, Bool.true_and, decide_eq_true rfl, Bool.and_true]
    congr 1
    by_cases hk : o.kind = 1
    · by_cases hl : l.length = 0
      · simp [hk, hl]
      · have : 0 < l.length := by omega
        simp [hk, hl, this]
    · have hl : ¬ l.length = 0 := fun e => hk (hk0 e.symm)
      simp [hk, hl]
  · have hna : autA l l.length o.author (pastL l l.length o.parents) = false := by
      cases hh : autA l l.length o.author (pastL l l.length o.parents) with
      | false => rfl
      | true => exact absurd ((ahead_all l l.length o.parents o.author).2 hh) ha
    rw [hna, decide_eq_false ha]
    simp
/-- Answers of the reference's Add behind a right graph, where the graph and the operation lie among older blocks. -/
def RAddQ (l : List NodeD) (id : List Int) (o : OpD) (H0 H : AH) (v' : Value) (H' : AH) : Prop :=
  Low H.length H H' ∧ ∃ sv, v' = .tuple #[sv, .int .i64 (addE l id o)] ∧ ((addE l id o = 0 ∧ ∀ G, Low H0.length H0 G → KeepN H.length H' G → NdV G sv (l ++ [addD l id o])) ∨ (addE l id o ≠ 0 ∧ sv = .slice none 0 0))
theorem RAddQ.bad {l : List NodeD} {id : List Int} {o : OpD} {H0 H H' : AH} {z : Int} (hl : Low H.length H H') (h : addE l id o = z) (hz : z ≠ 0) : RAddQ l id o H0 H (.tuple #[.slice none 0 0, .int .i64 z]) H' :=
  ⟨hl, _, by rw [h], .inr ⟨by rw [h]; exact hz, rfl⟩⟩
attribute [local simp] wb_bool wb_undef with_lit XL_nil XL_cons XLc_val XLc_call step1_eq stepW_t stepW_f stepC_n stepC_s stepX_s stepX_n stepN_s calleeX oneV xop_eq xopR_s xopR_n wantedA_eq wantedG_n wantedG_s plain1_int plain1_bool plain1_string bits_i64 bits_u64 bits_u32 bits_u16 bits_u8 xeqA xagg xcmp xarr allK_iv num_iv calleeOf xread xeff xbin xint xnil xun xstr xload xconv xpart xfield xfieldAddr xindexAddr xindex bnd asInt? xslice xlen xmin xmax xbuild xfill xappend xapp2 xappstr xappmk xcap xcopy xcells eval_tmp eval_const put_at put_none fr0_at cells_agg cells_int cells_bool cells_string cells_ptr cells_slice notTuple tab iv_all hget_app hget_app0 hget_cons0 hget_cons set_app set_app0 setR setR_one QL_nil QL_cons QLc_val stepQ_t stepQ_f stepQC_n stepQC_s stepQX_s SL_nil SL_cons SLc_val stepS_t stepS_f ltT ltF leT leF eqT eqF ltTn ltFn leTn leFn eqTn eqFn beqT beqF bneT bneF wi64 wu64 wu32 wu16 wu8 tmodP tdivP hgetL hgetNe hgetEq setL nums_def nums_len Nat.succ_le_of_lt List.getElem?_cons_zero List.getElem?_cons_succ Option.getD_some Int.toNat_add Int.toNat_mul agM okM agB agI agS agP agL agA okB okI okS okP okSl okA
theorem rAdd_rc {γ : Nat → Option Nat} {H0 H : AH} {nv pv wv bv : Value} {l : List NodeD} {id : List Int} {us : List Value} {o : OpD} (hV : NdV H0 nv l) (hwf : ∀ x ∈ l, x.Wf) (hr : rightG l = true) (hid : Key32 id) (hO0 : OpC H0 us o pv wv bv) (hw : o.Wf) (hH : Low H0.length H0 H) : AC Try.prog H.length γ 26 #[nv, .agg (iv .u8 id).toArray, .agg us.toArray] H (RAddQ l id o H0 H) := by
  have hN := (hV.nda hwf).lowG hH
  have hO := hO0.low hH.1
  obtain ⟨R, hRl, hR, hRx⟩ := nodes_cells hV hwf
  have hivl : (iv .u8 id).length = 32 := by rw [iv_length, hid.1]
  have hta : (iv .u8 id).take 32 = iv .u8 id := List.take_of_length_le (by omega)
  have hul := hO.len
  have htu : us.take 71 = us := List.take_of_length_le (by omega)
  have hl := rightG_len hr
  have hrow := hO.row hw
  refine ac_of_aw Try.func26 rfl Try.ntmps26 Try.results26 (by simp) ?_
  refine aw_seq ?_
  (refine aw_ops (by kernel_rfl) (fun K hK => ?_); simp (disch := first | omega | (simp only [lnS]; try omega; done)) [-getElem?_pos, -getElem?_neg, hivl, hul, nt_aggG]; refine hK _ _ ?_; clear hK K)
  obtain ⟨G, hG⟩ : ∃ G : AH, G = H ++ [some ⟨iv .u8 id, 24, none⟩, some ⟨us, 37, none⟩] := ⟨_, rfl⟩
  have b4 : hget G H.length = some ⟨iv .u8 id, 24, none⟩ := by rw [hG, hget_app0]; rfl
  have b5 : hget G (H.length + 1) = some ⟨us, 37, none⟩ := by rw [hG, hget_app]; rfl
  have lw : Low H.length H G := hG ▸ Low.push (Nat.le_refl _) _
  have gl : G.length = H.length + 2 := by simp [hG]
  rw [← hG]
  clear hG
  have hNG := hN.lowG lw
  have hOG : OpC G us o pv wv bv := hO.low lw.1
  have hnt := hN.nt
  have hvc := hN.cs
  have hxl := hN.len
  have r2 := rRight_rc (γ := γ) hOG hw
  rw [refO_eq] at r2
  obtain ⟨n, hn⟩ : ∃ n, n = H.length := ⟨_, rfl⟩
  have hn0 := hH.2
  rw [← hn] at b4 b5 gl lw ⊢
  refine aw_seq ?_
  refine aw_seq ?_
  refine aw_ops (by kernel_rfl) (fun K hK => ?_)
  simp (disch := first | omega | (simp only [lnS]; try omega; done)) [-getElem?_pos, -getElem?_neg, b5, hul, htu, nt_aggG]
  refine ⟨by kernel_rfl, ac_of_rc r2 (by simp [pv_iv, pv_int, pv_bool, pv_string, pv_tup2, pv_tup3, iv_plain, p2_int, p2_bool, p2_string]) ?_⟩
  cases h2 : rightO o with
  | false =>
    try simp (disch := first | omega | (simp only [lnS]; try omega; done)) [-getElem?_pos, -getElem?_neg]
    refine hK _ _ ?_; clear hK K
    refine aw_t (by (first | (simp [eval_tmp, put_at]; done) | (simp [eval_tmp, put_at]; omega))) (by kernel_rfl) ?_
    refine aw_seq ?_
    (refine aw_ops (by kernel_rfl) (fun K hK => ?_); simp (disch := first | omega | (simp only [lnS]; try omega; done)) [-getElem?_pos, -getElem?_neg]; refine hK _ _ ?_; clear hK K)
    (refine aw_ret ?_; simp (disch := first | omega | (simp only [lnS]; try omega; done)) [-getElem?_pos, -getElem?_neg, thenQ_ret, scopeQ_ret, inBlockQ_ret, RQ, resL, resV])
    exact RAddQ.bad (hn ▸ lw) (by simp [addE, hr, h2]) (by decide)
  | true =>
  try simp (disch := first | omega | (simp only [lnS]; try omega; done)) [-getElem?_pos, -getElem?_neg]
  refine hK _ _ ?_; clear hK K
  refine aw_f (by (first | (simp [eval_tmp, put_at]; done) | (simp [eval_tmp, put_at]; omega))) (by kernel_rfl) ?_
  refine aw_skip ?_
  have r4 := rFind_rc (γ := γ) hNG (by simp only [maxLen]; omega) hid.1
  refine aw_seq ?_
  refine aw_seq ?_
  refine aw_ops (by kernel_rfl) (fun K hK => ?_)
  simp (disch := first | omega | (simp only [lnS]; try omega; done)) [-getElem?_pos, -getElem?_neg, b4, hivl, hta, -notTuple, hnt, hvc, nt_intG, nt_aggG]
  refine ⟨by kernel_rfl, ac_of_rc r4 (by simp [pv_iv, pv_int, pv_bool, pv_string, pv_tup2, pv_tup3, iv_plain, p2_int, p2_bool, p2_string]) ?_⟩
  unfold findI
  cases h3 : findN l l.length id with
  | some a =>
    have ha := findN_lt h3
    try simp (disch := first | omega | (simp only [lnS]; try omega; done)) [-getElem?_pos, -getElem?_neg]
    refine hK _ _ ?_; clear hK K
    refine aw_t (by (first | (simp [eval_tmp, put_at]; done) | (simp [eval_tmp, put_at]; omega))) (by kernel_rfl) ?_
    refine aw_seq ?_
    (refine aw_ops (by kernel_rfl) (fun K hK => ?_); simp (disch := first | omega | (simp only [lnS]; try omega; done)) [-getElem?_pos, -getElem?_neg]; refine hK _ _ ?_; clear hK K)
    (refine aw_ret ?_; simp (disch := first | omega | (simp only [lnS]; try omega; done)) [-getElem?_pos, -getElem?_neg, thenQ_ret, scopeQ_ret, inBlockQ_ret, RQ, resL, resV])
    exact RAddQ.bad (hn ▸ lw) (by simp [addE, hr, h2, h3]) (by decide)
  | none =>
  try simp (disch := first | omega | (simp only [lnS]; try omega; done)) [-getElem?_pos, -getElem?_neg]
  refine hK _ _ ?_; clear hK K
  refine aw_f (by (first | (simp [eval_tmp, put_at]; done) | (simp [eval_tmp, put_at]; omega))) (by kernel_rfl) ?_
  refine aw_skip ?_
  refine aw_seq ?_
  refine aw_seq ?_
  by_cases h4 : 96 ≤ l.length
  · (refine aw_ops (by kernel_rfl) (fun K hK => ?_); simp (disch := first | omega | (simp only [lnS]; try omega; done)) [-getElem?_pos, -getElem?_neg, -notTuple, hnt, hvc, nt_intG, -xlen, hxl, h4]; refine hK _ _ ?_; clear hK K)
    refine aw_t (by (first | (simp [eval_tmp, put_at, h4]; done) | (simp [eval_tmp, put_at, h4]; omega))) (by kernel_rfl) ?_
    refine aw_seq ?_
    (refine aw_ops (by kernel_rfl) (fun K hK => ?_); simp (disch := first | omega | (simp only [lnS]; try omega; done)) [-getElem?_pos, -getElem?_neg]; refine hK _ _ ?_; clear hK K)
    (refine aw_ret ?_; simp (disch := first | omega | (simp only [lnS]; try omega; done)) [-getElem?_pos, -getElem?_neg, thenQ_ret, scopeQ_ret, inBlockQ_ret, RQ, resL, resV])
    exact RAddQ.bad (hn ▸ lw) (by unfold addE; rw [hr, h2, h3, if_neg (by simp), if_neg (by simp), if_neg (by simp), if_pos (by omega)]) (by decide)
  (refine aw_ops (by kernel_rfl) (fun K hK => ?_); simp (disch := first | omega | (simp only [lnS]; try omega; done)) [-getElem?_pos, -getElem?_neg, -notTuple, hnt, hvc, nt_intG, -xlen, hxl, h4]; refine hK _ _ ?_; clear hK K)
  refine aw_f (by (first | (simp [eval_tmp, put_at, h4]; done) | (simp [eval_tmp, put_at, h4]; omega))) (by kernel_rfl) ?_
  refine aw_skip ?_
  have h4n : ¬ l.length = 96 := by omega
  have hP := hOG.parents
  have hP4 := val_nt hP
  have hps := rightO_sm h2
  have c2 := hOG.c2
  have hpk : ∀ k ∈ o.parents, k.length = 32 := fun k hk => (hw.parents k hk).1
  have rp := (rPast_rc (γ := γ) hNG (by omega) hP hpk (by simp only [maxLen]; omega)).thaw (nro := n) (fun v H' h => ⟨h.1.2, h.1.1⟩)
  refine aw_seq ?_
  refine aw_ops (by kernel_rfl) (fun K hK => ?_)
  simp (disch := first | omega | (simp only [lnS]; try omega; done)) [-getElem?_pos, -getElem?_neg, b5, hul, c2, -notTuple, hnt, hvc, hP4.1, hP4.2, nt_intG, nt_aggG]
  refine ⟨by kernel_rfl, rp.mono ?_⟩
  rintro v1 G1 ⟨hlow1, ⟨hall, sv, F, rfl, hown, hF⟩ | ⟨hall, rfl⟩⟩
  case inr =>
    simp (disch := first | omega | (simp only [lnS]; try omega; done)) [-getElem?_pos, -getElem?_neg]
    refine hK _ _ ?_; clear hK K
    refine aw_seq ?_
    refine aw_seq ?_
    (refine aw_ops (by kernel_rfl) (fun K hK => ?_); simp (disch := first | omega | (simp only [lnS]; try omega; done)) [-getElem?_pos, -getElem?_neg]; refine hK _ _ ?_; clear hK K)
    refine aw_t (by (first | (simp [eval_tmp, put_at]; done) | (simp [eval_tmp, put_at]; omega))) (by kernel_rfl) ?_
    refine aw_seq ?_
    (refine aw_ops (by kernel_rfl) (fun K hK => ?_); simp (disch := first | omega | (simp only [lnS]; try omega; done)) [-getElem?_pos, -getElem?_neg]; refine hK _ _ ?_; clear hK K)
    (refine aw_ret ?_; simp (disch := first | omega | (simp only [lnS]; try omega; done)) [-getElem?_pos, -getElem?_neg, thenQ_ret, scopeQ_ret, inBlockQ_ret, RQ, resL, resV])
    exact RAddQ.bad ⟨fun j hj => (hlow1.1 j (by have := lw.2; omega)).trans (lw.1 j (by omega)), by have := hlow1.2; have := lw.2; omega⟩ (by unfold addE; rw [hr, h2, h3, hall, if_neg (by simp), if_neg (by simp), if_neg (by simp), if_neg h4n, if_pos rfl]) (by decide)
  obtain ⟨v1, v2⟩ := own_nt hown
  have hFn : ∀ j ∈ F, n + 2 ≤ j := fun j hj => by have := hF j hj; omega
  clear hF
  simp (disch := first | omega | (simp only [lnS]; try omega; done)) [-getElem?_pos, -getElem?_neg, -notTuple, v1, v2, nt_intG, nt_boolG]
  refine hK _ _ ?_; clear hK K
  refine aw_seq ?_
  refine aw_seq ?_
  (refine aw_ops (by kernel_rfl) (fun K hK => ?_); simp (disch := first | omega | (simp only [lnS]; try omega; done)) [-getElem?_pos, -getElem?_neg]; refine hK _ _ ?_; clear hK K)
  refine aw_f (by (first | (simp [eval_tmp, put_at]; done) | (simp [eval_tmp, put_at]; omega))) (by kernel_rfl) ?_
  refine aw_skip ?_
  have hlowG1 : Low n H G1 := ⟨fun j hj => (hlow1.1 j (by omega)).trans (lw.1 j (by omega)), by have := hlow1.2; omega⟩
  have hlH0 : Low H0.length H0 G1 := ⟨fun j hj => (hlowG1.1 j (by omega)).trans (hH.1 j hj), by have := hlowG1.2; omega⟩
  have hPl := pastL_length l l.length o.parents
  have hInv := own_inv hown
  have htn := turn_rc (γ := γ) (hN.lowG (hn ▸ hlowG1)) (by omega) (hO.low (fun j hj => hlowG1.1 j (by omega))) hw hInv (by simp only [maxLen]; omega)
  rw [turn_seq h2 hall] at htn
  have d4 := (hlow1.1 n (by omega)).trans b4
  have d5 := (hlow1.1 (n + 1) (by omega)).trans b5
  have hle : addE l id o = if seqOk l o = false then 15 else 0 := by unfold addE; rw [hr, h2, h3, hall, if_neg (by simp), if_neg (by simp), if_neg (by simp), if_neg h4n, if_neg (by simp)]
  refine aw_seq ?_
  refine aw_seq ?_
  refine aw_ops (by kernel_rfl) (fun K hK => ?_)
  simp (disch := first | omega | (simp only [lnS]; try omega; done)) [-getElem?_pos, -getElem?_neg, d5, hul, htu, -notTuple, hnt, hvc, v1, v2, nt_intG, nt_aggG]
  refine ⟨by kernel_rfl, ac_of_rc htn (by simp [pv_iv, pv_int, pv_bool, pv_string, pv_tup2, pv_tup3, iv_plain, p2_int, p2_bool, p2_string]) ?_⟩
  cases hso : seqOk l o with
  | false =>
    try simp (disch := first | omega | (simp only [lnS]; try omega; done)) [-getElem?_pos, -getElem?_neg]
    refine hK _ _ ?_; clear hK K
    refine aw_t (by (first | (simp [eval_tmp, put_at]; done) | (simp [eval_tmp, put_at]; omega))) (by kernel_rfl) ?_
    refine aw_seq ?_
    (refine aw_ops (by kernel_rfl) (fun K hK => ?_); simp (disch := first | omega | (simp only [lnS]; try omega; done)) [-getElem?_pos, -getElem?_neg]; refine hK _ _ ?_; clear hK K)
    (refine aw_ret ?_; simp (disch := first | omega | (simp only [lnS]; try omega; done)) [-getElem?_pos, -getElem?_neg, thenQ_ret, scopeQ_ret, inBlockQ_ret, RQ, resL, resV])
    exact RAddQ.bad (hn ▸ hlowG1) (by rw [hle, if_pos hso]) (by decide)
  | true =>
  try simp (disch := first | omega | (simp only [lnS]; try omega; done)) [-getElem?_pos, -getElem?_neg]
  refine hK _ _ ?_; clear hK K
  refine aw_f (by (first | (simp [eval_tmp, put_at]; done) | (simp [eval_tmp, put_at]; omega))) (by kernel_rfl) ?_
  refine aw_skip ?_
  have hadd0 : addE l id o = 0 := by rw [hle, if_neg (by simp [hso])]
  have hxw : (addD l id o).Wf := by
    refine ⟨hid, hw, fun z hz => ?_, by show (pastL l l.length o.parents).length ≤ _; simp only [maxLen]; omega⟩
    obtain ⟨k, rfl, hk, _⟩ := pastL_bd hz
    unfold I64
    omega
  have hRlen : ∀ r ∈ R, r.length = 104 := fun r hr' => by
    obtain ⟨k, hk⟩ := List.getElem?_of_mem hr'
    have hkl := (List.getElem?_eq_some_iff.1 hk).1
    exact (hR k r _ hk (List.getElem?_eq_getElem (show k < l.length by omega))).1
  have hRf := fl_len hRlen
  rw [hRl] at hRf
  have hnvs : ∀ s, nv ≠ .string s := fun s e => by rw [e] at hxl; simp [xlen] at hxl
  have hln1 := hlowG1.2
  obtain ⟨w1, A1, F1, ap1, o1, le1, kp1, nf1⟩ := ownF_app (P := Try.prog) (nro := n) (t := 22) (e := 39) (H := G1) (v := .slice none 0 0) (x := nv) (sz := 104) (cells := []) (news := R.flatten) (F := []) (by simp) (by simp) (by omega) (by simp) (.inl ⟨rfl, rfl, rfl⟩) (fun j hj => by cases hj) hnvs (hRx G1 hlH0) (by rw [hRf]; omega) (by rw [hRf]; simp; omega) (by rw [hRf]; simp only [List.length_nil, maxLen]; omega)
  rw [List.nil_append] at o1
  obtain ⟨w11, w12⟩ := own_nt o1
  have k4 : hget A1 n = _ := (kp1 n (by have := hget_lt d4; omega) (by simp)).trans d4
  have k5 : hget A1 (n + 1) = _ := (kp1 (n + 1) (by have := hget_lt d5; omega) (by simp)).trans d5
  have hbl := build_node (x := addD l id o) (pv := pv) (wv := wv) (bv := bv) hxw v1 v2
  have hxid : (addD l id o).id = id := rfl
  have hxop : (addD l id o).op = o := rfl
  rw [hxid, hxop, ← hrow] at hbl
  have hrl := nodeRow_len hxw pv wv bv sv
  have hrv : ∀ D : AH, KsV D pv o.parents → InV D wv o.who → BxV D bv o.boxes → InV D sv (pastL l l.length o.parents) → ValL D (addD l id o).row (nodeRow (addD l id o) pv wv bv sv) := fun D k1 k2 k3 k4 => node_val (x := addD l id o) k1 k2 k3 k4
  generalize nodeRow (addD l id o) pv wv bv sv = row at *
  refine aw_seq ?_
  (refine aw_ops (by kernel_rfl) (fun K hK => ?_); simp (disch := first | omega | (simp only [lnS]; try omega; done)) [-getElem?_pos, -getElem?_neg]; refine hK _ _ ?_; clear hK K)
  refine aw_seq ?_
  (refine aw_ops (by kernel_rfl) (fun K hK => ?_); simp (disch := first | omega | (simp only [lnS]; try omega; done)) [-getElem?_pos, -getElem?_neg, -notTuple, hnt, hvc, nt_slG, -xappend, ap1]; refine hK _ _ ?_; clear hK K)
  have htr : List.take 104 row = row := List.take_of_length_le (by omega)
  have hxc : xcells 104 (.slice (some ⟨A1.length, 0, none⟩) 1 1) (A1 ++ [some ⟨row, 39, some 104⟩]) = some row := by simp [xcells, hget_app0, hrl, htr]
  obtain ⟨w2, A2, ap2, o2, le2, kp2⟩ := ownF_append (P := Try.prog) (nro := n) (t := 22) (e := 39) (H := A1 ++ ([some ⟨row, 39, some 104⟩] : AH)) (v := w1) (x := .slice (some ⟨A1.length, 0, none⟩) 1 1) (sz := 104) (cells := R.flatten) (news := row) (F := F1) (by simp) (by simp) (by omega) (by simp) (o1.low (fun j hj => hget_left (o1.lt j hj)))
    (fun j hj => by have := nf1 j hj; omega) (fun s e => by cases e) hxc (fun e => by rw [e] at hrl; simp at hrl) (by rw [hrl]) (by rw [hRf, hrl]; simp; omega) (by rw [hRf, hrl]; simp only [maxLen]; omega)
  obtain ⟨w21, w22⟩ := own_nt o2
  have hfil : ∀ Z : List Value, Z.length = 104 → xfill (fun i => some (i * 104, 104)) Z [(0, .agg row.toArray)] = some row := fun Z hZ => fill_row hrl hZ
  have hp0 : plain1 (.slice none 0 0) = true := rfl
  refine aw_seq ?_
  refine aw_ops (by kernel_rfl) (fun K hK => ?_)
  simp (disch := first | omega | (simp only [lnS]; try omega; done)) [-getElem?_pos, -getElem?_neg, k4, k5, hivl, hta, hul, htu, -notTuple, w11, w12, v1, v2, nt_intG, nt_slG, nt_aggG, -xbuild, hbl, -xfill, hp0, all_zl]
  rw [hfil _ (by simp)]
  simp (disch := first | omega | (simp only [lnS]; try omega; done)) [-getElem?_pos, -getElem?_neg, -notTuple, w11, w12, w21, w22, nt_intG, nt_slG, nt_aggG, -xappend, ap2]
  refine hK _ _ ?_; clear hK K
  have hFl := hown.lt
  have hBl : (A1 ++ ([some ⟨row, 39, some 104⟩] : AH)).length = A1.length + 1 := by simp
  rw [hBl] at o2 le2 kp2
  have kp : ∀ j, j < G1.length → hget A2 j = hget G1 j := fun j hj => (kp2 j (by omega) (fun h => by have := nf1 j h; omega)).trans ((hget_left (by omega)).trans (kp1 j hj (by simp)))
  obtain ⟨len, hw2⟩ := o2.new
  have hnew : len = l.length + 1 ∧ hget A2 (A1.length + 1) = some ⟨R.flatten ++ row, 39, some 104⟩ := by
    rcases o2 with ⟨h, _, _⟩ | ⟨i, k, he, h2, h3, _⟩
    · rw [hw2] at h; cases h
    · rw [hw2] at he
      cases he
      rw [List.length_append, hRf, hrl] at h3
      exact ⟨by omega, h2⟩
  obtain ⟨rfl, hnew⟩ := hnew
  refine aw_seq ?_
  (refine aw_ops (by kernel_rfl) (fun K hK => ?_); simp (disch := first | omega | (simp only [lnS]; try omega; done)) [-getElem?_pos, -getElem?_neg, -notTuple, w21, w22]; refine hK _ _ ?_; clear hK K)
  (refine aw_ret ?_; simp (disch := first | omega | (simp only [lnS]; try omega; done)) [-getElem?_pos, -getElem?_neg, thenQ_ret, scopeQ_ret, inBlockQ_ret, RQ, resL, resV])
  refine ⟨_, ⟨w21, rfl⟩, ?_⟩
  refine ⟨⟨fun j hj => (kp j (by omega)).trans (hlowG1.1 j (by omega)), by omega⟩, w2, by rw [hadd0], .inl ⟨hadd0, fun D hD0 hD => ?_⟩⟩
  have hDn : ∀ j, n ≤ j → j < G1.length → hget D j = hget G1 j := fun j h1 h2 => (hD j (by omega) (by omega)).trans (kp j h2)
  have hopD : OpC D us o pv wv bv := hO0.low hD0.1
  have hownD := hown.low (H' := D) (fun j hj => hDn j (by have := hFn j hj; omega) (hFl j hj))
  have hrowD := hrv D hopD.parents hopD.who hopD.boxes (own_inv hownD)
  have hwfx : ∀ x ∈ l ++ [addD l id o], x.Wf := fun x hx => by
    rcases List.mem_append.1 hx with hx | hx
    · exact hN.wf x hx
    · rw [List.mem_singleton] at hx; subst hx; exact hxw
  have hfin := rows_val (D := D) (b := A1.length + 1) (T := 39) (es := some 104) (R := R ++ [row]) (L := l ++ [addD l id o]) (by rw [hD (A1.length + 1) (by omega) (by omega), hnew]; simp) (by simp [hRl]) hwfx (fun k us' x hk hx => by
    rcases Nat.lt_or_ge k l.length with hkl | hkl
    · rw [List.getElem?_append_left (by rw [hRl]; exact hkl)] at hk
      rw [List.getElem?_append_left hkl] at hx
      have := hR k us' x hk hx
      exact ⟨this.1, this.2 D hD0⟩
    · rw [List.getElem?_append_right (by rw [hRl]; exact hkl), hRl] at hk
      rw [List.getElem?_append_right hkl] at hx
      match k - l.length, hk, hx with
      | 0, hk, hx => cases hk; cases hx; exact ⟨hrl, hrowD⟩)
  rw [List.length_append] at hfin
  rw [hw2]
  exact hfin
end
section
/-- Rows within a block, as a slice of nodes. -/
theorem rows_nda {D : AH} {b c : Nat} {T : TypeId} {es : Option Nat} {A Z : List Value} {R : List (List Value)} {L : List NodeD} (hb : hget D b = some ⟨A ++ (R.flatten ++ Z), T, es⟩) (hl : R.length = L.length) (hw : ∀ x ∈ L, x.Wf) (h : ∀ (k : Nat) (us : List Value) (x : NodeD), R[k]? = some us → L[k]? = some x → us.length = 104 ∧ ValL D x.row us) : NdA D (.slice (some ⟨b, A.length, none⟩) L.length c) L := by
  have hu : und Try.prog 22 = .slice 39 := by kernel_rfl
  have hs : szt Try.prog 39 = 104 := by kernel_rfl
  have hR : ∀ r ∈ R, r.length = 104 := fun r hr => by
    obtain ⟨k, hk⟩ := List.getElem?_of_mem hr
    have hkl := (List.getElem?_eq_some_iff.1 hk).1
    exact (h k r _ hk (List.getElem?_eq_getElem (show k < L.length by omega))).1
  refine ⟨rfl, rfl, by unfold xlen; rw [hu], hw, fun i x hx => ?_⟩
  have hil := (List.getElem?_eq_some_iff.1 hx).1
  obtain ⟨us, hus⟩ : ∃ us, R[i]? = some us := ⟨_, List.getElem?_eq_getElem (by omega)⟩
  obtain ⟨h1, h2⟩ := h i us x hus hx
  obtain ⟨pv, wv, bv, qv, hC⟩ := node_c (hw x (List.mem_of_getElem? hx)) h2
  have hfl := fl_get hR hus
  have hfe : R.flatten.length = R.length * 104 := fl_len hR
  have hlt : i * 104 + 104 ≤ R.flatten.length := by rw [hfe]; omega
  have hall : ((A ++ (R.flatten ++ Z)).drop (A.length + i * 104)).take 104 = us := by
    rw [← hfl, ← List.drop_drop, List.drop_left, List.drop_append_of_le_length (by omega), List.take_append_of_le_length (by rw [List.length_drop]; omega)]
  refine ⟨b, A.length + i * 104, ⟨A ++ (R.flatten ++ Z), T, es⟩, us, pv, wv, bv, qv, ?_, hb, ?_, fun c hc => ?_, hall.symm, hC⟩
  · unfold xindexAddr
    rw [hu]
    simp only [hs]
    rw [if_pos ⟨by omega, by omega, by omega⟩]
    simp
  · show _ ≤ (A ++ (R.flatten ++ Z)).length
    rw [List.length_append, List.length_append]
    omega
  · have := congrArg (·[c]?) hall
    simp only [List.getElem?_take_of_lt hc, List.getElem?_drop] at this
    exact this
/-- Nought. -/
def zO : OpD := ⟨0, 0, [], 0, [], List.replicate 32 0, List.replicate 32 0, ByteArray.empty, []⟩
def zN : NodeD := ⟨List.replicate 32 0, zO, []⟩
def zRow : List Value := nodeRow zN (.slice none 0 0) (.slice none 0 0) (.slice none 0 0) (.slice none 0 0)
theorem z32 : Key32 (List.replicate 32 0) := ⟨rfl, fun z hz => by rw [List.eq_of_mem_replicate hz]; omega⟩
theorem zO_wf : zO.Wf := ⟨by show I64 0; unfold I64; omega, by show U32 0; unfold U32; omega, fun k hk => (by cases hk), by show 0 ≤ _; omega, by show I64 0; unfold I64; omega, fun k hk => (by cases hk), by show 0 ≤ _; omega, z32, z32, by show 0 ≤ _; omega, fun k hk => (by cases hk), by show 0 ≤ _; omega⟩
theorem zN_wf : zN.Wf := ⟨z32, zO_wf, fun k hk => (by cases hk), by show 0 ≤ _; omega⟩
theorem zRow_len : zRow.length = 104 := by kernel_rfl
theorem zRow_val (G : AH) : ValL G zN.row zRow := node_val (.nil fun x e => by cases e) (.nil fun x e => by cases e) (.nil fun x e => by cases e) (.nil fun x e => by cases e)
theorem zeros_rows {z : List Value} (hz : z.length = 104) (c : Nat) : ((List.range (c * 104)).map fun j => z[j % 104]?.getD undef) = (List.replicate c z).flatten := by
  induction c with
  | zero => rfl
  | succ c ih =>
    rw [show (c + 1) * 104 = c * 104 + 104 by omega, List.range_add, List.map_append, ih, List.replicate_succ', List.flatten_append]
    congr 1
    rw [List.map_map, List.flatten_cons, List.flatten_nil, List.append_nil]
    apply List.ext_getElem?
    intro i
    rcases Nat.lt_or_ge i 104 with hi | hi
    · rw [List.getElem?_map, List.getElem?_range hi, List.getElem?_eq_getElem (show i < z.length by omega)]
      show some (z[(c * 104 + i) % 104]?.getD undef) = _
      rw [show (c * 104 + i) % 104 = i by omega, List.getElem?_eq_getElem (show i < z.length by omega)]
      rfl
    · rw [List.getElem?_eq_none (by simp; omega), List.getElem?_eq_none (by omega)]
theorem repl_len {z : List Value} (hz : z.length = 104) (c : Nat) : (List.replicate c z).flatten.length = c * 104 := by
  have h : ∀ r ∈ List.replicate c z, r.length = 104 := fun r hr => by rw [List.eq_of_mem_replicate hr, hz]
  rw [fl_len h, List.length_replicate]
/-- Rows copied to the front of noughts. -/
theorem room_copy {z : List Value} (hz : z.length = 104) {C : List Value} {k : Nat} (hC : C.length = k * 104) : setR (List.replicate (k + 2) z).flatten 0 C = C ++ (List.replicate 2 z).flatten := by
  rw [setR_frontF _ _ (by rw [repl_len hz]; omega), ← List.replicate_append_replicate, List.flatten_append, List.drop_append_of_le_length (by rw [repl_len hz]; omega), List.drop_of_length_le (by rw [repl_len hz]; omega), List.nil_append]
/-- Cells onto an empty own slice. -/
theorem app_new {P : Program} {nro : Nat} {t e : TypeId} {sz n : Nat} {cells : List Value} {H : AH} {v : Value} (hv : (v = .slice none 0 0 ∧ n = 0) ∨ ∃ a, v = .slice (some a) n n) (hu : und P t = .slice e) (hs : szt P e = sz) (h0 : 0 < sz) (hz : (zer P e).map (·.cells.size) = some sz) (hnro : nro ≤ H.length)
    (hx : xcells sz v (H ++ [some ⟨[], e, some sz⟩]) = some cells) (hl : cells.length = n * sz) (hb : cells.length * byt P e ≤ 140737488355328) (hm : cells.length ≤ maxLen) :
    xappend P nro t (.slice (some ⟨H.length, 0, none⟩) 0 0) v (H ++ [some ⟨[], e, some sz⟩]) = some (.slice (some ⟨H.length + 1, 0, none⟩) n n, H ++ [none, some ⟨cells, e, some sz⟩]) := by
  rcases hv with ⟨rfl, rfl⟩ | ⟨a, rfl⟩
  · subst hs
    have hg : hget (H ++ [some ⟨[], e, some (szt P e)⟩]) H.length = some ⟨[], e, some (szt P e)⟩ := by rw [hget_app0]; rfl
    unfold xappend
    simp only [hu, hx, hg]
    rw [if_pos ⟨trivial, h0, hz, hnro, trivial, trivial, by simp, by simpa using hb, by simpa using hm⟩, hl, Nat.mul_div_cancel _ h0]
    simp
  · exact clone_app hu hs h0 hz hnro hx hl hb hm
/-- An own block is written behind a new slice. -/
theorem app_pack {G : AH} {k : Nat} {B : Blk} {X : Option Blk} (hk : k < G.length) :
    hget (G.set k X ++ [none, some B]) k = X ∧ hget (G.set k X ++ [none, some B]) (G.length + 1) = some B ∧ (G.set k X ++ [none, some B]).length = G.length + 2 ∧ ∀ j, j < G.length → j ≠ k → hget (G.set k X ++ [none, some B]) j = hget G j := by
  have e : (G.set k X).length = G.length := List.length_set
  refine ⟨by rw [hget_left (by omega)]; exact hget_set_eq hk, by rw [← e, hget_app]; rfl, by simp, fun j hj hne => ?_⟩
  rw [hget_left (by omega)]
  exact hget_set_ne (fun e => hne e.symm)
/-- A slice with room shows what a slice shows. -/
theorem room_nda {D : AH} {b k c c' c2 : Nat} {l : List NodeD} (h : NdA D (.slice (some ⟨b, 0, none⟩) k c) l) : NdA D (.slice (some ⟨b, 0, some (c' + 1)⟩) k c2) l := by
  have hu : und Try.prog 22 = .slice 39 := by kernel_rfl
  have e : ∀ z : Int, xindexAddr Try.prog 22 (.slice (some ⟨b, 0, some (c' + 1)⟩) k c2) (.int .i64 z) = xindexAddr Try.prog 22 (.slice (some ⟨b, 0, none⟩) k c) (.int .i64 z) := fun z => by
    unfold xindexAddr
    rw [hu]
    simp only [Nat.zero_add]
  refine ⟨rfl, rfl, ?_, h.wf, fun i x hx => ?_⟩
  · have := h.len
    unfold xlen at this ⊢
    rw [hu] at this ⊢
    exact this
  · obtain ⟨j, q, bb, us, pv, wv, bv, qv, h1, h2⟩ := h.at_ i x hx
    exact ⟨j, q, bb, us, pv, wv, bv, qv, by rw [e]; exact h1, h2⟩
/-- One block is written, the others stay: so far. -/
def Wr (b : Nat) (T : TypeId) (sz len : Nat) (Z : List Value) (A G : AH) : Prop :=
  G.length = A.length ∧ (∀ j, j ≠ b → hget G j = hget A j) ∧ ∃ C, hget G b = some ⟨C ++ Z, T, some sz⟩ ∧ C.length = len * sz
theorem Wr.refl {b : Nat} {T : TypeId} {sz len : Nat} {C Z : List Value} {A : AH} (h : hget A b = some ⟨C ++ Z, T, some sz⟩) (hl : C.length = len * sz) : Wr b T sz len Z A A := ⟨rfl, fun _ _ => rfl, C, h, hl⟩
theorem Wr.store {b : Nat} {T : TypeId} {sz len i : Nat} {C Z row : List Value} {A G : AH} (h : Wr b T sz len Z A G) (hb : hget G b = some ⟨C ++ Z, T, some sz⟩) (hl : C.length = len * sz) (hi : i < len) (hr : row.length = sz) : Wr b T sz len Z A (G.set b (some ⟨setR (C ++ Z) (i * sz) row, T, some sz⟩)) := by
  have h1 : i * sz + sz ≤ len * sz := by
    have := Nat.mul_le_mul_right sz (show i + 1 ≤ len by omega)
    rw [Nat.add_mul] at this
    omega
  refine ⟨by rw [List.length_set]; exact h.1, fun j hj => by rw [hget_set_ne (fun e => hj e.symm)]; exact h.2.1 j hj, setR C (i * sz) row, ?_, by rw [setR_length]; exact hl⟩
  rw [hget_set_eq (hget_lt hb), setR_left _ _ _ _ (by omega)]
theorem Wr.other {b : Nat} {T : TypeId} {sz len : Nat} {Z : List Value} {A G : AH} {j : Nat} {k : Blk} (h : Wr b T sz len Z A G) (hj : j ≠ b) (hk : hget A j = some k) : hget G j = some k := by rw [h.2.1 j hj]; exact hk
end
section
def addL (l : List NodeD) (id : List Int) (o : OpD) : List NodeD := if addE l id o = 0 then l ++ [addD l id o] else []
theorem addD_wf {l : List NodeD} {id : List Int} {o : OpD} (hid : Key32 id) (hw : o.Wf) (hl : l.length ≤ 1000) : (addD l id o).Wf := by
  have := pastL_length l l.length o.parents
  refine ⟨hid, hw, fun z hz => ?_, by show (pastL l l.length o.parents).length ≤ _; simp only [maxLen]; omega⟩
  obtain ⟨k, rfl, hk, _⟩ := pastL_bd hz
  unfold I64
  omega
theorem addL_wf {l : List NodeD} {id : List Int} {o : OpD} (hwl : ∀ x ∈ l, x.Wf) (hid : Key32 id) (hw : o.Wf) (hl : l.length ≤ 1000) : ∀ x ∈ addL l id o, x.Wf := fun x hx => by
  unfold addL at hx
  split at hx
  · rcases List.mem_append.1 hx with hx | hx
    · exact hwl x hx
    · rw [List.mem_singleton] at hx; subst hx; exact addD_wf hid hw hl
  · cases hx
theorem addL_sm {l : List NodeD} {id : List Int} {o : OpD} : Sm6 (addL l id o) := fun x hx => by
  unfold addL at hx
  split at hx
  · rename_i h0
    obtain ⟨h1, h2, _⟩ := add_facts h0
    rcases List.mem_append.1 hx with hx | hx
    · have := (right_sm h1 x hx).1
      unfold SmO at this
      omega
    · rw [List.mem_singleton] at hx
      subst hx
      have := rightO_sm h2
      show o.parents.length ≤ _ ∧ o.who.length ≤ _ ∧ o.boxes.length ≤ _
      omega
  · cases hx
theorem addL_len {l : List NodeD} {id : List Int} {o : OpD} (hl : l.length ≤ 1000) : (addL l id o).length ≤ maxLen := by
  unfold addL
  split
  · simp only [List.length_append, List.length_cons, List.length_nil, maxLen]; omega
  · simp
theorem AddQ.nda {l : List NodeD} {id : List Int} {o : OpD} {H : AH} {v' : Value} {H' : AH} (h : AddQ l id o H v' H') (hwf : ∀ x ∈ addL l id o, x.Wf) : ∃ sv, v' = .tuple #[sv, .int .i64 (addE l id o)] ∧ notTuple sv = true ∧ sv.cells = #[sv] ∧ (addE l id o ≠ 0 → sv = .slice none 0 0) ∧ ∀ G, Low H'.length H' G → NdA G sv (addL l id o) := by
  obtain ⟨h1, sv, h2, h3⟩ := h
  refine ⟨sv, h2, ?_⟩
  rcases h3 with ⟨h0, h3⟩ | ⟨h0, rfl⟩
  · have e : addL l id o = l ++ [addD l id o] := if_pos h0
    rw [e] at hwf ⊢
    have hs := h3.sh
    exact ⟨hs.1, hs.2, fun hh => absurd h0 hh, fun G hG => h3.nda hwf (fun j _ hj => hG.1 j hj)⟩
  · have e : addL l id o = [] := if_neg h0
    rw [e]
    exact ⟨rfl, rfl, fun _ => rfl, fun G _ => nil_nda G⟩
theorem RAddQ.nda {l : List NodeD} {id : List Int} {o : OpD} {H0 H : AH} {v' : Value} {H' : AH} (h : RAddQ l id o H0 H v' H') (hwf : ∀ x ∈ addL l id o, x.Wf) (hlow : Low H0.length H0 H') : ∃ sv, v' = .tuple #[sv, .int .i64 (addE l id o)] ∧ notTuple sv = true ∧ sv.cells = #[sv] ∧ ∀ G, Low H'.length H' G → NdA G sv (addL l id o) := by
  obtain ⟨h1, sv, h2, h3⟩ := h
  refine ⟨sv, h2, ?_⟩
  rcases h3 with ⟨h0, h3⟩ | ⟨h0, rfl⟩
  · have e : addL l id o = l ++ [addD l id o] := if_pos h0
    rw [e] at hwf ⊢
    have hs := val_nt (h3 H' hlow (fun _ _ _ => rfl))
    refine ⟨hs.1, hs.2, fun G hG => (h3 G ⟨fun j hj => (hG.1 j (by have := hlow.2; omega)).trans (hlow.1 j hj), by have := hlow.2; have := hG.2; omega⟩ (fun j _ hj => hG.1 j hj)).nda hwf⟩
  · have e : addL l id o = [] := if_neg h0
    rw [e]
    exact ⟨rfl, rfl, fun G _ => nil_nda G⟩
attribute [local simp] wb_bool wb_undef with_lit XL_nil XL_cons XLc_val XLc_call step1_eq stepW_t stepW_f stepC_n stepC_s stepX_s stepX_n stepN_s calleeX oneV xop_eq xopR_s xopR_n wantedA_eq wantedG_n wantedG_s plain1_int plain1_bool plain1_string bits_i64 bits_u64 bits_u32 bits_u16 bits_u8 xeqA xagg xcmp xarr allK_iv num_iv calleeOf xread xeff xbin xint xnil xun xstr xload xconv xpart xfield xfieldAddr xindexAddr xindex bnd asInt? xslice xlen xmin xmax xbuild xfill xappend xapp2 xappstr xappmk xcap xcopy xcells eval_tmp eval_const put_at put_none fr0_at cells_agg cells_int cells_bool cells_string cells_ptr cells_slice notTuple tab iv_all hget_app hget_app0 hget_cons0 hget_cons set_app set_app0 setR setR_one QL_nil QL_cons QLc_val stepQ_t stepQ_f stepQC_n stepQC_s stepQX_s SL_nil SL_cons SLc_val stepS_t stepS_f ltT ltF leT leF eqT eqF ltTn ltFn leTn leFn eqTn eqFn beqT beqF bneT bneF wi64 wu64 wu32 wu16 wu8 tmodP tdivP hgetL hgetNe hgetEq setL nums_def nums_len Nat.succ_le_of_lt List.getElem?_cons_zero List.getElem?_cons_succ Option.getD_some Int.toNat_add Int.toNat_mul agM okM agB agI agS agP agL agA okB okI okS okP okSl okA
end
section
attribute [local simp] wb_bool wb_undef with_lit XL_nil XL_cons XLc_val XLc_call step1_eq stepW_t stepW_f stepC_n stepC_s stepX_s stepX_n stepN_s calleeX oneV xop_eq xopR_s xopR_n wantedA_eq wantedG_n wantedG_s plain1_int plain1_bool plain1_string bits_i64 bits_u64 bits_u32 bits_u16 bits_u8 xeqA xagg xcmp xarr allK_iv num_iv calleeOf xread xeff xbin xint xnil xun xstr xload xconv xpart xfield xfieldAddr xindexAddr xindex bnd asInt? xslice xlen xmin xmax xbuild xfill xappend xapp2 xappstr xappmk xcap xcopy xcells eval_tmp eval_const put_at put_none fr0_at cells_agg cells_int cells_bool cells_string cells_ptr cells_slice notTuple tab iv_all hget_app hget_app0 hget_cons0 hget_cons set_app set_app0 setR setR_one QL_nil QL_cons QLc_val stepQ_t stepQ_f stepQC_n stepQC_s stepQX_s SL_nil SL_cons SLc_val stepS_t stepS_f ltT ltF leT leF eqT eqF ltTn ltFn leTn leFn eqTn eqFn beqT beqF bneT bneF wi64 wu64 wu32 wu16 wu8 tmodP tdivP hgetL hgetNe hgetEq setL nums_def nums_len Nat.succ_le_of_lt List.getElem?_cons_zero List.getElem?_cons_succ Option.getD_some Int.toNat_add Int.toNat_mul agM okM agB agI agS agP agL agA okB okI okS okP okSl okA
theorem keeps_law {γ : Nat → Option Nat} {H : AH} {ds dso : List CD} {u : Value} {us : List Value} {id : List Int} (ho : OkL [.sl nodeK] ds) (hv : ValL H ds [u]) (hid : Key32 id) (hoo : OkL opK dso) (hvo : ValL H dso us) : AC Try.prog H.length γ 8 #[u, .agg (iv .u8 id).toArray, .agg us.toArray] H (fun v' _ => v' = .bool true) := by
  obtain ⟨l, hV, hw, hm⟩ := nodes_in ho hv
  obtain ⟨o, pv, wv, bv, hO, hwo⟩ := op_in hoo hvo
  have hN := hV.nda hw
  have al := alive_rc (γ := γ) (H := H)
  obtain ⟨v1, v2⟩ := val_nt hV
  have hivl : (iv .u8 id).length = 32 := by rw [iv_length, hid.1]
  have hta : (iv .u8 id).take 32 = iv .u8 id := List.take_of_length_le (by omega)
  have hul := hO.len
  have htu : us.take 71 = us := List.take_of_length_le (by omega)
  have c2 := hO.c2
  have c4 := hO.c4
  have c70 := hO.c70
  have p12 := val_nt hO.parents
  have w12 := val_nt hO.who
  have b12 := val_nt hO.boxes
  have hrow := hO.row hwo
  refine ac_of_aw Try.func8 rfl Try.ntmps8 Try.results8 (by simp) ?_
  refine aw_seq ?_
  (refine aw_ops (by kernel_rfl) (fun K hK => ?_); simp (disch := first | omega | (simp only [lnS]; try omega; done)) [-getElem?_pos, -getElem?_neg, hivl, hul, nt_aggG]; refine hK _ _ ?_; clear hK K)
  obtain ⟨G, hG⟩ : ∃ G : AH, G = H ++ [some ⟨iv .u8 id, 24, none⟩, some ⟨us, 37, none⟩] := ⟨_, rfl⟩
  have b4 : hget G H.length = some ⟨iv .u8 id, 24, none⟩ := by rw [hG, hget_app0]; rfl
  have b5 : hget G (H.length + 1) = some ⟨us, 37, none⟩ := by rw [hG, hget_app]; rfl
  have lw : Low H.length H G := hG ▸ Low.push (Nat.le_refl _) _
  have gl : G.length = H.length + 2 := by simp [hG]
  rw [← hG]
  clear hG
  have hNG := hN.lowG lw
  have hOG : OpC G us o pv wv bv := hO.low lw.1
  have al := alive_rc (γ := γ) (H := G)
  have gr := greatG_rc (γ := γ) hNG
  have go := greatO_rc (γ := γ) hOG hwo
  obtain ⟨n, hn⟩ : ∃ n, n = H.length := ⟨_, rfl⟩
  rw [← hn] at b4 b5 gl lw ⊢
  refine aw_seq ?_
  refine aw_seq ?_
  refine aw_ops (by kernel_rfl) (fun K hK => ?_)
  simp (disch := first | omega | (simp only [lnS]; try omega; done)) [-getElem?_pos, -getElem?_neg]
  refine ⟨by kernel_rfl, ac_of_rc al (by simp [pv_iv, pv_int, pv_bool, pv_string, pv_tup2, pv_tup3, iv_plain, p2_int, p2_bool, p2_string]) ?_⟩
  try simp (disch := first | omega | (simp only [lnS]; try omega; done)) [-getElem?_pos, -getElem?_neg]
  refine hK _ _ ?_; clear hK K
  refine aw_f (by (first | (simp [eval_tmp, put_at]; done) | (simp [eval_tmp, put_at]; omega))) (by kernel_rfl) ?_
  refine aw_skip ?_
  refine aw_seq ?_
  refine aw_seq ?_
  refine aw_cut (fun α G2 => α 25 = .bool (greatG l || greatO o) ∧ α 0 = u ∧ α 4 = .pointer (some ⟨n, 0, none⟩) ∧ α 5 = .pointer (some ⟨n + 1, 0, none⟩) ∧ G2 = G) ?_ ?_
  · refine aw_ops (by kernel_rfl) (fun K hK => ?_)
    simp (disch := first | omega | (simp only [lnS]; try omega; done)) [-getElem?_pos, -getElem?_neg, -notTuple, v1, v2, nt_intG]
    refine ⟨by kernel_rfl, ac_of_rc gr (by simp [pv_iv, pv_int, pv_bool, pv_string, pv_tup2, pv_tup3, iv_plain, p2_int, p2_bool, p2_string]) ?_⟩
    cases hg : greatG l with
    | true =>
      try simp (disch := first | omega | (simp only [lnS]; try omega; done)) [-getElem?_pos, -getElem?_neg]
      refine hK _ _ ?_; clear hK K
      exact ⟨by rw [hg]; (first | (simp [put_at, put_none, fr0_at]; done) | rfl), by (first | (simp [put_at, put_none, fr0_at]; done) | rfl), by (first | (simp [put_at, put_none, fr0_at]; done) | rfl), by (first | (simp [put_at, put_none, fr0_at]; done) | rfl), rfl⟩
    | false =>
      simp (disch := first | omega | (simp only [lnS]; try omega; done)) [-getElem?_pos, -getElem?_neg, b5, hul, htu, nt_aggG]
      refine ⟨by kernel_rfl, ac_of_rc go (by simp [pv_iv, pv_int, pv_bool, pv_string, pv_tup2, pv_tup3, iv_plain, p2_int, p2_bool, p2_string]) ?_⟩
      cases hg2 : greatO o with
      | true =>
        try simp (disch := first | omega | (simp only [lnS]; try omega; done)) [-getElem?_pos, -getElem?_neg]
        refine hK _ _ ?_; clear hK K
        exact ⟨by rw [hg, hg2]; (first | (simp [put_at, put_none, fr0_at]; done) | rfl), by (first | (simp [put_at, put_none, fr0_at]; done) | rfl), by (first | (simp [put_at, put_none, fr0_at]; done) | rfl), by (first | (simp [put_at, put_none, fr0_at]; done) | rfl), rfl⟩
      | false =>
        try simp (disch := first | omega | (simp only [lnS]; try omega; done)) [-getElem?_pos, -getElem?_neg]
        refine hK _ _ ?_; clear hK K
        exact ⟨by rw [hg, hg2]; (first | (simp [put_at, put_none, fr0_at]; done) | rfl), by (first | (simp [put_at, put_none, fr0_at]; done) | rfl), by (first | (simp [put_at, put_none, fr0_at]; done) | rfl), by (first | (simp [put_at, put_none, fr0_at]; done) | rfl), rfl⟩
  rintro α G2 ⟨q25, q0, q4, q5, rfl⟩
  cases hb : (greatG l || greatO o) with
  | true =>
    rw [hb] at q25
    refine aw_t (by (first | (simp [eval_tmp, put_at, q25]; done) | (simp [eval_tmp, put_at, q25]; omega))) (by kernel_rfl) ?_
    refine aw_seq ?_
    refine aw_ops (by kernel_rfl) (fun K hK => ?_)
    simp (disch := first | omega | (simp only [lnS]; try omega; done)) [-getElem?_pos, -getElem?_neg]
    refine ⟨by kernel_rfl, ac_of_rc al (by simp [pv_iv, pv_int, pv_bool, pv_string, pv_tup2, pv_tup3, iv_plain, p2_int, p2_bool, p2_string]) ?_⟩
    try simp (disch := first | omega | (simp only [lnS]; try omega; done)) [-getElem?_pos, -getElem?_neg]
    refine hK _ _ ?_; clear hK K
    (refine aw_ret ?_; simp (disch := first | omega | (simp only [lnS]; try omega; done)) [-getElem?_pos, -getElem?_neg, thenQ_ret, scopeQ_ret, inBlockQ_ret, RQ, resL, resV])
  | false =>
  rw [hb] at q25
  refine aw_f (by (first | (simp [eval_tmp, put_at, q25]; done) | (simp [eval_tmp, put_at, q25]; omega))) (by kernel_rfl) ?_
  refine aw_skip ?_
  rw [Bool.or_eq_false_iff] at hb
  obtain ⟨hg, hg2⟩ := hb
  have hl110 : l.length ≤ 110 := by
    unfold greatG at hg
    rw [Bool.or_eq_false_iff, decide_eq_false_iff_not] at hg
    omega
  have hsm : o.parents.length ≤ 30 ∧ o.who.length ≤ 30 ∧ o.boxes.length ≤ 30 := by
    unfold greatO at hg2
    simp only [Bool.or_eq_false_iff, decide_eq_false_iff_not] at hg2
    omega
  obtain ⟨hp30, hw30, hb30⟩ := hsm
  -- own := op
  have hset : ∀ Z : List Value, Z.length = 71 → setR Z 0 us = us := fun Z hZ => setR_all _ _ (by omega)
  have hp0 : plain1 (.slice none 0 0) = true := rfl
  have hle : n ≤ G2.length := by omega
  refine aw_seq ?_
  (refine aw_ops (by kernel_rfl) (fun K hK => ?_); simp (disch := first | omega | (simp only [lnS]; try omega; done)) [-getElem?_pos, -getElem?_neg, q5, b5, hul, htu, hle, hp0, nt_aggG, all_zl, hset]; refine hK _ _ ?_; clear hK K)
  obtain ⟨hlow1, hb7⟩ := boxed (H := G2) us 37
  have hb4 := hget_left' (L := [some ⟨us, 37, none⟩]) b4
  have hb5 := hget_left' (L := [some ⟨us, 37, none⟩]) b5
  have hOG1 : OpC (G2 ++ [some ⟨us, 37, none⟩]) us o pv wv bv := hOG.low (fun j hj => hget_left hj)
  have gl1 : (G2 ++ ([some ⟨us, 37, none⟩] : AH)).length = n + 3 := by simp; omega
  rw [gl] at hb7 hlow1 ⊢
  have lw1 : Low n H (G2 ++ ([some ⟨us, 37, none⟩] : AH)) := ⟨fun j hj => (hlow1.1 j (by omega)).trans (lw.1 j hj), by omega⟩
  clear hlow1
  generalize G2 ++ [some ⟨us, 37, none⟩] = G1 at *
  obtain ⟨α1, hα1⟩ : ∃ α1, α1 = (α.put (some 27) (Value.agg us.toArray)).put (some 7) (Value.pointer (some ⟨n + 2, 0, none⟩)) := ⟨_, rfl⟩
  have q0 : α1 0 = u := by rw [hα1]; (first | (simp [put_at, put_none, fr0_at, q0]; done) | rfl)
  have q4 : α1 4 = .pointer (some ⟨n, 0, none⟩) := by rw [hα1]; (first | (simp [put_at, put_none, fr0_at, q4]; done) | rfl)
  have q5 : α1 5 = .pointer (some ⟨n + 1, 0, none⟩) := by rw [hα1]; (first | (simp [put_at, put_none, fr0_at, q5]; done) | rfl)
  have q7 : α1 7 = .pointer (some ⟨n + 2, 0, none⟩) := by rw [hα1]; (first | (simp [put_at, put_none, fr0_at]; done) | rfl)
  rw [← hα1]
  clear hα1
  have hkk : ∀ k ∈ o.parents, k.length = 32 := fun k hk => (hwo.parents k hk).1
  -- parents
  have hle : n ≤ G1.length := by omega
  have hsh := val_shape hOG1.parents
  rw [List.length_map, List.map_eq_nil_iff] at hsh
  have hsh : (pv = .slice none 0 0 ∧ o.parents.length = 0) ∨ ∃ a, pv = .slice (some a) o.parents.length o.parents.length := hsh.imp (fun h => ⟨h.1, by rw [h.2]; rfl⟩) (fun h => h)
  have hxc : xcells 32 pv (G1 ++ [some ⟨[], 24, some 32⟩]) = some (ksC o.parents) := val_cells (by omega) (CD.Val.low (fun j hj => hget_left hj) hOG1.parents) (kd_len hkk) (kd_flat _)
  have hkl := ksC_len hkk
  have hap := app_new (P := Try.prog) (nro := n) (t := 30) (e := 24) (sz := 32) hsh (by simp) (by simp) (by omega) (by simp) hle hxc hkl (by rw [hkl]; simp; omega) (by rw [hkl]; simp only [maxLen]; omega)
  obtain ⟨x1, x2, x3, x4⟩ := app_pack (G := G1) (k := n + 2) (B := ⟨ksC o.parents, 24, some 32⟩) (X := some ⟨opRow o (.slice (some ⟨G1.length + 1, 0, none⟩) o.parents.length o.parents.length) wv bv, 37, none⟩) (by omega)
  have f5 := hget_left' (L := [some ⟨[], 24, some 32⟩]) hb5
  have f7 : hget (G1 ++ [none, some ⟨ksC o.parents, 24, some 32⟩]) (n + 2) = some ⟨us, 37, none⟩ := hget_left' hb7
  have hrl : (us).length = 71 := hul
  have t1 : setR (us) 2 [.slice (some ⟨G1.length + 1, 0, none⟩) o.parents.length o.parents.length] = opRow o (.slice (some ⟨G1.length + 1, 0, none⟩) o.parents.length o.parents.length) wv bv := by rw [hrow]; exact opRow_s2 _ _ _ _ _
  refine aw_seq ?_
  refine aw_ops (by kernel_rfl) (fun K hK => ?_)
  simp (disch := first | omega | (simp only [lnS]; try omega; done)) [-getElem?_pos, -getElem?_neg, q5, q7, f5, f7, hul, hrl, c2, c4, c70, -notTuple, p12.1, p12.2, nt_slG, -xappend, hap, t1, List.range_zero, List.map_nil]
  refine hK _ _ ?_; clear hK K
  rw [gl1] at x1 x2 x3 x4 ⊢
  clear hap t1 f5 f7 hxc hrl
  generalize G1.set (n + 2) _ ++ _ = G3 at *
  have hb4 : hget G3 n = some ⟨iv .u8 id, 24, none⟩ := (x4 n (by omega) (by omega)).trans hb4
  have hb5 : hget G3 (n + 1) = some ⟨us, 37, none⟩ := (x4 (n + 1) (by omega) (by omega)).trans hb5
  have hb7 := x1
  have gl3 : G3.length = n + 5 := by omega
  have lw3 : Low n H G3 := ⟨fun j hj => (x4 j (by omega) (by omega)).trans (lw1.1 j hj), by omega⟩
  have hOG3 : OpC G3 us o pv wv bv := hO.low (fun j hj => lw3.1 j (by omega))
  have kp : hget G3 (n + 4) = some ⟨ksC o.parents, 24, some 32⟩ := x2
  clear x1 x2 x3 x4
  -- who
  have hle : n ≤ G3.length := by omega
  have hsh := val_shape hOG3.who
  rw [List.length_map, List.map_eq_nil_iff] at hsh
  have hsh : (wv = .slice none 0 0 ∧ o.who.length = 0) ∨ ∃ a, wv = .slice (some a) o.who.length o.who.length := hsh.imp (fun h => ⟨h.1, by rw [h.2]; rfl⟩) (fun h => h)
  have hxc : xcells 1 wv (G3 ++ [some ⟨[], 3, some 1⟩]) = some (isC o.who) := val_cells (by omega) (CD.Val.low (fun j hj => hget_left hj) hOG3.who) (int_len _) (int_flat _)
  have hkl := isC_len o.who
  have hap := app_new (P := Try.prog) (nro := n) (t := 34) (e := 3) (sz := 1) hsh (by simp) (by simp) (by omega) (by simp) hle hxc hkl (by rw [hkl]; simp; omega) (by rw [hkl]; simp only [maxLen]; omega)
  obtain ⟨x1, x2, x3, x4⟩ := app_pack (G := G3) (k := n + 2) (B := ⟨isC o.who, 3, some 1⟩) (X := some ⟨opRow o (.slice (some ⟨n + 4, 0, none⟩) o.parents.length o.parents.length) (.slice (some ⟨G3.length + 1, 0, none⟩) o.who.length o.who.length) bv, 37, none⟩) (by omega)
  have f5 := hget_left' (L := [some ⟨[], 3, some 1⟩]) hb5
  have f7 : hget (G3 ++ [none, some ⟨isC o.who, 3, some 1⟩]) (n + 2) = some ⟨opRow o (.slice (some ⟨n + 4, 0, none⟩) o.parents.length o.parents.length) wv bv, 37, none⟩ := hget_left' hb7
  have hrl : (opRow o (.slice (some ⟨n + 4, 0, none⟩) o.parents.length o.parents.length) wv bv).length = 71 := opRow_len hwo _ _ _
  have t1 : setR (opRow o (.slice (some ⟨n + 4, 0, none⟩) o.parents.length o.parents.length) wv bv) 4 [.slice (some ⟨G3.length + 1, 0, none⟩) o.who.length o.who.length] = opRow o (.slice (some ⟨n + 4, 0, none⟩) o.parents.length o.parents.length) (.slice (some ⟨G3.length + 1, 0, none⟩) o.who.length o.who.length) bv := opRow_s4 _ _ _ _ _
  refine aw_seq ?_
  refine aw_ops (by kernel_rfl) (fun K hK => ?_)
  simp (disch := first | omega | (simp only [lnS]; try omega; done)) [-getElem?_pos, -getElem?_neg, q5, q7, f5, f7, hul, hrl, c2, c4, c70, -notTuple, w12.1, w12.2, nt_slG, -xappend, hap, t1, List.range_zero, List.map_nil]
  refine hK _ _ ?_; clear hK K
  rw [gl3] at x1 x2 x3 x4 ⊢
  clear hap t1 f5 f7 hxc hrl
  generalize G3.set (n + 2) _ ++ _ = G4 at *
  have hb4 : hget G4 n = some ⟨iv .u8 id, 24, none⟩ := (x4 n (by omega) (by omega)).trans hb4
  have hb5 : hget G4 (n + 1) = some ⟨us, 37, none⟩ := (x4 (n + 1) (by omega) (by omega)).trans hb5
  have hb7 := x1
  have gl4 : G4.length = n + 7 := by omega
  have lw4 : Low n H G4 := ⟨fun j hj => (x4 j (by omega) (by omega)).trans (lw3.1 j hj), by omega⟩
  have hOG4 : OpC G4 us o pv wv bv := hO.low (fun j hj => lw4.1 j (by omega))
  have kp : hget G4 (n + 4) = some ⟨ksC o.parents, 24, some 32⟩ := (x4 (n + 4) (by omega) (by omega)).trans kp
  have kw : hget G4 (n + 6) = some ⟨isC o.who, 3, some 1⟩ := x2
  clear x1 x2 x3 x4
  -- boxes
  have hle : n ≤ G4.length := by omega
  have hsh := val_shape hOG4.boxes
  rw [List.length_map, List.map_eq_nil_iff] at hsh
  have hsh : (bv = .slice none 0 0 ∧ o.boxes.length = 0) ∨ ∃ a, bv = .slice (some a) o.boxes.length o.boxes.length := hsh.imp (fun h => ⟨h.1, by rw [h.2]; rfl⟩) (fun h => h)
  have hxc : xcells 36 bv (G4 ++ [some ⟨[], 60, some 36⟩]) = some (bxC o.boxes) := val_cells (by omega) (CD.Val.low (fun j hj => hget_left hj) hOG4.boxes) (box_len hwo.boxes) (box_flat _)
  have hkl := bxC_len hwo.boxes
  have hap := app_new (P := Try.prog) (nro := n) (t := 35) (e := 60) (sz := 36) hsh (by simp) (by simp) (by omega) (by simp) hle hxc hkl (by rw [hkl]; simp; omega) (by rw [hkl]; simp only [maxLen]; omega)
  obtain ⟨x1, x2, x3, x4⟩ := app_pack (G := G4) (k := n + 2) (B := ⟨bxC o.boxes, 60, some 36⟩) (X := some ⟨opRow o (.slice (some ⟨n + 4, 0, none⟩) o.parents.length o.parents.length) (.slice (some ⟨n + 6, 0, none⟩) o.who.length o.who.length) (.slice (some ⟨G4.length + 1, 0, none⟩) o.boxes.length o.boxes.length), 37, none⟩) (by omega)
  have f5 := hget_left' (L := [some ⟨[], 60, some 36⟩]) hb5
  have f7 : hget (G4 ++ [none, some ⟨bxC o.boxes, 60, some 36⟩]) (n + 2) = some ⟨opRow o (.slice (some ⟨n + 4, 0, none⟩) o.parents.length o.parents.length) (.slice (some ⟨n + 6, 0, none⟩) o.who.length o.who.length) bv, 37, none⟩ := hget_left' hb7
  have hrl : (opRow o (.slice (some ⟨n + 4, 0, none⟩) o.parents.length o.parents.length) (.slice (some ⟨n + 6, 0, none⟩) o.who.length o.who.length) bv).length = 71 := opRow_len hwo _ _ _
  have t1 : setR (opRow o (.slice (some ⟨n + 4, 0, none⟩) o.parents.length o.parents.length) (.slice (some ⟨n + 6, 0, none⟩) o.who.length o.who.length) bv) 70 [.slice (some ⟨G4.length + 1, 0, none⟩) o.boxes.length o.boxes.length] = opRow o (.slice (some ⟨n + 4, 0, none⟩) o.parents.length o.parents.length) (.slice (some ⟨n + 6, 0, none⟩) o.who.length o.who.length) (.slice (some ⟨G4.length + 1, 0, none⟩) o.boxes.length o.boxes.length) := opRow_s70 hwo _ _ _ _
  refine aw_seq ?_
  refine aw_ops (by kernel_rfl) (fun K hK => ?_)
  simp (disch := first | omega | (simp only [lnS]; try omega; done)) [-getElem?_pos, -getElem?_neg, q5, q7, f5, f7, hul, hrl, c2, c4, c70, -notTuple, b12.1, b12.2, nt_slG, -xappend, hap, t1, List.range_zero, List.map_nil]
  refine hK _ _ ?_; clear hK K
  rw [gl4] at x1 x2 x3 x4 ⊢
  clear hap t1 f5 f7 hxc hrl
  generalize G4.set (n + 2) _ ++ _ = G5 at *
  have hb4 : hget G5 n = some ⟨iv .u8 id, 24, none⟩ := (x4 n (by omega) (by omega)).trans hb4
  have hb5 : hget G5 (n + 1) = some ⟨us, 37, none⟩ := (x4 (n + 1) (by omega) (by omega)).trans hb5
  have hb7 := x1
  have gl5 : G5.length = n + 9 := by omega
  have lw5 : Low n H G5 := ⟨fun j hj => (x4 j (by omega) (by omega)).trans (lw4.1 j hj), by omega⟩
  have hOG5 : OpC G5 us o pv wv bv := hO.low (fun j hj => lw5.1 j (by omega))
  have kp : hget G5 (n + 4) = some ⟨ksC o.parents, 24, some 32⟩ := (x4 (n + 4) (by omega) (by omega)).trans kp
  have kw : hget G5 (n + 6) = some ⟨isC o.who, 3, some 1⟩ := (x4 (n + 6) (by omega) (by omega)).trans kw
  have kb : hget G5 (n + 8) = some ⟨bxC o.boxes, 60, some 36⟩ := x2
  clear x1 x2 x3 x4
  -- room := make([]Node, len(l), len(l)+2); copy
  have hN5 := hN.lowG (hn ▸ lw5)
  have u3 := hN5.len
  have hlm : l.length + 2 ≤ maxLen := by simp only [maxLen]; omega
  have hle : n ≤ G5.length := by omega
  obtain ⟨R, hRl, hR, hRx⟩ := nodes_cells hV hw
  have hR104 : ∀ r ∈ R, r.length = 104 := fun r hr => by
    obtain ⟨k, hk⟩ := List.getElem?_of_mem hr
    have hkl := (List.getElem?_eq_some_iff.1 hk).1
    exact (hR k r _ hk (List.getElem?_eq_getElem (show k < l.length by omega))).1
  have hRf : R.flatten.length = l.length * 104 := by rw [fl_len hR104, hRl]
  have hlt2 : (l.length : Int) < (l.length : Int) + 2 := by omega
  refine aw_seq ?_
  refine aw_ops (by kernel_rfl) (fun K hK => ?_)
  simp (disch := first | omega | (simp only [lnS]; try omega; done)) [-getElem?_pos, -getElem?_neg, q0, -notTuple, v1, v2, nt_intG, nt_slG, -xlen, u3, hlm, hlt2, hp0, all_zl]
  refine hK _ _ ?_; clear hK K
  have hzr : (iv .u8 (zl 32) ++ Value.int .i64 0 :: .int .u32 0 :: .slice none 0 0 :: .int .i64 0 :: .slice none 0 0 :: (iv .u8 (zl 64) ++ [.string ByteArray.empty, .slice none 0 0, .slice none 0 0])) = zRow := by kernel_rfl
  rw [hzr, zeros_rows zRow_len, gl5]
  obtain ⟨G6, hG6⟩ : ∃ G : AH, G = G5 ++ [some ⟨(List.replicate (l.length + 2) zRow).flatten, 39, some 104⟩] := ⟨_, rfl⟩
  have k9 : hget G6 (n + 9) = some ⟨(List.replicate (l.length + 2) zRow).flatten, 39, some 104⟩ := by rw [hG6, ← gl5, hget_app0]; rfl
  have gl6 : G6.length = n + 10 := by rw [hG6]; simp; omega
  have hb4 := hget_left' (L := [some ⟨(List.replicate (l.length + 2) zRow).flatten, 39, some 104⟩]) hb4
  have hb5 := hget_left' (L := [some ⟨(List.replicate (l.length + 2) zRow).flatten, 39, some 104⟩]) hb5
  have hb7 := hget_left' (L := [some ⟨(List.replicate (l.length + 2) zRow).flatten, 39, some 104⟩]) hb7
  have kp := hget_left' (L := [some ⟨(List.replicate (l.length + 2) zRow).flatten, 39, some 104⟩]) kp
  have kw := hget_left' (L := [some ⟨(List.replicate (l.length + 2) zRow).flatten, 39, some 104⟩]) kw
  have kb := hget_left' (L := [some ⟨(List.replicate (l.length + 2) zRow).flatten, 39, some 104⟩]) kb
  rw [← hG6] at hb4 hb5 hb7 kp kw kb
  have lw6 : Low n H G6 := ⟨fun j hj => by rw [hG6, hget_left (by omega)]; exact lw5.1 j hj, by omega⟩
  rw [← hG6]
  clear hG6
  obtain ⟨Z2, hZ2⟩ : ∃ Z, Z = (List.replicate 2 zRow).flatten := ⟨_, rfl⟩
  have hcp : xcopy Try.prog n 22 (.slice (some ⟨n + 9, 0, some (l.length + 2 + 1)⟩) l.length l.length) u G6 = some (.int .i64 (l.length : Nat), G6.set (n + 9) (some ⟨R.flatten ++ Z2, 39, some 104⟩)) := by
    have hu : und Try.prog 22 = .slice 39 := by kernel_rfl
    have hs : szt Try.prog 39 = 104 := by kernel_rfl
    unfold xcopy
    simp only [hu, hs, hRx G6 (hn ▸ lw6), k9]
    rw [if_pos ⟨by omega, by omega, by rw [repl_len zRow_len]; omega⟩, hRf, Nat.mul_div_cancel _ (by omega), Nat.min_self, List.take_of_length_le (by omega), with_lit, room_copy zRow_len hRf, hZ2]
  refine aw_seq ?_
  (refine aw_ops (by kernel_rfl) (fun K hK => ?_); simp (disch := first | omega | (simp only [lnS]; try omega; done)) [-getElem?_pos, -getElem?_neg, q0, -notTuple, v1, v2, nt_slG, nt_intG, -xcopy, hcp]; refine hK _ _ ?_; clear hK K)
  obtain ⟨G7, hG7⟩ : ∃ G : AH, G = G6.set (n + 9) (some ⟨R.flatten ++ Z2, 39, some 104⟩) := ⟨_, rfl⟩
  have hh : ∀ j, j ≠ n + 9 → hget G7 j = hget G6 j := fun j hj => by rw [hG7]; exact hget_set_ne (fun e => hj e.symm)
  have k9 : hget G7 (n + 9) = some ⟨R.flatten ++ Z2, 39, some 104⟩ := by rw [hG7]; exact hget_set_eq (by omega)
  have gl7 : G7.length = n + 10 := by rw [hG7, List.length_set, gl6]
  rw [← hG7]
  clear hG7 hcp
  have hb4 : hget G7 n = _ := (hh n (by omega)).trans hb4
  have hb5 : hget G7 (n + 1) = _ := (hh _ (by omega)).trans hb5
  have hb7 : hget G7 (n + 2) = _ := (hh _ (by omega)).trans hb7
  have kp : hget G7 (n + 4) = _ := (hh _ (by omega)).trans kp
  have kw : hget G7 (n + 6) = _ := (hh _ (by omega)).trans kw
  have kb : hget G7 (n + 8) = _ := (hh _ (by omega)).trans kb
  have lw7 : Low n H G7 := ⟨fun j hj => (hh j (by omega)).trans (lw6.1 j hj), by omega⟩
  have i1 : KsV G7 (.slice (some ⟨n + 4, 0, none⟩) o.parents.length o.parents.length) o.parents := own_val (F := [n + 4]) (by omega) (.inr ⟨n + 4, _, rfl, kp, ksC_len hkk, rfl⟩) (kd_len hkk) (kd_flat _)
  have i2 : InV G7 (.slice (some ⟨n + 6, 0, none⟩) o.who.length o.who.length) o.who := own_val (F := [n + 6]) (by omega) (.inr ⟨n + 6, _, rfl, kw, isC_len _, rfl⟩) (int_len _) (int_flat _)
  have i3 : BxV G7 (.slice (some ⟨n + 8, 0, none⟩) o.boxes.length o.boxes.length) o.boxes := own_val (F := [n + 8]) (by omega) (.inr ⟨n + 8, _, rfl, kb, bxC_len hwo.boxes, rfl⟩) (box_len hwo.boxes) (box_flat _)
  obtain ⟨p9, w9, b9, hOr⟩ := op_c hwo (op_val i1 i2 i3)
  have hNr : NdA G7 (.slice (some ⟨n + 9, 0, some (l.length + 2 + 1)⟩) l.length l.length) l := room_nda (c := l.length) (rows_nda (A := []) (by simpa using k9) hRl hw (fun k us x hk hx => ⟨(hR k us x hk hx).1, (hR k us x hk hx).2 G7 (hn ▸ lw7)⟩))
  have g2 := opRow_2 o (.slice (some ⟨n + 4, 0, none⟩) o.parents.length o.parents.length) (.slice (some ⟨n + 6, 0, none⟩) o.who.length o.who.length) (.slice (some ⟨n + 8, 0, none⟩) o.boxes.length o.boxes.length)
  have g4 := opRow_4 o (.slice (some ⟨n + 4, 0, none⟩) o.parents.length o.parents.length) (.slice (some ⟨n + 6, 0, none⟩) o.who.length o.who.length) (.slice (some ⟨n + 8, 0, none⟩) o.boxes.length o.boxes.length)
  have g70 := opRow_70 hwo (.slice (some ⟨n + 4, 0, none⟩) o.parents.length o.parents.length) (.slice (some ⟨n + 6, 0, none⟩) o.who.length o.who.length) (.slice (some ⟨n + 8, 0, none⟩) o.boxes.length o.boxes.length)
  have hrl := opRow_len hwo (.slice (some ⟨n + 4, 0, none⟩) o.parents.length o.parents.length) (.slice (some ⟨n + 6, 0, none⟩) o.who.length o.who.length) (.slice (some ⟨n + 8, 0, none⟩) o.boxes.length o.boxes.length)
  generalize opRow o (.slice (some ⟨n + 4, 0, none⟩) o.parents.length o.parents.length) (.slice (some ⟨n + 6, 0, none⟩) o.who.length o.who.length) (.slice (some ⟨n + 8, 0, none⟩) o.boxes.length o.boxes.length) = OR at *
  have htR : OR.take 71 = OR := List.take_of_length_le (by omega)
  -- Add
  refine aw_seq ?_
  refine aw_ops (by kernel_rfl) (fun K hK => ?_)
  simp (disch := first | omega | (simp only [lnS]; try omega; done)) [-getElem?_pos, -getElem?_neg, q4, q7, hb4, hb7, hivl, hta, hrl, htR, nt_slG, nt_intG, nt_aggG]
  refine ⟨by kernel_rfl, ((add_rc (γ := γ) hNr hid hOr hwo).thaw (nro := n) (fun v G' h => ⟨h.1.2, h.1.1⟩)).mono ?_⟩
  rintro va G8 ⟨low8, sv, rfl, h3⟩
  have hsv : notTuple sv = true ∧ sv.cells = #[sv] := by
    rcases h3 with ⟨_, h⟩ | ⟨_, rfl⟩
    · exact h.sh
    · exact ⟨rfl, rfl⟩
  simp (disch := first | omega | (simp only [lnS]; try omega; done)) [-getElem?_pos, -getElem?_neg, -notTuple, hsv.1, hsv.2, nt_intG]
  refine hK _ _ ?_; clear hK K
  have hl8 := low8.2
  have lw8 : Low n H G8 := ⟨fun j hj => (low8.1 j (by omega)).trans (lw7.1 j hj), by omega⟩
  have al8 := alive_rc (γ := γ) (H := G8)
  refine aw_seq ?_
  refine aw_seq ?_
  rcases h3 with ⟨h0, hnew⟩ | ⟨h0, rfl⟩
  rotate_left
  · have hne : (addE l id o == 0) = false := by rw [beq_eq_false_iff_ne]; exact h0
    (refine aw_ops (by kernel_rfl) (fun K hK => ?_); simp (disch := first | omega | (simp only [lnS]; try omega; done)) [-getElem?_pos, -getElem?_neg, h0, hne]; refine hK _ _ ?_; clear hK K)
    refine aw_t (by (first | (simp [eval_tmp, put_at, h0]; done) | (simp [eval_tmp, put_at, h0]; omega))) (by kernel_rfl) ?_
    refine aw_seq ?_
    refine aw_ops (by kernel_rfl) (fun K hK => ?_)
    simp (disch := first | omega | (simp only [lnS]; try omega; done)) [-getElem?_pos, -getElem?_neg]
    refine ⟨by kernel_rfl, ac_of_rc al8 (by simp [pv_iv, pv_int, pv_bool, pv_string, pv_tup2, pv_tup3, iv_plain, p2_int, p2_bool, p2_string]) ?_⟩
    try simp (disch := first | omega | (simp only [lnS]; try omega; done)) [-getElem?_pos, -getElem?_neg]
    refine hK _ _ ?_; clear hK K
    (refine aw_ret ?_; simp (disch := first | omega | (simp only [lnS]; try omega; done)) [-getElem?_pos, -getElem?_neg, thenQ_ret, scopeQ_ret, inBlockQ_ret, RQ, resL, resV])
  rw [h0]
  (refine aw_ops (by kernel_rfl) (fun K hK => ?_); simp (disch := first | omega | (simp only [lnS]; try omega; done)) [-getElem?_pos, -getElem?_neg]; refine hK _ _ ?_; clear hK K)
  refine aw_f (by (first | (simp [eval_tmp, put_at]; done) | (simp [eval_tmp, put_at]; omega))) (by kernel_rfl) ?_
  refine aw_skip ?_
  have hr := (add_facts h0).1
  have hb4 : hget G8 n = _ := (low8.1 _ (by omega)).trans hb4
  have hb5 : hget G8 (n + 1) = _ := (low8.1 _ (by omega)).trans hb5
  have hb7 : hget G8 (n + 2) = _ := (low8.1 _ (by omega)).trans hb7
  have kp : hget G8 (n + 4) = _ := (low8.1 _ (by omega)).trans kp
  have kw : hget G8 (n + 6) = _ := (low8.1 _ (by omega)).trans kw
  have kb : hget G8 (n + 8) = _ := (low8.1 _ (by omega)).trans kb
  have k9 : hget G8 (n + 9) = _ := (low8.1 _ (by omega)).trans k9
  refine aw_seq ?_
  refine aw_ops (by kernel_rfl) (fun K hK => ?_)
  simp (disch := first | omega | (simp only [lnS]; try omega; done)) [-getElem?_pos, -getElem?_neg, q0, q4, q5, hb4, hb5, hivl, hta, hul, htu, -notTuple, v1, v2, nt_intG, nt_aggG]
  refine ⟨by kernel_rfl, ((rAdd_rc (γ := γ) hV hw hr hid hO hwo (hn ▸ lw8)).thaw (nro := n) (fun v G' h => ⟨h.1.2, h.1.1⟩)).mono ?_⟩
  rintro va G9 ⟨low9, rv, rfl, ⟨_, hwant⟩ | ⟨hbad, _⟩⟩
  case inr => exact absurd h0 hbad
  have hl9 := low9.2
  have lw9 : Low n H G9 := ⟨fun j hj => (low9.1 j (by omega)).trans (lw8.1 j hj), by omega⟩
  have hrv := val_nt (hwant G9 (hn ▸ lw9) (fun _ _ _ => rfl))
  rw [h0]
  simp (disch := first | omega | (simp only [lnS]; try omega; done)) [-getElem?_pos, -getElem?_neg, -notTuple, hrv.1, hrv.2, nt_intG]
  refine hK _ _ ?_; clear hK K
  have hb7 : hget G9 (n + 2) = _ := (low9.1 _ (by omega)).trans hb7
  have kp : hget G9 (n + 4) = _ := (low9.1 _ (by omega)).trans kp
  have kw : hget G9 (n + 6) = _ := (low9.1 _ (by omega)).trans kw
  have kb : hget G9 (n + 8) = _ := (low9.1 _ (by omega)).trans kb
  have k9 : hget G9 (n + 9) = _ := (low9.1 _ (by omega)).trans k9
  -- parents
  refine aw_seq ?_
  refine aw_seq ?_
  (refine aw_ops (by kernel_rfl) (fun K hK => ?_); simp (disch := first | omega | (simp only [lnS]; try omega; done)) [-getElem?_pos, -getElem?_neg]; refine hK _ _ ?_; clear hK K)
  refine aw_block ?_
  refine aw_loop (fun c α G => ∃ i : Nat, i + c = o.parents.length ∧ α 0 = u ∧ α 7 = (.pointer (some ⟨n + 2, 0, none⟩)) ∧ α 8 = (.slice (some ⟨n + 9, 0, some (l.length + 2 + 1)⟩) l.length l.length) ∧ α 9 = sv ∧ α 11 = rv ∧ α 13 = .int .i64 (i : Nat) ∧ Wr (n + 4) 24 32 o.parents.length [] G9 G) o.parents.length ?_ ?_
  · exact ⟨0, by omega, by (first | (simp [put_at, put_none, fr0_at, q0]; done) | rfl), by (first | (simp [put_at, put_none, fr0_at, q7]; done) | rfl), by (first | (simp [put_at, put_none, fr0_at]; done) | rfl), by (first | (simp [put_at, put_none, fr0_at]; done) | rfl), by (first | (simp [put_at, put_none, fr0_at]; done) | rfl), by (first | (simp [put_at, put_none, fr0_at]; done) | rfl), Wr.refl (by simpa using kp) (ksC_len hkk)⟩
  clear q0 q4 q5 q7
  rintro c α GA ⟨i, hic, q0, q7, q8, q9, q11, qi, hWr⟩
  have e7 := hWr.other (j := n + 2) (by omega) hb7
  refine aw_seq ?_
  refine aw_seq ?_
  by_cases hi : i < o.parents.length
  case pos =>
    have hWr' := hWr
    obtain ⟨hwl, _, C, hC, hCl⟩ := hWr
    obtain ⟨row, hrow⟩ : ∃ row : List Value, row = (iv .u8 (9 :: List.replicate 31 0)) := ⟨_, rfl⟩
    have hrowl : row.length = 32 := by rw [hrow]; kernel_rfl
    have hW2 := hWr'.store (row := row) hC hCl hi hrowl
    have hbn : i * 32 + 32 ≤ (C ++ []).length := by rw [List.length_append, hCl]; omega
    generalize C ++ [] = CZ at *
    have hbl : xbuild Try.prog 24 [(0, .int .u8 9)] = some (.agg row.toArray) := by rw [hrow]; kernel_rfl
    clear hrow
    (refine aw_ops (by kernel_rfl) (fun K hK => ?_); simp (disch := first | omega | (simp only [lnS]; try omega; done)) [-getElem?_pos, -getElem?_neg, q7, q8, qi, e7, hrl, g2, nt_slG, nt_ptrG, nt_intG, hi]; refine hK _ _ ?_; clear hK K)
    refine aw_t (by (first | (simp [eval_tmp, put_at, hi]; done) | (simp [eval_tmp, put_at, hi]; omega))) (by kernel_rfl) ?_
    refine aw_skip ?_
    refine aw_seq ?_
    refine aw_block ?_
    have hle : n ≤ n + 4 := by omega
    (refine aw_ops (by kernel_rfl) (fun K hK => ?_); simp (disch := first | omega | (simp only [lnS]; try omega; done)) [-getElem?_pos, -getElem?_neg, q7, q8, qi, e7, hrl, g2, nt_slG, nt_ptrG, nt_intG, nt_aggG, hi, hC, hle, hbn, hrowl, -xbuild, hbl]; refine hK _ _ ?_; clear hK K)
    (refine aw_ops (by kernel_rfl) (fun K hK => ?_); simp (disch := first | omega | (simp only [lnS]; try omega; done)) [-getElem?_pos, -getElem?_neg, qi]; refine hK _ _ ?_; clear hK K)
    exact ⟨c - 1, by omega, i + 1, by omega, by (first | (simp [put_at, put_none, fr0_at, q0]; done) | rfl), by (first | (simp [put_at, put_none, fr0_at, q7]; done) | rfl), by (first | (simp [put_at, put_none, fr0_at, q8]; done) | rfl), by (first | (simp [put_at, put_none, fr0_at, q9]; done) | rfl), by (first | (simp [put_at, put_none, fr0_at, q11]; done) | rfl), by (first | (simp [put_at, put_none, fr0_at]; done) | rfl), hW2⟩
  (refine aw_ops (by kernel_rfl) (fun K hK => ?_); simp (disch := first | omega | (simp only [lnS]; try omega; done)) [-getElem?_pos, -getElem?_neg, q7, q8, qi, e7, hrl, g2, nt_slG, nt_ptrG, nt_intG, hi]; refine hK _ _ ?_; clear hK K)
  refine aw_f (by (first | (simp [eval_tmp, put_at, hi]; done) | (simp [eval_tmp, put_at, hi]; omega))) (by kernel_rfl) ?_
  refine aw_exit ?_
  have hb7 := hWr.other (j := n + 2) (by omega) hb7
  have kw := hWr.other (j := n + 6) (by omega) kw
  have kb := hWr.other (j := n + 8) (by omega) kb
  have k9 := hWr.other (j := n + 9) (by omega) k9
  have hkGA := hWr
  clear hWr
  -- who
  refine aw_seq ?_
  refine aw_seq ?_
  (refine aw_ops (by kernel_rfl) (fun K hK => ?_); simp (disch := first | omega | (simp only [lnS]; try omega; done)) [-getElem?_pos, -getElem?_neg]; refine hK _ _ ?_; clear hK K)
  refine aw_block ?_
  refine aw_loop (fun c α G => ∃ i : Nat, i + c = o.who.length ∧ α 0 = u ∧ α 7 = (.pointer (some ⟨n + 2, 0, none⟩)) ∧ α 8 = (.slice (some ⟨n + 9, 0, some (l.length + 2 + 1)⟩) l.length l.length) ∧ α 9 = sv ∧ α 11 = rv ∧ α 14 = .int .i64 (i : Nat) ∧ Wr (n + 6) 3 1 o.who.length [] GA G) o.who.length ?_ ?_
  · exact ⟨0, by omega, by (first | (simp [put_at, put_none, fr0_at, q0]; done) | rfl), by (first | (simp [put_at, put_none, fr0_at, q7]; done) | rfl), by (first | (simp [put_at, put_none, fr0_at, q8]; done) | rfl), by (first | (simp [put_at, put_none, fr0_at, q9]; done) | rfl), by (first | (simp [put_at, put_none, fr0_at, q11]; done) | rfl), by (first | (simp [put_at, put_none, fr0_at]; done) | rfl), Wr.refl (by simpa using kw) (isC_len _)⟩
  clear q0 q7 q8 q9 q11 qi
  rintro c α GB ⟨i, hic, q0, q7, q8, q9, q11, qi, hWr⟩
  have e7 := hWr.other (j := n + 2) (by omega) hb7
  refine aw_seq ?_
  refine aw_seq ?_
  by_cases hi : i < o.who.length
  case pos =>
    have hWr' := hWr
    obtain ⟨hwl, _, C, hC, hCl⟩ := hWr
    obtain ⟨row, hrow⟩ : ∃ row : List Value, row = [.int .i64 77] := ⟨_, rfl⟩
    have hrowl : row.length = 1 := by rw [hrow]; kernel_rfl
    have hW2 := hWr'.store (row := row) hC hCl hi hrowl
    have hbn : i * 1 + 1 ≤ (C ++ []).length := by rw [List.length_append, hCl]; omega
    generalize C ++ [] = CZ at *
    subst hrow
    rw [setR_one, Nat.mul_one] at hW2
    (refine aw_ops (by kernel_rfl) (fun K hK => ?_); simp (disch := first | omega | (simp only [lnS]; try omega; done)) [-getElem?_pos, -getElem?_neg, q7, q8, qi, e7, hrl, g4, nt_slG, nt_ptrG, nt_intG, hi]; refine hK _ _ ?_; clear hK K)
    refine aw_t (by (first | (simp [eval_tmp, put_at, hi]; done) | (simp [eval_tmp, put_at, hi]; omega))) (by kernel_rfl) ?_
    refine aw_skip ?_
    refine aw_seq ?_
    refine aw_block ?_
    have hle : n ≤ n + 6 := by omega
    (refine aw_ops (by kernel_rfl) (fun K hK => ?_); simp (disch := first | omega | (simp only [lnS]; try omega; done)) [-getElem?_pos, -getElem?_neg, q7, q8, qi, e7, hrl, g4, nt_slG, nt_ptrG, nt_intG, nt_aggG, hi, hC, hle, hbn, hrowl]; refine hK _ _ ?_; clear hK K)
    (refine aw_ops (by kernel_rfl) (fun K hK => ?_); simp (disch := first | omega | (simp only [lnS]; try omega; done)) [-getElem?_pos, -getElem?_neg, qi]; refine hK _ _ ?_; clear hK K)
    exact ⟨c - 1, by omega, i + 1, by omega, by (first | (simp [put_at, put_none, fr0_at, q0]; done) | rfl), by (first | (simp [put_at, put_none, fr0_at, q7]; done) | rfl), by (first | (simp [put_at, put_none, fr0_at, q8]; done) | rfl), by (first | (simp [put_at, put_none, fr0_at, q9]; done) | rfl), by (first | (simp [put_at, put_none, fr0_at, q11]; done) | rfl), by (first | (simp [put_at, put_none, fr0_at]; done) | rfl), hW2⟩
  (refine aw_ops (by kernel_rfl) (fun K hK => ?_); simp (disch := first | omega | (simp only [lnS]; try omega; done)) [-getElem?_pos, -getElem?_neg, q7, q8, qi, e7, hrl, g4, nt_slG, nt_ptrG, nt_intG, hi]; refine hK _ _ ?_; clear hK K)
  refine aw_f (by (first | (simp [eval_tmp, put_at, hi]; done) | (simp [eval_tmp, put_at, hi]; omega))) (by kernel_rfl) ?_
  refine aw_exit ?_
  have hb7 := hWr.other (j := n + 2) (by omega) hb7
  have kb := hWr.other (j := n + 8) (by omega) kb
  have k9 := hWr.other (j := n + 9) (by omega) k9
  have hkGB := hWr
  clear hWr
  -- boxes
  refine aw_seq ?_
  refine aw_seq ?_
  (refine aw_ops (by kernel_rfl) (fun K hK => ?_); simp (disch := first | omega | (simp only [lnS]; try omega; done)) [-getElem?_pos, -getElem?_neg]; refine hK _ _ ?_; clear hK K)
  refine aw_block ?_
  refine aw_loop (fun c α G => ∃ i : Nat, i + c = o.boxes.length ∧ α 0 = u ∧ α 7 = (.pointer (some ⟨n + 2, 0, none⟩)) ∧ α 8 = (.slice (some ⟨n + 9, 0, some (l.length + 2 + 1)⟩) l.length l.length) ∧ α 9 = sv ∧ α 11 = rv ∧ α 15 = .int .i64 (i : Nat) ∧ Wr (n + 8) 60 36 o.boxes.length [] GB G) o.boxes.length ?_ ?_
  · exact ⟨0, by omega, by (first | (simp [put_at, put_none, fr0_at, q0]; done) | rfl), by (first | (simp [put_at, put_none, fr0_at, q7]; done) | rfl), by (first | (simp [put_at, put_none, fr0_at, q8]; done) | rfl), by (first | (simp [put_at, put_none, fr0_at, q9]; done) | rfl), by (first | (simp [put_at, put_none, fr0_at, q11]; done) | rfl), by (first | (simp [put_at, put_none, fr0_at]; done) | rfl), Wr.refl (by simpa using kb) (bxC_len hwo.boxes)⟩
  clear q0 q7 q8 q9 q11 qi
  rintro c α GC ⟨i, hic, q0, q7, q8, q9, q11, qi, hWr⟩
  have e7 := hWr.other (j := n + 2) (by omega) hb7
  refine aw_seq ?_
  refine aw_seq ?_
  by_cases hi : i < o.boxes.length
  case pos =>
    have hWr' := hWr
    obtain ⟨hwl, _, C, hC, hCl⟩ := hWr
    obtain ⟨row, hrow⟩ : ∃ row : List Value, row = (boxRow ⟨0, List.replicate 32 0, 0, 0, ByteArray.empty⟩) := ⟨_, rfl⟩
    have hrowl : row.length = 36 := by rw [hrow]; kernel_rfl
    have hW2 := hWr'.store (row := row) hC hCl hi hrowl
    have hbn : i * 36 + 36 ≤ (C ++ []).length := by rw [List.length_append, hCl]; omega
    generalize C ++ [] = CZ at *
    have hbl : xbuild Try.prog 60 [] = some (.agg row.toArray) := by rw [hrow]; kernel_rfl
    clear hrow
    (refine aw_ops (by kernel_rfl) (fun K hK => ?_); simp (disch := first | omega | (simp only [lnS]; try omega; done)) [-getElem?_pos, -getElem?_neg, q7, q8, qi, e7, hrl, g70, nt_slG, nt_ptrG, nt_intG, hi]; refine hK _ _ ?_; clear hK K)
    refine aw_t (by (first | (simp [eval_tmp, put_at, hi]; done) | (simp [eval_tmp, put_at, hi]; omega))) (by kernel_rfl) ?_
    refine aw_skip ?_
    refine aw_seq ?_
    refine aw_block ?_
    have hle : n ≤ n + 8 := by omega
    (refine aw_ops (by kernel_rfl) (fun K hK => ?_); simp (disch := first | omega | (simp only [lnS]; try omega; done)) [-getElem?_pos, -getElem?_neg, q7, q8, qi, e7, hrl, g70, nt_slG, nt_ptrG, nt_intG, nt_aggG, hi, hC, hle, hbn, hrowl, -xbuild, hbl]; refine hK _ _ ?_; clear hK K)
    (refine aw_ops (by kernel_rfl) (fun K hK => ?_); simp (disch := first | omega | (simp only [lnS]; try omega; done)) [-getElem?_pos, -getElem?_neg, qi]; refine hK _ _ ?_; clear hK K)
    exact ⟨c - 1, by omega, i + 1, by omega, by (first | (simp [put_at, put_none, fr0_at, q0]; done) | rfl), by (first | (simp [put_at, put_none, fr0_at, q7]; done) | rfl), by (first | (simp [put_at, put_none, fr0_at, q8]; done) | rfl), by (first | (simp [put_at, put_none, fr0_at, q9]; done) | rfl), by (first | (simp [put_at, put_none, fr0_at, q11]; done) | rfl), by (first | (simp [put_at, put_none, fr0_at]; done) | rfl), hW2⟩
  (refine aw_ops (by kernel_rfl) (fun K hK => ?_); simp (disch := first | omega | (simp only [lnS]; try omega; done)) [-getElem?_pos, -getElem?_neg, q7, q8, qi, e7, hrl, g70, nt_slG, nt_ptrG, nt_intG, hi]; refine hK _ _ ?_; clear hK K)
  refine aw_f (by (first | (simp [eval_tmp, put_at, hi]; done) | (simp [eval_tmp, put_at, hi]; omega))) (by kernel_rfl) ?_
  refine aw_exit ?_
  have hb7 := hWr.other (j := n + 2) (by omega) hb7
  have k9 := hWr.other (j := n + 9) (by omega) k9
  have hkGC := hWr
  clear hWr
  -- room
  refine aw_seq ?_
  refine aw_seq ?_
  (refine aw_ops (by kernel_rfl) (fun K hK => ?_); simp (disch := first | omega | (simp only [lnS]; try omega; done)) [-getElem?_pos, -getElem?_neg]; refine hK _ _ ?_; clear hK K)
  refine aw_block ?_
  refine aw_loop (fun c α G => ∃ i : Nat, i + c = l.length ∧ α 0 = u ∧ α 7 = (.pointer (some ⟨n + 2, 0, none⟩)) ∧ α 8 = (.slice (some ⟨n + 9, 0, some (l.length + 2 + 1)⟩) l.length l.length) ∧ α 9 = sv ∧ α 11 = rv ∧ α 16 = .int .i64 (i : Nat) ∧ Wr (n + 9) 39 104 l.length Z2 GC G) l.length ?_ ?_
  · exact ⟨0, by omega, by (first | (simp [put_at, put_none, fr0_at, q0]; done) | rfl), by (first | (simp [put_at, put_none, fr0_at, q7]; done) | rfl), by (first | (simp [put_at, put_none, fr0_at, q8]; done) | rfl), by (first | (simp [put_at, put_none, fr0_at, q9]; done) | rfl), by (first | (simp [put_at, put_none, fr0_at, q11]; done) | rfl), by (first | (simp [put_at, put_none, fr0_at]; done) | rfl), Wr.refl k9 hRf⟩
  clear q0 q7 q8 q9 q11 qi
  rintro c α GD ⟨i, hic, q0, q7, q8, q9, q11, qi, hWr⟩
  refine aw_seq ?_
  refine aw_seq ?_
  by_cases hi : i < l.length
  case pos =>
    have hWr' := hWr
    obtain ⟨hwl, _, C, hC, hCl⟩ := hWr
    obtain ⟨row, hrow⟩ : ∃ row : List Value, row = zRow := ⟨_, rfl⟩
    have hrowl : row.length = 104 := by rw [hrow]; kernel_rfl
    have hW2 := hWr'.store (row := row) hC hCl hi hrowl
    have hbn : i * 104 + 104 ≤ (C ++ Z2).length := by rw [List.length_append, hCl]; omega
    generalize C ++ Z2 = CZ at *
    have hbl : xbuild Try.prog 39 [] = some (.agg row.toArray) := by rw [hrow]; kernel_rfl
    clear hrow
    (refine aw_ops (by kernel_rfl) (fun K hK => ?_); simp (disch := first | omega | (simp only [lnS]; try omega; done)) [-getElem?_pos, -getElem?_neg, q7, q8, qi, nt_slG, nt_ptrG, nt_intG, hi]; refine hK _ _ ?_; clear hK K)
    refine aw_t (by (first | (simp [eval_tmp, put_at, hi]; done) | (simp [eval_tmp, put_at, hi]; omega))) (by kernel_rfl) ?_
    refine aw_skip ?_
    refine aw_seq ?_
    refine aw_block ?_
    have hle : n ≤ n + 9 := by omega
    (refine aw_ops (by kernel_rfl) (fun K hK => ?_); simp (disch := first | omega | (simp only [lnS]; try omega; done)) [-getElem?_pos, -getElem?_neg, q7, q8, qi, nt_slG, nt_ptrG, nt_intG, nt_aggG, hi, hC, hle, hbn, hrowl, -xbuild, hbl]; refine hK _ _ ?_; clear hK K)
    (refine aw_ops (by kernel_rfl) (fun K hK => ?_); simp (disch := first | omega | (simp only [lnS]; try omega; done)) [-getElem?_pos, -getElem?_neg, qi]; refine hK _ _ ?_; clear hK K)
    exact ⟨c - 1, by omega, i + 1, by omega, by (first | (simp [put_at, put_none, fr0_at, q0]; done) | rfl), by (first | (simp [put_at, put_none, fr0_at, q7]; done) | rfl), by (first | (simp [put_at, put_none, fr0_at, q8]; done) | rfl), by (first | (simp [put_at, put_none, fr0_at, q9]; done) | rfl), by (first | (simp [put_at, put_none, fr0_at, q11]; done) | rfl), by (first | (simp [put_at, put_none, fr0_at]; done) | rfl), hW2⟩
  (refine aw_ops (by kernel_rfl) (fun K hK => ?_); simp (disch := first | omega | (simp only [lnS]; try omega; done)) [-getElem?_pos, -getElem?_neg, q7, q8, qi, nt_slG, nt_ptrG, nt_intG, hi]; refine hK _ _ ?_; clear hK K)
  refine aw_f (by (first | (simp [eval_tmp, put_at, hi]; done) | (simp [eval_tmp, put_at, hi]; omega))) (by kernel_rfl) ?_
  refine aw_exit ?_
  have hb7 := hWr.other (j := n + 2) (by omega) hb7
  have hkGD := hWr
  clear hWr
  have hkeep : ∀ j, n + 10 ≤ j → hget GD j = hget G9 j := fun j hj => (hkGD.2.1 j (by omega)).trans ((hkGC.2.1 j (by omega)).trans ((hkGB.2.1 j (by omega)).trans (hkGA.2.1 j (by omega))))
  have hlow : ∀ j, j < n → hget GD j = hget G9 j := fun j hj => (hkGD.2.1 j (by omega)).trans ((hkGC.2.1 j (by omega)).trans ((hkGB.2.1 j (by omega)).trans (hkGA.2.1 j (by omega))))
  have glD : GD.length = G9.length := hkGD.1.trans (hkGC.1.trans (hkGB.1.trans hkGA.1))
  have lwD : Low n H GD := ⟨fun j hj => (hlow j hj).trans (lw9.1 j hj), by have := lw9.2; omega⟩
  have eL : addL l id o = l ++ [addD l id o] := if_pos h0
  have hwfL := addL_wf (l := l) hw hid hwo (by omega)
  rw [eL] at hwfL
  have hsmL : Sm6 (l ++ [addD l id o]) := eL ▸ addL_sm
  have hlenL : (l ++ [addD l id o]).length ≤ maxLen := eL ▸ addL_len (by omega)
  have n1 : NdA GD sv (l ++ [addD l id o]) := hnew.nda hwfL (fun j h1 h2 => (hkeep j (by omega)).trans (low9.1 j h2))
  have n2 : NdA GD rv (l ++ [addD l id o]) := (hwant GD (hn ▸ lwD) (fun j h1 h2 => hkeep j (by omega))).nda hwfL
  obtain ⟨C, hC, hCl⟩ := hkGD.2.2
  have n3 : NdA GD (.slice (some ⟨n + 9, C.length, none⟩) 2 3) [zN, zN] := rows_nda (A := C) (Z := []) (R := List.replicate 2 zRow) (L := [zN, zN]) (by rw [List.append_nil, ← hZ2]; exact hC) rfl (fun x hx => by
    have : x = zN := by simpa using hx
    rw [this]; exact zN_wf) (fun k us x hk hx => by
    have e1 : us = zRow := List.eq_of_mem_replicate (List.mem_of_getElem? hk)
    have e2 : x = zN := by have := List.mem_of_getElem? hx; simpa using this
    rw [e1, e2]
    exact ⟨zRow_len, zRow_val _⟩)
  rw [hCl] at n3
  have hlt2 : ¬ ((l.length : Int) + 2 = (l.length : Int)) := by omega
  refine aw_seq ?_
  refine aw_ops (by kernel_rfl) (fun K hK => ?_)
  simp (disch := first | omega | (simp only [lnS]; try omega; done)) [-getElem?_pos, -getElem?_neg, q8, nt_slG, nt_intG]
  refine hK _ _ ?_; clear hK K
  refine aw_seq ?_
  refine aw_cut (fun α G => α 6 = .bool true ∧ True) ?_ ?_
  · (refine aw_plan [] [] [0, 1, 2, 3, 4, 5, 6, 7, 8, 9, 10, 11, 12, 13, 14] 15 0 (by kernel_rfl) (by kernel_rfl) (by kernel_rfl) (fun K hK => ?_)); simp only [sel, List.getElem?_cons_succ, List.getElem?_cons_zero, List.drop_succ_cons, List.drop_zero]; simp (disch := first | omega | (simp only [lnS]; try omega; done)) [-getElem?_pos, -getElem?_neg, q0, q8, q9, q11, -notTuple, v1, v2, hsv.1, hsv.2, hrv.1, hrv.2, nt_slG, nt_intG, -xlen, u3, hlt2, hp0, all_zl, PL_nil, plainB_lit, PL_cons, PLc_val, PLc_new, stepP_t, stepP_f, stepPC_n, stepPC_s, stepPX_s, stepPX_n, stepPV_n, stepPV_s, stepPA_t, stepPA_c, stepPA_l, stepPN_s, allocOp, reloc_sl, reloc_ptr, List.map_cons, List.map_nil, List.nil_append, List.append_assoc, List.cons_append, Nat.add_assoc]
    refine PLc_call (v := .bool true) (by kernel_rfl) (fun L hL => alive_rc) (by simp [pv_iv, pv_int, pv_bool, pv_string, pv_tup2, pv_tup3, iv_plain, p2_int, p2_bool, p2_string]) ?_
    simp (disch := first | omega | (simp only [lnS]; try omega; done)) [-getElem?_pos, -getElem?_neg, q0, q8, q9, q11, -notTuple, v1, v2, hsv.1, hsv.2, hrv.1, hrv.2, nt_slG, nt_intG, -xlen, u3, hlt2, hp0, all_zl, PL_nil, plainB_lit, PL_cons, PLc_val, PLc_new, stepP_t, stepP_f, stepPC_n, stepPC_s, stepPX_s, stepPX_n, stepPV_n, stepPV_s, stepPA_t, stepPA_c, stepPA_l, stepPN_s, allocOp, reloc_sl, reloc_ptr, List.map_cons, List.map_nil, List.nil_append, List.append_assoc, List.cons_append, Nat.add_assoc]
    refine PLc_call (v := .bool true) (by kernel_rfl) (fun L hL => by
      have h := rSame_rc (γ := γ) (n1.lowG (Low.push (Nat.le_refl _) L)) (n2.lowG (Low.push (Nat.le_refl _) L)) hsmL hsmL hlenL
      rwa [decide_eq_true rfl] at h) (by simp [pv_iv, pv_int, pv_bool, pv_string, pv_tup2, pv_tup3, iv_plain, p2_int, p2_bool, p2_string]) ?_
    simp (disch := first | omega | (simp only [lnS]; try omega; done)) [-getElem?_pos, -getElem?_neg, q0, q8, q9, q11, -notTuple, v1, v2, hsv.1, hsv.2, hrv.1, hrv.2, nt_slG, nt_intG, -xlen, u3, hlt2, hp0, all_zl, PL_nil, plainB_lit, PL_cons, PLc_val, PLc_new, stepP_t, stepP_f, stepPC_n, stepPC_s, stepPX_s, stepPX_n, stepPV_n, stepPV_s, stepPA_t, stepPA_c, stepPA_l, stepPN_s, allocOp, reloc_sl, reloc_ptr, List.map_cons, List.map_nil, List.nil_append, List.append_assoc, List.cons_append, Nat.add_assoc]
    rw [hzr]
    have zall : zRow.all plain1 = true := by kernel_rfl
    refine ⟨fun x hx => ?_, ?_⟩
    · have hm := Nat.mod_lt x (show 0 < 104 by omega)
      rw [List.getElem?_eq_getElem (by rw [zRow_len]; exact hm)]
      exact List.all_eq_true.1 zall _ (List.getElem_mem _)
    have z208 : (List.map (fun j => zRow[j % 104]?.getD undef) (List.range 208)) = Z2 := by rw [hZ2]; exact zeros_rows zRow_len 2
    rw [z208]
    refine PLc_call (v := .bool true) (by kernel_rfl) (fun L hL => ?_) (by simp [pv_iv, pv_int, pv_bool, pv_string, pv_tup2, pv_tup3, iv_plain, p2_int, p2_bool, p2_string]) ?_
    · have hs : hget L 0 = some ⟨Z2, 39, some 104⟩ := hL (.slice (some ⟨GD.length, 0, none⟩) 2 2) (by simp) 0 _ (by simp) rfl
      have hsG : hget (GD ++ L) GD.length = some ⟨Z2, 39, some 104⟩ := by rw [hget_app0]; exact hs
      have n4 : NdA (GD ++ L) (.slice (some ⟨GD.length, 0, none⟩) 2 2) [zN, zN] := rows_nda (A := []) (Z := []) (R := List.replicate 2 zRow) (L := [zN, zN]) (by rw [List.append_nil, List.nil_append, ← hZ2]; exact hsG) rfl (fun x hx => by
        have : x = zN := by simpa using hx
        rw [this]; exact zN_wf) (fun k us x hk hx => by
        have e1 : us = zRow := List.eq_of_mem_replicate (List.mem_of_getElem? hk)
        have e2 : x = zN := by have := List.mem_of_getElem? hx; simpa using this
        rw [e1, e2]
        exact ⟨zRow_len, zRow_val _⟩)
      have szz : Sm6 [zN, zN] := fun x hx => by
        have : x = zN := by simpa using hx
        rw [this]
        exact ⟨Nat.zero_le _, Nat.zero_le _, Nat.zero_le _⟩
      have h := rSame_rc (γ := γ) (n3.lowG (Low.push (Nat.le_refl _) L)) n4 szz szz (by simp [maxLen])
      rwa [decide_eq_true rfl] at h
    try simp (disch := first | omega | (simp only [lnS]; try omega; done)) [-getElem?_pos, -getElem?_neg, q0, q8, q9, q11, -notTuple, v1, v2, hsv.1, hsv.2, hrv.1, hrv.2, nt_slG, nt_intG, -xlen, u3, hlt2, hp0, all_zl, PL_nil, plainB_lit, PL_cons, PLc_val, PLc_new, stepP_t, stepP_f, stepPC_n, stepPC_s, stepPX_s, stepPX_n, stepPV_n, stepPV_s, stepPA_t, stepPA_c, stepPA_l, stepPN_s, allocOp, reloc_sl, reloc_ptr, List.map_cons, List.map_nil, List.nil_append, List.append_assoc, List.cons_append, Nat.add_assoc]
    refine hK _ _ ?_; clear hK K
    exact ⟨by (first | (simp [put_at, put_none, fr0_at]; done) | rfl), trivial⟩
  rintro α G ⟨q6, _⟩
  (refine aw_ret ?_; simp (disch := first | omega | (simp only [lnS]; try omega; done)) [-getElem?_pos, -getElem?_neg, thenQ_ret, scopeQ_ret, inBlockQ_ret, RQ, resL, resV, q6])
end
end Go.Proofs.Ytcbfbmdglhlbmaa
