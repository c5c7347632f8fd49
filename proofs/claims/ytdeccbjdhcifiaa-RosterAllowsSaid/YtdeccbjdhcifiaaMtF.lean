/-
  cabalref11.Right: what it asks of an operation.
  slices.Clone at numbers, keys, boxes: what is copied lies in new memory.
  deep.Op: an operation, copied into new memory.
  deep.Nodes: a graph, copied into new memory.
  What holds of right graphs: pasts, authors, heads.
  cabalref15.Right: is it a graph?
  Keys sorted: the insertion sort of the library, for at most twelve of them.
  graph.Heads.
  graph.Add.
  The vector that every right program answers: three nodes, put behind one another.
  GraphOrder: the law, walked.
  slices.IndexFunc, ContainsFunc, BinarySearch over numbers; groups.
-/
import Derived.Test.YtdeccbjdhcifiaaMtE
import Derived.Test.YtdeccbjdhcifiaaMtB
import Derived.Test.YtdeccbjdhcifiaaMtC
import Derived.Test.YtdeccbjdhcifiaaMtD
namespace Go.Proofs.Ytdeccbjdhcifiaa
open Go Go.RowKit
set_option linter.unusedSimpArgs false
set_option linter.unusedVariables false
set_option maxRecDepth 100000
set_option maxHeartbeats 4000000
section
def hdO (o : OpD) : Bool := memI o.author && (decide (o.seq ≠ 0) && (decide (1 ≤ o.kind) && (decide (o.kind ≤ 7) && (decide (o.parents.length ≤ 8) && (decide (o.boxes.length ≤ 8) && decide (o.text.size ≤ 256))))))
theorem refO_hd (o : OpD) : refO o = (hdO o && (risesK o.parents && ((o.who.all memI && risesI o.who) && (boxesB o && kindB o (decide (o.author ∈ o.who)))))) := by
 unfold refO hdO
 simp only [Bool.and_assoc]
theorem BxV.row_at {H : AH} {v : Value} {l : List BoxD} (h : BxV H v l) (hl : ∀ b ∈ l, b.Wf) {i : Nat} {z : BoxD} (hz : l[i]? = some z) : ∃ j q bb ws, xindexAddr Try.prog 39 v (.int .i64 (i : Nat)) = some (.pointer (some ⟨j, q, none⟩)) ∧ hget H j = some bb ∧ q + 36 ≤ bb.cells.length ∧ ws = (bb.cells.drop q).take 36 ∧ (∀ c, c < 36 → bb.cells[q + c]? = ws[c]?) ∧ BoxC H ws z := by
 have hzw := hl z (List.mem_of_getElem? hz)
 obtain ⟨j, b, us, hv, hb, hle, hx, hus, hul, hle2, hc, hval⟩ := val_at (P := Try.prog) (t := 39) (e := 107) (sz := 36) h (by kernel_rfl) (by kernel_rfl) (by omega) (fun row hr => by
  obtain ⟨y, hy, rfl⟩ := List.mem_map.1 hr
  have := (hl y hy).pub.1
  simp [BoxD.row, kd, this]) (i := i) (row := z.row) (by rw [List.getElem?_map, hz]; rfl)
 exact ⟨j, i * 36, b, us, hx, hb, hle2, hus, hc, box_c hzw hval⟩
theorem all_false {β : Type} {l : List β} {p : β → Bool} {i : Nat} {z : β} (hz : l[i]? = some z) (h : p z = false) : l.all p = false := by
 rw [List.all_eq_false]
 exact ⟨z, List.mem_of_getElem? hz, by rw [h]; decide⟩
theorem all_take {β : Type} {l : List β} {p : β → Bool} (h : ∀ (k : Nat) (z : β), l[k]? = some z → p z = true) : l.all p = true := by
 rw [List.all_eq_true]
 intro z hz
 obtain ⟨k, hk⟩ := List.getElem?_of_mem hz
 exact h k z hk
theorem range_false {n i : Nat} {p : Nat → Bool} (hi : i < n) (h : p i = false) : (List.range n).all p = false := by
 rw [List.all_eq_false]
 exact ⟨i, List.mem_range.2 hi, by rw [h]; decide⟩
theorem range_true {n : Nat} {p : Nat → Bool} (h : ∀ i, i < n → p i = true) : (List.range n).all p = true := by
 rw [List.all_eq_true]
 exact fun i hi => h i (List.mem_range.1 hi)
theorem getD_of {β : Type} {l : List β} {i : Nat} {z d : β} (h : l[i]? = some z) : l.getD i d = z := by rw [List.getD_eq_getElem?_getD, h]; rfl
attribute [local simp] wb_bool wb_undef with_lit XL_nil XL_cons XLc_val XLc_call step1_eq stepW_t stepW_f stepC_n stepC_s stepX_s stepX_n stepN_s calleeX oneV xop_eq xopR_s xopR_n wantedA_eq wantedG_n wantedG_s plain1_int plain1_bool plain1_string bits_i64 bits_u64 bits_u32 bits_u16 bits_u8 xeqA xagg xcmp xarr allK_iv num_iv calleeOf xread xeff xbin xint xnil xun xstr xload xconv xpart xfield xfieldAddr xindexAddr xindex bnd asInt? xslice xlen xmin xmax xbuild xfill xappend xapp2 xappstr xappmk xcap xcopy xcells eval_tmp eval_const put_at put_none fr0_at cells_agg cells_int cells_bool cells_string cells_ptr cells_slice notTuple tab iv_all hget_app hget_app0 hget_cons0 hget_cons set_app set_app0 setR setR_one QL_nil QL_cons QLc_val stepQ_t stepQ_f stepQC_n stepQC_s stepQX_s SL_nil SL_cons SLc_val stepS_t stepS_f ltT ltF leT leF eqT eqF ltTn ltFn leTn leFn eqTn eqFn beqT beqF bneT bneF wi64 wu64 wu32 wu16 wu8 tmodP tdivP hgetL hgetNe hgetEq setL nums_def nums_len Nat.succ_le_of_lt List.getElem?_cons_zero List.getElem?_cons_succ Option.getD_some Int.toNat_add Int.toNat_mul agM okM agB agI agS agP agL agA okB okI okS okP okSl okA
theorem member_vc (z : Int) : VC Try.prog 112 #[.int .i64 z] (.bool (memI z)) := by
 refine vc_of_ac (by simp [pv_iv, pv_int, pv_bool, pv_string, pv_tup2, pv_tup3, iv_plain, p2_int, p2_bool, p2_string]) (by simp [pv_iv, pv_int, pv_bool, pv_string, pv_tup2, pv_tup3, iv_plain, p2_int, p2_bool, p2_string]) ?_
 refine ac_of_aw Try.func112 rfl Try.ntmps112 Try.results112 (by simp) ?_
 refine aw_seq ?_
 (refine aw_ops (by kernel_rfl) (fun K hK => ?_); simp (disch := first | omega | (simp only [lnS]; try omega)) [-getElem?_pos, -getElem?_neg]; refine hK _ _ ?_; clear hK K)
 refine aw_seq ?_
 by_cases h : 0 ≤ z
 ·by_cases h2 : z ≤ 7
  ·(refine aw_ops (by kernel_rfl) (fun K hK => ?_); simp (disch := first | omega | (simp only [lnS]; try omega)) [-getElem?_pos, -getElem?_neg, h, h2]; refine hK _ _ ?_; clear hK K)
   (refine aw_ret ?_; simp (disch := first | omega | (simp only [lnS]; try omega)) [-getElem?_pos, -getElem?_neg, thenQ_ret, scopeQ_ret, inBlockQ_ret, RQ, resL, resV])
   simp [memI, h]; omega
  ·(refine aw_ops (by kernel_rfl) (fun K hK => ?_); simp (disch := first | omega | (simp only [lnS]; try omega)) [-getElem?_pos, -getElem?_neg, h, h2]; refine hK _ _ ?_; clear hK K)
   (refine aw_ret ?_; simp (disch := first | omega | (simp only [lnS]; try omega)) [-getElem?_pos, -getElem?_neg, thenQ_ret, scopeQ_ret, inBlockQ_ret, RQ, resL, resV])
   simp [memI, h]; omega
 ·(refine aw_ops (by kernel_rfl) (fun K hK => ?_); simp (disch := first | omega | (simp only [lnS]; try omega)) [-getElem?_pos, -getElem?_neg, h]; refine hK _ _ ?_; clear hK K)
  (refine aw_ret ?_; simp (disch := first | omega | (simp only [lnS]; try omega)) [-getElem?_pos, -getElem?_neg, thenQ_ret, scopeQ_ret, inBlockQ_ret, RQ, resL, resV])
  simp [memI, h]
theorem rRight_rc {γ : Nat → Option Nat} {H : AH} {us : List Value} {o : OpD} {pv wv bv : Value} (h : OpC H us o pv wv bv) (hw : o.Wf) : AC Try.prog H.length γ 66 #[.agg us.toArray] H (fun v' _ => v' = .bool (refO o)) := by
 have hul := h.len
 have htu : us.take 71 = us := List.take_of_length_le (by omega)
 have hps := hw.plen
 have hws := hw.wlen
 have hbs := hw.blen
 have hts := hw.text
 have hm63 : o.parents.length ≤ 9223372036854775807 ∧ o.who.length ≤ 9223372036854775807 ∧ o.boxes.length ≤ 9223372036854775807 ∧ o.text.size ≤ 9223372036854775807 := by simp only [maxLen] at hps hws hbs hts; omega
 obtain ⟨m1, m2, m3, m4⟩ := hm63
 refine ac_of_aw Try.func66 rfl Try.ntmps66 Try.results66 (by simp) ?_
 refine aw_seq ?_
 (refine aw_ops (by kernel_rfl) (fun K hK => ?_); simp (disch := first | omega | (simp only [lnS]; try omega)) [-getElem?_pos, -getElem?_neg, hul, nt_aggG]; refine hK _ _ ?_; clear hK K)
 obtain ⟨hlow, hb⟩ := boxed (H := H) us 41
 obtain ⟨n, hn⟩ : ∃ n, n = H.length := ⟨_, rfl⟩
 rw [← hn] at hb hlow ⊢
 generalize H ++ [some ⟨us, 41, none⟩] = G at *
 have hG : OpC G us o pv wv bv := h.low (fun j hj => hlow.1 j (by omega))
 have hpacc := hG.parents.acc (fun k hk => (hw.parents k hk).1)
 have hwacc := hG.who.acc
 have hbx := hG.boxes
 have hbnt := val_nt hbx
 have hblen := val_len (P := Try.prog) (t := 39) (e := 107) hbx (by kernel_rfl)
 rw [List.length_map] at hblen
 have c0 := hG.c0
 have c1 := hG.c1
 have c2 := hG.c2
 have c3 := hG.c3
 have c4 := hG.c4
 have c69 := hG.c69
 have c70 := hG.c70
 have p1 := hpacc.nt
 have p2 := hpacc.cs
 have p3 := hpacc.len
 have w1 := hwacc.nt
 have w2 := hwacc.cs
 have w3 := hwacc.len
 obtain ⟨b1, b2⟩ := hbnt
 have hx2 : xload Try.prog 36 (.pointer (some ⟨n, 2, none⟩)) G = some pv := by simp [xload, hb, c2]
 have hx4 : xload Try.prog 23 (.pointer (some ⟨n, 4, none⟩)) G = some wv := by simp [xload, hb, c4]
 have hx70 : xload Try.prog 39 (.pointer (some ⟨n, 70, none⟩)) G = some bv := by simp [xload, hb, c70]
 have hsq := hw.seq
 unfold U32 at hsq
 refine aw_seq ?_
 refine aw_seq ?_
 refine aw_cut (fun α G2 => α 44 = .bool (!hdO o) ∧ α 1 = .pointer (some ⟨n, 0, none⟩) ∧ G2 = G) ?_ ?_
 ·refine aw_ops (by kernel_rfl) (fun K hK => ?_)
  simp (disch := first | omega | (simp only [lnS]; try omega)) [-getElem?_pos, -getElem?_neg, hb, hul, c0]
  refine ⟨by kernel_rfl, ac_of_vc (by simp [pv_iv, pv_int, pv_bool, pv_string, pv_tup2, pv_tup3, iv_plain, p2_int, p2_bool, p2_string]) (member_vc o.author) ?_⟩
  cases h1 : memI o.author with
  | false =>
   try simp (disch := first | omega | (simp only [lnS]; try omega)) [-getElem?_pos, -getElem?_neg]
   refine hK _ _ ?_; clear hK K
   exact ⟨by simp [hdO, h1, put_at], by (first | (simp [put_at, put_none, fr0_at]; done) | rfl), rfl⟩
  | true =>
  by_cases h2 : o.seq = 0
  ·have h2b : (o.seq == 0) = true := by simp [h2]
   simp (disch := first | omega | (simp only [lnS]; try omega)) [-getElem?_pos, -getElem?_neg, hb, hul, c1, h2, h2b]
   refine hK _ _ ?_; clear hK K
   exact ⟨by simp [hdO, h1, h2, put_at], by (first | (simp [put_at, put_none, fr0_at]; done) | rfl), rfl⟩
  have h2b : (o.seq == 0) = false := by simp [h2]
  by_cases h3 : 1 ≤ o.kind
  case neg =>
   have h3b : o.kind < 1 := by omega
   simp (disch := first | omega | (simp only [lnS]; try omega)) [-getElem?_pos, -getElem?_neg, hb, hul, c1, c3, h2, h2b, h3b]
   refine hK _ _ ?_; clear hK K
   exact ⟨by simp [hdO, h1, h2, h3, put_at], by (first | (simp [put_at, put_none, fr0_at]; done) | rfl), rfl⟩
  have h3b : ¬ o.kind < 1 := by omega
  by_cases h4 : o.kind ≤ 7
  case neg =>
   have h4b : 7 < o.kind := by omega
   simp (disch := first | omega | (simp only [lnS]; try omega)) [-getElem?_pos, -getElem?_neg, hb, hul, c1, c3, h2, h2b, h3b, h4b]
   refine hK _ _ ?_; clear hK K
   exact ⟨by simp [hdO, h1, h2, h3, h4, put_at], by (first | (simp [put_at, put_none, fr0_at]; done) | rfl), rfl⟩
  have h4b : ¬ 7 < o.kind := by omega
  by_cases h5 : o.parents.length ≤ 8
  case neg =>
   have h5b : 8 < o.parents.length := by omega
   simp (disch := first | omega | (simp only [lnS]; try omega)) [-getElem?_pos, -getElem?_neg, hb, hul, c1, c2, c3, h2, h2b, h3b, h4b, h5b, -notTuple, p1, p2, nt_intG, nt_ptrG, -xlen, p3]
   refine hK _ _ ?_; clear hK K
   exact ⟨by simp [hdO, h1, h2, h3, h4, h5, put_at], by (first | (simp [put_at, put_none, fr0_at]; done) | rfl), rfl⟩
  have h5b : ¬ 8 < o.parents.length := by omega
  by_cases h6 : o.boxes.length ≤ 8
  case neg =>
   have h6b : 8 < o.boxes.length := by omega
   simp (disch := first | omega | (simp only [lnS]; try omega)) [-getElem?_pos, -getElem?_neg, hb, hul, c1, c2, c3, c70, h2, h2b, h3b, h4b, h5b, h6b, -notTuple, p1, p2, b1, b2, nt_intG, nt_ptrG, -xlen, p3, hblen]
   refine hK _ _ ?_; clear hK K
   exact ⟨by simp [hdO, h1, h2, h3, h4, h5, h6, put_at], by (first | (simp [put_at, put_none, fr0_at]; done) | rfl), rfl⟩
  have h6b : ¬ 8 < o.boxes.length := by omega
  have hxt : xlen Try.prog 9 (.string o.text) = some (.int .i64 o.text.size) := by simp [xlen]
  by_cases h7 : o.text.size ≤ 256
  ·have h7b : ¬ 256 < o.text.size := by omega
   simp (disch := first | omega | (simp only [lnS]; try omega)) [-getElem?_pos, -getElem?_neg, hb, hul, c1, c2, c3, c69, c70, h2, h2b, h3b, h4b, h5b, h6b, h7b, -notTuple, p1, p2, b1, b2, nt_intG, nt_ptrG, nt_strG, -xlen, p3, hblen, hxt]
   refine hK _ _ ?_; clear hK K
   exact ⟨by simp [hdO, h1, h2, h3, h4, h5, h6, h7, put_at], by (first | (simp [put_at, put_none, fr0_at]; done) | rfl), rfl⟩
  ·have h7b : 256 < o.text.size := by omega
   simp (disch := first | omega | (simp only [lnS]; try omega)) [-getElem?_pos, -getElem?_neg, hb, hul, c1, c2, c3, c69, c70, h2, h2b, h3b, h4b, h5b, h6b, h7b, -notTuple, p1, p2, b1, b2, nt_intG, nt_ptrG, nt_strG, -xlen, p3, hblen, hxt]
   refine hK _ _ ?_; clear hK K
   exact ⟨by simp [hdO, h1, h2, h3, h4, h5, h6, h7, put_at], by (first | (simp [put_at, put_none, fr0_at]; done) | rfl), rfl⟩
 rintro α G2 ⟨q44, q1, rfl⟩
 have hrf := refO_hd o
 cases hhd : hdO o with
 | false =>
  rw [hhd] at q44 hrf
  refine aw_t (by (first | (simp [eval_tmp, put_at, q44]; done) | (simp [eval_tmp, put_at, q44]; omega))) (by kernel_rfl) ?_
  refine aw_seq ?_
  (refine aw_ops (by kernel_rfl) (fun K hK => ?_); simp (disch := first | omega | (simp only [lnS]; try omega)) [-getElem?_pos, -getElem?_neg]; refine hK _ _ ?_; clear hK K)
  (refine aw_ret ?_; simp (disch := first | omega | (simp only [lnS]; try omega)) [-getElem?_pos, -getElem?_neg, thenQ_ret, scopeQ_ret, inBlockQ_ret, RQ, resL, resV])
  rw [hrf]; rfl
 | true =>
 rw [hhd, Bool.true_and] at hrf
 rw [hhd] at q44
 refine aw_f (by (first | (simp [eval_tmp, put_at, q44]; done) | (simp [eval_tmp, put_at, q44]; omega))) (by kernel_rfl) ?_
 refine aw_skip ?_
 refine aw_seq ?_
 refine aw_seq ?_
 (refine aw_ops (by kernel_rfl) (fun K hK => ?_); simp (disch := first | omega | (simp only [lnS]; try omega)) [-getElem?_pos, -getElem?_neg]; refine hK _ _ ?_; clear hK K)
 refine aw_block ?_
 refine aw_loop (fun c α G => ∃ i : Nat, 1 ≤ i ∧ i + c = o.parents.length + 1 ∧ α 1 = .pointer (some ⟨n, 0, none⟩) ∧ α 3 = .int .i64 (i : Nat) ∧ G = G2 ∧ ∀ k, k + 1 < i → cmpL (o.parents.getD k []) (o.parents.getD (k + 1) []) < 0) o.parents.length ?_ ?_
 ·exact ⟨1, by omega, by omega, by (first | (simp [put_at, put_none, fr0_at, q1]; done) | rfl), by (first | (simp [put_at, put_none, fr0_at]; done) | rfl), rfl, fun k hk => by omega⟩
 clear q1 q44
 rintro c α G ⟨i, hi1, hic, q1, q3, rfl, hpre⟩
 refine aw_seq ?_
 refine aw_seq ?_
 by_cases hi : i < o.parents.length
 case pos =>
  obtain ⟨x0, y0, r1, r2, r3, r4, r5⟩ := hpacc.at_ (i - 1) (by omega)
  obtain ⟨x1, y1, s1, s2, s3, s4, s5⟩ := hpacc.at_ i hi
  subst r4 s4
  have r5 := r5 G (Low.refl (Nat.le_refl _))
  have s5 := s5 G (Low.refl (Nat.le_refl _))
  have hk0 := hw.parents (o.parents.getD (i - 1) []) (by rw [List.getD_eq_getElem?_getD, List.getElem?_eq_getElem (show i - 1 < o.parents.length by omega)]; exact List.getElem_mem _)
  have hk1 := hw.parents (o.parents.getD i []) (by rw [List.getD_eq_getElem?_getD, List.getElem?_eq_getElem hi]; exact List.getElem_mem _)
  have hsub : (i : Int) - 1 = ((i - 1 : Nat) : Int) := by omega
  have hls := less_vc _ _ hk0.1 hk1.1 hk0.2 hk1.2
  have hgt := cmpL_gt hk1.2 hk0.2 (by rw [hk1.1, hk0.1])
  have hlt := cmpL_lt hk0.2 hk1.2 (by rw [hk1.1, hk0.1])
  have hnx : cmpL (o.parents.getD (i - 1) []) (o.parents.getD (i - 1 + 1) []) = cmpL (o.parents.getD (i - 1) []) (o.parents.getD i []) := by rw [show i - 1 + 1 = i by omega]
  (refine aw_ops (by kernel_rfl) (fun K hK => ?_); simp (disch := first | omega | (simp only [lnS]; try omega)) [-getElem?_pos, -getElem?_neg, q1, q3, hb, hul, c2, -notTuple, p1, p2, nt_intG, nt_ptrG, -xlen, p3, hi]; refine hK _ _ ?_; clear hK K)
  refine aw_t (by (first | (simp [eval_tmp, put_at, hi]; done) | (simp [eval_tmp, put_at, hi]; omega))) (by kernel_rfl) ?_
  refine aw_skip ?_
  refine aw_seq ?_
  refine aw_block ?_
  refine aw_seq ?_
  have e1 : (0 : Int) < cmpL (o.parents.getD i []) (o.parents.getD (i - 1) []) ↔ cmpL (o.parents.getD (i - 1) []) (o.parents.getD i []) < 0 := hgt.trans hlt.symm
  generalize hA : o.parents.getD (i - 1) [] = A at *
  generalize hB : o.parents.getD i [] = B at *
  (refine aw_plan [] [] [0, 1, 2, 3, 4, 5, 6, 7, 8, 9, 10, 11, 12] 13 0 (by kernel_rfl) (by kernel_rfl) (by kernel_rfl) (fun K hK => ?_)); simp only [sel, List.getElem?_cons_succ, List.getElem?_cons_zero, List.drop_succ_cons, List.drop_zero]; simp (disch := first | omega | (simp only [lnS]; try omega)) [-getElem?_pos, -getElem?_neg, q1, q3, hb, hul, c2, hsub, -notTuple, p1, p2, r1, s1, r3, s3, nt_intG, nt_ptrG, nt_aggG, -xindexAddr, r2, s2, -xload, hx2, r5, s5, PL_nil, plainB_lit, PL_cons, PLc_val, PLc_new, stepP_t, stepP_f, stepPC_n, stepPC_s, stepPX_s, stepPX_n, stepPV_n, stepPV_s, stepPA_t, stepPA_c, stepPA_l, stepPN_s, allocOp, reloc_sl, reloc_ptr, List.map_cons, List.map_nil, List.nil_append, List.append_assoc, List.cons_append, Nat.add_assoc]
  refine PLc_call (v := .bool (decide (0 < cmpL B A))) (by kernel_rfl) (fun L hL => ac_of_vc (by simp [pv_iv, pv_int, pv_bool, pv_string, pv_tup2, pv_tup3, iv_plain, p2_int, p2_bool, p2_string]) hls rfl) (by simp [pv_iv, pv_int, pv_bool, pv_string, pv_tup2, pv_tup3, iv_plain, p2_int, p2_bool, p2_string]) ?_
  by_cases hlt2 : 0 < cmpL B A
  ·simp (disch := first | omega | (simp only [lnS]; try omega)) [-getElem?_pos, -getElem?_neg, hlt2, PL_nil, plainB_lit, PL_cons, PLc_val, PLc_new, stepP_t, stepP_f, stepPC_n, stepPC_s, stepPX_s, stepPX_n, stepPV_n, stepPV_s, stepPA_t, stepPA_c, stepPA_l, stepPN_s, allocOp, reloc_sl, reloc_ptr, List.map_cons, List.map_nil, List.nil_append, List.append_assoc, List.cons_append, Nat.add_assoc]
   refine hK _ _ ?_; clear hK K
   refine aw_f (by (first | (simp [eval_tmp, put_at, hlt2]; done) | (simp [eval_tmp, put_at, hlt2]; omega))) (by kernel_rfl) ?_
   refine aw_skip ?_
   (refine aw_ops (by kernel_rfl) (fun K hK => ?_); simp (disch := first | omega | (simp only [lnS]; try omega)) [-getElem?_pos, -getElem?_neg, q3]; refine hK _ _ ?_; clear hK K)
   refine ⟨c - 1, by omega, i + 1, by omega, by omega, by (first | (simp [put_at, put_none, fr0_at, q1]; done) | rfl), by (first | (simp [put_at, put_none, fr0_at]; done) | rfl), rfl, fun k hk => ?_⟩
   by_cases e : k = i - 1
   ·subst e
    rw [hA, hnx]
    exact e1.1 hlt2
   ·exact hpre k (by omega)
  ·simp (disch := first | omega | (simp only [lnS]; try omega)) [-getElem?_pos, -getElem?_neg, hlt2, PL_nil, plainB_lit, PL_cons, PLc_val, PLc_new, stepP_t, stepP_f, stepPC_n, stepPC_s, stepPX_s, stepPX_n, stepPV_n, stepPV_s, stepPA_t, stepPA_c, stepPA_l, stepPN_s, allocOp, reloc_sl, reloc_ptr, List.map_cons, List.map_nil, List.nil_append, List.append_assoc, List.cons_append, Nat.add_assoc]
   refine hK _ _ ?_; clear hK K
   refine aw_t (by (first | (simp [eval_tmp, put_at, hlt2]; done) | (simp [eval_tmp, put_at, hlt2]; omega))) (by kernel_rfl) ?_
   refine aw_seq ?_
   (refine aw_ops (by kernel_rfl) (fun K hK => ?_); simp (disch := first | omega | (simp only [lnS]; try omega)) [-getElem?_pos, -getElem?_neg]; refine hK _ _ ?_; clear hK K)
   (refine aw_ret ?_; simp (disch := first | omega | (simp only [lnS]; try omega)) [-getElem?_pos, -getElem?_neg, thenQ_ret, scopeQ_ret, inBlockQ_ret, RQ, resL, resV])
   rw [hrf]
   have : risesK o.parents = false := by
    unfold risesK
    refine range_false (i := i - 1) (by omega) ?_
    rw [hA, hnx, decide_eq_false_iff_not]
    exact fun hh => hlt2 (e1.2 hh)
   rw [this]; rfl
 (refine aw_ops (by kernel_rfl) (fun K hK => ?_); simp (disch := first | omega | (simp only [lnS]; try omega)) [-getElem?_pos, -getElem?_neg, q1, q3, hb, hul, c2, -notTuple, p1, p2, nt_intG, nt_ptrG, -xlen, p3, hi]; refine hK _ _ ?_; clear hK K)
 refine aw_f (by (first | (simp [eval_tmp, put_at, hi]; done) | (simp [eval_tmp, put_at, hi]; omega))) (by kernel_rfl) ?_
 refine aw_exit ?_
 have hrK : risesK o.parents = true := by
  unfold risesK
  exact range_true fun k hk => by
   rw [decide_eq_true_eq]
   exact hpre k (by omega)
 rw [hrK, Bool.true_and] at hrf
 refine aw_seq ?_
 (refine aw_ops (by kernel_rfl) (fun K hK => ?_); simp (disch := first | omega | (simp only [lnS]; try omega)) [-getElem?_pos, -getElem?_neg]; refine hK _ _ ?_; clear hK K)
 refine aw_seq ?_
 refine aw_seq ?_
 (refine aw_ops (by kernel_rfl) (fun K hK => ?_); simp (disch := first | omega | (simp only [lnS]; try omega)) [-getElem?_pos, -getElem?_neg]; refine hK _ _ ?_; clear hK K)
 refine aw_block ?_
 refine aw_loop (fun c α G2 => ∃ i : Nat, i + c = o.who.length ∧ α 1 = .pointer (some ⟨n, 0, none⟩) ∧ α 4 = .bool (decide (o.author ∈ o.who.take i)) ∧ α 5 = .int .i64 (i : Nat) ∧ G2 = G ∧ (∀ k z, k < i → o.who[k]? = some z → memI z = true) ∧ ∀ k, k + 1 < i → o.who.getD k 0 < o.who.getD (k + 1) 0) o.who.length ?_ ?_
 ·exact ⟨0, by omega, by (first | (simp [put_at, put_none, fr0_at, q1]; done) | rfl), by simp [put_at], by (first | (simp [put_at, put_none, fr0_at]; done) | rfl), rfl, fun k z hk => by omega, fun k hk => by omega⟩
 clear q1 q3
 rintro c α G3 ⟨i, hic, q1, q4, q5, rfl, hmem, hrise⟩
 refine aw_seq ?_
 refine aw_seq ?_
 by_cases hi : i < o.who.length
 case pos =>
  obtain ⟨x1, y1, s1, s2, s3, s4, s5⟩ := hwacc.at_ i hi
  subst s4
  have s5 := s5 G3 (Low.refl (Nat.le_refl _))
  obtain ⟨z, hz⟩ : ∃ z, o.who[i]? = some z := ⟨_, List.getElem?_eq_getElem hi⟩
  have hzd : o.who.getD i 0 = z := getD_of hz
  have hzb := hw.who z (List.mem_of_getElem? hz)
  have htk : o.who.take (i + 1) = o.who.take i ++ [z] := by rw [List.take_add_one, hz]; rfl
  rw [hzd] at s5 s3
  (refine aw_ops (by kernel_rfl) (fun K hK => ?_); simp (disch := first | omega | (simp only [lnS]; try omega)) [-getElem?_pos, -getElem?_neg, q1, q5, hb, hul, c4, -notTuple, w1, w2, nt_intG, nt_ptrG, -xlen, w3, hi]; refine hK _ _ ?_; clear hK K)
  refine aw_t (by (first | (simp [eval_tmp, put_at, hi]; done) | (simp [eval_tmp, put_at, hi]; omega))) (by kernel_rfl) ?_
  refine aw_skip ?_
  refine aw_seq ?_
  refine aw_block ?_
  refine aw_seq ?_
  refine aw_cut (fun α G2 => α 1 = .pointer (some ⟨n, 0, none⟩) ∧ α 4 = .bool (decide (o.author ∈ o.who.take i)) ∧ α 5 = .int .i64 (i : Nat) ∧ G2 = G3 ∧ memI z = true ∧ (0 < i → o.who.getD (i - 1) 0 < z)) ?_ ?_
  ·refine aw_seq ?_
   (refine aw_plan [] [] [0, 1, 2, 3, 4, 5, 6, 7, 8, 9, 10, 11, 12, 13, 14, 15, 16, 17, 18, 19, 20, 21, 22, 23, 24] 25 0 (by kernel_rfl) (by kernel_rfl) (by kernel_rfl) (fun K hK => ?_)); simp only [sel, List.getElem?_cons_succ, List.getElem?_cons_zero, List.drop_succ_cons, List.drop_zero]; simp (disch := first | omega | (simp only [lnS]; try omega)) [-getElem?_pos, -getElem?_neg, q1, q5, hb, hul, c4, -notTuple, w1, w2, s1, s3, nt_intG, nt_ptrG, -xindexAddr, s2, -xload, hx4, s5, PL_nil, plainB_lit, PL_cons, PLc_val, PLc_new, stepP_t, stepP_f, stepPC_n, stepPC_s, stepPX_s, stepPX_n, stepPV_n, stepPV_s, stepPA_t, stepPA_c, stepPA_l, stepPN_s, allocOp, reloc_sl, reloc_ptr, List.map_cons, List.map_nil, List.nil_append, List.append_assoc, List.cons_append, Nat.add_assoc]
   refine PLc_call (v := .bool (memI z)) (by kernel_rfl) (fun L hL => ac_of_vc (by simp [pv_iv, pv_int, pv_bool, pv_string, pv_tup2, pv_tup3, iv_plain, p2_int, p2_bool, p2_string]) (member_vc z) rfl) (by simp [pv_iv, pv_int, pv_bool, pv_string, pv_tup2, pv_tup3, iv_plain, p2_int, p2_bool, p2_string]) ?_
   have hbadW : (o.who.all memI && risesI o.who) = false → (risesK o.parents && ((o.who.all memI && risesI o.who) && (boxesB o && kindB o (decide (o.author ∈ o.who))))) = false := fun hh => by rw [hh]; simp
   cases hmz : memI z with
   | false =>
    simp (disch := first | omega | (simp only [lnS]; try omega)) [-getElem?_pos, -getElem?_neg, PL_nil, plainB_lit, PL_cons, PLc_val, PLc_new, stepP_t, stepP_f, stepPC_n, stepPC_s, stepPX_s, stepPX_n, stepPV_n, stepPV_s, stepPA_t, stepPA_c, stepPA_l, stepPN_s, allocOp, reloc_sl, reloc_ptr, List.map_cons, List.map_nil, List.nil_append, List.append_assoc, List.cons_append, Nat.add_assoc]
    refine hK _ _ ?_; clear hK K
    refine aw_t (by (first | (simp [eval_tmp, put_at]; done) | (simp [eval_tmp, put_at]; omega))) (by kernel_rfl) ?_
    refine aw_seq ?_
    (refine aw_ops (by kernel_rfl) (fun K hK => ?_); simp (disch := first | omega | (simp only [lnS]; try omega)) [-getElem?_pos, -getElem?_neg]; refine hK _ _ ?_; clear hK K)
    (refine aw_ret ?_; simp (disch := first | omega | (simp only [lnS]; try omega)) [-getElem?_pos, -getElem?_neg, thenQ_ret, scopeQ_ret, inBlockQ_ret, RQ, resL, resV])
    rw [hrf, all_false hz hmz]; simp
   | true =>
   by_cases hi0 : 0 < i
   case neg =>
    simp (disch := first | omega | (simp only [lnS]; try omega)) [-getElem?_pos, -getElem?_neg, q1, q5, hb, hul, c4, -notTuple, w1, w2, s1, s3, nt_intG, nt_ptrG, -xindexAddr, s2, -xload, hx4, s5, hi0, PL_nil, plainB_lit, PL_cons, PLc_val, PLc_new, stepP_t, stepP_f, stepPC_n, stepPC_s, stepPX_s, stepPX_n, stepPV_n, stepPV_s, stepPA_t, stepPA_c, stepPA_l, stepPN_s, allocOp, reloc_sl, reloc_ptr, List.map_cons, List.map_nil, List.nil_append, List.append_assoc, List.cons_append, Nat.add_assoc]
    refine hK _ _ ?_; clear hK K
    refine aw_f (by (first | (simp [eval_tmp, put_at]; done) | (simp [eval_tmp, put_at]; omega))) (by kernel_rfl) ?_
    refine aw_skip ?_
    exact ⟨by (first | (simp [put_at, put_none, fr0_at, q1]; done) | rfl), by (first | (simp [put_at, put_none, fr0_at, q4]; done) | rfl), by (first | (simp [put_at, put_none, fr0_at, q5]; done) | rfl), rfl, hmz, fun hh => absurd hh hi0⟩
   obtain ⟨x0, y0, r1, r2, r3, r4, r5⟩ := hwacc.at_ (i - 1) (by omega)
   subst r4
   have r5 := r5 G3 (Low.refl (Nat.le_refl _))
   have hsub : (i : Int) - 1 = ((i - 1 : Nat) : Int) := by omega
   obtain ⟨y, hy⟩ : ∃ y, o.who[i - 1]? = some y := ⟨_, List.getElem?_eq_getElem (by omega)⟩
   have hyd : o.who.getD (i - 1) 0 = y := getD_of hy
   rw [hyd] at r5 r3
   by_cases hyz : y < z
   ·have hyz2 : ¬ z ≤ y := by omega
    simp (disch := first | omega | (simp only [lnS]; try omega)) [-getElem?_pos, -getElem?_neg, q1, q5, hb, hul, c4, -notTuple, w1, w2, s1, s3, nt_intG, nt_ptrG, -xindexAddr, s2, -xload, hx4, s5, hi0, hsub, r1, r3, r2, r5, hyz2, PL_nil, plainB_lit, PL_cons, PLc_val, PLc_new, stepP_t, stepP_f, stepPC_n, stepPC_s, stepPX_s, stepPX_n, stepPV_n, stepPV_s, stepPA_t, stepPA_c, stepPA_l, stepPN_s, allocOp, reloc_sl, reloc_ptr, List.map_cons, List.map_nil, List.nil_append, List.append_assoc, List.cons_append, Nat.add_assoc]
    refine hK _ _ ?_; clear hK K
    refine aw_f (by (first | (simp [eval_tmp, put_at, hyz2]; done) | (simp [eval_tmp, put_at, hyz2]; omega))) (by kernel_rfl) ?_
    refine aw_skip ?_
    exact ⟨by (first | (simp [put_at, put_none, fr0_at, q1]; done) | rfl), by (first | (simp [put_at, put_none, fr0_at, q4]; done) | rfl), by (first | (simp [put_at, put_none, fr0_at, q5]; done) | rfl), rfl, hmz, fun _ => by rw [hyd]; exact hyz⟩
   ·have hyz2 : z ≤ y := by omega
    simp (disch := first | omega | (simp only [lnS]; try omega)) [-getElem?_pos, -getElem?_neg, q1, q5, hb, hul, c4, -notTuple, w1, w2, s1, s3, nt_intG, nt_ptrG, -xindexAddr, s2, -xload, hx4, s5, hi0, hsub, r1, r3, r2, r5, hyz2, PL_nil, plainB_lit, PL_cons, PLc_val, PLc_new, stepP_t, stepP_f, stepPC_n, stepPC_s, stepPX_s, stepPX_n, stepPV_n, stepPV_s, stepPA_t, stepPA_c, stepPA_l, stepPN_s, allocOp, reloc_sl, reloc_ptr, List.map_cons, List.map_nil, List.nil_append, List.append_assoc, List.cons_append, Nat.add_assoc]
    refine hK _ _ ?_; clear hK K
    refine aw_t (by (first | (simp [eval_tmp, put_at, hyz2]; done) | (simp [eval_tmp, put_at, hyz2]; omega))) (by kernel_rfl) ?_
    refine aw_seq ?_
    (refine aw_ops (by kernel_rfl) (fun K hK => ?_); simp (disch := first | omega | (simp only [lnS]; try omega)) [-getElem?_pos, -getElem?_neg]; refine hK _ _ ?_; clear hK K)
    (refine aw_ret ?_; simp (disch := first | omega | (simp only [lnS]; try omega)) [-getElem?_pos, -getElem?_neg, thenQ_ret, scopeQ_ret, inBlockQ_ret, RQ, resL, resV])
    have : risesI o.who = false := by
     unfold risesI
     refine range_false (i := i - 1) (by omega) ?_
     rw [decide_eq_false_iff_not, show i - 1 + 1 = i by omega, hyd, hzd, cmpI_lt]
     omega
    rw [hrf, this]; simp
  clear q1 q4 q5
  rintro α G4 ⟨q1, q4, q5, rfl, hmz, hrz⟩
  have hau : decide (o.author ∈ o.who.take (i + 1)) = (decide (o.author ∈ o.who.take i) || decide (z = o.author)) := by
   rw [htk, Bool.eq_iff_iff, Bool.or_eq_true, decide_eq_true_eq, decide_eq_true_eq, decide_eq_true_eq, List.mem_append, List.mem_singleton, eq_comm (a := o.author) (b := z)]
  have hm2 : ∀ k z, k < i + 1 → o.who[k]? = some z → memI z = true := fun k z' hk hz' => by
   by_cases e : k = i
   ·subst e
    rw [hz] at hz'
    cases hz'
    exact hmz
   ·exact hmem k z' (by omega) hz'
  have hr2 : ∀ k, k + 1 < i + 1 → o.who.getD k 0 < o.who.getD (k + 1) 0 := fun k hk => by
   by_cases e : k + 1 = i
   ·rw [e, hzd, show k = i - 1 by omega]
    exact hrz (by omega)
   ·exact hrise k (by omega)
  cases hd : decide (o.author ∈ o.who.take i) with
  | true =>
   rw [hd] at q4 hau
   (refine aw_plan [] [] [0, 1, 2, 3, 4, 5, 6, 7, 8, 9, 10, 11] 12 0 (by kernel_rfl) (by kernel_rfl) (by kernel_rfl) (fun K hK => ?_)); simp only [sel, List.getElem?_cons_succ, List.getElem?_cons_zero, List.drop_succ_cons, List.drop_zero]; simp (disch := first | omega | (simp only [lnS]; try omega)) [-getElem?_pos, -getElem?_neg, q1, q4, q5, hb, hul, PL_nil, plainB_lit, PL_cons, PLc_val, PLc_new, stepP_t, stepP_f, stepPC_n, stepPC_s, stepPX_s, stepPX_n, stepPV_n, stepPV_s, stepPA_t, stepPA_c, stepPA_l, stepPN_s, allocOp, reloc_sl, reloc_ptr, List.map_cons, List.map_nil, List.nil_append, List.append_assoc, List.cons_append, Nat.add_assoc]
   refine hK _ _ ?_; clear hK K
   (refine aw_ops (by kernel_rfl) (fun K hK => ?_); simp (disch := first | omega | (simp only [lnS]; try omega)) [-getElem?_pos, -getElem?_neg, q5]; refine hK _ _ ?_; clear hK K)
   refine ⟨c - 1, by omega, i + 1, by omega, by (first | (simp [put_at, put_none, fr0_at, q1]; done) | rfl), by rw [hau]; (first | (simp [put_at, put_none, fr0_at]; done) | rfl), by (first | (simp [put_at, put_none, fr0_at]; done) | rfl), rfl, hm2, hr2⟩
  | false =>
   rw [hd] at q4 hau
   have hx0 : xload Try.prog 3 (.pointer (some ⟨n, 0, none⟩)) G4 = some (.int .i64 o.author) := by simp [xload, hb, c0]
   by_cases hza : z = o.author
   ·have hzab : (z == o.author) = true := by simp [hza]
    (refine aw_plan [] [] [0, 1, 2, 3, 4, 5, 6, 7, 8, 9, 10, 11] 12 0 (by kernel_rfl) (by kernel_rfl) (by kernel_rfl) (fun K hK => ?_)); simp only [sel, List.getElem?_cons_succ, List.getElem?_cons_zero, List.drop_succ_cons, List.drop_zero]; simp (disch := first | omega | (simp only [lnS]; try omega)) [-getElem?_pos, -getElem?_neg, q1, q4, q5, hb, hul, -notTuple, w1, w2, s1, s3, nt_intG, nt_ptrG, -xindexAddr, s2, -xload, hx4, hx0, s5, hza, hzab, PL_nil, plainB_lit, PL_cons, PLc_val, PLc_new, stepP_t, stepP_f, stepPC_n, stepPC_s, stepPX_s, stepPX_n, stepPV_n, stepPV_s, stepPA_t, stepPA_c, stepPA_l, stepPN_s, allocOp, reloc_sl, reloc_ptr, List.map_cons, List.map_nil, List.nil_append, List.append_assoc, List.cons_append, Nat.add_assoc]
    refine hK _ _ ?_; clear hK K
    (refine aw_ops (by kernel_rfl) (fun K hK => ?_); simp (disch := first | omega | (simp only [lnS]; try omega)) [-getElem?_pos, -getElem?_neg, q5]; refine hK _ _ ?_; clear hK K)
    refine ⟨c - 1, by omega, i + 1, by omega, by (first | (simp [put_at, put_none, fr0_at, q1]; done) | rfl), by rw [hau]; simp [put_at, hza], by (first | (simp [put_at, put_none, fr0_at]; done) | rfl), rfl, hm2, hr2⟩
   ·have hzab : (z == o.author) = false := by simp [hza]
    (refine aw_plan [] [] [0, 1, 2, 3, 4, 5, 6, 7, 8, 9, 10, 11] 12 0 (by kernel_rfl) (by kernel_rfl) (by kernel_rfl) (fun K hK => ?_)); simp only [sel, List.getElem?_cons_succ, List.getElem?_cons_zero, List.drop_succ_cons, List.drop_zero]; simp (disch := first | omega | (simp only [lnS]; try omega)) [-getElem?_pos, -getElem?_neg, q1, q4, q5, hb, hul, -notTuple, w1, w2, s1, s3, nt_intG, nt_ptrG, -xindexAddr, s2, -xload, hx4, hx0, s5, hza, hzab, PL_nil, plainB_lit, PL_cons, PLc_val, PLc_new, stepP_t, stepP_f, stepPC_n, stepPC_s, stepPX_s, stepPX_n, stepPV_n, stepPV_s, stepPA_t, stepPA_c, stepPA_l, stepPN_s, allocOp, reloc_sl, reloc_ptr, List.map_cons, List.map_nil, List.nil_append, List.append_assoc, List.cons_append, Nat.add_assoc]
    refine hK _ _ ?_; clear hK K
    (refine aw_ops (by kernel_rfl) (fun K hK => ?_); simp (disch := first | omega | (simp only [lnS]; try omega)) [-getElem?_pos, -getElem?_neg, q5]; refine hK _ _ ?_; clear hK K)
    refine ⟨c - 1, by omega, i + 1, by omega, by (first | (simp [put_at, put_none, fr0_at, q1]; done) | rfl), by rw [hau]; simp [put_at, hza], by (first | (simp [put_at, put_none, fr0_at]; done) | rfl), rfl, hm2, hr2⟩
 (refine aw_ops (by kernel_rfl) (fun K hK => ?_); simp (disch := first | omega | (simp only [lnS]; try omega)) [-getElem?_pos, -getElem?_neg, q1, q5, hb, hul, c4, -notTuple, w1, w2, nt_intG, nt_ptrG, -xlen, w3, hi]; refine hK _ _ ?_; clear hK K)
 refine aw_f (by (first | (simp [eval_tmp, put_at, hi]; done) | (simp [eval_tmp, put_at, hi]; omega))) (by kernel_rfl) ?_
 refine aw_exit ?_
 obtain rfl : i = o.who.length := by omega
 rw [List.take_length] at q4
 have hW : (o.who.all memI && risesI o.who) = true := by
  rw [all_take (fun k z hz => hmem k z (List.getElem?_eq_some_iff.1 hz).1 hz), Bool.true_and]
  unfold risesI
  exact range_true fun k hk => by
   rw [decide_eq_true_eq, cmpI_lt]
   exact hrise k (by omega)
 rw [hW, Bool.true_and] at hrf
 refine aw_seq ?_
 refine aw_seq ?_
 (refine aw_ops (by kernel_rfl) (fun K hK => ?_); simp (disch := first | omega | (simp only [lnS]; try omega)) [-getElem?_pos, -getElem?_neg]; refine hK _ _ ?_; clear hK K)
 refine aw_block ?_
 refine aw_loop (fun c α G2 => ∃ i : Nat, i + c = o.boxes.length ∧ α 1 = .pointer (some ⟨n, 0, none⟩) ∧ α 4 = .bool (decide (o.author ∈ o.who)) ∧ α 6 = .int .i64 (i : Nat) ∧ Low G3.length G3 G2 ∧ (∀ k z, k < i → o.boxes[k]? = some z → boxB o.author z = true) ∧ ∀ k, k + 1 < i → (o.boxes.map BoxD.to).getD k 0 < (o.boxes.map BoxD.to).getD (k + 1) 0) o.boxes.length ?_ ?_
 ·exact ⟨0, by omega, by (first | (simp [put_at, put_none, fr0_at, q1]; done) | rfl), by (first | (simp [put_at, put_none, fr0_at, q4]; done) | rfl), by (first | (simp [put_at, put_none, fr0_at]; done) | rfl), Low.refl (Nat.le_refl _), fun k z hk => by omega, fun k hk => by omega⟩
 clear q1 q4 q5
 rintro c α G4 ⟨i, hic, q1, q4, q6, low4, hbox, hrise2⟩
 have hb4 := (low4.1 n (hget_lt hb)).trans hb
 have hle4 := low4.2
 have hlG3 := hget_lt hb
 refine aw_seq ?_
 refine aw_seq ?_
 by_cases hi : i < o.boxes.length
 case neg =>
  (refine aw_ops (by kernel_rfl) (fun K hK => ?_); simp (disch := first | omega | (simp only [lnS]; try omega)) [-getElem?_pos, -getElem?_neg, q1, q6, hb4, hul, c70, -notTuple, b1, b2, nt_intG, nt_ptrG, -xlen, hblen, hi]; refine hK _ _ ?_; clear hK K)
  refine aw_f (by (first | (simp [eval_tmp, put_at, hi]; done) | (simp [eval_tmp, put_at, hi]; omega))) (by kernel_rfl) ?_
  refine aw_exit ?_
  obtain rfl : i = o.boxes.length := by omega
  have hB : boxesB o = true := by
   unfold boxesB risesX
   rw [all_take (fun k z hz => hbox k z (List.getElem?_eq_some_iff.1 hz).1 hz), Bool.true_and]
   exact range_true fun k hk => by
    rw [decide_eq_true_eq, cmpI_lt]
    exact hrise2 k (by omega)
  rw [hB, Bool.true_and] at hrf
  have hO4 : OpC G4 us o pv wv bv := hG.low low4.1
  have hkd := rkind_rc (γ := γ) hO4 hw (decide (o.author ∈ o.who))
  refine aw_seq ?_
  refine aw_ops (by kernel_rfl) (fun K hK => ?_)
  simp (disch := first | omega | (simp only [lnS]; try omega)) [-getElem?_pos, -getElem?_neg, q1, q4, hb4, hul, htu, nt_aggG]
  refine ⟨by kernel_rfl, ac_of_rc hkd (by simp [pv_iv, pv_int, pv_bool, pv_string, pv_tup2, pv_tup3, iv_plain, p2_int, p2_bool, p2_string]) ?_⟩
  try simp (disch := first | omega | (simp only [lnS]; try omega)) [-getElem?_pos, -getElem?_neg]
  refine hK _ _ ?_; clear hK K
  (refine aw_ret ?_; simp (disch := first | omega | (simp only [lnS]; try omega)) [-getElem?_pos, -getElem?_neg, thenQ_ret, scopeQ_ret, inBlockQ_ret, RQ, resL, resV])
  rw [hrf]
 obtain ⟨z, hz⟩ : ∃ z, o.boxes[i]? = some z := ⟨_, List.getElem?_eq_getElem hi⟩
 obtain ⟨j, q, bb, ws, hxa, hbb, hq, hws, hcl, hC⟩ := hbx.row_at hw.boxes hz
 have hbb4 := (low4.1 j (hget_lt hbb)).trans hbb
 have hwl := hC.len
 have d0 := hC.c0
 have d35 := hC.c35
 have hws' := hws.symm
 clear hws
 have hset2 : ∀ Z : List Value, Z.length = 36 → setR Z 0 ws = ws := fun Z hZ => setR_all _ _ (by omega)
 have hzw := hw.boxes z (List.mem_of_getElem? hz)
 have hzb := hzw.body
 have hzt := hzw.to
 have htd : (o.boxes.map BoxD.to).getD i 0 = z.to := getD_of (by rw [List.getElem?_map, hz]; rfl)
 have hnG : n ≤ G4.length := by omega
 (refine aw_ops (by kernel_rfl) (fun K hK => ?_); simp (disch := first | omega | (simp only [lnS]; try omega)) [-getElem?_pos, -getElem?_neg, q1, q6, hb4, hul, c70, -notTuple, b1, b2, nt_intG, nt_ptrG, -xlen, hblen, hi]; refine hK _ _ ?_; clear hK K)
 refine aw_t (by (first | (simp [eval_tmp, put_at, hi]; done) | (simp [eval_tmp, put_at, hi]; omega))) (by kernel_rfl) ?_
 refine aw_skip ?_
 refine aw_seq ?_
 refine aw_block ?_
 refine aw_seq ?_
 (refine aw_ops (by kernel_rfl) (fun K hK => ?_); simp (disch := first | omega | (simp only [lnS]; try omega)) [-getElem?_pos, -getElem?_neg, q1, q6, hb4, hul, c70, -notTuple, b1, b2, nt_intG, nt_ptrG, nt_aggG, -xindexAddr, hxa, hbb4, hws', hwl, hq, hnG, all_zl, hset2]; refine hK _ _ ?_; clear hK K)
 obtain ⟨low5, hbg⟩ := boxed (H := G4) ws 107
 obtain ⟨g, hg⟩ : ∃ g, g = G4.length := ⟨_, rfl⟩
 rw [← hg] at hbg ⊢
 generalize G4 ++ [some ⟨ws, 107, none⟩] = G5 at *
 have hb5 := (low5.1 n (by omega)).trans hb4
 have hxA : xload Try.prog 3 (.pointer (some ⟨n, 0, none⟩)) G5 = some (.int .i64 o.author) := by simp [xload, hb5, c0]
 have hxT : xload Try.prog 3 (.pointer (some ⟨g, 0, none⟩)) G5 = some (.int .i64 z.to) := by simp [xload, hbg, d0]
 have hxB : xload Try.prog 9 (.pointer (some ⟨g, 35, none⟩)) G5 = some (.string z.body) := by simp [xload, hbg, d35]
 have hx70 : xload Try.prog 39 (.pointer (some ⟨n, 70, none⟩)) G5 = some bv := by simp [xload, hb5, c70]
 have hxt : xlen Try.prog 9 (.string z.body) = some (.int .i64 z.body.size) := by simp [xlen]
 have hzb2 : z.body.size ≤ 9223372036854775807 := by simp only [maxLen] at hzb; omega
 have low45 : Low G3.length G3 G5 := ⟨fun j hj => (low5.1 j (by omega)).trans (low4.1 j hj), by have := low5.2; omega⟩
 have q6' := q6
 have hbadB : boxB o.author z = false → boxesB o = false := fun hh => by unfold boxesB; rw [all_false hz hh]; rfl
 refine aw_seq ?_
 have hnextI : ∀ w : Int, (o.boxes.map BoxD.to).getD (i - 1) 0 = w → True := fun _ _ => trivial
 refine aw_cut (fun α G2 => α 152 = .bool (!(boxB o.author z && (decide (i = 0) || decide ((o.boxes.map BoxD.to).getD (i - 1) 0 < z.to)))) ∧ α 1 = .pointer (some ⟨n, 0, none⟩) ∧ α 4 = .bool (decide (o.author ∈ o.who)) ∧ α 6 = .int .i64 (i : Nat) ∧ G2 = G5) ?_ ?_
 ·(refine aw_plan [] [] [0, 1, 2, 3, 4, 5, 6, 7, 8, 9, 10, 11, 12, 13, 14, 15, 16, 17, 18, 19, 20, 21, 22, 23, 24, 25, 26, 27, 28, 29, 30, 31, 32] 33 0 (by kernel_rfl) (by kernel_rfl) (by kernel_rfl) (fun K hK => ?_)); simp only [sel, List.getElem?_cons_succ, List.getElem?_cons_zero, List.drop_succ_cons, List.drop_zero]; simp (disch := first | omega | (simp only [lnS]; try omega)) [-getElem?_pos, -getElem?_neg, q1, q6, hb, hul, c70, hbg, hwl, d0, d35, -notTuple, b1, b2, nt_intG, nt_ptrG, nt_strG, -xlen, hxt, -xload, hxA, hxT, hxB, hx70, PL_nil, plainB_lit, PL_cons, PLc_val, PLc_new, stepP_t, stepP_f, stepPC_n, stepPC_s, stepPX_s, stepPX_n, stepPV_n, stepPV_s, stepPA_t, stepPA_c, stepPA_l, stepPN_s, allocOp, reloc_sl, reloc_ptr, List.map_cons, List.map_nil, List.nil_append, List.append_assoc, List.cons_append, Nat.add_assoc]
  refine PLc_call (v := .bool (memI z.to)) (by kernel_rfl) (fun L hL => ac_of_vc (by simp [pv_iv, pv_int, pv_bool, pv_string, pv_tup2, pv_tup3, iv_plain, p2_int, p2_bool, p2_string]) (member_vc z.to) rfl) (by simp [pv_iv, pv_int, pv_bool, pv_string, pv_tup2, pv_tup3, iv_plain, p2_int, p2_bool, p2_string]) ?_
  cases k1 : memI z.to with
  | false =>
   simp (disch := first | omega | (simp only [lnS]; try omega)) [-getElem?_pos, -getElem?_neg, PL_nil, plainB_lit, PL_cons, PLc_val, PLc_new, stepP_t, stepP_f, stepPC_n, stepPC_s, stepPX_s, stepPX_n, stepPV_n, stepPV_s, stepPA_t, stepPA_c, stepPA_l, stepPN_s, allocOp, reloc_sl, reloc_ptr, List.map_cons, List.map_nil, List.nil_append, List.append_assoc, List.cons_append, Nat.add_assoc]
   refine hK _ _ ?_; clear hK K
   exact ⟨by simp [boxB, k1, put_at], by (first | (simp [put_at, put_none, fr0_at, q1]; done) | rfl), by (first | (simp [put_at, put_none, fr0_at, q4]; done) | rfl), by (first | (simp [put_at, put_none, fr0_at, q6]; done) | rfl), rfl⟩
  | true =>
  by_cases k2 : z.to = o.author
  ·have k2b : (z.to == o.author) = true := by simp [k2]
   simp (disch := first | omega | (simp only [lnS]; try omega)) [-getElem?_pos, -getElem?_neg, q1, q6, hb, hul, c70, hbg, hwl, d0, d35, -notTuple, b1, b2, nt_intG, nt_ptrG, nt_strG, -xlen, hxt, -xload, hxA, hxT, hxB, hx70, k2, k2b, PL_nil, plainB_lit, PL_cons, PLc_val, PLc_new, stepP_t, stepP_f, stepPC_n, stepPC_s, stepPX_s, stepPX_n, stepPV_n, stepPV_s, stepPA_t, stepPA_c, stepPA_l, stepPN_s, allocOp, reloc_sl, reloc_ptr, List.map_cons, List.map_nil, List.nil_append, List.append_assoc, List.cons_append, Nat.add_assoc]
   refine hK _ _ ?_; clear hK K
   exact ⟨by simp [boxB, k1, k2, put_at], by (first | (simp [put_at, put_none, fr0_at, q1]; done) | rfl), by (first | (simp [put_at, put_none, fr0_at, q4]; done) | rfl), by (first | (simp [put_at, put_none, fr0_at, q6]; done) | rfl), rfl⟩
  have k2b : (z.to == o.author) = false := by simp [k2]
  by_cases k3 : z.body.size ≤ 256
  case neg =>
   have k3b : 256 < z.body.size := by omega
   simp (disch := first | omega | (simp only [lnS]; try omega)) [-getElem?_pos, -getElem?_neg, q1, q6, hb, hul, c70, hbg, hwl, d0, d35, -notTuple, b1, b2, nt_intG, nt_ptrG, nt_strG, -xlen, hxt, -xload, hxA, hxT, hxB, hx70, k2, k2b, k3b, PL_nil, plainB_lit, PL_cons, PLc_val, PLc_new, stepP_t, stepP_f, stepPC_n, stepPC_s, stepPX_s, stepPX_n, stepPV_n, stepPV_s, stepPA_t, stepPA_c, stepPA_l, stepPN_s, allocOp, reloc_sl, reloc_ptr, List.map_cons, List.map_nil, List.nil_append, List.append_assoc, List.cons_append, Nat.add_assoc]
   refine hK _ _ ?_; clear hK K
   exact ⟨by simp [boxB, k1, k2, k3, put_at], by (first | (simp [put_at, put_none, fr0_at, q1]; done) | rfl), by (first | (simp [put_at, put_none, fr0_at, q4]; done) | rfl), by (first | (simp [put_at, put_none, fr0_at, q6]; done) | rfl), rfl⟩
  have k3b : ¬ 256 < z.body.size := by omega
  by_cases hi0 : 0 < i
  case neg =>
   have hi0e : i = 0 := by omega
   simp (disch := first | omega | (simp only [lnS]; try omega)) [-getElem?_pos, -getElem?_neg, q1, q6, hb, hul, c70, hbg, hwl, d0, d35, -notTuple, b1, b2, nt_intG, nt_ptrG, nt_strG, -xlen, hxt, -xload, hxA, hxT, hxB, hx70, k2, k2b, k3b, hi0, PL_nil, plainB_lit, PL_cons, PLc_val, PLc_new, stepP_t, stepP_f, stepPC_n, stepPC_s, stepPX_s, stepPX_n, stepPV_n, stepPV_s, stepPA_t, stepPA_c, stepPA_l, stepPN_s, allocOp, reloc_sl, reloc_ptr, List.map_cons, List.map_nil, List.nil_append, List.append_assoc, List.cons_append, Nat.add_assoc]
   refine hK _ _ ?_; clear hK K
   exact ⟨by simp [boxB, k1, k2, k3, hi0e, put_at], by (first | (simp [put_at, put_none, fr0_at, q1]; done) | rfl), by (first | (simp [put_at, put_none, fr0_at, q4]; done) | rfl), by (first | (simp [put_at, put_none, fr0_at, q6]; done) | rfl), rfl⟩
  have hi0n : ¬ i = 0 := by omega
  obtain ⟨y, hy⟩ : ∃ y, o.boxes[i - 1]? = some y := ⟨_, List.getElem?_eq_getElem (by omega)⟩
  obtain ⟨j', q', bb', ws', hxa', hbb', hq', hws2, hcl', hC'⟩ := hbx.row_at hw.boxes hy
  have hbb5 := (low45.1 j' (hget_lt hbb')).trans hbb'
  have htd' : (o.boxes.map BoxD.to).getD (i - 1) 0 = y.to := getD_of (by rw [List.getElem?_map, hy]; rfl)
  have e0 := (hcl' 0 (by omega)).trans hC'.c0
  have hxY : xload Try.prog 3 (.pointer (some ⟨j', q', none⟩)) G5 = some (.int .i64 y.to) := by simp [xload, hbb5]; simpa using e0
  have hsub : (i : Int) - 1 = ((i - 1 : Nat) : Int) := by omega
  by_cases k4 : y.to < z.to
  ·have k4b : ¬ z.to ≤ y.to := by omega
   simp (disch := first | omega | (simp only [lnS]; try omega)) [-getElem?_pos, -getElem?_neg, q1, q6, hb, hul, c70, hbg, hwl, d0, d35, -notTuple, b1, b2, nt_intG, nt_ptrG, nt_strG, -xlen, hxt, -xload, hxA, hxT, hxB, hx70, k2, k2b, k3b, hi0, hsub, -xindexAddr, hxa', hxY, k4b, PL_nil, plainB_lit, PL_cons, PLc_val, PLc_new, stepP_t, stepP_f, stepPC_n, stepPC_s, stepPX_s, stepPX_n, stepPV_n, stepPV_s, stepPA_t, stepPA_c, stepPA_l, stepPN_s, allocOp, reloc_sl, reloc_ptr, List.map_cons, List.map_nil, List.nil_append, List.append_assoc, List.cons_append, Nat.add_assoc]
   refine hK _ _ ?_; clear hK K
   exact ⟨by simp only [htd']; simp [boxB, k1, k2, k3, hi0n, k4, put_at], by (first | (simp [put_at, put_none, fr0_at, q1]; done) | rfl), by (first | (simp [put_at, put_none, fr0_at, q4]; done) | rfl), by (first | (simp [put_at, put_none, fr0_at, q6]; done) | rfl), rfl⟩
  ·have k4b : z.to ≤ y.to := by omega
   simp (disch := first | omega | (simp only [lnS]; try omega)) [-getElem?_pos, -getElem?_neg, q1, q6, hb, hul, c70, hbg, hwl, d0, d35, -notTuple, b1, b2, nt_intG, nt_ptrG, nt_strG, -xlen, hxt, -xload, hxA, hxT, hxB, hx70, k2, k2b, k3b, hi0, hsub, -xindexAddr, hxa', hxY, k4b, PL_nil, plainB_lit, PL_cons, PLc_val, PLc_new, stepP_t, stepP_f, stepPC_n, stepPC_s, stepPX_s, stepPX_n, stepPV_n, stepPV_s, stepPA_t, stepPA_c, stepPA_l, stepPN_s, allocOp, reloc_sl, reloc_ptr, List.map_cons, List.map_nil, List.nil_append, List.append_assoc, List.cons_append, Nat.add_assoc]
   refine hK _ _ ?_; clear hK K
   exact ⟨by simp only [htd']; simp [boxB, k1, k2, k3, hi0n, k4, put_at], by (first | (simp [put_at, put_none, fr0_at, q1]; done) | rfl), by (first | (simp [put_at, put_none, fr0_at, q4]; done) | rfl), by (first | (simp [put_at, put_none, fr0_at, q6]; done) | rfl), rfl⟩
 clear q1 q4 q6 q6'
 rintro α G6 ⟨q152, q1, q4, q6, rfl⟩
 cases hgood : (boxB o.author z && (decide (i = 0) || decide ((o.boxes.map BoxD.to).getD (i - 1) 0 < z.to))) with
 | false =>
  rw [hgood] at q152
  refine aw_t (by (first | (simp [eval_tmp, put_at, q152]; done) | (simp [eval_tmp, put_at, q152]; omega))) (by kernel_rfl) ?_
  refine aw_seq ?_
  (refine aw_ops (by kernel_rfl) (fun K hK => ?_); simp (disch := first | omega | (simp only [lnS]; try omega)) [-getElem?_pos, -getElem?_neg]; refine hK _ _ ?_; clear hK K)
  (refine aw_ret ?_; simp (disch := first | omega | (simp only [lnS]; try omega)) [-getElem?_pos, -getElem?_neg, thenQ_ret, scopeQ_ret, inBlockQ_ret, RQ, resL, resV])
  have hBf : boxesB o = false := by
   rw [Bool.and_eq_false_iff] at hgood
   rcases hgood with hh | hh
   ·exact hbadB hh
   ·rw [Bool.or_eq_false_iff, decide_eq_false_iff_not, decide_eq_false_iff_not] at hh
    unfold boxesB
    have : risesX o.boxes = false := by
     unfold risesX
     refine range_false (i := i - 1) (by omega) ?_
     rw [decide_eq_false_iff_not, show i - 1 + 1 = i by omega, htd, cmpI_lt]
     exact hh.2
    rw [this, Bool.and_false]
  rw [hrf, hBf]; rfl
 | true =>
  rw [hgood] at q152
  refine aw_f (by (first | (simp [eval_tmp, put_at, q152]; done) | (simp [eval_tmp, put_at, q152]; omega))) (by kernel_rfl) ?_
  refine aw_skip ?_
  rw [Bool.and_eq_true, Bool.or_eq_true, decide_eq_true_eq, decide_eq_true_eq] at hgood
  (refine aw_ops (by kernel_rfl) (fun K hK => ?_); simp (disch := first | omega | (simp only [lnS]; try omega)) [-getElem?_pos, -getElem?_neg, q6]; refine hK _ _ ?_; clear hK K)
  refine ⟨c - 1, by omega, i + 1, by omega, by (first | (simp [put_at, put_none, fr0_at, q1]; done) | rfl), by (first | (simp [put_at, put_none, fr0_at, q4]; done) | rfl), by (first | (simp [put_at, put_none, fr0_at]; done) | rfl), low45, fun k z' hk hz' => ?_, fun k hk => ?_⟩
  ·by_cases e : k = i
   ·subst e
    rw [hz] at hz'
    cases hz'
    exact hgood.1
   ·exact hbox k z' (by omega) hz'
  ·by_cases e : k + 1 = i
   ·rw [e, htd, show k = i - 1 by omega]
    rcases hgood.2 with hh | hh
    ·omega
    ·exact hh
   ·exact hrise2 k (by omega)
end
section
def CD.flat : CD → Bool | .sl _ => false | _ => true
def CD.fv : CD → Value | .int k z => .int k z | .str s => .string s | .bool b => .bool b | .sl _ => undef
theorem flat_val {H : AH} {d : CD} {x : Value} (hf : d.flat = true) (h : CD.Val H d x) : x = d.fv := by
 cases h with
 | int => rfl
 | str => rfl
 | bool => rfl
 | nil _ => cases hf
 | sl _ _ _ _ => cases hf
theorem val_flat {H : AH} {d : CD} (hf : d.flat = true) : CD.Val H d d.fv := by
 cases d with
 | int => exact .int
 | str => exact .str
 | bool => exact .bool
 | sl => cases hf
theorem fl_at {β : Type} {L : List (List β)} {n i c : Nat} {row : List β} {d : β} (h : ∀ r ∈ L, r.length = n) (hi : L[i]? = some row) (hc : row[c]? = some d) : L.flatten[i * n + c]? = some d := by
 have hr := h row (List.mem_of_getElem? hi)
 have hcl := (List.getElem?_eq_some_iff.1 hc).1
 have := fl_get h hi
 rw [← this] at hc
 rwa [List.getElem?_take_of_lt (by omega), List.getElem?_drop] at hc
def flatR (rows : List (List CD)) : Prop := ∀ row ∈ rows, ∀ d ∈ row, d.flat = true
theorem val_cells {H : AH} {rows : List (List CD)} {v : Value} {sz : Nat} (h0 : 0 < sz) (h : CD.Val H (.sl rows) v) (hr : ∀ row ∈ rows, row.length = sz) (hf : flatR rows) : xcells sz v H = some (rows.flatten.map CD.fv) := by
 cases h with
 | @nil a ha =>
  cases a with
  | none => rfl
  | some x =>
   obtain ⟨j, off, spot⟩ := x
   have hsp : spot = some 0 := ha _ rfl
   subst hsp
   rfl
 | @sl sz' j k _ h1 h2 h3 h4 =>
  have hlen : rows.flatten.length = rows.length * sz := fl_len hr
  have hle : rows.length * sz ≤ k.cells.length := by
   cases rows with
   | nil => simp
   | cons r rs =>
    have e1 := h3 r (by simp)
    have e2 := hr r (by simp)
    rw [← e2, e1]; exact h2
  have hx : xcells sz (.slice (some ⟨j, 0, none⟩) rows.length rows.length) H = some ((k.cells.drop 0).take (rows.length * sz)) := by
   unfold xcells
   simp only [h1]
   rw [if_pos (by omega)]
  rw [hx, List.drop_zero]
  congr 1
  apply List.ext_getElem?
  intro c
  rcases Nat.lt_or_ge c (rows.length * sz) with hc | hc
  ·have hi : c / sz < rows.length := Nat.div_lt_of_lt_mul (by rw [Nat.mul_comm]; exact hc)
   obtain ⟨row, hrow⟩ : ∃ row, rows[c / sz]? = some row := ⟨_, List.getElem?_eq_getElem hi⟩
   have hrl := hr row (List.mem_of_getElem? hrow)
   have hrl' := h3 row (List.mem_of_getElem? hrow)
   have hm := Nat.mod_lt c h0
   obtain ⟨d, hd⟩ : ∃ d, row[c % sz]? = some d := ⟨_, List.getElem?_eq_getElem (by omega)⟩
   have hce : c / sz * sz + c % sz = c := by rw [Nat.mul_comm]; exact Nat.div_add_mod c sz
   have hat := fl_at hr hrow hd
   rw [hce] at hat
   have hkc : k.cells[c]? = some (k.cells[c]'(by omega)) := List.getElem?_eq_getElem _
   have hv := h4 (c / sz) row (c % sz) d _ hrow hd (by rw [show sz' = sz by omega, hce]; exact hkc)
   rw [List.getElem?_take_of_lt hc, hkc, flat_val (hf row (List.mem_of_getElem? hrow) d (List.mem_of_getElem? hd)) hv, List.getElem?_map, hat]
   rfl
  ·rw [List.getElem?_eq_none (by rw [List.length_take]; omega), List.getElem?_eq_none (by rw [List.length_map, hlen]; omega)]
theorem own_val {G : AH} {v : Value} {e : TypeId} {sz : Nat} {rows : List (List CD)} {F : List Nat} (h0 : 0 < sz) (h : OwnF G v e sz (rows.flatten.map CD.fv) F) (hr : ∀ row ∈ rows, row.length = sz) (hf : flatR rows) : CD.Val G (.sl rows) v := by
 have hlen : rows.flatten.length = rows.length * sz := fl_len hr
 rcases h with ⟨rfl, h1, _⟩ | ⟨j, len, rfl, h2, h3, _⟩
 ·have h4 := congrArg List.length h1
  rw [List.length_map, hlen, List.length_nil] at h4
  have : rows.length = 0 := by
   rcases Nat.mul_eq_zero.1 h4 with h | h
   ·exact h
   ·omega
  rw [List.eq_nil_of_length_eq_zero this]
  exact .nil (fun x e => by cases e)
 ·rw [List.length_map, hlen] at h3
  have : len = rows.length := (Nat.eq_of_mul_eq_mul_right h0 h3).symm
  subst this
  refine .sl (sz := sz) h2 (by show _ ≤ (rows.flatten.map CD.fv).length; rw [List.length_map, hlen]; exact Nat.le_refl _) hr (fun i row c d x hi hc hx => ?_)
  have hat := fl_at hr hi hc
  have hx' : (rows.flatten.map CD.fv)[i * sz + c]? = some x := hx
  rw [List.getElem?_map, hat] at hx'
  cases hx'
  exact val_flat (hf row (List.mem_of_getElem? hi) d (List.mem_of_getElem? hc))
def clV (v : Value) (n : Nat) : Value := match v with | .slice none _ _ => .slice none 0 0 | .slice (some _) k _ => .slice (some ⟨n + 1, 0, none⟩) k k | _ => undef
def clN (v : Value) : Nat := match v with | .slice none _ _ => 0 | _ => 2
theorem val_shape {H : AH} {rows : List (List CD)} {v : Value} (h : CD.Val H (.sl rows) v) : (v = .slice none 0 0 ∧ rows = []) ∨ ∃ a, v = .slice (some a) rows.length rows.length := by
 cases h with
 | @nil a ha =>
  cases a with
  | none => exact .inl ⟨rfl, rfl⟩
  | some x => exact .inr ⟨x, rfl⟩
 | sl _ _ _ _ => exact .inr ⟨_, rfl⟩
theorem clone_app {P : Program} {nro : Nat} {t e : TypeId} {sz : Nat} {cells : List Value} {H : AH} {a : Addr} {n : Nat} (hu : und P t = .slice e) (hs : szt P e = sz) (h0 : 0 < sz) (hz : (zer P e).map (·.cells.size) = some sz) (hnro : nro ≤ H.length)
  (hx : xcells sz (.slice (some a) n n) (H ++ [some ⟨[], e, some sz⟩]) = some cells) (hl : cells.length = n * sz) (hb : cells.length * byt P e ≤ 140737488355328) (hm : cells.length ≤ maxLen) :
  xappend P nro t (.slice (some ⟨H.length, 0, none⟩) 0 0) (.slice (some a) n n) (H ++ [some ⟨[], e, some sz⟩]) = some (.slice (some ⟨H.length + 1, 0, none⟩) n n, H ++ [none, some ⟨cells, e, some sz⟩]) := by
 subst hs
 have hg : hget (H ++ [some ⟨[], e, some (szt P e)⟩]) H.length = some ⟨[], e, some (szt P e)⟩ := by rw [hget_app0]; rfl
 unfold xappend
 simp only [hu, hx, hg]
 rw [if_pos ⟨trivial, h0, hz, hnro, trivial, trivial, by simp, by simpa using hb, by simpa using hm⟩, hl, Nat.mul_div_cancel _ h0]
 simp
def NewC (H : AH) (v : Value) (e : TypeId) (sz : Nat) (cells : List Value) (v' : Value) (H' : AH) : Prop :=
 v' = clV v H.length ∧ H'.length = H.length + clN v ∧ Low H.length H H' ∧ ∃ F, OwnF H' v' e sz cells F ∧ ∀ j ∈ F, H.length ≤ j
theorem kd_flat (ps : List (List Int)) : flatR (ps.map kd) := by
 intro row hr d hd
 obtain ⟨k, _, rfl⟩ := List.mem_map.1 hr
 obtain ⟨z, _, rfl⟩ := List.mem_map.1 hd
 rfl
theorem int_flat (l : List Int) : flatR (l.map fun z => [CD.int .i64 z]) := by
 intro row hr d hd
 obtain ⟨k, _, rfl⟩ := List.mem_map.1 hr
 rw [List.mem_singleton] at hd
 subst hd
 rfl
theorem box_flat (l : List BoxD) : flatR (l.map BoxD.row) := by
 intro row hr d hd
 obtain ⟨b, _, rfl⟩ := List.mem_map.1 hr
 simp only [BoxD.row, kd, List.mem_append, List.mem_singleton, List.mem_map, List.mem_cons, List.not_mem_nil, or_false] at hd
 rcases hd with rfl | ⟨z, _, rfl⟩ | rfl | rfl | rfl <;> rfl
theorem kd_len {ps : List (List Int)} (h : ∀ k ∈ ps, k.length = 32) : ∀ row ∈ ps.map kd, row.length = 32 := by
 intro row hr
 obtain ⟨k, hk, rfl⟩ := List.mem_map.1 hr
 rw [kd, List.length_map]; exact h k hk
theorem int_len (l : List Int) : ∀ row ∈ l.map fun z => [CD.int .i64 z], row.length = 1 := by
 intro row hr
 obtain ⟨k, hk, rfl⟩ := List.mem_map.1 hr
 rfl
theorem box_len {l : List BoxD} (h : ∀ b ∈ l, b.Wf) : ∀ row ∈ l.map BoxD.row, row.length = 36 := by
 intro row hr
 obtain ⟨b, hb, rfl⟩ := List.mem_map.1 hr
 have := (h b hb).pub.1
 simp [BoxD.row, kd, this]
def ksC (ps : List (List Int)) : List Value := (ps.map kd).flatten.map CD.fv
def isC (l : List Int) : List Value := (l.map fun z => [CD.int .i64 z]).flatten.map CD.fv
def bxC (l : List BoxD) : List Value := (l.map BoxD.row).flatten.map CD.fv
theorem ksC_len {ps : List (List Int)} (h : ∀ k ∈ ps, k.length = 32) : (ksC ps).length = ps.length * 32 := by unfold ksC; rw [List.length_map, fl_len (kd_len h), List.length_map]
theorem isC_len (l : List Int) : (isC l).length = l.length * 1 := by unfold isC; rw [List.length_map, fl_len (int_len l), List.length_map]
theorem bxC_len {l : List BoxD} (h : ∀ b ∈ l, b.Wf) : (bxC l).length = l.length * 36 := by unfold bxC; rw [List.length_map, fl_len (box_len h), List.length_map]
attribute [local simp] wb_bool wb_undef with_lit XL_nil XL_cons XLc_val XLc_call step1_eq stepW_t stepW_f stepC_n stepC_s stepX_s stepX_n stepN_s calleeX oneV xop_eq xopR_s xopR_n wantedA_eq wantedG_n wantedG_s plain1_int plain1_bool plain1_string bits_i64 bits_u64 bits_u32 bits_u16 bits_u8 xeqA xagg xcmp xarr allK_iv num_iv calleeOf xread xeff xbin xint xnil xun xstr xload xconv xpart xfield xfieldAddr xindexAddr xindex bnd asInt? xslice xlen xmin xmax xbuild xfill xappend xapp2 xappstr xappmk xcap xcopy xcells eval_tmp eval_const put_at put_none fr0_at cells_agg cells_int cells_bool cells_string cells_ptr cells_slice notTuple tab iv_all hget_app hget_app0 hget_cons0 hget_cons set_app set_app0 setR setR_one QL_nil QL_cons QLc_val stepQ_t stepQ_f stepQC_n stepQC_s stepQX_s SL_nil SL_cons SLc_val stepS_t stepS_f ltT ltF leT leF eqT eqF ltTn ltFn leTn leFn eqTn eqFn beqT beqF bneT bneF wi64 wu64 wu32 wu16 wu8 tmodP tdivP hgetL hgetNe hgetEq setL nums_def nums_len Nat.succ_le_of_lt List.getElem?_cons_zero List.getElem?_cons_succ Option.getD_some Int.toNat_add Int.toNat_mul agM okM agB agI agS agP agL agA okB okI okS okP okSl okA
theorem cloneI_ac {nro : Nat} {γ : Nat → Option Nat} {H : AH} {v : Value} {l : List Int} (h : InV H v l) (hnro : nro ≤ H.length) (hm : l.length ≤ 100000000000) : AC Try.prog nro γ 133 #[v] H (NewC H v 3 1 (isC l)) := by
 have hxc : ∀ G : AH, Low H.length H G → xcells 1 v G = some (isC l) := fun G hG => val_cells (by omega) (CD.Val.low (fun j hj => hG.1 j hj) h) (int_len l) (int_flat l)
 have hcl := isC_len l
 have hsh := val_shape h
 rw [List.length_map] at hsh
 generalize isC l = cells at *
 have hb0 : Low H.length H (H ++ [some ⟨[], 3, some 1⟩]) := Low.push (Nat.le_refl _) _
 refine ac_of_aw Try.func133 rfl Try.ntmps133 Try.results133 (by simp) ?_
 refine aw_seq ?_
 (refine aw_ops (by kernel_rfl) (fun K hK => ?_); simp (disch := first | omega | (simp only [lnS]; try omega)) [-getElem?_pos, -getElem?_neg]; refine hK _ _ ?_; clear hK K)
 refine aw_seq ?_
 refine aw_seq ?_
 rcases hsh with ⟨rfl, hl0⟩ | ⟨a, rfl⟩
 ·have hl0 : l = [] := List.map_eq_nil_iff.1 hl0
  subst hl0
  have hc0 : cells = [] := List.eq_nil_of_length_eq_zero (by simpa using hcl)
  subst hc0
  (refine aw_ops (by kernel_rfl) (fun K hK => ?_); simp (disch := first | omega | (simp only [lnS]; try omega)) [-getElem?_pos, -getElem?_neg]; refine hK _ _ ?_; clear hK K)
  refine aw_t (by (first | (simp [eval_tmp, put_at]; done) | (simp [eval_tmp, put_at]; omega))) (by kernel_rfl) ?_
  refine aw_seq ?_
  (refine aw_ops (by kernel_rfl) (fun K hK => ?_); simp (disch := first | omega | (simp only [lnS]; try omega)) [-getElem?_pos, -getElem?_neg]; refine hK _ _ ?_; clear hK K)
  (refine aw_ret ?_; simp (disch := first | omega | (simp only [lnS]; try omega)) [-getElem?_pos, -getElem?_neg, thenQ_ret, scopeQ_ret, inBlockQ_ret, RQ, resL, resV])
  exact ⟨rfl, rfl, Low.refl (Nat.le_refl _), [], .inl ⟨rfl, rfl, rfl⟩, fun j hj => by cases hj⟩
 ·have hap := clone_app (P := Try.prog) (nro := nro) (t := 23) (e := 3) (sz := 1) (by simp) (by simp) (by omega) (by simp) hnro (hxc _ hb0) hcl (by rw [hcl]; simp; omega) (by rw [hcl]; simp only [maxLen]; omega)
  (refine aw_ops (by kernel_rfl) (fun K hK => ?_); simp (disch := first | omega | (simp only [lnS]; try omega)) [-getElem?_pos, -getElem?_neg]; refine hK _ _ ?_; clear hK K)
  refine aw_f (by (first | (simp [eval_tmp, put_at]; done) | (simp [eval_tmp, put_at]; omega))) (by kernel_rfl) ?_
  refine aw_skip ?_
  refine aw_seq ?_
  (refine aw_ops (by kernel_rfl) (fun K hK => ?_); simp (disch := first | omega | (simp only [lnS]; try omega)) [-getElem?_pos, -getElem?_neg, -xappend, hap, List.range_zero, List.map_nil]; refine hK _ _ ?_; clear hK K)
  (refine aw_ret ?_; simp (disch := first | omega | (simp only [lnS]; try omega)) [-getElem?_pos, -getElem?_neg, thenQ_ret, scopeQ_ret, inBlockQ_ret, RQ, resL, resV])
  exact ⟨rfl, by simp [clN], ⟨fun j hj => hget_left hj, by simp⟩, [H.length + 1], .inr ⟨H.length + 1, l.length, rfl, by rw [hget_app]; rfl, hcl, rfl⟩, fun j hj => by simp at hj; omega⟩
theorem cloneK_ac {nro : Nat} {γ : Nat → Option Nat} {H : AH} {v : Value} {l : List (List Int)} (h : KsV H v l) (hk : ∀ k ∈ l, k.length = 32) (hnro : nro ≤ H.length) (hm : l.length ≤ 100000000000) : AC Try.prog nro γ 134 #[v] H (NewC H v 38 32 (ksC l)) := by
 have hxc : ∀ G : AH, Low H.length H G → xcells 32 v G = some (ksC l) := fun G hG => val_cells (by omega) (CD.Val.low (fun j hj => hG.1 j hj) h) (kd_len hk) (kd_flat l)
 have hcl := ksC_len hk
 have hsh := val_shape h
 rw [List.length_map] at hsh
 generalize ksC l = cells at *
 have hb0 : Low H.length H (H ++ [some ⟨[], 38, some 32⟩]) := Low.push (Nat.le_refl _) _
 refine ac_of_aw Try.func134 rfl Try.ntmps134 Try.results134 (by simp) ?_
 refine aw_seq ?_
 (refine aw_ops (by kernel_rfl) (fun K hK => ?_); simp (disch := first | omega | (simp only [lnS]; try omega)) [-getElem?_pos, -getElem?_neg]; refine hK _ _ ?_; clear hK K)
 refine aw_seq ?_
 refine aw_seq ?_
 rcases hsh with ⟨rfl, hl0⟩ | ⟨a, rfl⟩
 ·have hl0 : l = [] := List.map_eq_nil_iff.1 hl0
  subst hl0
  have hc0 : cells = [] := List.eq_nil_of_length_eq_zero (by simpa using hcl)
  subst hc0
  (refine aw_ops (by kernel_rfl) (fun K hK => ?_); simp (disch := first | omega | (simp only [lnS]; try omega)) [-getElem?_pos, -getElem?_neg]; refine hK _ _ ?_; clear hK K)
  refine aw_t (by (first | (simp [eval_tmp, put_at]; done) | (simp [eval_tmp, put_at]; omega))) (by kernel_rfl) ?_
  refine aw_seq ?_
  (refine aw_ops (by kernel_rfl) (fun K hK => ?_); simp (disch := first | omega | (simp only [lnS]; try omega)) [-getElem?_pos, -getElem?_neg]; refine hK _ _ ?_; clear hK K)
  (refine aw_ret ?_; simp (disch := first | omega | (simp only [lnS]; try omega)) [-getElem?_pos, -getElem?_neg, thenQ_ret, scopeQ_ret, inBlockQ_ret, RQ, resL, resV])
  exact ⟨rfl, rfl, Low.refl (Nat.le_refl _), [], .inl ⟨rfl, rfl, rfl⟩, fun j hj => by cases hj⟩
 ·have hap := clone_app (P := Try.prog) (nro := nro) (t := 36) (e := 38) (sz := 32) (by simp) (by simp) (by omega) (by simp) hnro (hxc _ hb0) hcl (by rw [hcl]; simp; omega) (by rw [hcl]; simp only [maxLen]; omega)
  (refine aw_ops (by kernel_rfl) (fun K hK => ?_); simp (disch := first | omega | (simp only [lnS]; try omega)) [-getElem?_pos, -getElem?_neg]; refine hK _ _ ?_; clear hK K)
  refine aw_f (by (first | (simp [eval_tmp, put_at]; done) | (simp [eval_tmp, put_at]; omega))) (by kernel_rfl) ?_
  refine aw_skip ?_
  refine aw_seq ?_
  (refine aw_ops (by kernel_rfl) (fun K hK => ?_); simp (disch := first | omega | (simp only [lnS]; try omega)) [-getElem?_pos, -getElem?_neg, -xappend, hap, List.range_zero, List.map_nil]; refine hK _ _ ?_; clear hK K)
  (refine aw_ret ?_; simp (disch := first | omega | (simp only [lnS]; try omega)) [-getElem?_pos, -getElem?_neg, thenQ_ret, scopeQ_ret, inBlockQ_ret, RQ, resL, resV])
  exact ⟨rfl, by simp [clN], ⟨fun j hj => hget_left hj, by simp⟩, [H.length + 1], .inr ⟨H.length + 1, l.length, rfl, by rw [hget_app]; rfl, hcl, rfl⟩, fun j hj => by simp at hj; omega⟩
theorem cloneB_ac {nro : Nat} {γ : Nat → Option Nat} {H : AH} {v : Value} {l : List BoxD} (h : BxV H v l) (hw : ∀ b ∈ l, b.Wf) (hnro : nro ≤ H.length) (hm : l.length ≤ 10000000000) : AC Try.prog nro γ 135 #[v] H (NewC H v 107 36 (bxC l)) := by
 have hxc : ∀ G : AH, Low H.length H G → xcells 36 v G = some (bxC l) := fun G hG => val_cells (by omega) (CD.Val.low (fun j hj => hG.1 j hj) h) (box_len hw) (box_flat l)
 have hcl := bxC_len hw
 have hsh := val_shape h
 rw [List.length_map] at hsh
 generalize bxC l = cells at *
 have hb0 : Low H.length H (H ++ [some ⟨[], 107, some 36⟩]) := Low.push (Nat.le_refl _) _
 refine ac_of_aw Try.func135 rfl Try.ntmps135 Try.results135 (by simp) ?_
 refine aw_seq ?_
 (refine aw_ops (by kernel_rfl) (fun K hK => ?_); simp (disch := first | omega | (simp only [lnS]; try omega)) [-getElem?_pos, -getElem?_neg]; refine hK _ _ ?_; clear hK K)
 refine aw_seq ?_
 refine aw_seq ?_
 rcases hsh with ⟨rfl, hl0⟩ | ⟨a, rfl⟩
 ·have hl0 : l = [] := List.map_eq_nil_iff.1 hl0
  subst hl0
  have hc0 : cells = [] := List.eq_nil_of_length_eq_zero (by simpa using hcl)
  subst hc0
  (refine aw_ops (by kernel_rfl) (fun K hK => ?_); simp (disch := first | omega | (simp only [lnS]; try omega)) [-getElem?_pos, -getElem?_neg]; refine hK _ _ ?_; clear hK K)
  refine aw_t (by (first | (simp [eval_tmp, put_at]; done) | (simp [eval_tmp, put_at]; omega))) (by kernel_rfl) ?_
  refine aw_seq ?_
  (refine aw_ops (by kernel_rfl) (fun K hK => ?_); simp (disch := first | omega | (simp only [lnS]; try omega)) [-getElem?_pos, -getElem?_neg]; refine hK _ _ ?_; clear hK K)
  (refine aw_ret ?_; simp (disch := first | omega | (simp only [lnS]; try omega)) [-getElem?_pos, -getElem?_neg, thenQ_ret, scopeQ_ret, inBlockQ_ret, RQ, resL, resV])
  exact ⟨rfl, rfl, Low.refl (Nat.le_refl _), [], .inl ⟨rfl, rfl, rfl⟩, fun j hj => by cases hj⟩
 ·have hap := clone_app (P := Try.prog) (nro := nro) (t := 39) (e := 107) (sz := 36) (by simp) (by simp) (by omega) (by simp) hnro (hxc _ hb0) hcl (by rw [hcl]; simp; omega) (by rw [hcl]; simp only [maxLen]; omega)
  (refine aw_ops (by kernel_rfl) (fun K hK => ?_); simp (disch := first | omega | (simp only [lnS]; try omega)) [-getElem?_pos, -getElem?_neg]; refine hK _ _ ?_; clear hK K)
  refine aw_f (by (first | (simp [eval_tmp, put_at]; done) | (simp [eval_tmp, put_at]; omega))) (by kernel_rfl) ?_
  refine aw_skip ?_
  refine aw_seq ?_
  (refine aw_ops (by kernel_rfl) (fun K hK => ?_); simp (disch := first | omega | (simp only [lnS]; try omega)) [-getElem?_pos, -getElem?_neg, -xappend, hap, List.range_zero, List.map_nil]; refine hK _ _ ?_; clear hK K)
  (refine aw_ret ?_; simp (disch := first | omega | (simp only [lnS]; try omega)) [-getElem?_pos, -getElem?_neg, thenQ_ret, scopeQ_ret, inBlockQ_ret, RQ, resL, resV])
  exact ⟨rfl, by simp [clN], ⟨fun j hj => hget_left hj, by simp⟩, [H.length + 1], .inr ⟨H.length + 1, l.length, rfl, by rw [hget_app]; rfl, hcl, rfl⟩, fun j hj => by simp at hj; omega⟩
end
section
def opRow (o : OpD) (pv wv bv : Value) : List Value := [.int .i64 o.author, .int .u32 o.seq, pv, .int .i64 o.kind, wv] ++ (iv .u8 o.of ++ (iv .u8 o.check ++ [.string o.text, bv]))
def nodeRow (x : NodeD) (pv wv bv qv : Value) : List Value := iv .u8 x.id ++ (opRow x.op pv wv bv ++ [qv])
theorem opRow_len {o : OpD} (hw : o.Wf) (pv wv bv : Value) : (opRow o pv wv bv).length = 71 := by
 have h1 := hw.of.1
 have h2 := hw.check.1
 simp [opRow, iv_length, h1, h2]
theorem nodeRow_len {x : NodeD} (hw : x.Wf) (pv wv bv qv : Value) : (nodeRow x pv wv bv qv).length = 104 := by
 have h1 := hw.id.1
 have h2 := opRow_len hw.op pv wv bv
 simp [nodeRow, iv_length, h1, h2]
theorem OpC.row {H : AH} {us : List Value} {o : OpD} {pv wv bv : Value} (h : OpC H us o pv wv bv) (hw : o.Wf) : us = opRow o pv wv bv := by
 have hl := h.len
 have e0 : us.take 5 = [.int .i64 o.author, .int .u32 o.seq, pv, .int .i64 o.kind, wv] := by
  apply List.ext_getElem?
  intro i
  match i with
  | 0 => rw [List.getElem?_take_of_lt (by omega), h.c0]; rfl
  | 1 => rw [List.getElem?_take_of_lt (by omega), h.c1]; rfl
  | 2 => rw [List.getElem?_take_of_lt (by omega), h.c2]; rfl
  | 3 => rw [List.getElem?_take_of_lt (by omega), h.c3]; rfl
  | 4 => rw [List.getElem?_take_of_lt (by omega), h.c4]; rfl
  | i + 5 => rw [List.getElem?_eq_none (by rw [List.length_take]; omega), List.getElem?_eq_none (by simp)]
 have e2 : us.drop 69 = [.string o.text, bv] := by
  apply List.ext_getElem?
  intro i
  match i with
  | 0 => rw [List.getElem?_drop, h.c69]; rfl
  | 1 => rw [List.getElem?_drop, h.c70]; rfl
  | i + 2 => rw [List.getElem?_eq_none (by rw [List.length_drop]; omega), List.getElem?_eq_none (by simp)]
 have e1 : us.drop 5 = iv .u8 o.of ++ us.drop 37 := by
  have := (List.take_append_drop 32 (us.drop 5)).symm
  rwa [h.of, List.drop_drop] at this
 have e3 : us.drop 37 = iv .u8 o.check ++ us.drop 69 := by
  have := (List.take_append_drop 32 (us.drop 37)).symm
  rwa [h.check, List.drop_drop] at this
 have := (List.take_append_drop 5 us).symm
 rwa [e0, e1, e3, e2] at this
theorem NodeC.row {H : AH} {us : List Value} {x : NodeD} {pv wv bv qv : Value} (h : NodeC H us x pv wv bv qv) (hw : x.Wf) : us = nodeRow x pv wv bv qv := by
 have hl := h.len
 have e0 := h.op.row hw.op
 have e2 : us.drop 103 = [qv] := by
  apply List.ext_getElem?
  intro i
  match i with
  | 0 => rw [List.getElem?_drop, h.c103]; rfl
  | i + 1 => rw [List.getElem?_eq_none (by rw [List.length_drop]; omega), List.getElem?_eq_none (by simp)]
 have e1 : us.drop 32 = opRow x.op pv wv bv ++ us.drop 103 := by
  have := (List.take_append_drop 71 (us.drop 32)).symm
  rwa [e0, List.drop_drop] at this
 have := (List.take_append_drop 32 us).symm
 rwa [h.id, e1, e2] at this
theorem ValL.app {H : AH} {a b : List CD} {x y : List Value} (h1 : ValL H a x) (h2 : ValL H b y) : ValL H (a ++ b) (x ++ y) := by
 refine ⟨by rw [List.length_append, List.length_append, h1.1, h2.1], fun c d u hd hu => ?_⟩
 have hl := h1.1
 rcases Nat.lt_or_ge c a.length with hc | hc
 ·rw [List.getElem?_append_left hc] at hd
  rw [List.getElem?_append_left (by omega)] at hu
  exact h1.2 c d u hd hu
 ·rw [List.getElem?_append_right hc] at hd
  rw [List.getElem?_append_right (by omega), hl] at hu
  exact h2.2 _ d u hd hu
theorem ValL.one {H : AH} {d : CD} {u : Value} {ds : List CD} {us : List Value} (h : CD.Val H d u) (h2 : ValL H ds us) : ValL H (d :: ds) (u :: us) := by
 refine ⟨by simp [h2.1], fun c d' u' hd hu => ?_⟩
 cases c with
 | zero => cases hd; cases hu; exact h
 | succ c => exact h2.2 c d' u' (by simpa using hd) (by simpa using hu)
theorem ValL.none {H : AH} : ValL H [] [] := ⟨rfl, fun c d u hd _ => by cases hd⟩
theorem ValL.kdv {H : AH} (k : List Int) : ValL H (kd k) (iv .u8 k) := by
 induction k with
 | nil => exact .none
 | cons z k ih => exact ValL.one .int ih
theorem op_val {G : AH} {o : OpD} {pv wv bv : Value} (h1 : KsV G pv o.parents) (h2 : InV G wv o.who) (h3 : BxV G bv o.boxes) : ValL G o.row (opRow o pv wv bv) :=
 ValL.app (.one .int (.one .int (.one h1 (.one .int (.one h2 .none))))) (ValL.app (.kdv _) (ValL.app (.kdv _) (.one .str (.one h3 .none))))
theorem node_val {G : AH} {x : NodeD} {pv wv bv qv : Value} (h1 : KsV G pv x.op.parents) (h2 : InV G wv x.op.who) (h3 : BxV G bv x.op.boxes) (h4 : InV G qv x.past) : ValL G x.row (nodeRow x pv wv bv qv) :=
 ValL.app (.kdv _) (ValL.app (op_val h1 h2 h3) (.one h4 .none))
theorem opRow_2 (o : OpD) (pv wv bv : Value) : (opRow o pv wv bv)[2]? = some pv := rfl
theorem opRow_4 (o : OpD) (pv wv bv : Value) : (opRow o pv wv bv)[4]? = some wv := rfl
theorem opRow_cut {o : OpD} (hw : o.Wf) (pv wv bv : Value) : ∃ A : List Value, A.length = 70 ∧ ∀ b, opRow o pv wv b = A ++ [b] := by
 have h1 := hw.of.1
 have h2 := hw.check.1
 refine ⟨[.int .i64 o.author, .int .u32 o.seq, pv, .int .i64 o.kind, wv] ++ (iv .u8 o.of ++ (iv .u8 o.check ++ [.string o.text])), by simp [iv_length, h1, h2], fun b => ?_⟩
 simp [opRow]
theorem opRow_70 {o : OpD} (hw : o.Wf) (pv wv bv : Value) : (opRow o pv wv bv)[70]? = some bv := by
 obtain ⟨A, hA, e⟩ := opRow_cut hw pv wv bv
 rw [e, List.getElem?_append_right (by omega), hA]; rfl
theorem opRow_s2 (o : OpD) (pv wv bv x : Value) : setR (opRow o pv wv bv) 2 [x] = opRow o x wv bv := by rw [setR_one]; rfl
theorem opRow_s4 (o : OpD) (pv wv bv x : Value) : setR (opRow o pv wv bv) 4 [x] = opRow o pv x bv := by rw [setR_one]; rfl
theorem opRow_s70 {o : OpD} (hw : o.Wf) (pv wv bv x : Value) : setR (opRow o pv wv bv) 70 [x] = opRow o pv wv x := by
 obtain ⟨A, hA, e⟩ := opRow_cut hw pv wv bv
 rw [setR_one, e, e, List.set_append_right _ _ (by omega), hA]; rfl
theorem clV_nt {H : AH} {rows : List (List CD)} {v : Value} (h : CD.Val H (.sl rows) v) (n : Nat) : notTuple (clV v n) = true ∧ (clV v n).cells = #[clV v n] := by
 rcases val_shape h with ⟨rfl, _⟩ | ⟨a, rfl⟩ <;> exact ⟨rfl, rfl⟩
def KeepN (n : Nat) (H G : AH) : Prop := ∀ j, n ≤ j → j < H.length → hget G j = hget H j
def SmO (o : OpD) : Prop := o.parents.length ≤ 1000 ∧ o.who.length ≤ 1000 ∧ o.boxes.length ≤ 1000
def NewO (n : Nat) (H : AH) (o : OpD) (pv wv bv : Value) : Prop := ∀ G, KeepN n H G → KsV G pv o.parents ∧ InV G wv o.who ∧ BxV G bv o.boxes
def opN (pv wv bv : Value) : Nat := 2 + clN pv + clN wv + clN bv
def opP (pv : Value) (n : Nat) : Value := clV pv (n + 2)
def opW (pv wv : Value) (n : Nat) : Value := clV wv (n + 2 + clN pv)
def opB (pv wv bv : Value) (n : Nat) : Value := clV bv (n + 2 + clN pv + clN wv)
def DeepO (H : AH) (o : OpD) (pv wv bv : Value) (v' : Value) (H' : AH) : Prop :=
 v' = .agg (opRow o (opP pv H.length) (opW pv wv H.length) (opB pv wv bv H.length)).toArray ∧ H'.length = H.length + opN pv wv bv ∧ Low H.length H H' ∧ NewO H.length H' o (opP pv H.length) (opW pv wv H.length) (opB pv wv bv H.length)
theorem set_pack {H G : AH} {n : Nat} {x y : Blk} {X : Option Blk} (h : hget G n = some x) (h2 : hget G (n + 1) = some y) (hlow : Low n H G) : hget (G.set n X) n = X ∧ hget (G.set n X) (n + 1) = some y ∧ Low n H (G.set n X) ∧ (G.set n X).length = G.length ∧ ∀ j, n + 2 ≤ j → hget (G.set n X) j = hget G j :=
 ⟨hget_set_eq (hget_lt h), (hget_set_ne (by omega)).trans h2, ⟨fun j hj => (hget_set_ne (by omega)).trans (hlow.1 j hj), by rw [List.length_set]; exact hlow.2⟩, by rw [List.length_set], fun j hj => hget_set_ne (by omega)⟩
attribute [local simp] wb_bool wb_undef with_lit XL_nil XL_cons XLc_val XLc_call step1_eq stepW_t stepW_f stepC_n stepC_s stepX_s stepX_n stepN_s calleeX oneV xop_eq xopR_s xopR_n wantedA_eq wantedG_n wantedG_s plain1_int plain1_bool plain1_string bits_i64 bits_u64 bits_u32 bits_u16 bits_u8 xeqA xagg xcmp xarr allK_iv num_iv calleeOf xread xeff xbin xint xnil xun xstr xload xconv xpart xfield xfieldAddr xindexAddr xindex bnd asInt? xslice xlen xmin xmax xbuild xfill xappend xapp2 xappstr xappmk xcap xcopy xcells eval_tmp eval_const put_at put_none fr0_at cells_agg cells_int cells_bool cells_string cells_ptr cells_slice notTuple tab iv_all hget_app hget_app0 hget_cons0 hget_cons set_app set_app0 setR setR_one QL_nil QL_cons QLc_val stepQ_t stepQ_f stepQC_n stepQC_s stepQX_s SL_nil SL_cons SLc_val stepS_t stepS_f ltT ltF leT leF eqT eqF ltTn ltFn leTn leFn eqTn eqFn beqT beqF bneT bneF wi64 wu64 wu32 wu16 wu8 tmodP tdivP hgetL hgetNe hgetEq setL nums_def nums_len Nat.succ_le_of_lt List.getElem?_cons_zero List.getElem?_cons_succ Option.getD_some Int.toNat_add Int.toNat_mul agM okM agB agI agS agP agL agA okB okI okS okP okSl okA
theorem deepOp_ac {nro : Nat} {γ : Nat → Option Nat} {H : AH} {us : List Value} {o : OpD} {pv wv bv : Value} (h : OpC H us o pv wv bv) (hw : o.Wf) (hs : SmO o) (hnro : nro ≤ H.length) : AC Try.prog nro γ 82 #[.agg us.toArray] H (DeepO H o pv wv bv) := by
 have hrow := h.row hw
 obtain ⟨s1, s2, s3⟩ := hs
 have hP := h.parents
 have hW := h.who
 have hB := h.boxes
 have r0l := opRow_len hw pv wv bv
 have g2 := opRow_2 o pv wv bv
 rw [← hrow] at r0l g2
 have t1 := opRow_s2 o pv wv bv (opP pv H.length)
 rw [← hrow] at t1
 have r1l := opRow_len hw (opP pv H.length) wv bv
 have g4 := opRow_4 o (opP pv H.length) wv bv
 have t2 := opRow_s4 o (opP pv H.length) wv bv (opW pv wv H.length)
 obtain ⟨R1, hR1⟩ : ∃ R, R = opRow o (opP pv H.length) wv bv := ⟨_, rfl⟩
 rw [← hR1] at t1 r1l g4 t2
 have r2l := opRow_len hw (opP pv H.length) (opW pv wv H.length) bv
 have g70 := opRow_70 hw (opP pv H.length) (opW pv wv H.length) bv
 have t3 := opRow_s70 hw (opP pv H.length) (opW pv wv H.length) bv (opB pv wv bv H.length)
 obtain ⟨R2, hR2⟩ : ∃ R, R = opRow o (opP pv H.length) (opW pv wv H.length) bv := ⟨_, rfl⟩
 rw [← hR2] at t2 r2l g70 t3
 have r3l := opRow_len hw (opP pv H.length) (opW pv wv H.length) (opB pv wv bv H.length)
 obtain ⟨R3, hR3⟩ : ∃ R, R = opRow o (opP pv H.length) (opW pv wv H.length) (opB pv wv bv H.length) := ⟨_, rfl⟩
 rw [← hR3] at t3 r3l
 have np := val_nt hP
 have nw := val_nt hW
 have nb := val_nt hB
 have np' := clV_nt hP (H.length + 2)
 have nw' := clV_nt hW (H.length + 2 + clN pv)
 have nb' := clV_nt hB (H.length + 2 + clN pv + clN wv)
 have hset : ∀ Z : List Value, Z.length = 71 → setR Z 0 R3 = R3 := fun Z hZ => setR_all _ _ (by omega)
 have htk : R3.take 71 = R3 := List.take_of_length_le (by omega)
 unfold opP opW opB at *
 refine ac_of_aw Try.func82 rfl Try.ntmps82 Try.results82 (by simp) ?_
 refine aw_seq ?_
 (refine aw_ops (by kernel_rfl) (fun K hK => ?_); simp (disch := first | omega | (simp only [lnS]; try omega)) [-getElem?_pos, -getElem?_neg, r0l, nt_aggG, all_zl]; refine hK _ _ ?_; clear hK K)
 obtain ⟨ZZ, hZZ, hZl⟩ : ∃ ZZ : List Value, Value.int .i64 0 :: .int .u32 0 :: .slice none 0 0 :: .int .i64 0 :: .slice none 0 0 :: (iv .u8 (zl 64) ++ [.string ByteArray.empty, .slice none 0 0]) = ZZ ∧ ZZ.length = 71 := ⟨_, rfl, by simp⟩
 rw [hZZ]
 have hset := hset ZZ hZl
 obtain ⟨G, hG⟩ : ∃ G : AH, G = H ++ [some ⟨us, 41, none⟩, some ⟨ZZ, 41, none⟩] := ⟨_, rfl⟩
 have b1 : hget G H.length = some ⟨us, 41, none⟩ := by rw [hG, hget_app0]; rfl
 have b2 : hget G (H.length + 1) = some ⟨ZZ, 41, none⟩ := by rw [hG, hget_app]; rfl
 have lw : Low H.length H G := hG ▸ Low.push (Nat.le_refl _) _
 have gl : G.length = H.length + 2 := by simp [hG]
 rw [← hG]
 clear hG
 obtain ⟨n, hn⟩ : ∃ n, n = H.length := ⟨_, rfl⟩
 have kP : KsV G pv o.parents := CD.Val.low (fun j hj => lw.1 j hj) hP
 have kW : InV G wv o.who := CD.Val.low (fun j hj => lw.1 j hj) hW
 have kB : BxV G bv o.boxes := CD.Val.low (fun j hj => lw.1 j hj) hB
 unfold DeepO opP opW opB
 rw [← hn] at lw gl b1 b2 np' nw' nb' t1 t2 t3 hnro hR1 hR2 hR3 ⊢
 refine aw_seq ?_
 refine aw_ops (by kernel_rfl) (fun K hK => ?_)
 simp (disch := first | omega | (simp only [lnS]; try omega)) [-getElem?_pos, -getElem?_neg, b1, r0l, g2, -notTuple, np.1, np.2, nt_aggG]
 refine ⟨by kernel_rfl, (cloneK_ac (nro := nro) (γ := γ) kP (fun k hk => (hw.parents k hk).1) (by omega) (by omega)).mono ?_⟩
 rintro v1 G1 ⟨rfl, l1, w1, F1, o1, f1⟩
 rw [gl] at l1 w1 f1 o1 ⊢
 have hle1 := w1.2
 have c1 : hget G1 n = some ⟨us, 41, none⟩ := (w1.1 n (by omega)).trans b1
 have c2 : hget G1 (n + 1) = some ⟨ZZ, 41, none⟩ := (w1.1 (n + 1) (by omega)).trans b2
 simp (disch := first | omega | (simp only [lnS]; try omega)) [-getElem?_pos, -getElem?_neg, c1, r0l, -notTuple, np'.1, np'.2, t1]
 refine hK _ _ ?_; clear hK K
 have lw1 : Low n H G1 := ⟨fun j hj => (w1.1 j (by omega)).trans (lw.1 j hj), by have := lw.2; omega⟩
 obtain ⟨d1, d2, d3, d4, d5⟩ := set_pack (X := some ⟨R1, 41, none⟩) c1 c2 lw1
 have o1 : OwnF (G1.set n (some ⟨R1, 41, none⟩)) (clV pv (n + 2)) 38 32 (ksC o.parents) F1 := o1.low (fun j hj => d5 j (f1 j hj))
 rw [l1] at d4
 clear b1 b2 c1 c2 w1 l1 lw1
 generalize G1.set n (some ⟨R1, 41, none⟩) = G2 at *
 have kW := CD.Val.low (H' := G2) (fun j hj => d3.1 j (by omega)) hW
 have kB := CD.Val.low (H' := G2) (fun j hj => d3.1 j (by omega)) hB
 refine aw_seq ?_
 refine aw_ops (by kernel_rfl) (fun K hK => ?_)
 simp (disch := first | omega | (simp only [lnS]; try omega)) [-getElem?_pos, -getElem?_neg, d1, r1l, g4, -notTuple, nw.1, nw.2, nt_aggG]
 refine ⟨by kernel_rfl, (cloneI_ac (nro := nro) (γ := γ) kW (by omega) (by omega)).mono ?_⟩
 rintro v1 G3 ⟨rfl, l1, w1, F2, o2, f2⟩
 rw [d4] at l1 w1 f2 o2 ⊢
 have hle1 := w1.2
 have c1 : hget G3 n = some ⟨R1, 41, none⟩ := (w1.1 n (by omega)).trans d1
 have c2 : hget G3 (n + 1) = some ⟨ZZ, 41, none⟩ := (w1.1 (n + 1) (by omega)).trans d2
 have hF1 := o1.lt
 have o1 := o1.low (H' := G3) (fun j hj => w1.1 j (by have := hF1 j hj; omega))
 simp (disch := first | omega | (simp only [lnS]; try omega)) [-getElem?_pos, -getElem?_neg, c1, r1l, -notTuple, nw'.1, nw'.2, t2]
 refine hK _ _ ?_; clear hK K
 have lw1 : Low n H G3 := ⟨fun j hj => (w1.1 j (by omega)).trans (d3.1 j hj), by have := d3.2; omega⟩
 obtain ⟨e1, e2, e3, e4, e5⟩ := set_pack (X := some ⟨R2, 41, none⟩) c1 c2 lw1
 have o1 := o1.low (H' := G3.set n (some ⟨R2, 41, none⟩)) (fun j hj => e5 j (f1 j hj))
 have o2 := o2.low (H' := G3.set n (some ⟨R2, 41, none⟩)) (fun j hj => e5 j (by have := f2 j hj; omega))
 rw [l1] at e4
 clear c1 c2 w1 l1 lw1 d1 d2 d3 d4 d5
 generalize G3.set n (some ⟨R2, 41, none⟩) = G4 at *
 have kB := CD.Val.low (H' := G4) (fun j hj => e3.1 j (by omega)) hB
 refine aw_seq ?_
 refine aw_ops (by kernel_rfl) (fun K hK => ?_)
 simp (disch := first | omega | (simp only [lnS]; try omega)) [-getElem?_pos, -getElem?_neg, e1, r2l, g70, -notTuple, nb.1, nb.2, nt_aggG]
 refine ⟨by kernel_rfl, (cloneB_ac (nro := nro) (γ := γ) kB hw.boxes (by omega) (by omega)).mono ?_⟩
 rintro v1 G5 ⟨rfl, l1, w1, F3, o3, f3⟩
 rw [e4] at l1 w1 f3 o3 ⊢
 have hle1 := w1.2
 have c1 : hget G5 n = some ⟨R2, 41, none⟩ := (w1.1 n (by omega)).trans e1
 have c2 : hget G5 (n + 1) = some ⟨ZZ, 41, none⟩ := (w1.1 (n + 1) (by omega)).trans e2
 have hF1 := o1.lt
 have hF2 := o2.lt
 have o1 := o1.low (H' := G5) (fun j hj => w1.1 j (by have := hF1 j hj; omega))
 have o2 := o2.low (H' := G5) (fun j hj => w1.1 j (by have := hF2 j hj; omega))
 simp (disch := first | omega | (simp only [lnS]; try omega)) [-getElem?_pos, -getElem?_neg, c1, r2l, -notTuple, nb'.1, nb'.2, t3]
 refine hK _ _ ?_; clear hK K
 have lw1 : Low n H G5 := ⟨fun j hj => (w1.1 j (by omega)).trans (e3.1 j hj), by have := e3.2; omega⟩
 obtain ⟨d1, d2, d3, d4, d5⟩ := set_pack (X := some ⟨R3, 41, none⟩) c1 c2 lw1
 have o1 := o1.low (H' := G5.set n (some ⟨R3, 41, none⟩)) (fun j hj => d5 j (f1 j hj))
 have o2 := o2.low (H' := G5.set n (some ⟨R3, 41, none⟩)) (fun j hj => d5 j (by have := f2 j hj; omega))
 have o3 := o3.low (H' := G5.set n (some ⟨R3, 41, none⟩)) (fun j hj => d5 j (by have := f3 j hj; omega))
 rw [l1] at d4
 clear c1 c2 w1 l1 lw1 e1 e2 e3 e4 e5
 generalize G5.set n (some ⟨R3, 41, none⟩) = G6 at *
 refine aw_seq ?_
 (refine aw_ops (by kernel_rfl) (fun K hK => ?_); simp (disch := first | omega | (simp only [lnS]; try omega)) [-getElem?_pos, -getElem?_neg, d1, d2, r3l, hZl, hset, htk, nt_aggG]; refine hK _ _ ?_; clear hK K)
 have hlt2 := hget_lt d2
 have z1 : hget (G6.set (n + 1) (some ⟨R3, 41, none⟩)) (n + 1) = some ⟨R3, 41, none⟩ := hget_set_eq hlt2
 have z2 : ∀ j, j ≠ n + 1 → hget (G6.set (n + 1) (some ⟨R3, 41, none⟩)) j = hget G6 j := fun j hj => hget_set_ne (fun e => hj e.symm)
 have z3 : (G6.set (n + 1) (some ⟨R3, 41, none⟩)).length = G6.length := by rw [List.length_set]
 have hF1 := o1.lt
 have hF2 := o2.lt
 have hF3 := o3.lt
 have o1 := o1.low (H' := G6.set (n + 1) (some ⟨R3, 41, none⟩)) (fun j hj => z2 j (by have := f1 j hj; omega))
 have o2 := o2.low (H' := G6.set (n + 1) (some ⟨R3, 41, none⟩)) (fun j hj => z2 j (by have := f2 j hj; omega))
 have o3 := o3.low (H' := G6.set (n + 1) (some ⟨R3, 41, none⟩)) (fun j hj => z2 j (by have := f3 j hj; omega))
 generalize G6.set (n + 1) (some ⟨R3, 41, none⟩) = G7 at *
 (refine aw_ret ?_; simp (disch := first | omega | (simp only [lnS]; try omega)) [-getElem?_pos, -getElem?_neg, thenQ_ret, scopeQ_ret, inBlockQ_ret, RQ, resL, resV, z1, r3l, htk])
 refine ⟨by rw [hR3], by unfold opN; omega, ⟨fun j hj => (z2 j (by omega)).trans (d3.1 j hj), by have := d3.2; omega⟩, fun G hG => ?_⟩
 have o1 := o1.low (H' := G) (fun j hj => hG j (by have := f1 j hj; omega) (by have := hF1 j hj; omega))
 have o2 := o2.low (H' := G) (fun j hj => hG j (by have := f2 j hj; omega) (by have := hF2 j hj; omega))
 have o3 := o3.low (H' := G) (fun j hj => hG j (by have := f3 j hj; omega) (by have := hF3 j hj; omega))
 exact ⟨own_val (by omega) o1 (kd_len fun k hk => (hw.parents k hk).1) (kd_flat _), own_val (by omega) o2 (int_len _) (int_flat _), own_val (by omega) o3 (box_len hw.boxes) (box_flat _)⟩
end
section
theorem put3 {Z A B : List Value} {q : Value} (hA : A.length = 32) (hB : B.length = 71) (hZ : Z.length = 104) : setR (setR (setR Z 0 A) 32 B) 103 [q] = A ++ (B ++ [q]) := by
 have e1 := setR_frontF Z A (by omega)
 rw [e1]
 have l1 : (Z.drop A.length).length = 72 := by rw [List.length_drop]; omega
 have e2 := setR_right A (Z.drop A.length) B 0 (by omega)
 rw [Nat.add_zero] at e2
 rw [show (32 : Nat) = A.length by omega, e2, setR_frontF _ B (by omega)]
 rw [show (103 : Nat) = A.length + 71 by omega, setR_right A _ [q] 71 (by rw [List.length_append, List.length_drop, l1]; simp; omega)]
 congr 1
 have e3 := setR_right B ((Z.drop A.length).drop B.length) [q] 0 (by rw [List.length_drop, l1]; simp; omega)
 rw [Nat.add_zero] at e3
 rw [show (71 : Nat) = B.length by omega, e3, setR_frontF _ [q] (by rw [List.length_drop, l1]; simp; omega)]
 rw [List.drop_of_length_le (l := (Z.drop A.length).drop B.length) (by rw [List.length_drop, l1]; simp; omega), List.append_nil]
theorem build_node {x : NodeD} {pv wv bv qv : Value} (hw : x.Wf) (h1 : notTuple qv = true) (h2 : qv.cells = #[qv]) : xbuild Try.prog 50 [(0, .agg (iv .u8 x.id).toArray), (1, .agg (opRow x.op pv wv bv).toArray), (2, qv)] = some (.agg (nodeRow x pv wv bv qv).toArray) := by
 have hf : flds Try.prog 50 = some [(38, 0), (41, 32), (23, 103)] := by kernel_rfl
 obtain ⟨z, hz⟩ : ∃ z, zer Try.prog 50 = some z := by
  have : (zer Try.prog 50).isSome = true := by kernel_rfl
  exact Option.isSome_iff_exists.1 this
 have hzl : z.cells.toList.length = 104 := by
  have : (zer Try.prog 50).map (fun z => z.cells.toList.length) = some 104 := by kernel_rfl
  rw [hz] at this
  simpa using this
 have hzp : z.cells.toList.all plain1 = true := by
  have : (zer Try.prog 50).map (fun z => z.cells.toList.all plain1) = some true := by kernel_rfl
  rw [hz] at this
  simpa using this
 have s1 : szt Try.prog 38 = 32 := by kernel_rfl
 have s2 : szt Try.prog 41 = 71 := by kernel_rfl
 have s3 : szt Try.prog 23 = 1 := by kernel_rfl
 have hA : (iv .u8 x.id).length = 32 := by rw [iv_length]; exact hw.id.1
 have hB := opRow_len hw.op pv wv bv
 have hp := put3 (q := qv) hA hB hzl
 unfold xbuild
 simp only [hf, hz]
 rw [if_pos ⟨by simp [s1, s2, s3], hzp, by simp only [List.all_cons, List.all_nil, h1, Bool.and_true]; rfl⟩]
 generalize z.cells.toList = Z at *
 unfold nodeRow
 generalize iv .u8 x.id = A at *
 generalize opRow x.op pv wv bv = B at *
 have c1 : (Value.agg A.toArray).cells = A.toArray := rfl
 have c2 : (Value.agg B.toArray).cells = B.toArray := rfl
 simp only [xfill, List.getElem?_cons_zero, List.getElem?_cons_succ, Option.map_some, s1, s2, s3, c1, c2, h2]
 rw [if_pos ⟨by simp [hA], by simp; omega⟩]
 rw [if_pos ⟨by simp [hB], by simp; omega⟩]
 rw [if_pos ⟨by simp, by simp; omega⟩]
 rw [hp]
def nodeN (pv wv bv qv : Value) : Nat := 2 + opN pv wv bv + clN qv
def SmN (x : NodeD) : Prop := SmO x.op ∧ x.past.length ≤ 1000
def nodeCp (x : NodeD) (pv wv bv qv : Value) (n : Nat) : List Value := nodeRow x (opP pv (n + 2)) (opW pv wv (n + 2)) (opB pv wv bv (n + 2)) (clV qv (n + 2 + opN pv wv bv))
def DeepN (H : AH) (x : NodeD) (pv wv bv qv : Value) (v' : Value) (H' : AH) : Prop :=
 v' = .agg (nodeCp x pv wv bv qv H.length).toArray ∧ H'.length = H.length + nodeN pv wv bv qv ∧ Low H.length H H' ∧ ∀ G, KeepN H.length H' G → ValL G x.row (nodeCp x pv wv bv qv H.length)
theorem KeepN.trans {n : Nat} {A B C : AH} (h : KeepN n A B) (k : KeepN n B C) (hl : A.length ≤ B.length) : KeepN n A C := fun j h1 h2 => (k j h1 (by omega)).trans (h j h1 h2)
theorem opRow_off {x : NodeD} (hw : x.Wf) (pv wv bv qv : Value) : (nodeRow x pv wv bv qv).take 32 = iv .u8 x.id ∧ ((nodeRow x pv wv bv qv).drop 32).take 71 = opRow x.op pv wv bv ∧ (nodeRow x pv wv bv qv)[103]? = some qv := by
 have hA : (iv .u8 x.id).length = 32 := by rw [iv_length]; exact hw.id.1
 have hB := opRow_len hw.op pv wv bv
 unfold nodeRow
 refine ⟨?_, ?_, ?_⟩
 ·rw [List.take_append_of_le_length (by omega), List.take_of_length_le (by omega)]
 ·rw [List.drop_append_of_le_length (by omega), List.drop_of_length_le (by omega), List.nil_append, List.take_append_of_le_length (by omega), List.take_of_length_le (by omega)]
 ·rw [List.getElem?_append_right (by omega), List.getElem?_append_right (by omega), hA, hB]
  rfl
attribute [local simp] wb_bool wb_undef with_lit XL_nil XL_cons XLc_val XLc_call step1_eq stepW_t stepW_f stepC_n stepC_s stepX_s stepX_n stepN_s calleeX oneV xop_eq xopR_s xopR_n wantedA_eq wantedG_n wantedG_s plain1_int plain1_bool plain1_string bits_i64 bits_u64 bits_u32 bits_u16 bits_u8 xeqA xagg xcmp xarr allK_iv num_iv calleeOf xread xeff xbin xint xnil xun xstr xload xconv xpart xfield xfieldAddr xindexAddr xindex bnd asInt? xslice xlen xmin xmax xbuild xfill xappend xapp2 xappstr xappmk xcap xcopy xcells eval_tmp eval_const put_at put_none fr0_at cells_agg cells_int cells_bool cells_string cells_ptr cells_slice notTuple tab iv_all hget_app hget_app0 hget_cons0 hget_cons set_app set_app0 setR setR_one QL_nil QL_cons QLc_val stepQ_t stepQ_f stepQC_n stepQC_s stepQX_s SL_nil SL_cons SLc_val stepS_t stepS_f ltT ltF leT leF eqT eqF ltTn ltFn leTn leFn eqTn eqFn beqT beqF bneT bneF wi64 wu64 wu32 wu16 wu8 tmodP tdivP hgetL hgetNe hgetEq setL nums_def nums_len Nat.succ_le_of_lt List.getElem?_cons_zero List.getElem?_cons_succ Option.getD_some Int.toNat_add Int.toNat_mul agM okM agB agI agS agP agL agA okB okI okS okP okSl okA
theorem nodes1_ac {nro : Nat} {γ : Nat → Option Nat} {H : AH} {us : List Value} {x : NodeD} {pv wv bv qv : Value} (h : NodeC H us x pv wv bv qv) (hw : x.Wf) (hs : SmN x) (hnro : nro ≤ H.length) : AC Try.prog nro γ 132 #[.agg us.toArray] H (DeepN H x pv wv bv qv) := by
 have hrow := h.row hw
 have hul := h.len
 obtain ⟨q1, q2, q3⟩ := opRow_off hw pv wv bv qv
 rw [← hrow] at q1 q2 q3
 have hivl : (iv .u8 x.id).length = 32 := by rw [iv_length]; exact hw.id.1
 have hopl := opRow_len hw.op pv wv bv
 have hQ := h.past
 have nq := val_nt hQ
 have nq' := clV_nt hQ (H.length + 2 + opN pv wv bv)
 have hbl := build_node (pv := opP pv (H.length + 2)) (wv := opW pv wv (H.length + 2)) (bv := opB pv wv bv (H.length + 2)) hw nq'.1 nq'.2
 have hopC : ∀ G : AH, Low H.length H G → OpC G (opRow x.op pv wv bv) x.op pv wv bv := fun G hG => by
  have := h.op.low hG.1
  rwa [q2] at this
 have hr3l := nodeRow_len hw (opP pv (H.length + 2)) (opW pv wv (H.length + 2)) (opB pv wv bv (H.length + 2)) (clV qv (H.length + 2 + opN pv wv bv))
 obtain ⟨R, hR⟩ : ∃ R, R = nodeRow x (opP pv (H.length + 2)) (opW pv wv (H.length + 2)) (opB pv wv bv (H.length + 2)) (clV qv (H.length + 2 + opN pv wv bv)) := ⟨_, rfl⟩
 rw [← hR] at hbl hr3l
 have hset : ∀ Z : List Value, Z.length = 104 → setR Z 0 R = R := fun Z hZ => setR_all _ _ (by omega)
 have htk : R.take 104 = R := List.take_of_length_le (by omega)
 have hopv : notTuple (.agg (opRow x.op (opP pv (H.length + 2)) (opW pv wv (H.length + 2)) (opB pv wv bv (H.length + 2))).toArray) = true := rfl
 refine ac_of_aw Try.func132 rfl Try.ntmps132 Try.results132 (by simp) ?_
 refine aw_seq ?_
 (refine aw_ops (by kernel_rfl) (fun K hK => ?_); simp (disch := first | omega | (simp only [lnS]; try omega)) [-getElem?_pos, -getElem?_neg, hul, nt_aggG, all_zl]; refine hK _ _ ?_; clear hK K)
 obtain ⟨ZZ, hZZ, hZl⟩ : ∃ ZZ : List Value, (iv .u8 (zl 32) ++ Value.int .i64 0 :: .int .u32 0 :: .slice none 0 0 :: .int .i64 0 :: .slice none 0 0 :: (iv .u8 (zl 64) ++ [.string ByteArray.empty, .slice none 0 0, .slice none 0 0])) = ZZ ∧ ZZ.length = 104 := ⟨_, rfl, by simp⟩
 rw [hZZ]
 have hset := hset ZZ hZl
 obtain ⟨G, hG⟩ : ∃ G : AH, G = H ++ [some ⟨us, 50, none⟩, some ⟨ZZ, 50, none⟩] := ⟨_, rfl⟩
 have b1 : hget G H.length = some ⟨us, 50, none⟩ := by rw [hG, hget_app0]; rfl
 have b2 : hget G (H.length + 1) = some ⟨ZZ, 50, none⟩ := by rw [hG, hget_app]; rfl
 have lw : Low H.length H G := hG ▸ Low.push (Nat.le_refl _) _
 have gl : G.length = H.length + 2 := by simp [hG]
 rw [← hG]
 clear hG
 have kO := hopC G lw
 have kQ : InV G qv x.past := CD.Val.low (fun j hj => lw.1 j hj) hQ
 have hcO := deepOp_ac (nro := nro) (γ := γ) kO hw.op hs.1 (by omega)
 unfold DeepO at hcO
 rw [gl] at hcO
 unfold DeepN nodeN nodeCp
 obtain ⟨n, hn⟩ : ∃ n, n = H.length := ⟨_, rfl⟩
 rw [← hR]
 rw [← hn] at lw gl b1 b2 nq' hbl hR hnro hcO ⊢
 obtain ⟨ov, hov⟩ : ∃ ov, ov = opRow x.op (opP pv (n + 2)) (opW pv wv (n + 2)) (opB pv wv bv (n + 2)) := ⟨_, rfl⟩
 rw [← hov] at hcO hbl
 have hcells : R = iv .u8 x.id ++ (ov ++ [clV qv (n + 2 + opN pv wv bv)]) := by rw [hR, hov]; rfl
 refine aw_seq ?_
 obtain ⟨Φ, e0, e1, e2, e3, eS⟩ : ∃ Φ : Nat → AH → Prop, (∀ A, Φ 0 A ↔ A = G) ∧ (∀ A, Φ 1 A ↔ (A.length = n + 2 + opN pv wv bv ∧ Low (n + 2) G A ∧ NewO (n + 2) A x.op (opP pv (n + 2)) (opW pv wv (n + 2)) (opB pv wv bv (n + 2)))) ∧
   (∀ A, Φ 2 A ↔ (A.length = n + 2 + opN pv wv bv + clN qv ∧ Low (n + 2) G A ∧ NewO (n + 2) A x.op (opP pv (n + 2)) (opW pv wv (n + 2)) (opB pv wv bv (n + 2)) ∧ ∃ F, OwnF A (clV qv (n + 2 + opN pv wv bv)) 3 1 (isC x.past) F ∧ ∀ j ∈ F, n + 2 ≤ j)) ∧
   (∀ A, Φ 3 A ↔ ∃ B, Φ 2 B ∧ A = B.set (n + 1) (some ⟨R, 50, none⟩)) ∧ (∀ s A, Φ s A → hget A n = hget G n) := by
  refine ⟨fun s A => match s with
   | 0 => A = G
   | 1 => A.length = n + 2 + opN pv wv bv ∧ Low (n + 2) G A ∧ NewO (n + 2) A x.op (opP pv (n + 2)) (opW pv wv (n + 2)) (opB pv wv bv (n + 2))
   | 2 => A.length = n + 2 + opN pv wv bv + clN qv ∧ Low (n + 2) G A ∧ NewO (n + 2) A x.op (opP pv (n + 2)) (opW pv wv (n + 2)) (opB pv wv bv (n + 2)) ∧ ∃ F, OwnF A (clV qv (n + 2 + opN pv wv bv)) 3 1 (isC x.past) F ∧ ∀ j ∈ F, n + 2 ≤ j
   | _ => ∃ B : AH, (B.length = n + 2 + opN pv wv bv + clN qv ∧ Low (n + 2) G B ∧ NewO (n + 2) B x.op (opP pv (n + 2)) (opW pv wv (n + 2)) (opB pv wv bv (n + 2)) ∧ ∃ F, OwnF B (clV qv (n + 2 + opN pv wv bv)) 3 1 (isC x.past) F ∧ ∀ j ∈ F, n + 2 ≤ j) ∧ A = B.set (n + 1) (some ⟨R, 50, none⟩), fun _ => Iff.rfl, fun _ => Iff.rfl, fun _ => Iff.rfl, fun _ => Iff.rfl, fun s A h => ?_⟩
  match s, h with
  | 0, h => cases h; rfl
  | 1, h => exact h.2.1.1 n (by omega)
  | 2, h => exact h.2.1.1 n (by omega)
  | s + 3, ⟨B, h, hA⟩ => rw [hA, hget_set_ne (by omega)]; exact h.2.1.1 n (by omega)
 refine aw_chain (fun j => j == n) Φ (by kernel_rfl) (by kernel_rfl) (by kernel_rfl) (fun s A h j hj => by
  have e : j = n := by simpa using hj
  rw [e]; exact eS s A h) ((e0 _).2 rfl) (fun K hK => ?_)
 simp (disch := first | omega | (simp only [lnS]; try omega)) [-getElem?_pos, -getElem?_neg, b1, hul, q1, q2, q3, hivl, hopl, -notTuple, nq.1, nq.2, nt_aggG, CL_nil, CL_cons, CLc_val, CLc_skip, memS, inS, inSp, isCallH, isCallU, isCallF, calleeH_f, calleeH_t, effF]
 refine CLc_call (v := .agg ov.toArray) (by kernel_rfl) (fun A hA => ?_) ?_
 ·obtain rfl := (e0 _).1 hA
  exact hcO.mono fun v' A' h => ⟨h.1, (e1 _).2 ⟨h.2.1, h.2.2.1, h.2.2.2⟩⟩
 try simp (disch := first | omega | (simp only [lnS]; try omega)) [-getElem?_pos, -getElem?_neg, b1, hul, q1, q2, q3, hivl, hopl, -notTuple, nq.1, nq.2, nt_aggG, CL_nil, CL_cons, CLc_val, CLc_skip, memS, inS, inSp, isCallH, isCallU, isCallF, calleeH_f, calleeH_t, effF]
 refine CLc_call (v := clV qv (n + 2 + opN pv wv bv)) (by kernel_rfl) (fun A hA => ?_) ?_
 ·obtain ⟨g1, g2, g3⟩ := (e1 _).1 hA
  have kQ2 : InV A qv x.past := CD.Val.low (fun j hj => g2.1 j (by omega)) kQ
  refine (cloneI_ac (nro := nro) (γ := γ) kQ2 (by omega) (by have := hs.2; omega)).mono ?_
  rintro v' A' ⟨h1, h2, h3, F, h4, h5⟩
  rw [g1] at h1 h2 h3 h5
  refine ⟨h1, (e2 _).2 ⟨h2, ⟨fun j hj => (h3.1 j (by omega)).trans (g2.1 j hj), by have := h3.2; omega⟩, fun B hB => g3 B (KeepN.trans (fun j _ hj => h3.1 j (by omega)) hB (by have := h3.2; omega)), F, by rw [← h1]; exact h4, fun j hj => by have := h5 j hj; omega⟩⟩
 try simp (disch := first | omega | (simp only [lnS]; try omega)) [-getElem?_pos, -getElem?_neg, b1, hul, q1, q2, q3, hivl, hopl, -notTuple, nq'.1, nq'.2, nt_aggG, -xbuild, hbl, CL_nil, CL_cons, CLc_val, CLc_skip, memS, inS, inSp, isCallH, isCallU, isCallF, calleeH_f, calleeH_t, effF]
 refine CLc_eff (v := undef) (fun A hA => ?_) ?_
 ·have hA2 := hA
  obtain ⟨g1, g2, g3, F, g4, g5⟩ := (e2 _).1 hA2
  have c2 : hget A (n + 1) = some ⟨ZZ, 50, none⟩ := (g2.1 (n + 1) (by omega)).trans b2
  refine ⟨_, ?_, (e3 _).2 ⟨A, hA, rfl⟩⟩
  simp (disch := first | omega | (simp only [lnS]; try omega)) [-getElem?_pos, -getElem?_neg, c2, hZl, hset, hr3l, nt_aggG]
 try simp (disch := first | omega | (simp only [lnS]; try omega)) [-getElem?_pos, -getElem?_neg, CL_nil, CL_cons, CLc_val, CLc_skip, memS, inS, inSp, isCallH, isCallU, isCallF, calleeH_f, calleeH_t, effF]
 intro A hA
 obtain ⟨B, hB, rfl⟩ := (e3 _).1 hA
 obtain ⟨g1, g2, g3, F, g4, g5⟩ := (e2 _).1 hB
 have hFl := g4.lt
 have c2 : hget B (n + 1) = some ⟨ZZ, 50, none⟩ := (g2.1 (n + 1) (by omega)).trans b2
 have z1 : hget (B.set (n + 1) (some ⟨R, 50, none⟩)) (n + 1) = some ⟨R, 50, none⟩ := hget_set_eq (hget_lt c2)
 have z2 : ∀ j, j ≠ n + 1 → hget (B.set (n + 1) (some ⟨R, 50, none⟩)) j = hget B j := fun j hj => hget_set_ne (fun e => hj e.symm)
 have z3 : (B.set (n + 1) (some ⟨R, 50, none⟩)).length = B.length := by rw [List.length_set]
 generalize B.set (n + 1) (some ⟨R, 50, none⟩) = C at *
 refine hK _ _ ?_; clear hK K
 (refine aw_ret ?_; simp (disch := first | omega | (simp only [lnS]; try omega)) [-getElem?_pos, -getElem?_neg, thenQ_ret, scopeQ_ret, inBlockQ_ret, RQ, resL, resV, z1, hr3l, htk])
 refine ⟨⟨fun j hj => (z2 j (by omega)).trans ((g2.1 j (by omega)).trans (lw.1 j hj)), by have := lw.2; omega⟩, fun D hD => ?_⟩
 rw [hR]
 obtain ⟨k1, k2, k3⟩ := g3 D (fun j h1 h2 => (hD j (by omega) (by omega)).trans (z2 j (by omega)))
 have g4 := g4.low (H' := D) (fun j hj => (hD j (by have := g5 j hj; omega) (by have := hFl j hj; omega)).trans (z2 j (by have := g5 j hj; omega)))
 exact node_val k1 k2 k3 (own_val (by omega) g4 (int_len _) (int_flat _))
theorem nodes1_callable : callable Try.prog 132 = true := by kernel_rfl
def NewRows (n : Nat) (H : AH) (R : List (List Value)) (l : List NodeD) : Prop := R.length = l.length ∧ ∀ (k : Nat) (us : List Value) (x : NodeD), R[k]? = some us → l[k]? = some x → us.length = 104 ∧ ∀ G, KeepN n H G → ValL G x.row us
theorem NewRows.keep {n : Nat} {H G : AH} {R : List (List Value)} {l : List NodeD} (h : NewRows n H R l) (hk : KeepN n H G) (hl : H.length ≤ G.length) : NewRows n G R l :=
 ⟨h.1, fun k us x h1 h2 => ⟨(h.2 k us x h1 h2).1, fun B hB => (h.2 k us x h1 h2).2 B (hk.trans hB hl)⟩⟩
theorem row_put {R : List (List Value)} {Z us : List Value} {i : Nat} (hR : ∀ r ∈ R, r.length = 104) (hl : R.length = i) (hu : us.length = 104) (hZ : 104 ≤ Z.length) : setR (R.flatten ++ Z) (i * 104) us = (R ++ [us]).flatten ++ Z.drop 104 := by
 have hfl := fl_len hR
 rw [hl] at hfl
 have e := setR_right R.flatten Z us 0 (by omega)
 rw [Nat.add_zero, hfl] at e
 rw [e, setR_frontF _ _ (by omega), hu, List.flatten_append]
 simp
theorem NewRows.len {n : Nat} {H : AH} {R : List (List Value)} {l : List NodeD} (h : NewRows n H R l) : ∀ r ∈ R, r.length = 104 := fun r hr => by
 obtain ⟨k, hk⟩ := List.getElem?_of_mem hr
 have hkl := (List.getElem?_eq_some_iff.1 hk).1
 have := h.1
 exact (h.2 k r _ hk (List.getElem?_eq_getElem (show k < l.length by omega))).1
theorem NewRows.push {n : Nat} {H : AH} {R : List (List Value)} {l : List NodeD} {us : List Value} {x : NodeD} (h : NewRows n H R l) (h1 : us.length = 104) (h2 : ∀ G, KeepN n H G → ValL G x.row us) : NewRows n H (R ++ [us]) (l ++ [x]) := by
 have hl := h.1
 refine ⟨by simp [hl], fun k r y hr hy => ?_⟩
 rcases Nat.lt_or_ge k R.length with hk | hk
 ·rw [List.getElem?_append_left hk] at hr
  rw [List.getElem?_append_left (by omega)] at hy
  exact h.2 k r y hr hy
 ·rw [List.getElem?_append_right hk] at hr
  rw [List.getElem?_append_right (by omega)] at hy
  rw [hl] at hr
  match k - l.length, hr, hy with
  | 0, hr, hy => cases hr; cases hy; exact ⟨h1, h2⟩
theorem node_row_len {x : NodeD} (hw : x.Wf) : x.row.length = 104 := by
 have h1 := hw.id.1
 have h2 := hw.op.of.1
 have h3 := hw.op.check.1
 simp [NodeD.row, OpD.row, kd, h1, h2, h3]
theorem rows_val {D : AH} {b : Nat} {T : TypeId} {es : Option Nat} {R : List (List Value)} {L : List NodeD} (hb : hget D b = some ⟨R.flatten, T, es⟩) (hl : R.length = L.length) (hw : ∀ x ∈ L, x.Wf) (h : ∀ (k : Nat) (us : List Value) (x : NodeD), R[k]? = some us → L[k]? = some x → us.length = 104 ∧ ValL D x.row us) : NdV D (.slice (some ⟨b, 0, none⟩) L.length L.length) L := by
 have hR : ∀ r ∈ R, r.length = 104 := fun r hr => by
  obtain ⟨k, hk⟩ := List.getElem?_of_mem hr
  have hkl := (List.getElem?_eq_some_iff.1 hk).1
  exact (h k r _ hk (List.getElem?_eq_getElem (show k < L.length by omega))).1
 have := CD.Val.sl (H := D) (sz := 104) (rows := L.map NodeD.row) hb (by rw [List.length_map]; show _ ≤ R.flatten.length; rw [fl_len hR, hl]; exact Nat.le_refl _) (fun row hr => by
  obtain ⟨x, hx, rfl⟩ := List.mem_map.1 hr
  exact node_row_len (hw x hx)) (fun i row c d v hi hc hv => by
  rw [List.getElem?_map] at hi
  cases hx : L[i]? with
  | none => rw [hx] at hi; cases hi
  | some x =>
   rw [hx] at hi
   cases hi
   have hil := (List.getElem?_eq_some_iff.1 hx).1
   obtain ⟨us, hus⟩ : ∃ us, R[i]? = some us := ⟨_, List.getElem?_eq_getElem (by omega)⟩
   obtain ⟨h1, h2⟩ := h i us x hus hx
   have hcl := (List.getElem?_eq_some_iff.1 hc).1
   have h2l := h2.1
   obtain ⟨u, hu⟩ : ∃ u, us[c]? = some u := ⟨_, List.getElem?_eq_getElem (by omega)⟩
   have hat := fl_at hR hus hu
   have hv' : R.flatten[i * 104 + c]? = some v := hv
   rw [hat] at hv'
   cases hv'
   exact h2.2 c d _ hc hu)
 rw [List.length_map] at this
 exact this
theorem each_ac {nro : Nat} {γ : Nat → Option Nat} {H : AH} {nv : Value} {l : List NodeD} (hN : NdA H nv l) (hl : l.length ≤ 1000) (hs : ∀ x ∈ l, SmN x) (hnro : nro ≤ H.length) (hcal : callable Try.prog 132 = true) :
  ∃ N : Nat, AC Try.prog nro γ 131 #[nv, .func (.func 132) #[] #[]] H (fun v' H' => v' = .slice (some ⟨H.length, 0, none⟩) l.length l.length ∧ H'.length = N ∧ Low H.length H H' ∧ ∃ R, NewRows (H.length + 1) H' R l ∧ hget H' H.length = some ⟨R.flatten, 50, some 104⟩) := by
 have hN' := hN
 obtain ⟨hnt, hvc, hxl, hwf, hat⟩ := hN
 obtain ⟨c, hc⟩ := Classical.skolem.1 (fun i : Nat => show ∃ N : Nat, ∀ x, l[i]? = some x → ∃ j q b us pv wv bv qv, xindexAddr Try.prog 22 nv (.int .i64 (i : Nat)) = some (.pointer (some ⟨j, q, none⟩)) ∧ hget H j = some b ∧ q + 104 ≤ b.cells.length ∧ us = (b.cells.drop q).take 104 ∧ NodeC H us x pv wv bv qv ∧ nodeN pv wv bv qv = N from by
  cases hi : l[i]? with
  | none => exact ⟨0, fun x hx => by cases hx⟩
  | some x =>
   obtain ⟨j, q, b, us, pv, wv, bv, qv, h1, h2, h3, h4, h5, h6⟩ := hat i x hi
   exact ⟨nodeN pv wv bv qv, fun y hy => by cases hy; exact ⟨j, q, b, us, pv, wv, bv, qv, h1, h2, h3, h5, h6, rfl⟩⟩)
 have hm63 : l.length ≤ 9223372036854775807 := by omega
 have hfn : notTuple (.func (.func 132) #[] #[]) = true := rfl
 have hfc : (Value.func (.func 132) #[] #[]).cells = #[.func (.func 132) #[] #[]] := rfl
 refine ⟨H.length + 1 + ((List.range l.length).map fun i => c i + 1).sum, ?_⟩
 refine ac_of_aw Try.func131 rfl Try.ntmps131 Try.results131 (by simp) ?_
 refine aw_seq ?_
 (refine aw_ops (by kernel_rfl) (fun K hK => ?_); simp (disch := first | omega | (simp only [lnS]; try omega)) [-getElem?_pos, -getElem?_neg]; refine hK _ _ ?_; clear hK K)
 refine aw_seq ?_
 refine aw_ops (by kernel_rfl) (fun K hK => ?_)
 have hlm : l.length ≤ maxLen := by simp only [maxLen]; omega
 have hp0 : plain1 (.slice none 0 0) = true := rfl
 simp (disch := first | omega | (simp only [lnS]; try omega)) [-getElem?_pos, -getElem?_neg, -notTuple, hnt, hvc, hfn, hfc, nt_intG, -xlen, hxl, all_zl, hlm, hp0]
 refine hK _ _ ?_; clear hK K
 generalize hZZ : List.map (fun j => (iv .u8 (zl 32) ++ Value.int .i64 0 :: .int .u32 0 :: .slice none 0 0 :: .int .i64 0 :: .slice none 0 0 :: (iv .u8 (zl 64) ++ [.string ByteArray.empty, .slice none 0 0, .slice none 0 0]))[j % 104]?.getD undef) (List.range (l.length * 104)) = ZZ
 have hZl : ZZ.length = l.length * 104 := by rw [← hZZ]; simp
 clear hZZ
 obtain ⟨n, hn⟩ : ∃ n, n = H.length := ⟨_, rfl⟩
 obtain ⟨G0, hG0⟩ : ∃ G : AH, G = H ++ [some ⟨ZZ, 50, some 104⟩] := ⟨_, rfl⟩
 have b0 : hget G0 n = some ⟨ZZ, 50, some 104⟩ := by rw [hG0, hn, hget_app0]; rfl
 have lw0 : Low n H G0 := by rw [hG0, hn]; exact Low.push (Nat.le_refl _) _
 have gl0 : G0.length = n + 1 := by rw [hG0, hn]; simp
 rw [← hG0, ← hn]
 rw [← hn] at hnro
 clear hG0
 refine aw_seq ?_
 refine aw_seq ?_
 (refine aw_ops (by kernel_rfl) (fun K hK => ?_); simp (disch := first | omega | (simp only [lnS]; try omega)) [-getElem?_pos, -getElem?_neg, -notTuple, hnt, hvc, nt_intG, -xlen, hxl]; refine hK _ _ ?_; clear hK K)
 refine aw_block ?_
 refine aw_loop (fun q α G => ∃ (i : Nat) (R : List (List Value)), i + q = l.length ∧ α 0 = nv ∧ α 1 = .func (.func 132) #[] #[] ∧ α 5 = .slice (some ⟨n, 0, none⟩) l.length l.length ∧ α 11 = nv ∧ α 12 = .int .i64 (l.length : Nat) ∧ α 13 = .int .i64 (i : Nat) ∧ Low n H G ∧ G.length = n + 1 + ((List.range i).map fun i => c i + 1).sum ∧ hget G n = some ⟨R.flatten ++ ZZ.drop (i * 104), 50, some 104⟩ ∧ NewRows (n + 1) G R (l.take i)) l.length ?_ ?_
 ·exact ⟨0, [], by omega, by (first | (simp [put_at, put_none, fr0_at]; done) | rfl), by (first | (simp [put_at, put_none, fr0_at]; done) | rfl), by (first | (simp [put_at, put_none, fr0_at]; done) | rfl), by (first | (simp [put_at, put_none, fr0_at]; done) | rfl), by (first | (simp [put_at, put_none, fr0_at]; done) | rfl), by (first | (simp [put_at, put_none, fr0_at]; done) | rfl), lw0, by simp [gl0], by simpa using b0, ⟨by simp, fun k us x h => by simp at h⟩⟩
 rintro q α G ⟨i, R, hiq, h0, h1, h5, h11, h12, h13, hlow, hgl, hout, hrows⟩
 refine aw_seq ?_
 by_cases hi : i < l.length
 case neg =>
  (refine aw_ops (by kernel_rfl) (fun K hK => ?_); simp (disch := first | omega | (simp only [lnS]; try omega)) [-getElem?_pos, -getElem?_neg, h12, h13, hi]; refine hK _ _ ?_; clear hK K)
  refine aw_seq ?_
  refine aw_f (by (first | (simp [eval_tmp, put_at, hi]; done) | (simp [eval_tmp, put_at, hi]; omega))) (by kernel_rfl) ?_
  refine aw_exit ?_
  obtain rfl : i = l.length := by omega
  rw [List.drop_of_length_le (by omega), List.append_nil] at hout
  rw [List.take_length] at hrows
  refine aw_seq ?_
  (refine aw_ops (by kernel_rfl) (fun K hK => ?_); simp (disch := first | omega | (simp only [lnS]; try omega)) [-getElem?_pos, -getElem?_neg, h5]; refine hK _ _ ?_; clear hK K)
  (refine aw_ret ?_; simp (disch := first | omega | (simp only [lnS]; try omega)) [-getElem?_pos, -getElem?_neg, thenQ_ret, scopeQ_ret, inBlockQ_ret, RQ, resL, resV])
  exact ⟨hlow, R, hrows, hout⟩
 obtain ⟨j, qq, bb, us, pv, wv', bv, qv, hx, hbb, hq, hus, hC, hcn⟩ := hc i _ (nd_get hi)
 have hbG : hget G j = some bb := (hlow.1 j (by have := hget_lt hbb; omega)).trans hbb
 have hul := hC.len
 have hxw := hwf _ (List.mem_of_getElem? (nd_get hi))
 have hxs := hs _ (List.mem_of_getElem? (nd_get hi))
 have hus' := hus.symm
 clear hus
 have hset2 : ∀ Z : List Value, Z.length = 104 → setR Z 0 us = us := fun Z hZ => setR_all _ _ (by omega)
 have hle0 := hlow.2
 have hRl := hrows.1
 rw [List.length_take] at hRl
 have hRl : R.length = i := by omega
 (refine aw_ops (by kernel_rfl) (fun K hK => ?_); simp (disch := first | omega | (simp only [lnS]; try omega)) [-getElem?_pos, -getElem?_neg, h12, h13, hi]; refine hK _ _ ?_; clear hK K)
 refine aw_seq ?_
 refine aw_t (by (first | (simp [eval_tmp, put_at, hi]; done) | (simp [eval_tmp, put_at, hi]; omega))) (by kernel_rfl) ?_
 refine aw_skip ?_
 refine aw_seq ?_
 refine aw_block ?_
 refine aw_seq ?_
 (refine aw_ops (by kernel_rfl) (fun K hK => ?_); simp (disch := first | omega | (simp only [lnS]; try omega)) [-getElem?_pos, -getElem?_neg, h11, h13, -notTuple, hnt, hvc, nt_intG, nt_aggG, -xindexAddr, hx, hbG, hus', hul, hq, hle0, hp0, all_zl, hset2]; refine hK _ _ ?_; clear hK K)
 obtain ⟨hlow2, hb2⟩ := boxed (H := G) us 50
 have hout2 := hget_left' (L := [some ⟨us, 50, none⟩]) hout
 have hgl2 : (G ++ ([some ⟨us, 50, none⟩] : AH)).length = G.length + 1 := by simp
 obtain ⟨g, hg⟩ : ∃ g, g = G.length := ⟨_, rfl⟩
 rw [← hg] at hb2 hgl2 hlow2 hle0 hgl ⊢
 have hrows := hrows.keep (G := G ++ ([some ⟨us, 50, none⟩] : AH)) (fun j _ hj => hlow2.1 j (by omega)) (by omega)
 generalize G ++ [some ⟨us, 50, none⟩] = G2 at *
 have hlowG2 : Low n H G2 := ⟨fun j hj => (hlow2.1 j (by omega)).trans (hlow.1 j hj), by omega⟩
 have hC2 : NodeC G2 us (nd l i) pv wv' bv qv := hC.low (fun j hj => hlowG2.1 j (by omega))
 have hcn1 := nodes1_ac (nro := nro) (γ := γ) hC2 hxw hxs (by omega)
 have htk : us.take 104 = us := List.take_of_length_le (by omega)
 have hsuc : (List.map (fun i => c i + 1) (List.range (i + 1))).sum = (List.map (fun i => c i + 1) (List.range i)).sum + (c i + 1) := by
  rw [List.range_succ, List.map_append, List.sum_append]
  simp
 have hng : n < g := by omega
 refine aw_ops (by kernel_rfl) (fun K hK => ?_)
 simp (disch := first | omega | (simp only [lnS]; try omega)) [-getElem?_pos, -getElem?_neg, h5, h1, -notTuple, hnt, hvc, hfn, hfc, nt_intG, nt_aggG, nt_slG, hb2, hul, htk]
 refine ⟨hcal, hcn1.mono ?_⟩
 rintro v1 G3 ⟨rfl, l1, w1, r1⟩
 rw [hgl2] at l1 w1 r1 ⊢
 have hle3 := w1.2
 have hout3 := (w1.1 n (by omega)).trans hout2
 have hrl := nodeRow_len hxw (opP pv (g + 1 + 2)) (opW pv wv' (g + 1 + 2)) (opB pv wv' bv (g + 1 + 2)) (clV qv (g + 1 + 2 + opN pv wv' bv))
 have hput := row_put (Z := ZZ.drop (i * 104)) (us := nodeCp (nd l i) pv wv' bv qv (g + 1)) hrows.len hRl hrl (by rw [List.length_drop]; omega)
 rw [List.drop_drop, show i * 104 + 104 = (i + 1) * 104 by omega] at hput
 have hrows3 := (hrows.keep (G := G3) (fun j _ hj => w1.1 j (by omega)) (by omega)).push (us := nodeCp (nd l i) pv wv' bv qv (g + 1)) hrl (fun B hB => r1 B (fun j h1 h2 => hB j (by omega) h2))
 have hrl : (nodeCp (nd l i) pv wv' bv qv (g + 1)).length = 104 := hrl
 have hcl : (R.flatten ++ ZZ.drop (i * 104)).length = l.length * 104 := by
  rw [List.length_append, fl_len hrows.len, List.length_drop, hRl]; omega
 generalize nodeCp (nd l i) pv wv' bv qv (g + 1) = us' at *
 generalize hCe : R.flatten ++ ZZ.drop (i * 104) = C at *
 generalize hCe2 : (R ++ [us']).flatten ++ ZZ.drop ((i + 1) * 104) = C' at *
 simp (disch := first | omega | (simp only [lnS]; try omega)) [-getElem?_pos, -getElem?_neg, hout3, hcl, hrl, hput, nt_aggG, hi]
 refine hK _ _ ?_; clear hK K
 have z1 : hget (G3.set n (some ⟨C', 50, some 104⟩)) n = some ⟨C', 50, some 104⟩ := hget_set_eq (hget_lt hout3)
 have z2 : ∀ j, j ≠ n → hget (G3.set n (some ⟨C', 50, some 104⟩)) j = hget G3 j := fun j hj => hget_set_ne (fun e => hj e.symm)
 have z3 : (G3.set n (some ⟨C', 50, some 104⟩)).length = G3.length := by rw [List.length_set]
 have hrows4 := hrows3.keep (G := G3.set n (some ⟨C', 50, some 104⟩)) (fun j h1 h2 => z2 j (by omega)) (by omega)
 generalize G3.set n (some ⟨C', 50, some 104⟩) = G4 at *
 have htk2 : l.take i ++ [nd l i] = l.take (i + 1) := by rw [List.take_add_one, nd_get hi]; rfl
 rw [htk2] at hrows4
 subst hCe2
 (refine aw_ops (by kernel_rfl) (fun K hK => ?_); simp (disch := first | omega | (simp only [lnS]; try omega)) [-getElem?_pos, -getElem?_neg, h13]; refine hK _ _ ?_; clear hK K)
 exact ⟨q - 1, by omega, i + 1, R ++ [us'], by omega, by (first | (simp [put_at, put_none, fr0_at, h0]; done) | rfl), by (first | (simp [put_at, put_none, fr0_at, h1]; done) | rfl), by (first | (simp [put_at, put_none, fr0_at, h5]; done) | rfl), by (first | (simp [put_at, put_none, fr0_at, h11]; done) | rfl), by (first | (simp [put_at, put_none, fr0_at, h12]; done) | rfl), by (first | (simp [put_at, put_none, fr0_at]; done) | rfl), ⟨fun j hj => (z2 j (by omega)).trans ((w1.1 j (by omega)).trans (hlowG2.1 j hj)), by omega⟩, by rw [hsuc]; omega, z1, hrows4⟩
theorem deepNodes_ac {nro : Nat} {γ : Nat → Option Nat} {H : AH} {nv : Value} {l : List NodeD} (hN : NdA H nv l) (hl : l.length ≤ 1000) (hs : ∀ x ∈ l, SmN x) (hnro : nro ≤ H.length) :
  ∃ N : Nat, AC Try.prog nro γ 81 #[nv] H (fun v' H' => v' = .slice (some ⟨H.length, 0, none⟩) l.length l.length ∧ H'.length = N ∧ Low H.length H H' ∧ ∃ R, NewRows (H.length + 1) H' R l ∧ hget H' H.length = some ⟨R.flatten, 50, some 104⟩) := by
 obtain ⟨N, hE⟩ := each_ac (nro := nro) (γ := γ) hN hl hs hnro nodes1_callable
 obtain ⟨hnt, hvc, hxl, hwf, hat⟩ := hN
 have hfn : notTuple (.func (.func 132) #[] #[]) = true := rfl
 have hfc : (Value.func (.func 132) #[] #[]).cells = #[.func (.func 132) #[] #[]] := rfl
 refine ⟨N, ?_⟩
 refine ac_of_aw Try.func81 rfl Try.ntmps81 Try.results81 (by simp) ?_
 refine aw_seq ?_
 (refine aw_ops (by kernel_rfl) (fun K hK => ?_); simp (disch := first | omega | (simp only [lnS]; try omega)) [-getElem?_pos, -getElem?_neg]; refine hK _ _ ?_; clear hK K)
 refine aw_seq ?_
 refine aw_ops (by kernel_rfl) (fun K hK => ?_)
 simp (disch := first | omega | (simp only [lnS]; try omega)) [-getElem?_pos, -getElem?_neg, -notTuple, hnt, hvc, hfn, hfc, eval_fnG]
 refine ⟨by kernel_rfl, hE.mono ?_⟩
 rintro v1 G1 ⟨rfl, h1, h2, h3⟩
 try simp (disch := first | omega | (simp only [lnS]; try omega)) [-getElem?_pos, -getElem?_neg]
 refine hK _ _ ?_; clear hK K
 (refine aw_ret ?_; simp (disch := first | omega | (simp only [lnS]; try omega)) [-getElem?_pos, -getElem?_neg, thenQ_ret, scopeQ_ret, inBlockQ_ret, RQ, resL, resV])
 exact ⟨h2, h3⟩
end
section
section
variable {l : List NodeD}
theorem right_step (h : rightG l = true) {i : Nat} (hi : i < l.length) : stepB l i = true := by
 unfold rightG at h
 rw [Bool.and_eq_true, List.all_eq_true] at h
 exact h.2 i (List.mem_range.2 hi)
theorem step_iff {i : Nat} : stepB l i = true ↔ ((nd l i).op.parents.all (fun p => (findN l i p).isSome) = true ∧ rightO (nd l i).op = true ∧ findN l i (nd l i).id = none ∧ (nd l i).past = pastL l i (nd l i).op.parents ∧ turnB l i (nd l i).op (nd l i).past = true) := by
 unfold stepB
 rw [Bool.and_eq_true, Bool.and_eq_true, Bool.and_eq_true, Bool.and_eq_true, decide_eq_true_eq, Option.isNone_iff_eq_none]
theorem right_past (h : rightG l = true) {i : Nat} (hi : i < l.length) : (nd l i).past = pastL l i (nd l i).op.parents := (step_iff.1 (right_step h hi)).2.2.2.1
theorem right_op (h : rightG l = true) {i : Nat} (hi : i < l.length) : rightO (nd l i).op = true := (step_iff.1 (right_step h hi)).2.1
theorem right_fresh (h : rightG l = true) {i : Nat} (hi : i < l.length) : findN l i (nd l i).id = none := (step_iff.1 (right_step h hi)).2.2.1
theorem right_turn (h : rightG l = true) {i : Nat} (hi : i < l.length) : turnB l i (nd l i).op (nd l i).past = true := (step_iff.1 (right_step h hi)).2.2.2.2
theorem right_par (h : rightG l = true) {i : Nat} (hi : i < l.length) {p : List Int} (hp : p ∈ (nd l i).op.parents) : ∃ a, findN l i p = some a := by
 have := (step_iff.1 (right_step h hi)).1
 rw [List.all_eq_true] at this
 exact Option.isSome_iff_exists.1 (this p hp)
theorem pastL_bd {n : Nat} {ps : List (List Int)} {z : Int} (h : z ∈ pastL l n ps) : ∃ k : Nat, z = k ∧ k < n ∧ inB l n ps k = true := by
 unfold pastL at h
 obtain ⟨k, hk, rfl⟩ := List.mem_map.1 h
 rw [List.mem_filter, List.mem_range] at hk
 exact ⟨k, rfl, hk.1, hk.2⟩
theorem past_bd (h : rightG l = true) {i : Nat} (hi : i < l.length) {z : Int} (hz : z ∈ (nd l i).past) : ∃ k : Nat, z = k ∧ k < i := by
 rw [right_past h hi] at hz
 obtain ⟨k, e, hk, _⟩ := pastL_bd hz
 exact ⟨k, e, hk⟩
theorem pastL_length (l : List NodeD) (n : Nat) (ps : List (List Int)) : (pastL l n ps).length ≤ n := by
 unfold pastL
 rw [List.length_map]
 exact Nat.le_trans (List.length_filter_le _ _) (by simp)
theorem past_len (h : rightG l = true) {i : Nat} (hi : i < l.length) : (nd l i).past.length ≤ i := by
 rw [right_past h hi]; exact pastL_length _ _ _
theorem rightO_sm {o : OpD} (h : rightO o = true) : o.parents.length ≤ 8 ∧ o.who.length ≤ 8 ∧ o.boxes.length ≤ 8 := by
 rw [← refO_eq] at h
 unfold refO at h
 simp only [Bool.and_eq_true, decide_eq_true_eq, List.all_eq_true] at h
 refine ⟨h.2.2.2.2.1, ?_, h.2.2.2.2.2.1⟩
 obtain ⟨hm, hr⟩ := h.2.2.2.2.2.2.2.2.1
 refine rise_len hm (fun i hi => ?_)
 unfold risesI at hr
 rw [List.all_eq_true] at hr
 have := hr i (List.mem_range.2 (by omega))
 rwa [decide_eq_true_eq, cmpI_lt] at this
theorem rightO_author {o : OpD} (h : rightO o = true) : 0 ≤ o.author ∧ o.author < 8 := by
 unfold rightO at h
 simp only [Bool.and_eq_true] at h
 have := h.2.2.1
 unfold memI at this
 simpa using this
theorem right_sm (h : rightG l = true) : ∀ x ∈ l, SmN x := fun x hx => by
 obtain ⟨i, hi⟩ := List.getElem?_of_mem hx
 have hil := (List.getElem?_eq_some_iff.1 hi).1
 have e := nd_eq hi
 have h1 := rightO_sm (right_op h hil)
 have h2 := past_len h hil
 have h3 := rightG_len h
 rw [e] at h1 h2
 exact ⟨⟨by omega, by omega, by omega⟩, by omega⟩
theorem findN_none {n a : Nat} {k : List Int} (h : findN l n k = none) (ha : a < n) : (nd l a).id ≠ k := by
 unfold findN at h
 rw [List.find?_eq_none] at h
 have := h a (List.mem_range.2 ha)
 simpa using this
theorem ids_ne (h : rightG l = true) {i j : Nat} (hij : i < j) (hj : j < l.length) : (nd l i).id ≠ (nd l j).id := findN_none (right_fresh h hj) hij
theorem findN_mono {n m a : Nat} {k : List Int} (h : findN l n k = some a) (hnm : n ≤ m) : findN l m k = some a := by
 induction m with
 | zero =>
  have : n = 0 := by omega
  subst this; exact h
 | succ m ih =>
  rcases Nat.eq_or_lt_of_le hnm with rfl | hlt
  ·exact h
  ·rw [findN_succ, ih (by omega)]
theorem find_self (h : rightG l = true) {i n : Nat} (hi : i < n) (hn : n ≤ l.length) : findN l n (nd l i).id = some i := by
 refine findN_mono (n := i + 1) ?_ (by omega)
 rw [findN_succ, right_fresh h (by omega)]
 simp
theorem author_ahead (h : rightG l = true) {i j : Nat} (hij : i < j) (hj : j < l.length) (he : (nd l i).op.author = (nd l j).op.author) : (i : Int) ∈ (nd l j).past := by
 have := right_turn h hj
 unfold turnB autA at this
 simp only [Bool.and_eq_true, List.all_eq_true] at this
 have := this.2.1 i (List.mem_range.2 hij)
 simpa [he] using this
theorem inB_iff {n k : Nat} {ps : List (List Int)} : inB l n ps k = true ↔ ∃ p ∈ ps, ∃ a, findN l n p = some a ∧ (a = k ∨ (k : Int) ∈ (nd l a).past) := by
 rw [inZ_B]
 unfold inZ
 refine exists_congr fun p => and_congr_right fun _ => exists_congr fun a => and_congr_right fun _ => or_congr ?_ Iff.rfl
 omega
end
end
section
theorem take_nd {l : List NodeD} {i : Nat} : ∀ a, a < i → nd (l.take i) a = nd l a := fun a ha => nd_take ha
theorem take_len {l : List NodeD} {i : Nat} (hi : i < l.length) : (l.take i).length = i := by rw [List.length_take]; omega
theorem step_false {l : List NodeD} {i : Nat} (h : ¬ ((nd l i).op.parents.all (fun p => (findN l i p).isSome) = true ∧ rightO (nd l i).op = true ∧ findN l i (nd l i).id = none ∧ (nd l i).past = pastL l i (nd l i).op.parents ∧ turnB l i (nd l i).op (nd l i).past = true)) : stepB l i = false := by
 cases hs : stepB l i with
 | false => rfl
 | true => exact absurd (step_iff.1 hs) h
attribute [local simp] wb_bool wb_undef with_lit XL_nil XL_cons XLc_val XLc_call step1_eq stepW_t stepW_f stepC_n stepC_s stepX_s stepX_n stepN_s calleeX oneV xop_eq xopR_s xopR_n wantedA_eq wantedG_n wantedG_s plain1_int plain1_bool plain1_string bits_i64 bits_u64 bits_u32 bits_u16 bits_u8 xeqA xagg xcmp xarr allK_iv num_iv calleeOf xread xeff xbin xint xnil xun xstr xload xconv xpart xfield xfieldAddr xindexAddr xindex bnd asInt? xslice xlen xmin xmax xbuild xfill xappend xapp2 xappstr xappmk xcap xcopy xcells eval_tmp eval_const put_at put_none fr0_at cells_agg cells_int cells_bool cells_string cells_ptr cells_slice notTuple tab iv_all hget_app hget_app0 hget_cons0 hget_cons set_app set_app0 setR setR_one QL_nil QL_cons QLc_val stepQ_t stepQ_f stepQC_n stepQC_s stepQX_s SL_nil SL_cons SLc_val stepS_t stepS_f ltT ltF leT leF eqT eqF ltTn ltFn leTn leFn eqTn eqFn beqT beqF bneT bneF wi64 wu64 wu32 wu16 wu8 tmodP tdivP hgetL hgetNe hgetEq setL nums_def nums_len Nat.succ_le_of_lt List.getElem?_cons_zero List.getElem?_cons_succ Option.getD_some Int.toNat_add Int.toNat_mul agM okM agB agI agS agP agL agA okB okI okS okP okSl okA
theorem rRightG_rc {γ : Nat → Option Nat} {H : AH} {nv : Value} {l : List NodeD} (hV : NdV H nv l) (hw : ∀ x ∈ l, x.Wf) (hm : l.length ≤ maxLen) : AC Try.prog H.length γ 20 #[nv] H (fun v' _ => v' = .bool (rightG l)) := by
 have hN := hV.nda hw
 have hnt := hN.nt
 have hvc := hN.cs
 have hxl := hN.len
 have hm63 : l.length ≤ 9223372036854775807 := by simp only [maxLen] at hm; omega
 obtain ⟨n, hn⟩ : ∃ n, n = H.length := ⟨_, rfl⟩
 rw [← hn]
 refine ac_of_aw Try.func20 rfl Try.ntmps20 Try.results20 (by simp) ?_
 refine aw_seq ?_
 (refine aw_ops (by kernel_rfl) (fun K hK => ?_); simp (disch := first | omega | (simp only [lnS]; try omega)) [-getElem?_pos, -getElem?_neg]; refine hK _ _ ?_; clear hK K)
 refine aw_seq ?_
 refine aw_seq ?_
 by_cases hl : 96 < l.length
 ·(refine aw_ops (by kernel_rfl) (fun K hK => ?_); simp (disch := first | omega | (simp only [lnS]; try omega)) [-getElem?_pos, -getElem?_neg, -notTuple, hnt, hvc, nt_intG, -xlen, hxl, hl]; refine hK _ _ ?_; clear hK K)
  refine aw_t (by (first | (simp [eval_tmp, put_at, hl]; done) | (simp [eval_tmp, put_at, hl]; omega))) (by kernel_rfl) ?_
  refine aw_seq ?_
  (refine aw_ops (by kernel_rfl) (fun K hK => ?_); simp (disch := first | omega | (simp only [lnS]; try omega)) [-getElem?_pos, -getElem?_neg]; refine hK _ _ ?_; clear hK K)
  (refine aw_ret ?_; simp (disch := first | omega | (simp only [lnS]; try omega)) [-getElem?_pos, -getElem?_neg, thenQ_ret, scopeQ_ret, inBlockQ_ret, RQ, resL, resV])
  have : ¬ l.length ≤ 96 := by omega
  simp [rightG, this]
 (refine aw_ops (by kernel_rfl) (fun K hK => ?_); simp (disch := first | omega | (simp only [lnS]; try omega)) [-getElem?_pos, -getElem?_neg, -notTuple, hnt, hvc, nt_intG, -xlen, hxl, hl]; refine hK _ _ ?_; clear hK K)
 refine aw_f (by (first | (simp [eval_tmp, put_at, hl]; done) | (simp [eval_tmp, put_at, hl]; omega))) (by kernel_rfl) ?_
 refine aw_skip ?_
 refine aw_seq ?_
 refine aw_seq ?_
 (refine aw_ops (by kernel_rfl) (fun K hK => ?_); simp (disch := first | omega | (simp only [lnS]; try omega)) [-getElem?_pos, -getElem?_neg]; refine hK _ _ ?_; clear hK K)
 refine aw_block ?_
 refine aw_loop (fun c α G => ∃ i : Nat, i + c = l.length ∧ α 0 = nv ∧ α 3 = .int .i64 (i : Nat) ∧ Low n H G ∧ ∀ k, k < i → stepB l k = true) l.length ?_ ?_
 ·exact ⟨0, by omega, by (first | (simp [put_at, put_none, fr0_at]; done) | rfl), by (first | (simp [put_at, put_none, fr0_at]; done) | rfl), by rw [hn]; exact Low.refl (Nat.le_refl _), fun k hk => by omega⟩
 rintro c α G ⟨i, hic, q0, q3, hlow, hpre⟩
 refine aw_seq ?_
 refine aw_seq ?_
 by_cases hi : i < l.length
 case neg =>
  (refine aw_ops (by kernel_rfl) (fun K hK => ?_); simp (disch := first | omega | (simp only [lnS]; try omega)) [-getElem?_pos, -getElem?_neg, q0, q3, -notTuple, hnt, hvc, nt_intG, -xlen, hxl, hi]; refine hK _ _ ?_; clear hK K)
  refine aw_f (by (first | (simp [eval_tmp, put_at, hi]; done) | (simp [eval_tmp, put_at, hi]; omega))) (by kernel_rfl) ?_
  refine aw_exit ?_
  refine aw_seq ?_
  (refine aw_ops (by kernel_rfl) (fun K hK => ?_); simp (disch := first | omega | (simp only [lnS]; try omega)) [-getElem?_pos, -getElem?_neg]; refine hK _ _ ?_; clear hK K)
  (refine aw_ret ?_; simp (disch := first | omega | (simp only [lnS]; try omega)) [-getElem?_pos, -getElem?_neg, thenQ_ret, scopeQ_ret, inBlockQ_ret, RQ, resL, resV])
  unfold rightG
  rw [range_true (fun k hk => hpre k (by omega)), Bool.and_true]
  simp; omega
 obtain ⟨tv, hT, hsl⟩ := hV.take hw hi
 have htl := take_len hi
 have hTG := hT.lowG (hn ▸ hlow)
 have t1 := hTG.nt
 have t2 := hTG.cs
 obtain ⟨j, q, bb, us, pv, wv', bv, qv, hx, hbb, hq, hcell, hus, hC⟩ := (hN.lowG (hn ▸ hlow)).at_ i _ (nd_get hi)
 have hxw := hw _ (List.mem_of_getElem? (nd_get hi))
 have hP := hC.op.parents
 have p12 := val_nt hP
 have cp : bb.cells[q + 34]? = some pv := by
  have := hC.op.c2
  rw [List.getElem?_take_of_lt (by omega), List.getElem?_drop] at this
  exact (hcell 34 (by omega)).trans this
 have cq : bb.cells[q + 103]? = some qv := (hcell 103 (by omega)).trans hC.c103
 have co : (bb.cells.drop (q + 32)).take 71 = (us.drop 32).take 71 := by rw [op_cut, ← hus]
 have ci : (bb.cells.drop q).take 32 = iv .u8 (nd l i).id := by
  have := hC.id
  rw [hus, List.take_take] at this
  simpa using this
 have hpk : ∀ k ∈ (nd l i).op.parents, k.length = 32 := fun k hk => (hxw.op.parents k hk).1
 have hrp := (rPast_rc (γ := γ) hTG (by omega) hP hpk hxw.op.plen).thaw (nro := n) (fun v G' h => ⟨h.1.2, h.1.1⟩)
 unfold RPastQ at hrp
 rw [htl, pastL_congr take_nd] at hrp
 have hfc : (fun p => (findN (l.take i) i p).isSome) = fun p => (findN l i p).isSome := by
  funext p
  rw [find_congr take_nd]
 rw [hfc] at hrp
 have hbad : stepB l i = false → rightG l = false := rightG_bad hi
 (refine aw_ops (by kernel_rfl) (fun K hK => ?_); simp (disch := first | omega | (simp only [lnS]; try omega)) [-getElem?_pos, -getElem?_neg, q0, q3, -notTuple, hnt, hvc, nt_intG, -xlen, hxl, hi]; refine hK _ _ ?_; clear hK K)
 refine aw_t (by (first | (simp [eval_tmp, put_at, hi]; done) | (simp [eval_tmp, put_at, hi]; omega))) (by kernel_rfl) ?_
 refine aw_skip ?_
 refine aw_seq ?_
 refine aw_block ?_
 refine aw_seq ?_
 refine aw_cut (fun α2 G2 => α2 0 = nv ∧ α2 3 = .int .i64 (i : Nat) ∧ Low n H G2 ∧ Low G.length G G2 ∧ ∃ sv ok, α2 4 = sv ∧ α2 5 = .bool ok ∧ notTuple sv = true ∧ sv.cells = #[sv] ∧ ok = (nd l i).op.parents.all (fun p => (findN l i p).isSome) ∧ (ok = true → ∃ F, OwnF G2 sv 3 1 (iv .i64 (pastL l i (nd l i).op.parents)) F)) ?_ ?_
 (refine aw_ptree [0, 1, 3, 4, 5, 6, 7] 8 [[2, 8, 9, 10, 11, 12, 13, 14], [2, 8, 9, 10, 11, 13, 12, 14], [2, 8, 9, 10, 12, 11, 13, 14], [8, 2, 9, 10, 11, 12, 13, 14], [8, 2, 9, 10, 11, 13, 12, 14], [8, 2, 9, 10, 12, 11, 13, 14]] (by kernel_rfl) (by kernel_rfl) (by kernel_rfl) (fun K hK => ?_)); simp only [sel, List.getElem?_cons_succ, List.getElem?_cons_zero]; simp (disch := first | omega | (simp only [lnS]; try omega)) [-getElem?_pos, -getElem?_neg, q0, q3, hsl, -xslice, -xindexAddr, hx, hbb, cp, -notTuple, hnt, hvc, t1, t2, p12.1, p12.2, nt_intG, nt_ptrG, XO_s, XO_z, XLk_val, XLk_call, headsO, behind, List.length_cons, List.length_nil, List.mem_cons, List.not_mem_nil, or_false, forall_eq_or_imp, forall_eq, List.contains_cons, List.contains_nil]
 ·have hG1 : ∀ G1 : AH, Low G.length G G1 → Low n H G1 := fun G1 h => ⟨fun j hj => (h.1 j (by have := hlow.2; omega)).trans (hlow.1 j hj), by have := h.2; have := hlow.2; omega⟩
  refine ⟨⟨by kernel_rfl, AC.mono hrp ?_⟩, by kernel_rfl, AC.mono hrp ?_⟩
  all_goals rintro v G1 ⟨low1, ⟨hall, sv, F, rfl, ho, hF⟩ | ⟨hall, rfl⟩⟩
  ·obtain ⟨s1, s2⟩ := own_nt ho
   simp (disch := first | omega | (simp only [lnS]; try omega)) [-getElem?_pos, -getElem?_neg, -notTuple, s1, s2, nt_boolG, XO_s, XO_z, XLk_val, XLk_call, headsO, behind, List.length_cons, List.length_nil, List.mem_cons, List.not_mem_nil, or_false, forall_eq_or_imp, forall_eq, List.contains_cons, List.contains_nil]
   refine ⟨⟨hK _ _ ?_, hK _ _ ?_⟩, hK _ _ ?_⟩
   ·exact ⟨by (first | (simp [put_at, put_none, fr0_at, q0]; done) | rfl), by (first | (simp [put_at, put_none, fr0_at, q3]; done) | rfl), hG1 _ low1, low1, sv, true, by (first | (simp [put_at, put_none, fr0_at]; done) | rfl), by (first | (simp [put_at, put_none, fr0_at]; done) | rfl), s1, s2, hall.symm, fun _ => ⟨F, ho⟩⟩
   ·exact ⟨by (first | (simp [put_at, put_none, fr0_at, q0]; done) | rfl), by (first | (simp [put_at, put_none, fr0_at, q3]; done) | rfl), hG1 _ low1, low1, sv, true, by (first | (simp [put_at, put_none, fr0_at]; done) | rfl), by (first | (simp [put_at, put_none, fr0_at]; done) | rfl), s1, s2, hall.symm, fun _ => ⟨F, ho⟩⟩
   ·exact ⟨by (first | (simp [put_at, put_none, fr0_at, q0]; done) | rfl), by (first | (simp [put_at, put_none, fr0_at, q3]; done) | rfl), hG1 _ low1, low1, sv, true, by (first | (simp [put_at, put_none, fr0_at]; done) | rfl), by (first | (simp [put_at, put_none, fr0_at]; done) | rfl), s1, s2, hall.symm, fun _ => ⟨F, ho⟩⟩
  ·simp (disch := first | omega | (simp only [lnS]; try omega)) [-getElem?_pos, -getElem?_neg, XO_s, XO_z, XLk_val, XLk_call, headsO, behind, List.length_cons, List.length_nil, List.mem_cons, List.not_mem_nil, or_false, forall_eq_or_imp, forall_eq, List.contains_cons, List.contains_nil]
   refine ⟨⟨hK _ _ ?_, hK _ _ ?_⟩, hK _ _ ?_⟩
   ·exact ⟨by (first | (simp [put_at, put_none, fr0_at, q0]; done) | rfl), by (first | (simp [put_at, put_none, fr0_at, q3]; done) | rfl), hG1 _ low1, low1, .slice none 0 0, false, by (first | (simp [put_at, put_none, fr0_at]; done) | rfl), by (first | (simp [put_at, put_none, fr0_at]; done) | rfl), rfl, rfl, hall.symm, fun h => (by cases h)⟩
   ·exact ⟨by (first | (simp [put_at, put_none, fr0_at, q0]; done) | rfl), by (first | (simp [put_at, put_none, fr0_at, q3]; done) | rfl), hG1 _ low1, low1, .slice none 0 0, false, by (first | (simp [put_at, put_none, fr0_at]; done) | rfl), by (first | (simp [put_at, put_none, fr0_at]; done) | rfl), rfl, rfl, hall.symm, fun h => (by cases h)⟩
   ·exact ⟨by (first | (simp [put_at, put_none, fr0_at, q0]; done) | rfl), by (first | (simp [put_at, put_none, fr0_at, q3]; done) | rfl), hG1 _ low1, low1, .slice none 0 0, false, by (first | (simp [put_at, put_none, fr0_at]; done) | rfl), by (first | (simp [put_at, put_none, fr0_at]; done) | rfl), rfl, rfl, hall.symm, fun h => (by cases h)⟩
  ·obtain ⟨s1, s2⟩ := own_nt ho
   simp (disch := first | omega | (simp only [lnS]; try omega)) [-getElem?_pos, -getElem?_neg, -notTuple, s1, s2, nt_boolG, XO_s, XO_z, XLk_val, XLk_call, headsO, behind, List.length_cons, List.length_nil, List.mem_cons, List.not_mem_nil, or_false, forall_eq_or_imp, forall_eq, List.contains_cons, List.contains_nil]
   refine ⟨⟨hK _ _ ?_, hK _ _ ?_⟩, hK _ _ ?_⟩
   ·exact ⟨by (first | (simp [put_at, put_none, fr0_at, q0]; done) | rfl), by (first | (simp [put_at, put_none, fr0_at, q3]; done) | rfl), hG1 _ low1, low1, sv, true, by (first | (simp [put_at, put_none, fr0_at]; done) | rfl), by (first | (simp [put_at, put_none, fr0_at]; done) | rfl), s1, s2, hall.symm, fun _ => ⟨F, ho⟩⟩
   ·exact ⟨by (first | (simp [put_at, put_none, fr0_at, q0]; done) | rfl), by (first | (simp [put_at, put_none, fr0_at, q3]; done) | rfl), hG1 _ low1, low1, sv, true, by (first | (simp [put_at, put_none, fr0_at]; done) | rfl), by (first | (simp [put_at, put_none, fr0_at]; done) | rfl), s1, s2, hall.symm, fun _ => ⟨F, ho⟩⟩
   ·exact ⟨by (first | (simp [put_at, put_none, fr0_at, q0]; done) | rfl), by (first | (simp [put_at, put_none, fr0_at, q3]; done) | rfl), hG1 _ low1, low1, sv, true, by (first | (simp [put_at, put_none, fr0_at]; done) | rfl), by (first | (simp [put_at, put_none, fr0_at]; done) | rfl), s1, s2, hall.symm, fun _ => ⟨F, ho⟩⟩
  ·simp (disch := first | omega | (simp only [lnS]; try omega)) [-getElem?_pos, -getElem?_neg, XO_s, XO_z, XLk_val, XLk_call, headsO, behind, List.length_cons, List.length_nil, List.mem_cons, List.not_mem_nil, or_false, forall_eq_or_imp, forall_eq, List.contains_cons, List.contains_nil]
   refine ⟨⟨hK _ _ ?_, hK _ _ ?_⟩, hK _ _ ?_⟩
   ·exact ⟨by (first | (simp [put_at, put_none, fr0_at, q0]; done) | rfl), by (first | (simp [put_at, put_none, fr0_at, q3]; done) | rfl), hG1 _ low1, low1, .slice none 0 0, false, by (first | (simp [put_at, put_none, fr0_at]; done) | rfl), by (first | (simp [put_at, put_none, fr0_at]; done) | rfl), rfl, rfl, hall.symm, fun h => (by cases h)⟩
   ·exact ⟨by (first | (simp [put_at, put_none, fr0_at, q0]; done) | rfl), by (first | (simp [put_at, put_none, fr0_at, q3]; done) | rfl), hG1 _ low1, low1, .slice none 0 0, false, by (first | (simp [put_at, put_none, fr0_at]; done) | rfl), by (first | (simp [put_at, put_none, fr0_at]; done) | rfl), rfl, rfl, hall.symm, fun h => (by cases h)⟩
   ·exact ⟨by (first | (simp [put_at, put_none, fr0_at, q0]; done) | rfl), by (first | (simp [put_at, put_none, fr0_at, q3]; done) | rfl), hG1 _ low1, low1, .slice none 0 0, false, by (first | (simp [put_at, put_none, fr0_at]; done) | rfl), by (first | (simp [put_at, put_none, fr0_at]; done) | rfl), rfl, rfl, hall.symm, fun h => (by cases h)⟩
 clear q0 q3
 rintro α G2 ⟨q0, q3, hlow2, lowG2, sv, ok, q4, q5, s1, s2, hok, hown⟩
 have hTG2 := hTG.lowG lowG2
 have hNG2 := hN.lowG (hn ▸ hlow2)
 have hbb2 := (lowG2.1 j (hget_lt hbb)).trans hbb
 have hC2 : NodeC G2 us (nd l i) pv wv' bv qv := hC.low lowG2.1
 refine aw_seq ?_
 refine aw_cut (fun α G3 => α 73 = .bool (!stepB l i) ∧ α 0 = nv ∧ α 3 = .int .i64 (i : Nat) ∧ G3 = G2) ?_ ?_
 ·have hrr := rRight_rc (γ := γ) hC2.op hxw.op
  cases ok with
  | false =>
   have hsf : stepB l i = false := step_false (fun h => by rw [← hok] at h; cases h.1)
   (refine aw_plan [] [] [0, 1, 2, 3, 4, 5, 6, 7, 8, 9, 10, 11, 12, 13, 14, 15, 16, 17, 18, 19, 20, 21, 22, 23, 24, 25, 26, 27, 28, 29, 30, 31, 32, 33, 34, 35, 36, 37, 38, 39, 40, 41, 42, 43, 44, 45] 46 0 (by kernel_rfl) (by kernel_rfl) (by kernel_rfl) (fun K hK => ?_)); simp only [sel, List.getElem?_cons_succ, List.getElem?_cons_zero, List.drop_succ_cons, List.drop_zero]; simp (disch := first | omega | (simp only [lnS]; try omega)) [-getElem?_pos, -getElem?_neg, q0, q3, q5, PL_nil, plainB_lit, PL_cons, PLc_val, PLc_new, stepP_t, stepP_f, stepPC_n, stepPC_s, stepPX_s, stepPX_n, stepPV_n, stepPV_s, stepPA_t, stepPA_c, stepPA_l, stepPN_s, allocOp, reloc_sl, reloc_ptr, List.map_cons, List.map_nil, List.nil_append, List.append_assoc, List.cons_append, Nat.add_assoc]
   refine hK _ _ ?_; clear hK K
   exact ⟨by rw [hsf]; (first | (simp [put_at, put_none, fr0_at]; done) | rfl), by (first | (simp [put_at, put_none, fr0_at, q0]; done) | rfl), by (first | (simp [put_at, put_none, fr0_at, q3]; done) | rfl), rfl⟩
  | true =>
  obtain ⟨F, ho⟩ := hown rfl
  have hnx : stepB l i = (rightO (nd l i).op && ((findN l i (nd l i).id).isNone && (decide ((nd l i).past = pastL l i (nd l i).op.parents) && turnB l i (nd l i).op (nd l i).past))) := by
   unfold stepB
   rw [← hok, Bool.true_and]
  (refine aw_plan [] [] [0, 1, 2, 3, 4, 5, 6, 7, 8, 9, 10, 11, 12, 13, 14, 15, 16, 17, 18, 19, 20, 21, 22, 23, 24, 25, 26, 27, 28, 29, 30, 31, 32, 33, 34, 35, 36, 37, 38, 39, 40, 41, 42, 43, 44, 45] 46 0 (by kernel_rfl) (by kernel_rfl) (by kernel_rfl) (fun K hK => ?_)); simp only [sel, List.getElem?_cons_succ, List.getElem?_cons_zero, List.drop_succ_cons, List.drop_zero]; simp (disch := first | omega | (simp only [lnS]; try omega)) [-getElem?_pos, -getElem?_neg, q0, q3, q4, q5, hsl, -xslice, -xindexAddr, hx, hbb2, co, ci, cq, -notTuple, hnt, hvc, t1, t2, s1, s2, nt_intG, nt_ptrG, nt_aggG, PL_nil, plainB_lit, PL_cons, PLc_val, PLc_new, stepP_t, stepP_f, stepPC_n, stepPC_s, stepPX_s, stepPX_n, stepPV_n, stepPV_s, stepPA_t, stepPA_c, stepPA_l, stepPN_s, allocOp, reloc_sl, reloc_ptr, List.map_cons, List.map_nil, List.nil_append, List.append_assoc, List.cons_append, Nat.add_assoc]
  refine PLc_call (v := .bool (refO (nd l i).op)) (by kernel_rfl) (fun L hL => rRight_rc (hC2.op.low (fun j hj => hget_left hj)) hxw.op) (by simp [pv_iv, pv_int, pv_bool, pv_string, pv_tup2, pv_tup3, iv_plain, p2_int, p2_bool, p2_string]) ?_
  have hri : (iv .u8 (nd l i).id).length = 32 := by rw [iv_length, hxw.id.1]
  have hqn := val_nt hC2.past
  rw [refO_eq]
  cases k1 : rightO (nd l i).op with
  | false =>
   simp (disch := first | omega | (simp only [lnS]; try omega)) [-getElem?_pos, -getElem?_neg, PL_nil, plainB_lit, PL_cons, PLc_val, PLc_new, stepP_t, stepP_f, stepPC_n, stepPC_s, stepPX_s, stepPX_n, stepPV_n, stepPV_s, stepPA_t, stepPA_c, stepPA_l, stepPN_s, allocOp, reloc_sl, reloc_ptr, List.map_cons, List.map_nil, List.nil_append, List.append_assoc, List.cons_append, Nat.add_assoc]
   refine hK _ _ ?_; clear hK K
   exact ⟨by rw [hnx]; simp [k1, put_at], by (first | (simp [put_at, put_none, fr0_at, q0]; done) | rfl), by (first | (simp [put_at, put_none, fr0_at, q3]; done) | rfl), rfl⟩
  | true =>
  simp (disch := first | omega | (simp only [lnS]; try omega)) [-getElem?_pos, -getElem?_neg, q0, q3, q4, q5, hsl, -xslice, -xindexAddr, hx, hbb2, co, ci, cq, -notTuple, hnt, hvc, t1, t2, s1, s2, nt_intG, nt_ptrG, nt_aggG, hri, PL_nil, plainB_lit, PL_cons, PLc_val, PLc_new, stepP_t, stepP_f, stepPC_n, stepPC_s, stepPX_s, stepPX_n, stepPV_n, stepPV_s, stepPA_t, stepPA_c, stepPA_l, stepPN_s, allocOp, reloc_sl, reloc_ptr, List.map_cons, List.map_nil, List.nil_append, List.append_assoc, List.cons_append, Nat.add_assoc]
  have hfi : ∀ L : AH, AC Try.prog (G2 ++ L).length γ 67 #[tv, .agg (iv .u8 (nd l i).id).toArray] (G2 ++ L) (fun v' _ => v' = .int .i64 (findI l i (nd l i).id)) := fun L => by
   have := rFind_rc (γ := γ) (hTG2.lowG (Low.push (Nat.le_refl _) L)) (by rw [htl]; simp only [maxLen]; omega) hxw.id.1
   rw [htl] at this
   unfold findI at this ⊢
   rwa [find_congr take_nd] at this
  refine PLc_call (v := .int .i64 (findI l i (nd l i).id)) (by kernel_rfl) (fun L hL => hfi L) (by simp [pv_iv, pv_int, pv_bool, pv_string, pv_tup2, pv_tup3, iv_plain, p2_int, p2_bool, p2_string]) ?_
  unfold findI
  cases k2 : findN l i (nd l i).id with
  | some a =>
   have ha := findN_lt k2
   simp (disch := first | omega | (simp only [lnS]; try omega)) [-getElem?_pos, -getElem?_neg, q0, q3, q4, q5, hsl, -xslice, -xindexAddr, hx, hbb2, co, ci, cq, -notTuple, hnt, hvc, t1, t2, s1, s2, nt_intG, nt_ptrG, nt_aggG, hri, PL_nil, plainB_lit, PL_cons, PLc_val, PLc_new, stepP_t, stepP_f, stepPC_n, stepPC_s, stepPX_s, stepPX_n, stepPV_n, stepPV_s, stepPA_t, stepPA_c, stepPA_l, stepPN_s, allocOp, reloc_sl, reloc_ptr, List.map_cons, List.map_nil, List.nil_append, List.append_assoc, List.cons_append, Nat.add_assoc]
   refine hK _ _ ?_; clear hK K
   exact ⟨by rw [hnx]; simp [k1, k2, put_at], by (first | (simp [put_at, put_none, fr0_at, q0]; done) | rfl), by (first | (simp [put_at, put_none, fr0_at, q3]; done) | rfl), rfl⟩
  | none =>
  simp (disch := first | omega | (simp only [lnS]; try omega)) [-getElem?_pos, -getElem?_neg, q0, q3, q4, q5, hsl, -xslice, -xindexAddr, hx, hbb2, co, ci, cq, -notTuple, hnt, hvc, t1, t2, s1, s2, nt_intG, nt_ptrG, nt_aggG, hri, hqn.1, hqn.2, PL_nil, plainB_lit, PL_cons, PLc_val, PLc_new, stepP_t, stepP_f, stepPC_n, stepPC_s, stepPX_s, stepPX_n, stepPV_n, stepPV_s, stepPA_t, stepPA_c, stepPA_l, stepPN_s, allocOp, reloc_sl, reloc_ptr, List.map_cons, List.map_nil, List.nil_append, List.append_assoc, List.cons_append, Nat.add_assoc]
  have hIP := own_inv ho
  have hpl := pastL_length l i (nd l i).op.parents
  refine PLc_call (v := .bool (decide (pastL l i (nd l i).op.parents = (nd l i).past))) (by kernel_rfl) (fun L hL => sameInts_rc (hIP.lowG (Low.push (Nat.le_refl _) L)) (hC2.past.lowG (Low.push (Nat.le_refl _) L)) (by simp only [maxLen]; omega)) (by simp [pv_iv, pv_int, pv_bool, pv_string, pv_tup2, pv_tup3, iv_plain, p2_int, p2_bool, p2_string]) ?_
  by_cases k3 : pastL l i (nd l i).op.parents = (nd l i).past
  case neg =>
   have k3' : ¬ (nd l i).past = pastL l i (nd l i).op.parents := fun e => k3 e.symm
   simp (disch := first | omega | (simp only [lnS]; try omega)) [-getElem?_pos, -getElem?_neg, q0, q3, q4, q5, hsl, -xslice, -xindexAddr, hx, hbb2, co, ci, cq, -notTuple, hnt, hvc, t1, t2, s1, s2, nt_intG, nt_ptrG, nt_aggG, hri, hqn.1, hqn.2, k3, PL_nil, plainB_lit, PL_cons, PLc_val, PLc_new, stepP_t, stepP_f, stepPC_n, stepPC_s, stepPX_s, stepPX_n, stepPV_n, stepPV_s, stepPA_t, stepPA_c, stepPA_l, stepPN_s, allocOp, reloc_sl, reloc_ptr, List.map_cons, List.map_nil, List.nil_append, List.append_assoc, List.cons_append, Nat.add_assoc]
   refine hK _ _ ?_; clear hK K
   exact ⟨by rw [hnx]; simp [k1, k2, k3', put_at], by (first | (simp [put_at, put_none, fr0_at, q0]; done) | rfl), by (first | (simp [put_at, put_none, fr0_at, q3]; done) | rfl), rfl⟩
  have k3' : (nd l i).past = pastL l i (nd l i).op.parents := k3.symm
  simp (disch := first | omega | (simp only [lnS]; try omega)) [-getElem?_pos, -getElem?_neg, q0, q3, q4, q5, hsl, -xslice, -xindexAddr, hx, hbb2, co, ci, cq, -notTuple, hnt, hvc, t1, t2, s1, s2, nt_intG, nt_ptrG, nt_aggG, hri, hqn.1, hqn.2, k3, PL_nil, plainB_lit, PL_cons, PLc_val, PLc_new, stepP_t, stepP_f, stepPC_n, stepPC_s, stepPX_s, stepPX_n, stepPV_n, stepPV_s, stepPA_t, stepPA_c, stepPA_l, stepPN_s, allocOp, reloc_sl, reloc_ptr, List.map_cons, List.map_nil, List.nil_append, List.append_assoc, List.cons_append, Nat.add_assoc]
  have htu : ∀ L : AH, AC Try.prog (G2 ++ L).length γ 68 #[tv, .agg ((us.drop 32).take 71).toArray, sv] (G2 ++ L) (fun v' _ => v' = .bool (turnB l i (nd l i).op (pastL l i (nd l i).op.parents))) := fun L => by
   have := turn_rc (γ := γ) (hTG2.lowG (Low.push (Nat.le_refl _) L)) (by omega) (hC2.op.low (fun j hj => hget_left hj)) hxw.op (hIP.lowG (Low.push (Nat.le_refl _) L)) (by simp only [maxLen]; omega)
   rw [htl] at this
   rwa [turnB_congr take_nd] at this
  refine PLc_call (v := .bool (turnB l i (nd l i).op (pastL l i (nd l i).op.parents))) (by kernel_rfl) (fun L hL => htu L) (by simp [pv_iv, pv_int, pv_bool, pv_string, pv_tup2, pv_tup3, iv_plain, p2_int, p2_bool, p2_string]) ?_
  rw [← k3']
  cases k4 : turnB l i (nd l i).op (nd l i).past with
  | false =>
   simp (disch := first | omega | (simp only [lnS]; try omega)) [-getElem?_pos, -getElem?_neg, PL_nil, plainB_lit, PL_cons, PLc_val, PLc_new, stepP_t, stepP_f, stepPC_n, stepPC_s, stepPX_s, stepPX_n, stepPV_n, stepPV_s, stepPA_t, stepPA_c, stepPA_l, stepPN_s, allocOp, reloc_sl, reloc_ptr, List.map_cons, List.map_nil, List.nil_append, List.append_assoc, List.cons_append, Nat.add_assoc]
   refine hK _ _ ?_; clear hK K
   exact ⟨by rw [hnx]; simp [k1, k2, ← k3', k4, put_at], by (first | (simp [put_at, put_none, fr0_at, q0]; done) | rfl), by (first | (simp [put_at, put_none, fr0_at, q3]; done) | rfl), rfl⟩
  | true =>
   simp (disch := first | omega | (simp only [lnS]; try omega)) [-getElem?_pos, -getElem?_neg, PL_nil, plainB_lit, PL_cons, PLc_val, PLc_new, stepP_t, stepP_f, stepPC_n, stepPC_s, stepPX_s, stepPX_n, stepPV_n, stepPV_s, stepPA_t, stepPA_c, stepPA_l, stepPN_s, allocOp, reloc_sl, reloc_ptr, List.map_cons, List.map_nil, List.nil_append, List.append_assoc, List.cons_append, Nat.add_assoc]
   refine hK _ _ ?_; clear hK K
   exact ⟨by rw [hnx]; simp [k1, k2, ← k3', k4, put_at], by (first | (simp [put_at, put_none, fr0_at, q0]; done) | rfl), by (first | (simp [put_at, put_none, fr0_at, q3]; done) | rfl), rfl⟩
 clear q0 q3 q4 q5
 rintro α G3 ⟨q73, q0, q3, rfl⟩
 cases hst : stepB l i with
 | false =>
  rw [hst] at q73
  refine aw_t (by (first | (simp [eval_tmp, put_at, q73]; done) | (simp [eval_tmp, put_at, q73]; omega))) (by kernel_rfl) ?_
  refine aw_seq ?_
  (refine aw_ops (by kernel_rfl) (fun K hK => ?_); simp (disch := first | omega | (simp only [lnS]; try omega)) [-getElem?_pos, -getElem?_neg]; refine hK _ _ ?_; clear hK K)
  (refine aw_ret ?_; simp (disch := first | omega | (simp only [lnS]; try omega)) [-getElem?_pos, -getElem?_neg, thenQ_ret, scopeQ_ret, inBlockQ_ret, RQ, resL, resV])
  rw [hbad hst]
 | true =>
  rw [hst] at q73
  refine aw_f (by (first | (simp [eval_tmp, put_at, q73]; done) | (simp [eval_tmp, put_at, q73]; omega))) (by kernel_rfl) ?_
  refine aw_skip ?_
  (refine aw_ops (by kernel_rfl) (fun K hK => ?_); simp (disch := first | omega | (simp only [lnS]; try omega)) [-getElem?_pos, -getElem?_neg, q3]; refine hK _ _ ?_; clear hK K)
  refine ⟨c - 1, by omega, i + 1, by omega, by (first | (simp [put_at, put_none, fr0_at, q0]; done) | rfl), by (first | (simp [put_at, put_none, fr0_at]; done) | rfl), hlow2, fun k hk => ?_⟩
  by_cases e : k = i
  ·subst e; exact hst
  ·exact hpre k (by omega)
end
section
def kr (l : List (List Int)) : List Value := (l.map (iv .u8)).flatten
theorem ksC_kr (l : List (List Int)) : ksC l = kr l := by
 unfold ksC kr
 induction l with
 | nil => rfl
 | cons k l ih =>
  rw [List.map_cons, List.flatten_cons, List.map_append, ih, List.map_cons, List.flatten_cons]
  congr 1
  simp [kd, iv, CD.fv]
theorem kr_one (k : List Int) : kr [k] = iv .u8 k := by simp [kr]
def K32 (l : List (List Int)) : Prop := ∀ k ∈ l, k.length = 32
def Oth (b : Nat) (H G : AH) : Prop := H.length ≤ G.length ∧ ∀ j, j < H.length → j ≠ b → hget G j = hget H j
end
section
theorem Oth.low {n b : Nat} {H G K : AH} (hn : n ≤ b) (hl : Low n H G) (h : Oth b G K) : Low n H K := ⟨fun j hj => (h.2 j (by have := hl.2; omega) (by omega)).trans (hl.1 j hj), by have := hl.2; have := h.1; omega⟩
theorem fill_keyG {k : IntKind} {x : List Int} {n : Nat} (z : List Int) (hx : (iv k x).length = n) : xfill (fun i => some (i * n, n)) (List.map (fun j => (iv k z)[j % n]?.getD undef) (List.range n)) [(0, .agg (iv k x).toArray)] = some (iv k x) := by
 have h1 : (Value.agg (iv k x).toArray).cells.size = n := by simpa [Value.cells] using hx
 unfold xfill
 simp only [Nat.zero_mul]
 rw [if_pos ⟨h1, by rw [h1]; simp⟩]
 unfold xfill
 rw [setR_all _ _ (by simp [Value.cells, hx])]
 rfl
end
section
def aheadL (l : List NodeD) (P : List Int) (x : Int) : Nat := (P.filter fun z => (nd l z.toNat).op.author == x).length
theorem aheadL_pastL (l : List NodeD) (n : Nat) (ps : List (List Int)) (x : Int) : aheadL l (pastL l n ps) x = (((List.range n).filter fun a => (nd l a).op.author == x).filter (inB l n ps)).length := by
 unfold aheadL pastL
 rw [List.filter_map, List.length_map, List.filter_filter, List.filter_filter]
 congr 1
 refine List.filter_congr fun k _ => ?_
 show (_ && _) = (_ && _)
 rw [Bool.and_comm]
 rfl
theorem ahead_all (l : List NodeD) (n : Nat) (ps : List (List Int)) (x : Int) : aheadL l (pastL l n ps) x = autN l n x ↔ autA l n x (pastL l n ps) = true := by
 rw [aheadL_pastL]
 unfold autN autA
 rw [List.length_filter_eq_length_iff, List.all_eq_true]
 refine ⟨fun h k hk => ?_, fun h k hk => ?_⟩
 ·by_cases e : ((nd l k).op.author == x) = true
  ·have := h k (List.mem_filter.2 ⟨hk, e⟩)
   have h2 : (k : Int) ∈ pastL l n ps := mem_pastL.2 ⟨List.mem_range.1 hk, this⟩
   simp [h2]
  ·simp only [Bool.not_eq_true] at e
   simp [e]
 ·rw [List.mem_filter] at hk
  have := h k hk.1
  rw [hk.2] at this
  have h2 : (k : Int) ∈ pastL l n ps := by simpa using this
  exact (mem_pastL.1 h2).2
theorem aheadL_le (l : List NodeD) (P : List Int) (x : Int) : aheadL l P x ≤ P.length := List.length_filter_le _ _
theorem aheadL_succ {l : List NodeD} {P : List Int} {e : Nat} {z : Int} (x : Int) (h : P[e]? = some z) : aheadL l (P.take (e + 1)) x = aheadL l (P.take e) x + if (nd l z.toNat).op.author = x then 1 else 0 := by
 unfold aheadL
 rw [List.take_add_one, h, List.filter_append, List.length_append]
 congr 1
 show (List.filter _ [z]).length = _
 by_cases hc : (nd l z.toNat).op.author = x
 ·simp [hc]
 ·have : ((nd l z.toNat).op.author == x) = false := by simpa using hc
  simp [this, hc]
def seqOk (l : List NodeD) (o : OpD) : Bool := !(decide (o.kind = 1) && decide (0 < l.length)) && (decide (o.seq = 1 + (aheadL l (pastL l l.length o.parents) o.author : Nat)) && decide (aheadL l (pastL l l.length o.parents) o.author = autN l l.length o.author))
def addE (l : List NodeD) (id : List Int) (o : OpD) : Int :=
 if rightG l = false then 1 else if rightO o = false then 1 else if (findN l l.length id).isSome = true then 13 else if l.length = 96 then 8 else if o.parents.all (fun p => (findN l l.length p).isSome) = false then 14 else if seqOk l o = false then 15 else 0
def addD (l : List NodeD) (id : List Int) (o : OpD) : NodeD := ⟨id, o, pastL l l.length o.parents⟩
def NewG (n : Nat) (H : AH) (v : Value) (l : List NodeD) : Prop := ∀ G, KeepN n H G → NdV G v l
def AddQ (l : List NodeD) (id : List Int) (o : OpD) (H : AH) (v' : Value) (H' : AH) : Prop :=
 Low H.length H H' ∧ ∃ sv, v' = .tuple #[sv, .int .i64 (addE l id o)] ∧ ((addE l id o = 0 ∧ NewG H.length H' sv (l ++ [addD l id o])) ∨ (addE l id o ≠ 0 ∧ sv = .slice none 0 0))
theorem AddQ.bad {l : List NodeD} {id : List Int} {o : OpD} {H H' : AH} {z : Int} (hl : Low H.length H H') (h : addE l id o = z) (hz : z ≠ 0) : AddQ l id o H (.tuple #[.slice none 0 0, .int .i64 z]) H' :=
 ⟨hl, _, by rw [h], .inr ⟨by rw [h]; exact hz, rfl⟩⟩
theorem fill_row {Z row : List Value} (hr : row.length = 104) (hZ : Z.length = 104) : xfill (fun i => some (i * 104, 104)) Z [(0, .agg row.toArray)] = some row := by
 have h1 : (Value.agg row.toArray).cells.size = 104 := by simpa [Value.cells] using hr
 unfold xfill
 simp only [Nat.zero_mul]
 rw [if_pos ⟨h1, by omega⟩]
 unfold xfill
 rw [setR_all _ _ (by simp [Value.cells, hr, hZ])]
 rfl
attribute [local simp] wb_bool wb_undef with_lit XL_nil XL_cons XLc_val XLc_call step1_eq stepW_t stepW_f stepC_n stepC_s stepX_s stepX_n stepN_s calleeX oneV xop_eq xopR_s xopR_n wantedA_eq wantedG_n wantedG_s plain1_int plain1_bool plain1_string bits_i64 bits_u64 bits_u32 bits_u16 bits_u8 xeqA xagg xcmp xarr allK_iv num_iv calleeOf xread xeff xbin xint xnil xun xstr xload xconv xpart xfield xfieldAddr xindexAddr xindex bnd asInt? xslice xlen xmin xmax xbuild xfill xappend xapp2 xappstr xappmk xcap xcopy xcells eval_tmp eval_const put_at put_none fr0_at cells_agg cells_int cells_bool cells_string cells_ptr cells_slice notTuple tab iv_all hget_app hget_app0 hget_cons0 hget_cons set_app set_app0 setR setR_one QL_nil QL_cons QLc_val stepQ_t stepQ_f stepQC_n stepQC_s stepQX_s SL_nil SL_cons SLc_val stepS_t stepS_f ltT ltF leT leF eqT eqF ltTn ltFn leTn leFn eqTn eqFn beqT beqF bneT bneF wi64 wu64 wu32 wu16 wu8 tmodP tdivP hgetL hgetNe hgetEq setL nums_def nums_len Nat.succ_le_of_lt List.getElem?_cons_zero List.getElem?_cons_succ Option.getD_some Int.toNat_add Int.toNat_mul agM okM agB agI agS agP agL agA okB okI okS okP okSl okA
theorem add_rc {γ : Nat → Option Nat} {H : AH} {nv pv wv bv : Value} {l : List NodeD} {id : List Int} {us : List Value} {o : OpD} (hN : NdA H nv l) (hid : Key32 id) (hO : OpC H us o pv wv bv) (hw : o.Wf) : AC Try.prog H.length γ 31 #[nv, .agg (iv .u8 id).toArray, .agg us.toArray] H (AddQ l id o H) := by
 have hivl : (iv .u8 id).length = 32 := by rw [iv_length, hid.1]
 have hta : (iv .u8 id).take 32 = iv .u8 id := List.take_of_length_le (by omega)
 have hul := hO.len
 have htu : us.take 71 = us := List.take_of_length_le (by omega)
 refine ac_of_aw Try.func31 rfl Try.ntmps31 Try.results31 (by simp) ?_
 refine aw_seq ?_
 (refine aw_ops (by kernel_rfl) (fun K hK => ?_); simp (disch := first | omega | (simp only [lnS]; try omega)) [-getElem?_pos, -getElem?_neg, hivl, hul, nt_aggG]; refine hK _ _ ?_; clear hK K)
 obtain ⟨G, hG⟩ : ∃ G : AH, G = H ++ [some ⟨iv .u8 id, 38, none⟩, some ⟨us, 41, none⟩] := ⟨_, rfl⟩
 have b4 : hget G H.length = some ⟨iv .u8 id, 38, none⟩ := by rw [hG, hget_app0]; rfl
 have b5 : hget G (H.length + 1) = some ⟨us, 41, none⟩ := by rw [hG, hget_app]; rfl
 have lw : Low H.length H G := hG ▸ Low.push (Nat.le_refl _) _
 have gl : G.length = H.length + 2 := by simp [hG]
 rw [← hG]
 clear hG
 have hNG := hN.lowG lw
 have hOG : OpC G us o pv wv bv := hO.low lw.1
 have hnt := hN.nt
 have hvc := hN.cs
 have hxl := hN.len
 have r1 := graph_right_rc (γ := γ) hNG
 have r2 := right_rc (γ := γ) hOG hw
 obtain ⟨n, hn⟩ : ∃ n, n = H.length := ⟨_, rfl⟩
 rw [← hn] at b4 b5 gl lw ⊢
 refine aw_seq ?_
 refine aw_block ?_
 refine aw_seq ?_
 refine aw_seq ?_
 refine aw_ops (by kernel_rfl) (fun K hK => ?_)
 simp (disch := first | omega | (simp only [lnS]; try omega)) [-getElem?_pos, -getElem?_neg, -notTuple, hnt, hvc, nt_intG]
 refine ⟨by kernel_rfl, ac_of_rc r1 (by simp [pv_iv, pv_int, pv_bool, pv_string, pv_tup2, pv_tup3, iv_plain, p2_int, p2_bool, p2_string]) ?_⟩
 cases h1 : rightG l with
 | false =>
  try simp (disch := first | omega | (simp only [lnS]; try omega)) [-getElem?_pos, -getElem?_neg]
  refine hK _ _ ?_; clear hK K
  refine aw_t (by (first | (simp [eval_tmp, put_at]; done) | (simp [eval_tmp, put_at]; omega))) (by kernel_rfl) ?_
  refine aw_skip ?_
  refine aw_t (by (first | (simp [eval_tmp, put_at]; done) | (simp [eval_tmp, put_at]; omega))) (by kernel_rfl) ?_
  refine aw_seq ?_
  (refine aw_ops (by kernel_rfl) (fun K hK => ?_); simp (disch := first | omega | (simp only [lnS]; try omega)) [-getElem?_pos, -getElem?_neg]; refine hK _ _ ?_; clear hK K)
  (refine aw_ret ?_; simp (disch := first | omega | (simp only [lnS]; try omega)) [-getElem?_pos, -getElem?_neg, thenQ_ret, scopeQ_ret, inBlockQ_ret, RQ, resL, resV])
  exact AddQ.bad (hn ▸ lw) (by simp [addE, h1]) (by decide)
 | true =>
 try simp (disch := first | omega | (simp only [lnS]; try omega)) [-getElem?_pos, -getElem?_neg]
 refine hK _ _ ?_; clear hK K
 refine aw_f (by (first | (simp [eval_tmp, put_at]; done) | (simp [eval_tmp, put_at]; omega))) (by kernel_rfl) ?_
 refine aw_ops (by kernel_rfl) (fun K hK => ?_)
 simp (disch := first | omega | (simp only [lnS]; try omega)) [-getElem?_pos, -getElem?_neg, b5, hul, htu, nt_aggG]
 refine ⟨by kernel_rfl, ac_of_rc r2 (by simp [pv_iv, pv_int, pv_bool, pv_string, pv_tup2, pv_tup3, iv_plain, p2_int, p2_bool, p2_string]) ?_⟩
 cases h2 : rightO o with
 | false =>
  try simp (disch := first | omega | (simp only [lnS]; try omega)) [-getElem?_pos, -getElem?_neg]
  refine hK _ _ ?_; clear hK K
  refine aw_t (by (first | (simp [eval_tmp, put_at]; done) | (simp [eval_tmp, put_at]; omega))) (by kernel_rfl) ?_
  refine aw_seq ?_
  (refine aw_ops (by kernel_rfl) (fun K hK => ?_); simp (disch := first | omega | (simp only [lnS]; try omega)) [-getElem?_pos, -getElem?_neg]; refine hK _ _ ?_; clear hK K)
  (refine aw_ret ?_; simp (disch := first | omega | (simp only [lnS]; try omega)) [-getElem?_pos, -getElem?_neg, thenQ_ret, scopeQ_ret, inBlockQ_ret, RQ, resL, resV])
  exact AddQ.bad (hn ▸ lw) (by simp [addE, h1, h2]) (by decide)
 | true =>
 try simp (disch := first | omega | (simp only [lnS]; try omega)) [-getElem?_pos, -getElem?_neg]
 refine hK _ _ ?_; clear hK K
 refine aw_f (by (first | (simp [eval_tmp, put_at]; done) | (simp [eval_tmp, put_at]; omega))) (by kernel_rfl) ?_
 have hl := rightG_len h1
 have r4 := find_rc (γ := γ) hNG (by simp only [maxLen]; omega) hid.1
 refine aw_seq ?_
 refine aw_ops (by kernel_rfl) (fun K hK => ?_)
 simp (disch := first | omega | (simp only [lnS]; try omega)) [-getElem?_pos, -getElem?_neg, b4, hivl, hta, -notTuple, hnt, hvc, nt_intG, nt_aggG]
 refine ⟨by kernel_rfl, ac_of_rc r4 (by simp [pv_iv, pv_int, pv_bool, pv_string, pv_tup2, pv_tup3, iv_plain, p2_int, p2_bool, p2_string]) ?_⟩
 unfold findI
 cases h3 : findN l l.length id with
 | some a =>
  have ha := findN_lt h3
  try simp (disch := first | omega | (simp only [lnS]; try omega)) [-getElem?_pos, -getElem?_neg]
  refine hK _ _ ?_; clear hK K
  refine aw_t (by (first | (simp [eval_tmp, put_at]; done) | (simp [eval_tmp, put_at]; omega))) (by kernel_rfl) ?_
  refine aw_seq ?_
  (refine aw_ops (by kernel_rfl) (fun K hK => ?_); simp (disch := first | omega | (simp only [lnS]; try omega)) [-getElem?_pos, -getElem?_neg]; refine hK _ _ ?_; clear hK K)
  (refine aw_ret ?_; simp (disch := first | omega | (simp only [lnS]; try omega)) [-getElem?_pos, -getElem?_neg, thenQ_ret, scopeQ_ret, inBlockQ_ret, RQ, resL, resV])
  exact AddQ.bad (hn ▸ lw) (by simp [addE, h1, h2, h3]) (by decide)
 | none =>
 try simp (disch := first | omega | (simp only [lnS]; try omega)) [-getElem?_pos, -getElem?_neg]
 refine hK _ _ ?_; clear hK K
 refine aw_f (by (first | (simp [eval_tmp, put_at]; done) | (simp [eval_tmp, put_at]; omega))) (by kernel_rfl) ?_
 refine aw_seq ?_
 by_cases h4 : l.length = 96
 ·(refine aw_ops (by kernel_rfl) (fun K hK => ?_); simp (disch := first | omega | (simp only [lnS]; try omega)) [-getElem?_pos, -getElem?_neg, -notTuple, hnt, hvc, nt_intG, -xlen, hxl, h4]; refine hK _ _ ?_; clear hK K)
  refine aw_t (by (first | (simp [eval_tmp, put_at, h4]; done) | (simp [eval_tmp, put_at, h4]; omega))) (by kernel_rfl) ?_
  refine aw_seq ?_
  (refine aw_ops (by kernel_rfl) (fun K hK => ?_); simp (disch := first | omega | (simp only [lnS]; try omega)) [-getElem?_pos, -getElem?_neg]; refine hK _ _ ?_; clear hK K)
  (refine aw_ret ?_; simp (disch := first | omega | (simp only [lnS]; try omega)) [-getElem?_pos, -getElem?_neg, thenQ_ret, scopeQ_ret, inBlockQ_ret, RQ, resL, resV])
  exact AddQ.bad (hn ▸ lw) (by unfold addE; rw [h1, h2, h3, if_neg (by simp), if_neg (by simp), if_neg (by simp), if_pos h4]) (by decide)
 have h4n : l.length < 96 := by omega
 have h4i : ¬ (l.length : Int) = 96 := by omega
 (refine aw_ops (by kernel_rfl) (fun K hK => ?_); simp (disch := first | omega | (simp only [lnS]; try omega)) [-getElem?_pos, -getElem?_neg, -notTuple, hnt, hvc, nt_intG, -xlen, hxl, h4i]; refine hK _ _ ?_; clear hK K)
 refine aw_f (by (first | (simp [eval_tmp, put_at]; done) | (simp [eval_tmp, put_at]; omega))) (by kernel_rfl) ?_
 refine aw_skip ?_
 have hP := hOG.parents
 have hP4 := val_nt hP
 have hps := rightO_sm h2
 have c2 := hOG.c2
 have hpk : ∀ k ∈ o.parents, k.length = 32 := fun k hk => (hw.parents k hk).1
 have rp := (pastF_rc (γ := γ) hNG hl hP hpk (by simp only [maxLen]; omega)).thaw (nro := n) (fun v H' h => ⟨h.1.2, h.1.1⟩)
 refine aw_seq ?_
 refine aw_ops (by kernel_rfl) (fun K hK => ?_)
 simp (disch := first | omega | (simp only [lnS]; try omega)) [-getElem?_pos, -getElem?_neg, b5, hul, c2, -notTuple, hnt, hvc, hP4.1, hP4.2, nt_intG, nt_aggG]
 refine ⟨by kernel_rfl, rp.mono ?_⟩
 rintro v1 G1 ⟨hlow1, ⟨hall, sv, F, rfl, hown, hF⟩ | ⟨hall, rfl⟩⟩
 case inr =>
  simp (disch := first | omega | (simp only [lnS]; try omega)) [-getElem?_pos, -getElem?_neg]
  refine hK _ _ ?_; clear hK K
  refine aw_seq ?_
  refine aw_seq ?_
  (refine aw_ops (by kernel_rfl) (fun K hK => ?_); simp (disch := first | omega | (simp only [lnS]; try omega)) [-getElem?_pos, -getElem?_neg]; refine hK _ _ ?_; clear hK K)
  refine aw_t (by (first | (simp [eval_tmp, put_at]; done) | (simp [eval_tmp, put_at]; omega))) (by kernel_rfl) ?_
  refine aw_seq ?_
  (refine aw_ops (by kernel_rfl) (fun K hK => ?_); simp (disch := first | omega | (simp only [lnS]; try omega)) [-getElem?_pos, -getElem?_neg]; refine hK _ _ ?_; clear hK K)
  (refine aw_ret ?_; simp (disch := first | omega | (simp only [lnS]; try omega)) [-getElem?_pos, -getElem?_neg, thenQ_ret, scopeQ_ret, inBlockQ_ret, RQ, resL, resV])
  exact AddQ.bad ⟨fun j hj => (hlow1.1 j (by have := lw.2; omega)).trans (lw.1 j (by omega)), by have := hlow1.2; have := lw.2; omega⟩ (by simp [addE, h1, h2, h3, h4, hall]) (by decide)
 obtain ⟨v1, v2⟩ := own_nt hown
 have hFn : ∀ j ∈ F, n + 2 ≤ j := fun j hj => by have := hF j hj; omega
 clear hF
 simp (disch := first | omega | (simp only [lnS]; try omega)) [-getElem?_pos, -getElem?_neg, -notTuple, v1, v2, nt_intG]
 refine hK _ _ ?_; clear hK K
 refine aw_seq ?_
 refine aw_seq ?_
 (refine aw_ops (by kernel_rfl) (fun K hK => ?_); simp (disch := first | omega | (simp only [lnS]; try omega)) [-getElem?_pos, -getElem?_neg]; refine hK _ _ ?_; clear hK K)
 refine aw_f (by (first | (simp [eval_tmp, put_at]; done) | (simp [eval_tmp, put_at]; omega))) (by kernel_rfl) ?_
 refine aw_skip ?_
 have hPl := pastL_length l l.length o.parents
 have hPb : ∀ z ∈ pastL l l.length o.parents, ∃ k : Nat, z = k ∧ k < l.length := fun z hz => by
  obtain ⟨k, e, hk, _⟩ := pastL_bd hz
  exact ⟨k, e, hk⟩
 have hseq : seqOk l o = (!(decide (o.kind = 1) && decide (0 < l.length)) && (decide (o.seq = 1 + (aheadL l (pastL l l.length o.parents) o.author : Nat)) && decide (aheadL l (pastL l l.length o.parents) o.author = autN l l.length o.author))) := rfl
 have hle : addE l id o = if seqOk l o = false then 15 else 0 := by unfold addE; rw [h1, h2, h3, hall, if_neg (by simp), if_neg (by simp), if_neg (by simp), if_neg h4, if_neg (by simp)]
 have hInv := own_inv hown
 have hacc := hInv.acc
 have hdd : addD l id o = ⟨id, o, pastL l l.length o.parents⟩ := rfl
 obtain ⟨P, hPe⟩ : ∃ P, P = pastL l l.length o.parents := ⟨_, rfl⟩
 rw [← hPe] at hPl hPb hown hInv hacc hseq hdd
 have hlowG1 : Low n H G1 := ⟨fun j hj => (hlow1.1 j (by omega)).trans (lw.1 j (by omega)), by have := hlow1.2; omega⟩
 have hNG1 := hN.lowG (hn ▸ hlowG1)
 have d4 := (hlow1.1 n (by omega)).trans b4
 have d5 := (hlow1.1 (n + 1) (by omega)).trans b5
 have hOG1 : OpC G1 us o pv wv bv := hOG.low hlow1.1
 have hat := hNG1.at_
 have ca := hOG1.c0
 have hlG1 : n + 2 ≤ G1.length := by have := hlow1.2; omega
 refine aw_seq ?_
 (refine aw_ops (by kernel_rfl) (fun K hK => ?_); simp (disch := first | omega | (simp only [lnS]; try omega)) [-getElem?_pos, -getElem?_neg]; refine hK _ _ ?_; clear hK K)
 refine aw_seq ?_
 refine aw_seq ?_
 (refine aw_ops (by kernel_rfl) (fun K hK => ?_); simp (disch := first | omega | (simp only [lnS]; try omega)) [-getElem?_pos, -getElem?_neg, -notTuple, v1, v2, nt_intG, -xlen, hacc.len]; refine hK _ _ ?_; clear hK K)
 refine aw_block ?_
 refine aw_loop (fun c α G => ∃ e : Nat, e + c = P.length ∧ G = G1 ∧ α 0 = nv ∧ α 4 = .pointer (some ⟨n, 0, none⟩) ∧ α 5 = .pointer (some ⟨n + 1, 0, none⟩) ∧ α 8 = sv ∧ α 10 = .int .i64 (aheadL l (P.take e) o.author : Nat) ∧ α 39 = sv ∧ α 40 = .int .i64 (P.length : Nat) ∧ α 41 = .int .i64 (e : Nat)) P.length ?_ ?_
 ·exact ⟨0, by omega, rfl, by (first | (simp [put_at, put_none, fr0_at]; done) | rfl), by (first | (simp [put_at, put_none, fr0_at]; done) | rfl), by (first | (simp [put_at, put_none, fr0_at]; done) | rfl), by (first | (simp [put_at, put_none, fr0_at]; done) | rfl), by (first | (simp [put_at, put_none, fr0_at]; done) | rfl), by (first | (simp [put_at, put_none, fr0_at]; done) | rfl), by (first | (simp [put_at, put_none, fr0_at]; done) | rfl), by (first | (simp [put_at, put_none, fr0_at]; done) | rfl)⟩
 rintro c α G2 ⟨e, hec, rfl, q0, q4, q5, q8, q10, q39, q40, q41⟩
 refine aw_seq ?_
 by_cases he : e < P.length
 case pos =>
  obtain ⟨p2, x2, p21, p22, p23, p24, p25⟩ := hacc.at_ e he
  subst p24
  obtain ⟨z, hz⟩ : ∃ z, z = P.getD e 0 := ⟨_, rfl⟩
  rw [← hz] at p25
  have hze : P[e]? = some z := by rw [hz, List.getD_eq_getElem?_getD, List.getElem?_eq_getElem he]; rfl
  have hsu := aheadL_succ (l := l) o.author hze
  have hal := aheadL_le l (P.take e) o.author
  rw [List.length_take] at hal
  have p25 := p25 G2 (Low.refl (Nat.le_refl _))
  obtain ⟨kz, rfl, hkz⟩ := hPb z (List.mem_of_getElem? hze)
  rw [Int.toNat_natCast] at hsu
  obtain ⟨j, q, bb, ws, pv', wv', bv', qv', hx, hbb, hq, hcell, hws, hC⟩ := hat kz _ (nd_get hkz)
  have cz : bb.cells[q + 32]? = some (.int .i64 (nd l kz).op.author) := by
   have := hC.op.c0
   rw [List.getElem?_take_of_lt (by omega), List.getElem?_drop] at this
   exact (hcell 32 (by omega)).trans this
  (refine aw_ops (by kernel_rfl) (fun K hK => ?_); simp (disch := first | omega | (simp only [lnS]; try omega)) [-getElem?_pos, -getElem?_neg, q40, q41, he]; refine hK _ _ ?_; clear hK K)
  refine aw_seq ?_
  refine aw_t (by (first | (simp [eval_tmp, put_at, he]; done) | (simp [eval_tmp, put_at, he]; omega))) (by kernel_rfl) ?_
  refine aw_skip ?_
  refine aw_seq ?_
  refine aw_block ?_
  refine aw_seq ?_
  (refine aw_ops (by kernel_rfl) (fun K hK => ?_); simp (disch := first | omega | (simp only [lnS]; try omega)) [-getElem?_pos, -getElem?_neg, q39, q41, -notTuple, v1, v2, p21, nt_intG, -xindexAddr, p22, -xload, p25]; refine hK _ _ ?_; clear hK K)
  refine aw_seq ?_
  obtain ⟨x, hxa⟩ : ∃ x, x = (nd l kz).op.author := ⟨_, rfl⟩
  rw [← hxa] at cz hsu
  by_cases hxz : x = o.author
  ·have hxb : (x == o.author) = true := by simp [hxz]
   rw [if_pos hxz] at hsu
   (refine aw_plan [] [] [0, 1, 2, 3, 4, 5, 6, 7, 8] 9 0 (by kernel_rfl) (by kernel_rfl) (by kernel_rfl) (fun K hK => ?_)); simp only [sel, List.getElem?_cons_succ, List.getElem?_cons_zero, List.drop_succ_cons, List.drop_zero]; simp (disch := first | omega | (simp only [lnS]; try omega)) [-getElem?_pos, -getElem?_neg, q0, q5, -notTuple, hnt, hvc, nt_intG, nt_ptrG, -xindexAddr, hx, hbb, cz, d5, ca, hxz, hxb, PL_nil, plainB_lit, PL_cons, PLc_val, PLc_new, stepP_t, stepP_f, stepPC_n, stepPC_s, stepPX_s, stepPX_n, stepPV_n, stepPV_s, stepPA_t, stepPA_c, stepPA_l, stepPN_s, allocOp, reloc_sl, reloc_ptr, List.map_cons, List.map_nil, List.nil_append, List.append_assoc, List.cons_append, Nat.add_assoc]
   refine hK _ _ ?_; clear hK K
   refine aw_t (by (first | (simp [eval_tmp, put_at, hxz, hxb]; done) | (simp [eval_tmp, put_at, hxz, hxb]; omega))) (by kernel_rfl) ?_
   (refine aw_ops (by kernel_rfl) (fun K hK => ?_); simp (disch := first | omega | (simp only [lnS]; try omega)) [-getElem?_pos, -getElem?_neg, q10]; refine hK _ _ ?_; clear hK K)
   (refine aw_ops (by kernel_rfl) (fun K hK => ?_); simp (disch := first | omega | (simp only [lnS]; try omega)) [-getElem?_pos, -getElem?_neg, q41]; refine hK _ _ ?_; clear hK K)
   exact ⟨c - 1, by omega, e + 1, by omega, rfl, by (first | (simp [put_at, put_none, fr0_at, q0]; done) | rfl), by (first | (simp [put_at, put_none, fr0_at, q4]; done) | rfl), by (first | (simp [put_at, put_none, fr0_at, q5]; done) | rfl), by (first | (simp [put_at, put_none, fr0_at, q8]; done) | rfl), by rw [hsu]; (first | (simp [put_at, put_none, fr0_at]; done) | rfl), by (first | (simp [put_at, put_none, fr0_at, q39]; done) | rfl), by (first | (simp [put_at, put_none, fr0_at, q40]; done) | rfl), by (first | (simp [put_at, put_none, fr0_at]; done) | rfl)⟩
  ·have hxb : (x == o.author) = false := by simp [hxz]
   rw [if_neg hxz] at hsu
   (refine aw_plan [] [] [0, 1, 2, 3, 4, 5, 6, 7, 8] 9 0 (by kernel_rfl) (by kernel_rfl) (by kernel_rfl) (fun K hK => ?_)); simp only [sel, List.getElem?_cons_succ, List.getElem?_cons_zero, List.drop_succ_cons, List.drop_zero]; simp (disch := first | omega | (simp only [lnS]; try omega)) [-getElem?_pos, -getElem?_neg, q0, q5, -notTuple, hnt, hvc, nt_intG, nt_ptrG, -xindexAddr, hx, hbb, cz, d5, ca, hxz, hxb, PL_nil, plainB_lit, PL_cons, PLc_val, PLc_new, stepP_t, stepP_f, stepPC_n, stepPC_s, stepPX_s, stepPX_n, stepPV_n, stepPV_s, stepPA_t, stepPA_c, stepPA_l, stepPN_s, allocOp, reloc_sl, reloc_ptr, List.map_cons, List.map_nil, List.nil_append, List.append_assoc, List.cons_append, Nat.add_assoc]
   refine hK _ _ ?_; clear hK K
   refine aw_f (by (first | (simp [eval_tmp, put_at, hxz, hxb]; done) | (simp [eval_tmp, put_at, hxz, hxb]; omega))) (by kernel_rfl) ?_
   refine aw_skip ?_
   (refine aw_ops (by kernel_rfl) (fun K hK => ?_); simp (disch := first | omega | (simp only [lnS]; try omega)) [-getElem?_pos, -getElem?_neg, q41]; refine hK _ _ ?_; clear hK K)
   exact ⟨c - 1, by omega, e + 1, by omega, rfl, by (first | (simp [put_at, put_none, fr0_at, q0]; done) | rfl), by (first | (simp [put_at, put_none, fr0_at, q4]; done) | rfl), by (first | (simp [put_at, put_none, fr0_at, q5]; done) | rfl), by (first | (simp [put_at, put_none, fr0_at, q8]; done) | rfl), by rw [hsu]; (first | (simp [put_at, put_none, fr0_at, q10]; done) | rfl), by (first | (simp [put_at, put_none, fr0_at, q39]; done) | rfl), by (first | (simp [put_at, put_none, fr0_at, q40]; done) | rfl), by (first | (simp [put_at, put_none, fr0_at]; done) | rfl)⟩
 (refine aw_ops (by kernel_rfl) (fun K hK => ?_); simp (disch := first | omega | (simp only [lnS]; try omega)) [-getElem?_pos, -getElem?_neg, q40, q41, he]; refine hK _ _ ?_; clear hK K)
 refine aw_seq ?_
 refine aw_f (by (first | (simp [eval_tmp, put_at, he]; done) | (simp [eval_tmp, put_at, he]; omega))) (by kernel_rfl) ?_
 refine aw_exit ?_
 obtain rfl : e = P.length := by omega
 rw [List.take_length] at q10
 have c3 := hOG1.c3
 have c1 := hOG1.c1
 have hsq := hw.seq
 unfold U32 at hsq
 have hal := aheadL_le l P o.author
 have rc := count_rc (γ := γ) hNG1 (by simp only [maxLen]; omega) o.author
 have hcl := autN_le l l.length o.author
 generalize aheadL l P o.author = ah at *
 generalize autN l l.length o.author = cn at *
 refine aw_seq ?_
 refine aw_seq ?_
 refine aw_cut (fun α G => α 81 = .bool (!seqOk l o) ∧ α 0 = nv ∧ α 4 = .pointer (some ⟨n, 0, none⟩) ∧ α 5 = .pointer (some ⟨n + 1, 0, none⟩) ∧ α 8 = sv ∧ G = G2) ?_ ?_
 ·by_cases hk : o.kind = 1
  ·by_cases h0 : 0 < l.length
   ·(refine aw_ops (by kernel_rfl) (fun K hK => ?_); simp (disch := first | omega | (simp only [lnS]; try omega)) [-getElem?_pos, -getElem?_neg, q0, q5, q10, hk, h0, d5, c3, c1, ca, hul, -notTuple, hnt, hvc, nt_intG, nt_ptrG, -xlen, hxl]; refine hK _ _ ?_; clear hK K)
    exact ⟨by rw [hseq]; simp [hk, h0, put_at], by (first | (simp [put_at, put_none, fr0_at, q0]; done) | rfl), by (first | (simp [put_at, put_none, fr0_at, q4]; done) | rfl), by (first | (simp [put_at, put_none, fr0_at, q5]; done) | rfl), by (first | (simp [put_at, put_none, fr0_at, q8]; done) | rfl), rfl⟩
   ·have h0e : l.length = 0 := by omega
    by_cases hs1 : o.seq = 1 + (ah : Int)
    ·have hs2 : ¬ o.seq ≠ 1 + (ah : Int) := by omega
     have hs3 : (o.seq == 1 + (ah : Int)) = true := by simp [hs1]
     refine aw_ops (by kernel_rfl) (fun K hK => ?_)
     simp (disch := first | omega | (simp only [lnS]; try omega)) [-getElem?_pos, -getElem?_neg, q0, q5, q10, hk, h0, h0e, d5, c3, c1, ca, hul, -notTuple, hnt, hvc, nt_intG, nt_ptrG, -xlen, hxl, hs1, hs3]
     refine ⟨by kernel_rfl, ac_of_rc rc (by simp [pv_iv, pv_int, pv_bool, pv_string, pv_tup2, pv_tup3, iv_plain, p2_int, p2_bool, p2_string]) ?_⟩
     by_cases hcn : ah = cn
     ·have hcb : ((ah : Int) == (cn : Int)) = true := by simp [hcn]
      have hci : (ah : Int) = (cn : Int) := by omega
      try simp (disch := first | omega | (simp only [lnS]; try omega)) [-getElem?_pos, -getElem?_neg, hcb, hci]
      refine hK _ _ ?_; clear hK K
      refine ⟨by rw [hseq]; simp [hk, h0, h0e, hs1, hcn, put_at], by (first | (simp [put_at, put_none, fr0_at, q0]; done) | rfl), by (first | (simp [put_at, put_none, fr0_at, q4]; done) | rfl), by (first | (simp [put_at, put_none, fr0_at, q5]; done) | rfl), by (first | (simp [put_at, put_none, fr0_at, q8]; done) | rfl), rfl⟩
     ·have hci : ¬ (ah : Int) = (cn : Int) := by omega
      have hcb : ((ah : Int) == (cn : Int)) = false := by simp [hci]
      try simp (disch := first | omega | (simp only [lnS]; try omega)) [-getElem?_pos, -getElem?_neg, hcb, hci]
      refine hK _ _ ?_; clear hK K
      refine ⟨by rw [hseq]; simp [hci, hk, h0, h0e, hs1, hcn, put_at], by (first | (simp [put_at, put_none, fr0_at, q0]; done) | rfl), by (first | (simp [put_at, put_none, fr0_at, q4]; done) | rfl), by (first | (simp [put_at, put_none, fr0_at, q5]; done) | rfl), by (first | (simp [put_at, put_none, fr0_at, q8]; done) | rfl), rfl⟩
    ·have hs3 : (o.seq == 1 + (ah : Int)) = false := by simp [hs1]
     (refine aw_ops (by kernel_rfl) (fun K hK => ?_); simp (disch := first | omega | (simp only [lnS]; try omega)) [-getElem?_pos, -getElem?_neg, q0, q5, q10, hk, h0, h0e, d5, c3, c1, ca, hul, -notTuple, hnt, hvc, nt_intG, nt_ptrG, -xlen, hxl, hs1, hs3]; refine hK _ _ ?_; clear hK K)
     refine ⟨by rw [hseq]; simp [hk, h0, h0e, hs1, put_at], by (first | (simp [put_at, put_none, fr0_at, q0]; done) | rfl), by (first | (simp [put_at, put_none, fr0_at, q4]; done) | rfl), by (first | (simp [put_at, put_none, fr0_at, q5]; done) | rfl), by (first | (simp [put_at, put_none, fr0_at, q8]; done) | rfl), rfl⟩
  ·have hkb : (o.kind == 1) = false := by simp [hk]
   by_cases hs1 : o.seq = 1 + (ah : Int)
   ·have hs2 : ¬ o.seq ≠ 1 + (ah : Int) := by omega
    have hs3 : (o.seq == 1 + (ah : Int)) = true := by simp [hs1]
    refine aw_ops (by kernel_rfl) (fun K hK => ?_)
    simp (disch := first | omega | (simp only [lnS]; try omega)) [-getElem?_pos, -getElem?_neg, q0, q5, q10, hk, hkb, d5, c3, c1, ca, hul, -notTuple, hnt, hvc, nt_intG, nt_ptrG, -xlen, hxl, hs1, hs3]
    refine ⟨by kernel_rfl, ac_of_rc rc (by simp [pv_iv, pv_int, pv_bool, pv_string, pv_tup2, pv_tup3, iv_plain, p2_int, p2_bool, p2_string]) ?_⟩
    by_cases hcn : ah = cn
    ·have hcb : ((ah : Int) == (cn : Int)) = true := by simp [hcn]
     have hci : (ah : Int) = (cn : Int) := by omega
     try simp (disch := first | omega | (simp only [lnS]; try omega)) [-getElem?_pos, -getElem?_neg, hcb, hci]
     refine hK _ _ ?_; clear hK K
     refine ⟨by rw [hseq]; simp [hk, hkb, hs1, hcn, put_at], by (first | (simp [put_at, put_none, fr0_at, q0]; done) | rfl), by (first | (simp [put_at, put_none, fr0_at, q4]; done) | rfl), by (first | (simp [put_at, put_none, fr0_at, q5]; done) | rfl), by (first | (simp [put_at, put_none, fr0_at, q8]; done) | rfl), rfl⟩
    ·have hci : ¬ (ah : Int) = (cn : Int) := by omega
     have hcb : ((ah : Int) == (cn : Int)) = false := by simp [hci]
     try simp (disch := first | omega | (simp only [lnS]; try omega)) [-getElem?_pos, -getElem?_neg, hcb, hci]
     refine hK _ _ ?_; clear hK K
     refine ⟨by rw [hseq]; simp [hci, hk, hkb, hs1, hcn, put_at], by (first | (simp [put_at, put_none, fr0_at, q0]; done) | rfl), by (first | (simp [put_at, put_none, fr0_at, q4]; done) | rfl), by (first | (simp [put_at, put_none, fr0_at, q5]; done) | rfl), by (first | (simp [put_at, put_none, fr0_at, q8]; done) | rfl), rfl⟩
   ·have hs3 : (o.seq == 1 + (ah : Int)) = false := by simp [hs1]
    (refine aw_ops (by kernel_rfl) (fun K hK => ?_); simp (disch := first | omega | (simp only [lnS]; try omega)) [-getElem?_pos, -getElem?_neg, q0, q5, q10, hk, hkb, d5, c3, c1, ca, hul, -notTuple, hnt, hvc, nt_intG, nt_ptrG, -xlen, hxl, hs1, hs3]; refine hK _ _ ?_; clear hK K)
    refine ⟨by rw [hseq]; simp [hk, hkb, hs1, put_at], by (first | (simp [put_at, put_none, fr0_at, q0]; done) | rfl), by (first | (simp [put_at, put_none, fr0_at, q4]; done) | rfl), by (first | (simp [put_at, put_none, fr0_at, q5]; done) | rfl), by (first | (simp [put_at, put_none, fr0_at, q8]; done) | rfl), rfl⟩
 clear q0 q4 q5 q8 q10 q39 q40 q41
 rintro α G3 ⟨q81, q0, q4, q5, q8, rfl⟩
 cases hso : seqOk l o with
 | false =>
  rw [hso] at q81
  refine aw_t (by (first | (simp [eval_tmp, put_at, q81]; done) | (simp [eval_tmp, put_at, q81]; omega))) (by kernel_rfl) ?_
  refine aw_seq ?_
  (refine aw_ops (by kernel_rfl) (fun K hK => ?_); simp (disch := first | omega | (simp only [lnS]; try omega)) [-getElem?_pos, -getElem?_neg]; refine hK _ _ ?_; clear hK K)
  (refine aw_ret ?_; simp (disch := first | omega | (simp only [lnS]; try omega)) [-getElem?_pos, -getElem?_neg, thenQ_ret, scopeQ_ret, inBlockQ_ret, RQ, resL, resV])
  exact AddQ.bad (hn ▸ hlowG1) (by rw [hle, if_pos hso]) (by decide)
 | true =>
 rw [hso] at q81
 refine aw_f (by (first | (simp [eval_tmp, put_at, q81]; done) | (simp [eval_tmp, put_at, q81]; omega))) (by kernel_rfl) ?_
 refine aw_skip ?_
 refine aw_seq ?_
 have hadd0 : addE l id o = 0 := by rw [hle, if_neg (by simp [hso])]
 obtain ⟨L0, hL0⟩ : ∃ k, k = G3.length := ⟨_, rfl⟩
 obtain ⟨N, hcN⟩ := deepNodes_ac (nro := n) (γ := γ) hNG1 (by omega) (right_sm h1) (by omega)
 rw [← hL0] at hcN
 have hxw : (addD l id o).Wf := by
  rw [hdd]
  refine ⟨hid, hw, fun z hz => ?_, by simp only [maxLen]; omega⟩
  obtain ⟨k, rfl, hk⟩ := hPb z hz
  unfold I64
  omega
 have hcO : ∀ A : AH, A.length = N → Low L0 G3 A → AC Try.prog n γ 82 #[.agg us.toArray] A (DeepO A o pv wv bv) := fun A hA hlow => deepOp_ac (nro := n) (γ := γ) (hOG1.low (fun j hj => hlow.1 j (by omega))) hw ⟨by omega, by omega, by omega⟩ (by have := hlow.2; omega)
 unfold DeepO at hcO
 have hbl := build_node (x := addD l id o) (pv := opP pv N) (wv := opW pv wv N) (bv := opB pv wv bv N) hxw v1 v2
 have hrl := nodeRow_len hxw (opP pv N) (opW pv wv N) (opB pv wv bv N) sv
 have hrv : ∀ D : AH, KsV D (opP pv N) o.parents → InV D (opW pv wv N) o.who → BxV D (opB pv wv bv N) o.boxes → InV D sv P → ValL D (addD l id o).row (nodeRow (addD l id o) (opP pv N) (opW pv wv N) (opB pv wv bv N) sv) := fun D k1 k2 k3 k4 => by
  have : (addD l id o).past = P := by rw [hdd]
  exact node_val (x := addD l id o) k1 k2 k3 (by rw [this]; exact k4)
 have hxid : (addD l id o).id = id := rfl
 have hxop : (addD l id o).op = o := rfl
 rw [hxid, hxop] at hbl
 obtain ⟨ov, hov⟩ : ∃ ov, ov = opRow o (opP pv N) (opW pv wv N) (opB pv wv bv N) := ⟨_, rfl⟩
 have hovl := opRow_len hw (opP pv N) (opW pv wv N) (opB pv wv bv N)
 rw [← hov] at hbl hovl
 have hwfx : ∀ x ∈ l ++ [addD l id o], x.Wf := fun x hx => by
  rcases List.mem_append.1 hx with hx | hx
  ·exact hN.wf x hx
  ·rw [List.mem_singleton] at hx; subst hx; exact hxw
 obtain ⟨row, hrow⟩ : ∃ r, r = nodeRow (addD l id o) (opP pv N) (opW pv wv N) (opB pv wv bv N) sv := ⟨_, rfl⟩
 rw [← hrow] at hbl hrl hrv
 have hown0 := hown
 have hFl := hown.lt
 obtain ⟨N2, hN2⟩ : ∃ k, k = N + opN pv wv bv := ⟨_, rfl⟩
 obtain ⟨Φ, e0, e1, e2, e3, e4, eS⟩ : ∃ Φ : Nat → AH → Prop, (∀ A, Φ 0 A ↔ A = G3) ∧ (∀ A, Φ 1 A ↔ (A.length = N ∧ Low L0 G3 A ∧ ∃ R, NewRows (L0 + 1) A R l ∧ hget A L0 = some ⟨R.flatten, 50, some 104⟩)) ∧
   (∀ A, Φ 2 A ↔ (A.length = N2 ∧ Low L0 G3 A ∧ L0 < N ∧ NewO N A o (opP pv N) (opW pv wv N) (opB pv wv bv N) ∧ ∃ R, NewRows (L0 + 1) A R l ∧ hget A L0 = some ⟨R.flatten, 50, some 104⟩)) ∧
   (∀ A, Φ 3 A ↔ ∃ B, Φ 2 B ∧ A = B ++ [some ⟨row, 50, some 104⟩]) ∧ (∀ A, Φ 4 A ↔ (Low L0 G3 A ∧ NewG n A (.slice (some ⟨N2 + 1, 0, none⟩) (l.length + 1) (l.length + 1)) (l ++ [addD l id o]))) ∧ (∀ s A, Φ s A → Low L0 G3 A) := by
  refine ⟨fun s A => match s with
   | 0 => A = G3
   | 1 => A.length = N ∧ Low L0 G3 A ∧ ∃ R, NewRows (L0 + 1) A R l ∧ hget A L0 = some ⟨R.flatten, 50, some 104⟩
   | 2 => A.length = N2 ∧ Low L0 G3 A ∧ L0 < N ∧ NewO N A o (opP pv N) (opW pv wv N) (opB pv wv bv N) ∧ ∃ R, NewRows (L0 + 1) A R l ∧ hget A L0 = some ⟨R.flatten, 50, some 104⟩
   | 3 => ∃ B : AH, (B.length = N2 ∧ Low L0 G3 B ∧ L0 < N ∧ NewO N B o (opP pv N) (opW pv wv N) (opB pv wv bv N) ∧ ∃ R, NewRows (L0 + 1) B R l ∧ hget B L0 = some ⟨R.flatten, 50, some 104⟩) ∧ A = B ++ [some ⟨row, 50, some 104⟩]
   | _ => Low L0 G3 A ∧ NewG n A (.slice (some ⟨N2 + 1, 0, none⟩) (l.length + 1) (l.length + 1)) (l ++ [addD l id o]), fun _ => Iff.rfl, fun _ => Iff.rfl, fun _ => Iff.rfl, fun _ => Iff.rfl, fun _ => Iff.rfl, fun s A h => ?_⟩
  match s, h with
  | 0, h => cases h; rw [hL0]; exact Low.refl (Nat.le_refl _)
  | 1, h => exact h.2.1
  | 2, h => exact h.2.1
  | 3, ⟨B, h, hA⟩ => rw [hA]; exact ⟨fun j hj => (hget_left (by have := h.2.1.2; omega)).trans (h.2.1.1 j hj), by have := h.2.1.2; rw [List.length_append]; omega⟩
  | s + 4, h => exact h.1
 refine aw_chain (fun j => j == n || j == n + 1) Φ (by kernel_rfl) (by kernel_rfl) (by kernel_rfl) (fun s A h j hj => by
  have e : j = n ∨ j = n + 1 := by simpa using hj
  exact (eS s A h).1 j (by omega)) ((e0 _).2 rfl) (fun K hK => ?_)
 simp (disch := first | omega | (simp only [lnS]; try omega)) [-getElem?_pos, -getElem?_neg, q0, q4, q5, q8, d4, d5, hivl, hta, hul, htu, -notTuple, hnt, hvc, v1, v2, nt_intG, nt_aggG, nt_slG, CL_nil, CL_cons, CLc_val, CLc_skip, memS, inS, inSp, isCallH, isCallU, isCallF, calleeH_f, calleeH_t, effF]
 refine CLc_call (v := .slice (some ⟨L0, 0, none⟩) l.length l.length) (by kernel_rfl) (fun A hA => ?_) ?_
 ·obtain rfl := (e0 _).1 hA
  exact hcN.mono fun v' A' h => ⟨h.1, (e1 _).2 h.2⟩
 try simp (disch := first | omega | (simp only [lnS]; try omega)) [-getElem?_pos, -getElem?_neg, q0, q4, q5, q8, d4, d5, hivl, hta, hul, htu, -notTuple, hnt, hvc, v1, v2, nt_intG, nt_aggG, nt_slG, CL_nil, CL_cons, CLc_val, CLc_skip, memS, inS, inSp, isCallH, isCallU, isCallF, calleeH_f, calleeH_t, effF]
 refine CLc_call (v := .agg ov.toArray) (by kernel_rfl) (fun A hA => ?_) ?_
 ·obtain ⟨g1, g2, R, g3, g4⟩ := (e1 _).1 hA
  refine (hcO A g1 g2).mono ?_
  rintro v' A' ⟨k1, k2, k3, k4⟩
  rw [g1] at k1 k2 k3 k4
  have hL0A := hget_lt g4
  refine ⟨by rw [hov]; exact k1, (e2 _).2 ⟨by omega, ⟨fun j hj => (k3.1 j (by omega)).trans (g2.1 j hj), by have := k3.2; omega⟩, by omega, k4, R, g3.keep (fun j _ hj => k3.1 j (by omega)) (by have := k3.2; omega), (k3.1 L0 (by omega)).trans g4⟩⟩
 try simp (disch := first | omega | (simp only [lnS]; try omega)) [-getElem?_pos, -getElem?_neg, q0, q4, q5, q8, d4, d5, hivl, hta, hul, htu, -notTuple, hnt, hvc, v1, v2, nt_intG, nt_aggG, nt_slG, -xbuild, hbl, CL_nil, CL_cons, CLc_val, CLc_skip, memS, inS, inSp, isCallH, isCallU, isCallF, calleeH_f, calleeH_t, effF]
 have hfil : ∀ Z : List Value, Z.length = 104 → xfill (fun i => some (i * 104, 104)) Z [(0, .agg row.toArray)] = some row := fun Z hZ => fill_row hrl hZ
 have hp0 : plain1 (.slice none 0 0) = true := rfl
 refine CLc_eff (v := .slice (some ⟨N2, 0, none⟩) 1 1) (fun A hA => ?_) ?_
 ·have hA' := (e2 _).1 hA
  refine ⟨A ++ [some ⟨row, 50, some 104⟩], ?_, (e3 _).2 ⟨A, hA, rfl⟩⟩
  have g1 := hA'.1
  simp (disch := first | omega | (simp only [lnS]; try omega)) [-getElem?_pos, -getElem?_neg, -xfill, nt_aggG, hp0, all_zl, g1]
  rw [hfil _ (by simp)]
 try simp (disch := first | omega | (simp only [lnS]; try omega)) [-getElem?_pos, -getElem?_neg, CL_nil, CL_cons, CLc_val, CLc_skip, memS, inS, inSp, isCallH, isCallU, isCallF, calleeH_f, calleeH_t, effF]
 refine CLc_eff (v := .slice (some ⟨N2 + 1, 0, none⟩) (l.length + 1) (l.length + 1)) (fun A hA => ?_) ?_
 ·obtain ⟨B, hB, rfl⟩ := (e3 _).1 hA
  obtain ⟨g1, g2, hLN, g3, R, g4, g5⟩ := (e2 _).1 hB
  have hL0B := hget_lt g5
  have hRl := fl_len g4.len
  rw [g4.1] at hRl
  have htr : List.take 104 row = row := List.take_of_length_le (by omega)
  have hxc : xcells 104 (.slice (some ⟨N2, 0, none⟩) 1 1) (B ++ [some ⟨row, 50, some 104⟩]) = some row := by rw [← g1]; simp [xcells, hget_app0, hrl, htr]
  obtain ⟨v', H', hap, ho, hl', hk'⟩ := ownF_append (P := Try.prog) (nro := n) (t := 22) (e := 50) (H := B ++ ([some ⟨row, 50, some 104⟩] : AH)) (v := .slice (some ⟨L0, 0, none⟩) l.length l.length) (x := .slice (some ⟨N2, 0, none⟩) 1 1) (sz := 104) (cells := R.flatten) (news := row) (F := [L0]) (by simp) (by simp) (by omega) (by simp) (.inr ⟨L0, l.length, rfl, hget_left' g5, hRl, rfl⟩)
   (fun j hj => by simp at hj; omega) (fun s e => by cases e) hxc (fun e => by rw [e] at hrl; simp at hrl) (by rw [hrl]) (by rw [hRl, hrl]; simp; omega) (by rw [hRl, hrl]; simp only [maxLen]; omega)
  have hBl : (B ++ ([some ⟨row, 50, some 104⟩] : AH)).length = N2 + 1 := by simp [g1]
  rw [hBl] at ho hl' hk'
  obtain ⟨len, rfl⟩ := ho.new
  have hlen : len = l.length + 1 := by
   rcases ho with ⟨h, _, _⟩ | ⟨i, k, he, _, h3, _⟩
   ·cases h
   ·cases he
    rw [List.length_append, hRl, hrl] at h3
    omega
  subst hlen
  have hnew : hget H' (N2 + 1) = some ⟨R.flatten ++ row, 50, some 104⟩ := by
   rcases ho with ⟨h, _, _⟩ | ⟨i, k, he, h2, _, _⟩
   ·cases h
   ·cases he; exact h2
  have hold : ∀ j, j < N2 → j ≠ L0 → hget H' j = hget B j := fun j hj hn => (hk' j (by omega) (by simpa using hn)).trans (hget_left (by omega))
  refine ⟨H', ?_, (e4 _).2 ⟨⟨fun j hj => (hold j (by omega) (by omega)).trans (g2.1 j hj), by omega⟩, fun D hD => ?_⟩⟩
  ·simp (disch := first | omega | (simp only [lnS]; try omega)) [-getElem?_pos, -getElem?_neg, -xappend, hap]
  ·have hD2 : ∀ j, n ≤ j → j < N2 → j ≠ L0 → hget D j = hget B j := fun j h1 h2 h3 => (hD j h1 (by omega)).trans (hold j h2 h3)
   obtain ⟨k1, k2, k3⟩ := g3 D (fun j h1 h2 => hD2 j (by omega) (by omega) (by omega))
   have ho2 := hown0.low (H' := D) (fun j hj => (hD2 j (by have := hFn j hj; omega) (by have := hFl j hj; omega) (by have := hFl j hj; omega)).trans (g2.1 j (by have := hFl j hj; omega)))
   have hrow2 := hrv D k1 k2 k3 (own_inv ho2)
   have hfin := rows_val (D := D) (b := N2 + 1) (T := 50) (es := some 104) (R := R ++ [row]) (L := l ++ [addD l id o]) (by rw [hD (N2 + 1) (by omega) (by omega), hnew]; simp) (by simp [g4.1]) hwfx (fun k us' x hk hx => by
    rcases Nat.lt_or_ge k l.length with hkl | hkl
    ·rw [List.getElem?_append_left (by rw [g4.1]; exact hkl)] at hk
     rw [List.getElem?_append_left hkl] at hx
     have := g4.2 k us' x hk hx
     exact ⟨this.1, this.2 D (fun j h1 h2 => hD2 j (by omega) (by omega) (by omega))⟩
    ·rw [List.getElem?_append_right (by rw [g4.1]; exact hkl), g4.1] at hk
     rw [List.getElem?_append_right hkl] at hx
     match k - l.length, hk, hx with
     | 0, hk, hx => cases hk; cases hx; exact ⟨hrl, hrow2⟩)
   rw [List.length_append] at hfin
   exact hfin
 try simp (disch := first | omega | (simp only [lnS]; try omega)) [-getElem?_pos, -getElem?_neg, CL_nil, CL_cons, CLc_val, CLc_skip, memS, inS, inSp, isCallH, isCallU, isCallF, calleeH_f, calleeH_t, effF]
 intro A hA
 obtain ⟨g1, g2⟩ := (e4 _).1 hA
 refine hK _ _ ?_; clear hK K
 (refine aw_ret ?_; simp (disch := first | omega | (simp only [lnS]; try omega)) [-getElem?_pos, -getElem?_neg, thenQ_ret, scopeQ_ret, inBlockQ_ret, RQ, resL, resV])
 refine ⟨⟨fun j hj => (g1.1 j (by omega)).trans (hlowG1.1 j (by omega)), by have := g1.2; omega⟩, _, by rw [hadd0], .inl ⟨hadd0, hn ▸ g2⟩⟩
end
section
theorem opC_row {G : AH} {o : OpD} {pv wv bv : Value} (hw : o.Wf) (h1 : KsV G pv o.parents) (h2 : InV G wv o.who) (h3 : BxV G bv o.boxes) : OpC G (opRow o pv wv bv) o pv wv bv := by
 obtain ⟨pv', wv', bv', h⟩ := op_c hw (op_val h1 h2 h3)
 have e2 := h.c2
 have e4 := h.c4
 have e70 := h.c70
 rw [opRow_2] at e2
 rw [opRow_4] at e4
 rw [opRow_70 hw] at e70
 cases e2; cases e4; cases e70
 exact h
def key1 (x : Int) : List Int := x :: zl 31
def opC1 (a s k : Int) (ps : List (List Int)) (who : List Int) : OpD := ⟨a, s, ps, k, who, zl 32, key1 1, ByteArray.empty, []⟩
theorem key1_32 (x : Int) : (key1 x).length = 32 := by simp [key1]
theorem key1_ok {x : Int} (h : 0 ≤ x ∧ x ≤ 255) : Key32 (key1 x) := ⟨key1_32 x, fun y hy => by
 rcases List.mem_cons.1 hy with rfl | hy
 ·exact h
 ·have : y = 0 := by
   unfold zl at hy
   exact (List.mem_replicate.1 hy).2
  omega⟩
theorem build_key (x : Int) : xbuild Try.prog 38 [(0, .int .u8 x)] = some (.agg (iv .u8 (key1 x)).toArray) := by
 kernel_rfl
theorem opRow_c1 (a s k : Int) (ps : List (List Int)) (who : List Int) (pv wv bv : Value) : opRow (opC1 a s k [] []) pv wv bv = opRow (opC1 a s k ps who) pv wv bv := rfl
attribute [local simp] wb_bool wb_undef with_lit XL_nil XL_cons XLc_val XLc_call step1_eq stepW_t stepW_f stepC_n stepC_s stepX_s stepX_n stepN_s calleeX oneV xop_eq xopR_s xopR_n wantedA_eq wantedG_n wantedG_s plain1_int plain1_bool plain1_string bits_i64 bits_u64 bits_u32 bits_u16 bits_u8 xeqA xagg xcmp xarr allK_iv num_iv calleeOf xread xeff xbin xint xnil xun xstr xload xconv xpart xfield xfieldAddr xindexAddr xindex bnd asInt? xslice xlen xmin xmax xbuild xfill xappend xapp2 xappstr xappmk xcap xcopy xcells eval_tmp eval_const put_at put_none fr0_at cells_agg cells_int cells_bool cells_string cells_ptr cells_slice notTuple tab iv_all hget_app hget_app0 hget_cons0 hget_cons set_app set_app0 setR setR_one QL_nil QL_cons QLc_val stepQ_t stepQ_f stepQC_n stepQC_s stepQX_s SL_nil SL_cons SLc_val stepS_t stepS_f ltT ltF leT leF eqT eqF ltTn ltFn leTn leFn eqTn eqFn beqT beqF bneT bneF wi64 wu64 wu32 wu16 wu8 tmodP tdivP hgetL hgetNe hgetEq setL nums_def nums_len Nat.succ_le_of_lt List.getElem?_cons_zero List.getElem?_cons_succ Option.getD_some Int.toNat_add Int.toNat_mul agM okM agB agI agS agP agL agA okB okI okS okP okSl okA
theorem opC1_wf {a s k : Int} {ps : List (List Int)} {who : List Int} (ha : I64 a) (hs : U32 s) (hk : I64 k) (hp : ∀ p ∈ ps, Key32 p) (hpl : ps.length ≤ 100) (hw : ∀ z ∈ who, I64 z) (hwl : who.length ≤ 100) : (opC1 a s k ps who).Wf := by
 refine ⟨ha, hs, hp, by simp only [maxLen]; show ps.length ≤ _; omega, hk, hw, by simp only [maxLen]; show who.length ≤ _; omega, ⟨by simp [opC1], fun y hy => ?_⟩, key1_ok (by omega), by simp [opC1], fun b hb => (by cases hb), by simp [opC1]⟩
 have : y = 0 := (List.mem_replicate.1 hy).2
 omega
theorem NewG.nda {n : Nat} {H G : AH} {v : Value} {l : List NodeD} (h : NewG n H v l) (hw : ∀ x ∈ l, x.Wf) (hk : KeepN n H G) : NdA G v l := (h G hk).nda hw
theorem nil_nda (H : AH) : NdA H (.slice none 0 0) [] := NdV.nda (CD.Val.nil (fun x e => by cases e)) (fun x hx => by cases hx)
theorem AddQ.zero {l : List NodeD} {id : List Int} {o : OpD} {H : AH} {v' : Value} {H' : AH} {L : List NodeD} (h : AddQ l id o H v' H') (hz : addE l id o = 0 ∧ l ++ [addD l id o] = L) : Low H.length H H' ∧ ∃ sv, v' = .tuple #[sv, .int .i64 0] ∧ NewG H.length H' sv L := by
 obtain ⟨h1, sv, h2, h3⟩ := h
 rw [hz.1] at h2
 refine ⟨h1, sv, h2, ?_⟩
 rcases h3 with ⟨_, h3⟩ | ⟨h3, _⟩
 ·rw [← hz.2]; exact h3
 ·exact absurd hz.1 h3
theorem NewG.sh {n : Nat} {H : AH} {v : Value} {l : List NodeD} (h : NewG n H v l) : notTuple v = true ∧ v.cells = #[v] := val_nt (h H (fun _ _ _ => rfl))
theorem kr_ksv {G : AH} {v : Value} {F : List Nat} {ps : List (List Int)} (h : OwnF G v 38 32 (kr ps) F) (hk : K32 ps) : KsV G v ps := by
 rw [← ksC_kr] at h
 exact own_val (by omega) h (kd_len hk) (kd_flat ps)
end
section
theorem nodes_in {H : AH} {ds : List CD} {u : Value} (ho : OkL [.sl nodeK] ds) (hv : ValL H ds [u]) : ∃ l, NdV H u l ∧ (∀ x ∈ l, x.Wf) ∧ l.length ≤ maxLen := by
 obtain ⟨d, r, rfl, h1, h2⟩ := ho.cons
 obtain rfl := h2.nil
 obtain ⟨l, rfl, h3, h4⟩ := nodes_of h1
 obtain ⟨u', r', e, h5, h6⟩ := hv.cons
 cases e
 exact ⟨l, h5, h3, h4⟩
theorem op_in {H : AH} {ds : List CD} {us : List Value} (ho : OkL opK ds) (hv : ValL H ds us) : ∃ o pv wv bv, OpC H us o pv wv bv ∧ o.Wf := by
 obtain ⟨o, rfl, hw⟩ := op_of ho
 obtain ⟨pv, wv, bv, h⟩ := op_c hw hv
 exact ⟨o, pv, wv, bv, h, hw⟩
section
variable {l : List NodeD}
theorem ahead_iff {a b : Int} : aheadB l a b = true ↔ ∃ i j : Nat, a = i ∧ b = j ∧ i < l.length ∧ j < l.length ∧ rightG l = true ∧ (i : Int) ∈ (nd l j).past := by
 unfold aheadB pastAt
 simp only [Bool.and_eq_true, decide_eq_true_eq]
 constructor
 ·rintro ⟨h1, h2, h3, h4⟩
  obtain ⟨i, rfl, hi⟩ := isP_nat h1
  obtain ⟨j, rfl, hj⟩ := isP_nat h2
  exact ⟨i, j, rfl, rfl, hi, hj, h3, h4⟩
 ·rintro ⟨i, j, rfl, rfl, hi, hj, h3, h4⟩
  refine ⟨?_, ?_, h3, h4⟩
  ·unfold isP; simp [hi]
  ·unfold isP; simp [hj]
end
end
section
def Fun1 (γ : Nat → Option Nat) (H : AH) (f : Nat) (cs : Array Value) (P : Int → Bool) : Prop := callable Try.prog f = true ∧ ∀ (G : AH) (z : Int), Low H.length H G → AC Try.prog G.length γ f (#[.int .i64 z] ++ cs) G (fun v' _ => v' = .bool (P z))
def Grp (γ : Nat → Option Nat) (H : AH) (v : Value) (P : Int → Bool) : Prop := ∃ f cs, v = .agg #[.func (.func f) #[] cs] ∧ Fun1 γ H f cs P
theorem Low.both {A B C : AH} (h : Low A.length A B) (k : Low B.length B C) : Low A.length A C := ⟨fun j hj => (k.1 j (by have := h.2; omega)).trans (h.1 j hj), by have := h.2; have := k.2; omega⟩
theorem Fun1.low {γ : Nat → Option Nat} {H H' : AH} {f : Nat} {cs : Array Value} {P : Int → Bool} (h : Fun1 γ H f cs P) (hl : Low H.length H H') : Fun1 γ H' f cs P := ⟨h.1, fun G z hg => h.2 G z (hl.both hg)⟩
theorem Grp.low {γ : Nat → Option Nat} {H H' : AH} {v : Value} {P : Int → Bool} (h : Grp γ H v P) (hl : Low H.length H H') : Grp γ H' v P := by
 obtain ⟨f, cs, e, hf⟩ := h
 exact ⟨f, cs, e, hf.low hl⟩
theorem any_first {n : Nat} {p : Nat → Bool} : decide (0 ≤ firstI n p) = (List.range n).any p := by
 rw [Bool.eq_iff_iff, decide_eq_true_eq, firstI_ge, List.any_eq_true]
 exact ⟨fun ⟨k, h1, h2⟩ => ⟨k, List.mem_range.2 h1, h2⟩, fun ⟨k, h1, h2⟩ => ⟨k, List.mem_range.1 h1, h2⟩⟩
theorem any_getD {l : List Int} {P : Int → Bool} : ((List.range l.length).any fun i => P (l.getD i 0)) = l.any P := by
 rw [Bool.eq_iff_iff, List.any_eq_true, List.any_eq_true]
 constructor
 ·rintro ⟨i, hi, hp⟩
  rw [List.mem_range] at hi
  rw [List.getD_eq_getElem?_getD, List.getElem?_eq_getElem hi] at hp
  exact ⟨l[i], List.getElem_mem hi, hp⟩
 ·rintro ⟨x, hx, hp⟩
  obtain ⟨i, hi, rfl⟩ := List.mem_iff_getElem.1 hx
  refine ⟨i, List.mem_range.2 hi, ?_⟩
  rwa [List.getD_eq_getElem?_getD, List.getElem?_eq_getElem hi]
attribute [local simp] wb_bool wb_undef with_lit XL_nil XL_cons XLc_val XLc_call step1_eq stepW_t stepW_f stepC_n stepC_s stepX_s stepX_n stepN_s calleeX oneV xop_eq xopR_s xopR_n wantedA_eq wantedG_n wantedG_s plain1_int plain1_bool plain1_string bits_i64 bits_u64 bits_u32 bits_u16 bits_u8 xeqA xagg xcmp xarr allK_iv num_iv calleeOf xread xeff xbin xint xnil xun xstr xload xconv xpart xfield xfieldAddr xindexAddr xindex bnd asInt? xslice xlen xmin xmax xbuild xfill xappend xapp2 xappstr xappmk xcap xcopy xcells eval_tmp eval_const put_at put_none fr0_at cells_agg cells_int cells_bool cells_string cells_ptr cells_slice notTuple tab iv_all hget_app hget_app0 hget_cons0 hget_cons set_app set_app0 setR setR_one QL_nil QL_cons QLc_val stepQ_t stepQ_f stepQC_n stepQC_s stepQX_s SL_nil SL_cons SLc_val stepS_t stepS_f ltT ltF leT leF eqT eqF ltTn ltFn leTn leFn eqTn eqFn beqT beqF bneT bneF wi64 wu64 wu32 wu16 wu8 tmodP tdivP hgetL hgetNe hgetEq setL nums_def nums_len Nat.succ_le_of_lt List.getElem?_cons_zero List.getElem?_cons_succ Option.getD_some Int.toNat_add Int.toNat_mul agM okM agB agI agS agP agL agA okB okI okS okP okSl okA
theorem indexI_rc {γ : Nat → Option Nat} {H : AH} {v : Value} {l : List Int} (h : InV H v l) (hm : l.length ≤ maxLen) {f : Nat} {cs : Array Value} {p : Nat → Bool} (hcal : callable Try.prog f = true)
  (hf : ∀ (G : AH) (i : Nat), Low H.length H G → i < l.length → AC Try.prog G.length γ f (#[.int .i64 (l.getD i 0)] ++ cs) G (fun v' _ => v' = .bool (p i))) :
  AC Try.prog H.length γ 145 #[v, .func (.func f) #[] cs] H (fun v' _ => v' = .int .i64 (firstI l.length p)) := by
 have hacc := h.acc
 have hnt := hacc.nt
 have hvc := hacc.cs
 have hxl := hacc.len
 have hm63 : l.length ≤ 9223372036854775807 := by simp only [maxLen] at hm; omega
 have hfn : notTuple (.func (.func f) #[] cs) = true := rfl
 have hfc : (Value.func (.func f) #[] cs).cells = #[.func (.func f) #[] cs] := rfl
 refine ac_of_aw Try.func145 rfl Try.ntmps145 Try.results145 (by simp) ?_
 refine aw_seq ?_
 (refine aw_ops (by kernel_rfl) (fun K hK => ?_); simp (disch := first | omega | (simp only [lnS]; try omega)) [-getElem?_pos, -getElem?_neg]; refine hK _ _ ?_; clear hK K)
 refine aw_seq ?_
 refine aw_seq ?_
 (refine aw_ops (by kernel_rfl) (fun K hK => ?_); simp (disch := first | omega | (simp only [lnS]; try omega)) [-getElem?_pos, -getElem?_neg, -notTuple, hnt, hvc, nt_intG, -xlen, hxl]; refine hK _ _ ?_; clear hK K)
 refine aw_block ?_
 refine aw_loop (fun c α G => ∃ i : Nat, i + c = l.length ∧ Low H.length H G ∧ α 0 = v ∧ α 1 = .func (.func f) #[] cs ∧ α 7 = .int .i64 (l.length : Nat) ∧ α 8 = .int .i64 (i : Nat) ∧ ∀ k, k < i → p k = false) l.length ?_ ?_
 ·exact ⟨0, by omega, Low.refl (Nat.le_refl _), by (first | (simp [put_at, put_none, fr0_at]; done) | rfl), by (first | (simp [put_at, put_none, fr0_at]; done) | rfl), by (first | (simp [put_at, put_none, fr0_at]; done) | rfl), by (first | (simp [put_at, put_none, fr0_at]; done) | rfl), fun k hk => by omega⟩
 rintro c α G ⟨i, hic, hlow, h0, h1, h7, h8, hpre⟩
 refine aw_seq ?_
 by_cases hi : i < l.length
 case neg =>
  (refine aw_ops (by kernel_rfl) (fun K hK => ?_); simp (disch := first | omega | (simp only [lnS]; try omega)) [-getElem?_pos, -getElem?_neg, h7, h8, hi]; refine hK _ _ ?_; clear hK K)
  refine aw_seq ?_
  refine aw_f (by (first | (simp [eval_tmp, put_at, hi]; done) | (simp [eval_tmp, put_at, hi]; omega))) (by kernel_rfl) ?_
  refine aw_exit ?_
  refine aw_seq ?_
  (refine aw_ops (by kernel_rfl) (fun K hK => ?_); simp (disch := first | omega | (simp only [lnS]; try omega)) [-getElem?_pos, -getElem?_neg]; refine hK _ _ ?_; clear hK K)
  (refine aw_ret ?_; simp (disch := first | omega | (simp only [lnS]; try omega)) [-getElem?_pos, -getElem?_neg, thenQ_ret, scopeQ_ret, inBlockQ_ret, RQ, resL, resV])
  exact (firstI_none (fun k hk => hpre k (by omega))).symm
 obtain ⟨q, x, r1, r2, r3, r4, r5⟩ := hacc.at_ i hi
 have r5 := r5 G hlow
 subst r4
 have hc := hf G i hlow hi
 obtain ⟨z, hz⟩ : ∃ z, z = l.getD i 0 := ⟨_, rfl⟩
 rw [← hz] at hc r5
 (refine aw_ops (by kernel_rfl) (fun K hK => ?_); simp (disch := first | omega | (simp only [lnS]; try omega)) [-getElem?_pos, -getElem?_neg, h7, h8, hi]; refine hK _ _ ?_; clear hK K)
 refine aw_seq ?_
 refine aw_t (by (first | (simp [eval_tmp, put_at, hi]; done) | (simp [eval_tmp, put_at, hi]; omega))) (by kernel_rfl) ?_
 refine aw_skip ?_
 refine aw_seq ?_
 refine aw_block ?_
 refine aw_seq ?_
 (refine aw_ops (by kernel_rfl) (fun K hK => ?_); simp (disch := first | omega | (simp only [lnS]; try omega)) [-getElem?_pos, -getElem?_neg, h8]; refine hK _ _ ?_; clear hK K)
 refine aw_seq ?_
 refine aw_ops (by kernel_rfl) (fun K hK => ?_)
 simp (disch := first | omega | (simp only [lnS]; try omega)) [-getElem?_pos, -getElem?_neg, h0, h1, -notTuple, hnt, hvc, hfn, hfc, nt_intG, r1, -xindexAddr, r2, -xload, r5]
 refine ⟨hcal, ac_of_rc hc (by simp [pv_iv, pv_int, pv_bool, pv_string, pv_tup2, pv_tup3, iv_plain, p2_int, p2_bool, p2_string]) ?_⟩
 cases hp : p i with
 | true =>
  try simp (disch := first | omega | (simp only [lnS]; try omega)) [-getElem?_pos, -getElem?_neg]
  refine hK _ _ ?_; clear hK K
  refine aw_t (by (first | (simp [eval_tmp, put_at]; done) | (simp [eval_tmp, put_at]; omega))) (by kernel_rfl) ?_
  refine aw_seq ?_
  (refine aw_ops (by kernel_rfl) (fun K hK => ?_); simp (disch := first | omega | (simp only [lnS]; try omega)) [-getElem?_pos, -getElem?_neg]; refine hK _ _ ?_; clear hK K)
  (refine aw_ret ?_; simp (disch := first | omega | (simp only [lnS]; try omega)) [-getElem?_pos, -getElem?_neg, thenQ_ret, scopeQ_ret, inBlockQ_ret, RQ, resL, resV])
  exact (firstI_some hi hpre hp).symm
 | false =>
  try simp (disch := first | omega | (simp only [lnS]; try omega)) [-getElem?_pos, -getElem?_neg]
  refine hK _ _ ?_; clear hK K
  refine aw_f (by (first | (simp [eval_tmp, put_at]; done) | (simp [eval_tmp, put_at]; omega))) (by kernel_rfl) ?_
  refine aw_skip ?_
  (refine aw_ops (by kernel_rfl) (fun K hK => ?_); simp (disch := first | omega | (simp only [lnS]; try omega)) [-getElem?_pos, -getElem?_neg, h8]; refine hK _ _ ?_; clear hK K)
  refine ⟨c - 1, by omega, i + 1, by omega, hlow, by (first | (simp [put_at, put_none, fr0_at, h0]; done) | rfl), by (first | (simp [put_at, put_none, fr0_at, h1]; done) | rfl), by (first | (simp [put_at, put_none, fr0_at, h7]; done) | rfl), by (first | (simp [put_at, put_none, fr0_at]; done) | rfl), fun k hk => ?_⟩
  by_cases e : k = i
  ·subst e; exact hp
  ·exact hpre k (by omega)
theorem anyI_rc {γ : Nat → Option Nat} {H : AH} {v : Value} {l : List Int} (h : InV H v l) (hm : l.length ≤ maxLen) {f : Nat} {cs : Array Value} {P : Int → Bool} (hcal : callable Try.prog f = true)
  (hf : ∀ (G : AH) (z : Int), Low H.length H G → z ∈ l → AC Try.prog G.length γ f (#[.int .i64 z] ++ cs) G (fun v' _ => v' = .bool (P z))) :
  AC Try.prog H.length γ 106 #[v, .func (.func f) #[] cs] H (fun v' _ => v' = .bool (l.any P)) := by
 have hacc := h.acc
 have hnt := hacc.nt
 have hvc := hacc.cs
 have hfn : notTuple (.func (.func f) #[] cs) = true := rfl
 have hfc : (Value.func (.func f) #[] cs).cells = #[.func (.func f) #[] cs] := rfl
 have hix := indexI_rc (γ := γ) h hm (p := fun i => P (l.getD i 0)) hcal (fun G i hg hi => hf G _ hg (by
  rw [List.getD_eq_getElem?_getD, List.getElem?_eq_getElem hi]
  exact List.getElem_mem hi))
 have hb := firstI_bd (n := l.length) (p := fun i => P (l.getD i 0))
 rw [← any_getD, ← any_first]
 generalize firstI l.length (fun i => P (l.getD i 0)) = r at *
 refine ac_of_aw Try.func106 rfl Try.ntmps106 Try.results106 (by simp) ?_
 refine aw_seq ?_
 (refine aw_ops (by kernel_rfl) (fun K hK => ?_); simp (disch := first | omega | (simp only [lnS]; try omega)) [-getElem?_pos, -getElem?_neg]; refine hK _ _ ?_; clear hK K)
 refine aw_seq ?_
 refine aw_ops (by kernel_rfl) (fun K hK => ?_)
 simp (disch := first | omega | (simp only [lnS]; try omega)) [-getElem?_pos, -getElem?_neg, -notTuple, hnt, hvc, hfn, hfc, nt_intG]
 refine ⟨by kernel_rfl, ac_of_rc hix (by simp [pv_iv, pv_int, pv_bool, pv_string, pv_tup2, pv_tup3, iv_plain, p2_int, p2_bool, p2_string]) ?_⟩
 by_cases h0 : 0 ≤ r
 ·simp (disch := first | omega | (simp only [lnS]; try omega)) [-getElem?_pos, -getElem?_neg, h0]
  refine hK _ _ ?_; clear hK K
  (refine aw_ret ?_; simp (disch := first | omega | (simp only [lnS]; try omega)) [-getElem?_pos, -getElem?_neg, thenQ_ret, scopeQ_ret, inBlockQ_ret, RQ, resL, resV, h0])
 ·simp (disch := first | omega | (simp only [lnS]; try omega)) [-getElem?_pos, -getElem?_neg, h0]
  refine hK _ _ ?_; clear hK K
  (refine aw_ret ?_; simp (disch := first | omega | (simp only [lnS]; try omega)) [-getElem?_pos, -getElem?_neg, thenQ_ret, scopeQ_ret, inBlockQ_ret, RQ, resL, resV, h0])
theorem cless_vc (a b : Int) : VC Try.prog 143 #[.int .i64 a, .int .i64 b] (.bool (decide (a < b))) := by
 refine vc_of_ac (by simp [pv_iv, pv_int, pv_bool, pv_string, pv_tup2, pv_tup3, iv_plain, p2_int, p2_bool, p2_string]) (by simp [pv_iv, pv_int, pv_bool, pv_string, pv_tup2, pv_tup3, iv_plain, p2_int, p2_bool, p2_string]) ?_
 refine ac_of_aw Try.func143 rfl Try.ntmps143 Try.results143 (by simp) ?_
 refine aw_seq ?_
 (refine aw_ops (by kernel_rfl) (fun K hK => ?_); simp (disch := first | omega | (simp only [lnS]; try omega)) [-getElem?_pos, -getElem?_neg]; refine hK _ _ ?_; clear hK K)
 refine aw_seq ?_
 refine aw_ops (by kernel_rfl) (fun K hK => ?_)
 simp (disch := first | omega | (simp only [lnS]; try omega)) [-getElem?_pos, -getElem?_neg]
 refine ⟨by kernel_rfl, ac_of_vc (by simp [pv_iv, pv_int, pv_bool, pv_string, pv_tup2, pv_tup3, iv_plain, p2_int, p2_bool, p2_string]) (isNaN_vc a) ?_⟩
 by_cases h : a < b
 ·simp (disch := first | omega | (simp only [lnS]; try omega)) [-getElem?_pos, -getElem?_neg, h]
  refine hK _ _ ?_; clear hK K
  (refine aw_ret ?_; simp (disch := first | omega | (simp only [lnS]; try omega)) [-getElem?_pos, -getElem?_neg, thenQ_ret, scopeQ_ret, inBlockQ_ret, RQ, resL, resV, h])
 ·simp (disch := first | omega | (simp only [lnS]; try omega)) [-getElem?_pos, -getElem?_neg, h]
  refine hK _ _ ?_; clear hK K
  (refine aw_ret ?_; simp (disch := first | omega | (simp only [lnS]; try omega)) [-getElem?_pos, -getElem?_neg, thenQ_ret, scopeQ_ret, inBlockQ_ret, RQ, resL, resV, h])
theorem snan_vc (a : Int) : VC Try.prog 144 #[.int .i64 a] (.bool false) := by
 refine vc_of_ac (by simp [pv_iv, pv_int, pv_bool, pv_string, pv_tup2, pv_tup3, iv_plain, p2_int, p2_bool, p2_string]) (by simp [pv_iv, pv_int, pv_bool, pv_string, pv_tup2, pv_tup3, iv_plain, p2_int, p2_bool, p2_string]) ?_
 refine ac_of_aw Try.func144 rfl Try.ntmps144 Try.results144 (by simp) ?_
 refine aw_seq ?_
 (refine aw_ops (by kernel_rfl) (fun K hK => ?_); simp (disch := first | omega | (simp only [lnS]; try omega)) [-getElem?_pos, -getElem?_neg]; refine hK _ _ ?_; clear hK K)
 refine aw_seq ?_
 (refine aw_ops (by kernel_rfl) (fun K hK => ?_); simp (disch := first | omega | (simp only [lnS]; try omega)) [-getElem?_pos, -getElem?_neg]; refine hK _ _ ?_; clear hK K)
 (refine aw_ret ?_; simp (disch := first | omega | (simp only [lnS]; try omega)) [-getElem?_pos, -getElem?_neg, thenQ_ret, scopeQ_ret, inBlockQ_ret, RQ, resL, resV])
def Inc (l : List Int) : Prop := l.Pairwise (· < ·)
theorem Inc.at_ {l : List Int} (h : Inc l) {i j : Nat} (hij : i < j) (hj : j < l.length) : l.getD i 0 < l.getD j 0 := by
 rw [List.getD_eq_getElem?_getD, List.getD_eq_getElem?_getD, List.getElem?_eq_getElem hj, List.getElem?_eq_getElem (by omega)]
 exact List.pairwise_iff_getElem.1 h i j (by omega) hj hij
theorem Inc.le {l : List Int} (h : Inc l) {i j : Nat} (hij : i ≤ j) (hj : j < l.length) : l.getD i 0 ≤ l.getD j 0 := by
 rcases Nat.eq_or_lt_of_le hij with rfl | hlt
 ·exact Int.le_refl _
 ·exact Int.le_of_lt (h.at_ hlt hj)
theorem inc_find {l : List Int} (h : Inc l) {z : Int} {i : Nat} (hi : i ≤ l.length) (hlo : ∀ k, k < i → l.getD k 0 < z) (hhi : ∀ k, i ≤ k → k < l.length → z ≤ l.getD k 0) : (i < l.length ∧ l.getD i 0 = z) ↔ z ∈ l := by
 rw [mem_iff_getD]
 constructor
 ·rintro ⟨h1, h2⟩
  exact ⟨i, h1, by simpa using h2⟩
 ·rintro ⟨k, hk, e⟩
  have e : l.getD k 0 = z := by simpa using e
  rcases Nat.lt_or_ge k i with hlt | hge
  ·have := hlo k hlt; omega
  ·have h1 := hhi i (Nat.le_refl _) (by omega)
   have h2 := h.le hge hk
   exact ⟨by omega, by omega⟩
def posN (l : List Int) (z : Int) : Nat → Nat
 | 0 => 0
 | n + 1 => posN l z n + if l.getD n 0 < z then 1 else 0
theorem posN_eq {l : List Int} {z : Int} {i : Nat} (hlo : ∀ k, k < i → l.getD k 0 < z) {N : Nat} (hhi : ∀ k, i ≤ k → k < N → z ≤ l.getD k 0) : ∀ n, n ≤ N → posN l z n = min n i := by
 intro n
 induction n with
 | zero => intro _; simp [posN]
 | succ n ih =>
  intro hn
  have ih := ih (by omega)
  unfold posN
  rw [ih]
  by_cases h : n < i
  ·rw [if_pos (hlo n h)]; omega
  ·have := hhi n (by omega) (by omega)
   rw [if_neg (by omega)]; omega
theorem bsearch_rc {γ : Nat → Option Nat} {H : AH} {v : Value} {l : List Int} (h : InV H v l) (hm : l.length ≤ 1000000) (hI : Inc l) (z : Int) : AC Try.prog H.length γ 104 #[v, .int .i64 z] H (fun v' _ => v' = .tuple #[.int .i64 (posN l z l.length : Nat), .bool (decide (z ∈ l))]) := by
 have hacc := h.acc
 have hnt := hacc.nt
 have hvc := hacc.cs
 have hxl := hacc.len
 refine ac_of_aw Try.func104 rfl Try.ntmps104 Try.results104 (by simp) ?_
 refine aw_seq ?_
 (refine aw_ops (by kernel_rfl) (fun K hK => ?_); simp (disch := first | omega | (simp only [lnS]; try omega)) [-getElem?_pos, -getElem?_neg]; refine hK _ _ ?_; clear hK K)
 refine aw_seq ?_
 (refine aw_ops (by kernel_rfl) (fun K hK => ?_); simp (disch := first | omega | (simp only [lnS]; try omega)) [-getElem?_pos, -getElem?_neg, -notTuple, hnt, hvc, nt_intG, -xlen, hxl]; refine hK _ _ ?_; clear hK K)
 refine aw_seq ?_
 (refine aw_ops (by kernel_rfl) (fun K hK => ?_); simp (disch := first | omega | (simp only [lnS]; try omega)) [-getElem?_pos, -getElem?_neg]; refine hK _ _ ?_; clear hK K)
 refine aw_seq ?_
 refine aw_block ?_
 refine aw_loop (fun c α G => ∃ i j : Nat, i + c = j ∧ j ≤ l.length ∧ H = G ∧ α 0 = v ∧ α 1 = .int .i64 z ∧ α 6 = .int .i64 (l.length : Nat) ∧ α 7 = .int .i64 (i : Nat) ∧ α 8 = .int .i64 (j : Nat) ∧ (∀ k, k < i → l.getD k 0 < z) ∧ ∀ k, j ≤ k → k < l.length → z ≤ l.getD k 0) l.length ?_ ?_
 ·exact ⟨0, l.length, by omega, by omega, rfl, by (first | (simp [put_at, put_none, fr0_at]; done) | rfl), by (first | (simp [put_at, put_none, fr0_at]; done) | rfl), by (first | (simp [put_at, put_none, fr0_at]; done) | rfl), by (first | (simp [put_at, put_none, fr0_at]; done) | rfl), by (first | (simp [put_at, put_none, fr0_at]; done) | rfl), fun k hk => by omega, fun k h1 h2 => by omega⟩
 rintro c α _ ⟨i, j, hic, hj, rfl, h0, h1, h6, h7, h8, hlo, hhi⟩
 refine aw_seq ?_
 refine aw_seq ?_
 by_cases hij : i < j
 case neg =>
  obtain rfl : i = j := by omega
  have key := inc_find hI hj hlo hhi
  have hpe : posN l z l.length = i := by rw [posN_eq hlo hhi l.length (Nat.le_refl _)]; omega
  rw [hpe]
  (refine aw_ops (by kernel_rfl) (fun K hK => ?_); simp (disch := first | omega | (simp only [lnS]; try omega)) [-getElem?_pos, -getElem?_neg, h7, h8]; refine hK _ _ ?_; clear hK K)
  refine aw_f (by (first | (simp [eval_tmp, put_at]; done) | (simp [eval_tmp, put_at]; omega))) (by kernel_rfl) ?_
  refine aw_exit ?_
  refine aw_seq ?_
  by_cases hil : i < l.length
  ·obtain ⟨q, x, r1, r2, r3, r4, r5⟩ := hacc.at_ i hil
   have r5 := r5 H (Low.refl (Nat.le_refl _))
   subst r4
   obtain ⟨y, hy⟩ : ∃ y, y = l.getD i 0 := ⟨_, rfl⟩
   rw [← hy] at r5 key
   by_cases hyz : y = z
   ·have hb : (y == z) = true := by simp [hyz]
    (refine aw_ops (by kernel_rfl) (fun K hK => ?_); simp (disch := first | omega | (simp only [lnS]; try omega)) [-getElem?_pos, -getElem?_neg, h0, h1, h6, h7, hil, -notTuple, hnt, hvc, nt_intG, r1, -xindexAddr, r2, -xload, r5, hyz, hb]; refine hK _ _ ?_; clear hK K)
    (refine aw_ret ?_; simp (disch := first | omega | (simp only [lnS]; try omega)) [-getElem?_pos, -getElem?_neg, thenQ_ret, scopeQ_ret, inBlockQ_ret, RQ, resL, resV, hil])
    exact key.1 ⟨hil, hyz⟩
   ·have hb : (y == z) = false := by simp [hyz]
    have hmem : z ∉ l := fun hz => hyz (key.2 hz).2
    refine aw_ops (by kernel_rfl) (fun K hK => ?_)
    simp (disch := first | omega | (simp only [lnS]; try omega)) [-getElem?_pos, -getElem?_neg, h0, h1, h6, h7, hil, -notTuple, hnt, hvc, nt_intG, r1, -xindexAddr, r2, -xload, r5, hyz, hb]
    refine ⟨by kernel_rfl, ac_of_vc (by simp [pv_iv, pv_int, pv_bool, pv_string, pv_tup2, pv_tup3, iv_plain, p2_int, p2_bool, p2_string]) (snan_vc y) ?_⟩
    try simp (disch := first | omega | (simp only [lnS]; try omega)) [-getElem?_pos, -getElem?_neg]
    refine hK _ _ ?_; clear hK K
    (refine aw_ret ?_; simp (disch := first | omega | (simp only [lnS]; try omega)) [-getElem?_pos, -getElem?_neg, thenQ_ret, scopeQ_ret, inBlockQ_ret, RQ, resL, resV, hil, hmem])
  ·have hmem : z ∉ l := fun hz => hil (key.2 hz).1
   (refine aw_ops (by kernel_rfl) (fun K hK => ?_); simp (disch := first | omega | (simp only [lnS]; try omega)) [-getElem?_pos, -getElem?_neg, h0, h1, h6, h7, hil]; refine hK _ _ ?_; clear hK K)
   (refine aw_ret ?_; simp (disch := first | omega | (simp only [lnS]; try omega)) [-getElem?_pos, -getElem?_neg, thenQ_ret, scopeQ_ret, inBlockQ_ret, RQ, resL, resV, hil, hmem])
 (refine aw_ops (by kernel_rfl) (fun K hK => ?_); simp (disch := first | omega | (simp only [lnS]; try omega)) [-getElem?_pos, -getElem?_neg, h7, h8, hij]; refine hK _ _ ?_; clear hK K)
 refine aw_t (by (first | (simp [eval_tmp, put_at, hij]; done) | (simp [eval_tmp, put_at, hij]; omega))) (by kernel_rfl) ?_
 refine aw_skip ?_
 refine aw_block ?_
 refine aw_seq ?_
 obtain ⟨m, hmd⟩ : ∃ m, m = (i + j) / 2 := ⟨_, rfl⟩
 have hfd : ((i : Int) + (j : Int)).fdiv 2 = (m : Int) := by rw [fdivP (by omega)]; omega
 have hmi : i ≤ m := by omega
 have hmj : m < j := by omega
 clear hmd
 (refine aw_ops (by kernel_rfl) (fun K hK => ?_); simp (disch := first | omega | (simp only [lnS]; try omega)) [-getElem?_pos, -getElem?_neg, h7, h8, hfd]; refine hK _ _ ?_; clear hK K)
 obtain ⟨q, x, r1, r2, r3, r4, r5⟩ := hacc.at_ m (by omega)
 have r5 := r5 H (Low.refl (Nat.le_refl _))
 subst r4
 obtain ⟨y, hy⟩ : ∃ y, y = l.getD m 0 := ⟨_, rfl⟩
 rw [← hy] at r5
 refine aw_seq ?_
 refine aw_ops (by kernel_rfl) (fun K hK => ?_)
 simp (disch := first | omega | (simp only [lnS]; try omega)) [-getElem?_pos, -getElem?_neg, h0, h1, -notTuple, hnt, hvc, nt_intG, r1, -xindexAddr, r2, -xload, r5]
 refine ⟨by kernel_rfl, ac_of_vc (by simp [pv_iv, pv_int, pv_bool, pv_string, pv_tup2, pv_tup3, iv_plain, p2_int, p2_bool, p2_string]) (cless_vc y z) ?_⟩
 by_cases hyz : y < z
 ·try simp (disch := first | omega | (simp only [lnS]; try omega)) [-getElem?_pos, -getElem?_neg, hyz]
  refine hK _ _ ?_; clear hK K
  refine aw_t (by (first | (simp [eval_tmp, put_at, hyz]; done) | (simp [eval_tmp, put_at, hyz]; omega))) (by kernel_rfl) ?_
  (refine aw_ops (by kernel_rfl) (fun K hK => ?_); simp (disch := first | omega | (simp only [lnS]; try omega)) [-getElem?_pos, -getElem?_neg]; refine hK _ _ ?_; clear hK K)
  refine ⟨j - (m + 1), by omega, m + 1, j, by omega, hj, rfl, by (first | (simp [put_at, put_none, fr0_at, h0]; done) | rfl), by (first | (simp [put_at, put_none, fr0_at, h1]; done) | rfl), by (first | (simp [put_at, put_none, fr0_at, h6]; done) | rfl), by (first | (simp [put_at, put_none, fr0_at]; done) | rfl), by (first | (simp [put_at, put_none, fr0_at, h8]; done) | rfl), fun k hk => ?_, hhi⟩
  have := hI.le (i := k) (j := m) (by omega) (by omega)
  omega
 ·try simp (disch := first | omega | (simp only [lnS]; try omega)) [-getElem?_pos, -getElem?_neg, hyz]
  refine hK _ _ ?_; clear hK K
  refine aw_f (by (first | (simp [eval_tmp, put_at, hyz]; done) | (simp [eval_tmp, put_at, hyz]; omega))) (by kernel_rfl) ?_
  (refine aw_ops (by kernel_rfl) (fun K hK => ?_); simp (disch := first | omega | (simp only [lnS]; try omega)) [-getElem?_pos, -getElem?_neg]; refine hK _ _ ?_; clear hK K)
  refine ⟨m - i, by omega, i, m, by omega, by omega, rfl, by (first | (simp [put_at, put_none, fr0_at, h0]; done) | rfl), by (first | (simp [put_at, put_none, fr0_at, h1]; done) | rfl), by (first | (simp [put_at, put_none, fr0_at, h6]; done) | rfl), by (first | (simp [put_at, put_none, fr0_at, h7]; done) | rfl), by (first | (simp [put_at, put_none, fr0_at]; done) | rfl), hlo, fun k hk hkl => ?_⟩
  have := hI.le (i := m) (j := k) (by omega) (by omega)
  omega
end
end Go.Proofs.Ytdeccbjdhcifiaa
