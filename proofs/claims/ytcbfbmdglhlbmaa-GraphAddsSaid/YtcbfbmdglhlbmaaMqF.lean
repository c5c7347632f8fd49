/-
  cabalref11.Right: what it asks of an operation.
  slices.Clone at numbers, keys, boxes: what is copied lies in new memory.
  deep.Op: an operation, copied into new memory.
  deep.Nodes: a graph, copied into new memory.
  What holds of right graphs: pasts, authors, heads.
  cabalref15.Right: is it a graph?
  Keys sorted: the insertion sort of the library, for at most twelve of them.
  graph.Heads.
  cabalref15.Heads.
  Boxes, compared.
-/
import Derived.Test.YtcbfbmdglhlbmaaMqE
import Derived.Test.YtcbfbmdglhlbmaaMqB
import Derived.Test.YtcbfbmdglhlbmaaMqC
import Derived.Test.YtcbfbmdglhlbmaaMqD
namespace Go.Proofs.Ytcbfbmdglhlbmaa
open Go Go.RowKit
set_option linter.unusedSimpArgs false
set_option linter.unusedVariables false
set_option maxRecDepth 100000
set_option maxHeartbeats 4000000
section
def hdO (o : OpD) : Bool := memI o.author && (decide (o.seq ≠ 0) && (decide (1 ≤ o.kind) && (decide (o.kind ≤ 7) && (decide (o.parents.length ≤ 8) && (decide (o.boxes.length ≤ 8) && decide (o.text.size ≤ 256))))))
theorem refO_hd (o : OpD) : refO o = (hdO o && (risesK o.parents && ((o.who.all memI && risesI o.who) && (boxesB o && kindB o (decide (o.author ∈ o.who)))))) := by
  unfold refO hdO
  simp only [Bool.and_assoc]
theorem BxV.row_at {H : AH} {v : Value} {l : List BoxD} (h : BxV H v l) (hl : ∀ b ∈ l, b.Wf) {i : Nat} {z : BoxD} (hz : l[i]? = some z) : ∃ j q bb ws, xindexAddr Try.prog 35 v (.int .i64 (i : Nat)) = some (.pointer (some ⟨j, q, none⟩)) ∧ hget H j = some bb ∧ q + 36 ≤ bb.cells.length ∧ ws = (bb.cells.drop q).take 36 ∧ (∀ c, c < 36 → bb.cells[q + c]? = ws[c]?) ∧ BoxC H ws z := by
  have hzw := hl z (List.mem_of_getElem? hz)
  obtain ⟨j, b, us, hv, hb, hle, hx, hus, hul, hle2, hc, hval⟩ := val_at (P := Try.prog) (t := 35) (e := 60) (sz := 36) h (by kernel_rfl) (by kernel_rfl) (by omega) (fun row hr => by
    obtain ⟨y, hy, rfl⟩ := List.mem_map.1 hr
    have := (hl y hy).pub.1
    simp [BoxD.row, kd, this]) (i := i) (row := z.row) (by rw [List.getElem?_map, hz]; rfl)
  exact ⟨j, i * 36, b, us, hx, hb, hle2, hus, hc, box_c hzw hval⟩
theorem all_false {β : Type} {l : List β} {p : β → Bool} {i : Nat} {z : β} (hz : l[i]? = some z) (h : p z = false) : l.all p = false := by
  rw [List.all_eq_false]
  exact ⟨z, List.mem_of_getElem? hz, by rw [h]; decide⟩
theorem all_take {β : Type} {l : List β} {p : β → Bool} (h : ∀ (k : Nat) (z : β), l[k]? = some z → p z = true) : l.all p = true := by
  rw [List.all_eq_true]
  intro z hz
  obtain ⟨k, hk⟩ := List.getElem?_of_mem hz
  exact h k z hk
theorem range_false {n i : Nat} {p : Nat → Bool} (hi : i < n) (h : p i = false) : (List.range n).all p = false := by
  rw [List.all_eq_false]
  exact ⟨i, List.mem_range.2 hi, by rw [h]; decide⟩
theorem range_true {n : Nat} {p : Nat → Bool} (h : ∀ i, i < n → p i = true) : (List.range n).all p = true := by
  rw [List.all_eq_true]
  exact fun i hi => h i (List.mem_range.1 hi)
theorem getD_of {β : Type} {l : List β} {i : Nat} {z d : β} (h : l[i]? = some z) : l.getD i d = z := by rw [List.getD_eq_getElem?_getD, h]; rfl
attribute [local simp] wb_bool wb_undef with_lit XL_nil XL_cons XLc_val XLc_call step1_eq stepW_t stepW_f stepC_n stepC_s stepX_s stepX_n stepN_s calleeX oneV xop_eq xopR_s xopR_n wantedA_eq wantedG_n wantedG_s plain1_int plain1_bool plain1_string bits_i64 bits_u64 bits_u32 bits_u16 bits_u8 xeqA xagg xcmp xarr allK_iv num_iv calleeOf xread xeff xbin xint xnil xun xstr xload xconv xpart xfield xfieldAddr xindexAddr xindex bnd asInt? xslice xlen xmin xmax xbuild xfill xappend xapp2 xappstr xappmk xcap xcopy xcells eval_tmp eval_const put_at put_none fr0_at cells_agg cells_int cells_bool cells_string cells_ptr cells_slice notTuple tab iv_all hget_app hget_app0 hget_cons0 hget_cons set_app set_app0 setR setR_one QL_nil QL_cons QLc_val stepQ_t stepQ_f stepQC_n stepQC_s stepQX_s SL_nil SL_cons SLc_val stepS_t stepS_f ltT ltF leT leF eqT eqF ltTn ltFn leTn leFn eqTn eqFn beqT beqF bneT bneF wi64 wu64 wu32 wu16 wu8 tmodP tdivP hgetL hgetNe hgetEq setL nums_def nums_len Nat.succ_le_of_lt List.getElem?_cons_zero List.getElem?_cons_succ Option.getD_some Int.toNat_add Int.toNat_mul agM okM agB agI agS agP agL agA okB okI okS okP okSl okA
theorem member_vc (z : Int) : VC Try.prog 56 #[.int .i64 z] (.bool (memI z)) := by
  refine vc_of_ac (by simp [pv_iv, pv_int, pv_bool, pv_string, pv_tup2, pv_tup3, iv_plain, p2_int, p2_bool, p2_string]) (by simp [pv_iv, pv_int, pv_bool, pv_string, pv_tup2, pv_tup3, iv_plain, p2_int, p2_bool, p2_string]) ?_
  refine ac_of_aw Try.func56 rfl Try.ntmps56 Try.results56 (by simp) ?_
  refine aw_seq ?_
  (refine aw_ops (by kernel_rfl) (fun K hK => ?_); simp (disch := first | omega | (simp only [lnS]; try omega; done)) [-getElem?_pos, -getElem?_neg]; refine hK _ _ ?_; clear hK K)
  refine aw_seq ?_
  by_cases h : 0 ≤ z
  · by_cases h2 : z ≤ 7
    · (refine aw_ops (by kernel_rfl) (fun K hK => ?_); simp (disch := first | omega | (simp only [lnS]; try omega; done)) [-getElem?_pos, -getElem?_neg, h, h2]; refine hK _ _ ?_; clear hK K)
      (refine aw_ret ?_; simp (disch := first | omega | (simp only [lnS]; try omega; done)) [-getElem?_pos, -getElem?_neg, thenQ_ret, scopeQ_ret, inBlockQ_ret, RQ, resL, resV])
      simp [memI, h]; omega
    · (refine aw_ops (by kernel_rfl) (fun K hK => ?_); simp (disch := first | omega | (simp only [lnS]; try omega; done)) [-getElem?_pos, -getElem?_neg, h, h2]; refine hK _ _ ?_; clear hK K)
      (refine aw_ret ?_; simp (disch := first | omega | (simp only [lnS]; try omega; done)) [-getElem?_pos, -getElem?_neg, thenQ_ret, scopeQ_ret, inBlockQ_ret, RQ, resL, resV])
      simp [memI, h]; omega
  · (refine aw_ops (by kernel_rfl) (fun K hK => ?_); simp (disch := first | omega | (simp only [lnS]; try omega; done)) [-getElem?_pos, -getElem?_neg, h]; refine hK _ _ ?_; clear hK K)
    (refine aw_ret ?_; simp (disch := first | omega | (simp only [lnS]; try omega; done)) [-getElem?_pos, -getElem?_neg, thenQ_ret, scopeQ_ret, inBlockQ_ret, RQ, resL, resV])
    simp [memI, h]
theorem rRight_rc {γ : Nat → Option Nat} {H : AH} {us : List Value} {o : OpD} {pv wv bv : Value} (h : OpC H us o pv wv bv) (hw : o.Wf) : AC Try.prog H.length γ 31 #[.agg us.toArray] H (fun v' _ => v' = .bool (refO o)) := by
  have hul := h.len
  have htu : us.take 71 = us := List.take_of_length_le (by omega)
  have hps := hw.plen
  have hws := hw.wlen
  have hbs := hw.blen
  have hts := hw.text
  have hm63 : o.parents.length ≤ 9223372036854775807 ∧ o.who.length ≤ 9223372036854775807 ∧ o.boxes.length ≤ 9223372036854775807 ∧ o.text.size ≤ 9223372036854775807 := by simp only [maxLen] at hps hws hbs hts; omega
  obtain ⟨m1, m2, m3, m4⟩ := hm63
  refine ac_of_aw Try.func31 rfl Try.ntmps31 Try.results31 (by simp) ?_
  refine aw_seq ?_
  (refine aw_ops (by kernel_rfl) (fun K hK => ?_); simp (disch := first | omega | (simp only [lnS]; try omega; done)) [-getElem?_pos, -getElem?_neg, hul, nt_aggG]; refine hK _ _ ?_; clear hK K)
  obtain ⟨hlow, hb⟩ := boxed (H := H) us 37
  obtain ⟨n, hn⟩ : ∃ n, n = H.length := ⟨_, rfl⟩
  rw [← hn] at hb hlow ⊢
  generalize H ++ [some ⟨us, 37, none⟩] = G at *
  have hG : OpC G us o pv wv bv := h.low (fun j hj => hlow.1 j (by omega))
  have hpacc := hG.parents.acc (fun k hk => (hw.parents k hk).1)
  have hwacc := hG.who.acc
  have hbx := hG.boxes
  have hbnt := val_nt hbx
  have hblen := val_len (P := Try.prog) (t := 35) (e := 60) hbx (by kernel_rfl)
  rw [List.length_map] at hblen
  have c0 := hG.c0
  have c1 := hG.c1
  have c2 := hG.c2
  have c3 := hG.c3
  have c4 := hG.c4
  have c69 := hG.c69
  have c70 := hG.c70
  have p1 := hpacc.nt
  have p2 := hpacc.cs
  have p3 := hpacc.len
  have w1 := hwacc.nt
  have w2 := hwacc.cs
  have w3 := hwacc.len
  obtain ⟨b1, b2⟩ := hbnt
  have hx2 : xload Try.prog 30 (.pointer (some ⟨n, 2, none⟩)) G = some pv := by simp [xload, hb, c2]
  have hx4 : xload Try.prog 34 (.pointer (some ⟨n, 4, none⟩)) G = some wv := by simp [xload, hb, c4]
  have hx70 : xload Try.prog 35 (.pointer (some ⟨n, 70, none⟩)) G = some bv := by simp [xload, hb, c70]
  have hsq := hw.seq
  unfold U32 at hsq
  refine aw_seq ?_
  refine aw_seq ?_
  refine aw_cut (fun α G2 => α 44 = .bool (!hdO o) ∧ α 1 = .pointer (some ⟨n, 0, none⟩) ∧ G2 = G) ?_ ?_
  · refine aw_ops (by kernel_rfl) (fun K hK => ?_)
    simp (disch := first | omega | (simp only [lnS]; try omega; done)) [-getElem?_pos, -getElem?_neg, hb, hul, c0]
    refine ⟨by kernel_rfl, ac_of_vc (by simp [pv_iv, pv_int, pv_bool, pv_string, pv_tup2, pv_tup3, iv_plain, p2_int, p2_bool, p2_string]) (member_vc o.author) ?_⟩
    cases h1 : memI o.author with
    | false =>
      try simp (disch := first | omega | (simp only [lnS]; try omega; done)) [-getElem?_pos, -getElem?_neg]
      refine hK _ _ ?_; clear hK K
      exact ⟨by simp [hdO, h1, put_at], by (first | (simp [put_at, put_none, fr0_at]; done) | rfl), rfl⟩
    | true =>
    by_cases h2 : o.seq = 0
    · have h2b : (o.seq == 0) = true := by simp [h2]
      simp (disch := first | omega | (simp only [lnS]; try omega; done)) [-getElem?_pos, -getElem?_neg, hb, hul, c1, h2, h2b]
      refine hK _ _ ?_; clear hK K
      exact ⟨by simp [hdO, h1, h2, put_at], by (first | (simp [put_at, put_none, fr0_at]; done) | rfl), rfl⟩
    have h2b : (o.seq == 0) = false := by simp [h2]
    by_cases h3 : 1 ≤ o.kind
    case neg =>
      have h3b : o.kind < 1 := by omega
      simp (disch := first | omega | (simp only [lnS]; try omega; done)) [-getElem?_pos, -getElem?_neg, hb, hul, c1, c3, h2, h2b, h3b]
      refine hK _ _ ?_; clear hK K
      exact ⟨by simp [hdO, h1, h2, h3, put_at], by (first | (simp [put_at, put_none, fr0_at]; done) | rfl), rfl⟩
    have h3b : ¬ o.kind < 1 := by omega
    by_cases h4 : o.kind ≤ 7
    case neg =>
      have h4b : 7 < o.kind := by omega
      simp (disch := first | omega | (simp only [lnS]; try omega; done)) [-getElem?_pos, -getElem?_neg, hb, hul, c1, c3, h2, h2b, h3b, h4b]
      refine hK _ _ ?_; clear hK K
      exact ⟨by simp [hdO, h1, h2, h3, h4, put_at], by (first | (simp [put_at, put_none, fr0_at]; done) | rfl), rfl⟩
    have h4b : ¬ 7 < o.kind := by omega
    by_cases h5 : o.parents.length ≤ 8
    case neg =>
      have h5b : 8 < o.parents.length := by omega
      simp (disch := first | omega | (simp only [lnS]; try omega; done)) [-getElem?_pos, -getElem?_neg, hb, hul, c1, c2, c3, h2, h2b, h3b, h4b, h5b, -notTuple, p1, p2, nt_intG, nt_ptrG, -xlen, p3]
      refine hK _ _ ?_; clear hK K
      exact ⟨by simp [hdO, h1, h2, h3, h4, h5, put_at], by (first | (simp [put_at, put_none, fr0_at]; done) | rfl), rfl⟩
    have h5b : ¬ 8 < o.parents.length := by omega
    by_cases h6 : o.boxes.length ≤ 8
    case neg =>
      have h6b : 8 < o.boxes.length := by omega
      simp (disch := first | omega | (simp only [lnS]; try omega; done)) [-getElem?_pos, -getElem?_neg, hb, hul, c1, c2, c3, c70, h2, h2b, h3b, h4b, h5b, h6b, -notTuple, p1, p2, b1, b2, nt_intG, nt_ptrG, -xlen, p3, hblen]
      refine hK _ _ ?_; clear hK K
      exact ⟨by simp [hdO, h1, h2, h3, h4, h5, h6, put_at], by (first | (simp [put_at, put_none, fr0_at]; done) | rfl), rfl⟩
    have h6b : ¬ 8 < o.boxes.length := by omega
    have hxt : xlen Try.prog 9 (.string o.text) = some (.int .i64 o.text.size) := by simp [xlen]
    by_cases h7 : o.text.size ≤ 256
    · have h7b : ¬ 256 < o.text.size := by omega
      simp (disch := first | omega | (simp only [lnS]; try omega; done)) [-getElem?_pos, -getElem?_neg, hb, hul, c1, c2, c3, c69, c70, h2, h2b, h3b, h4b, h5b, h6b, h7b, -notTuple, p1, p2, b1, b2, nt_intG, nt_ptrG, nt_strG, -xlen, p3, hblen, hxt]
      refine hK _ _ ?_; clear hK K
      exact ⟨by simp [hdO, h1, h2, h3, h4, h5, h6, h7, put_at], by (first | (simp [put_at, put_none, fr0_at]; done) | rfl), rfl⟩
    · have h7b : 256 < o.text.size := by omega
      simp (disch := first | omega | (simp only [lnS]; try omega; done)) [-getElem?_pos, -getElem?_neg, hb, hul, c1, c2, c3, c69, c70, h2, h2b, h3b, h4b, h5b, h6b, h7b, -notTuple, p1, p2, b1, b2, nt_intG, nt_ptrG, nt_strG, -xlen, p3, hblen, hxt]
      refine hK _ _ ?_; clear hK K
      exact ⟨by simp [hdO, h1, h2, h3, h4, h5, h6, h7, put_at], by (first | (simp [put_at, put_none, fr0_at]; done) | rfl), rfl⟩
  rintro α G2 ⟨q44, q1, rfl⟩
  have hrf := refO_hd o
  cases hhd : hdO o with
  | false =>
    rw [hhd] at q44 hrf
    refine aw_t (by (first | (simp [eval_tmp, put_at, q44]; done) | (simp [eval_tmp, put_at, q44]; omega))) (by kernel_rfl) ?_
    refine aw_seq ?_
    (refine aw_ops (by kernel_rfl) (fun K hK => ?_); simp (disch := first | omega | (simp only [lnS]; try omega; done)) [-getElem?_pos, -getElem?_neg]; refine hK _ _ ?_; clear hK K)
    (refine aw_ret ?_; simp (disch := first | omega | (simp only [lnS]; try omega; done)) [-getElem?_pos, -getElem?_neg, thenQ_ret, scopeQ_ret, inBlockQ_ret, RQ, resL, resV])
    rw [hrf]; rfl
  | true =>
  rw [hhd, Bool.true_and] at hrf
  rw [hhd] at q44
  refine aw_f (by (first | (simp [eval_tmp, put_at, q44]; done) | (simp [eval_tmp, put_at, q44]; omega))) (by kernel_rfl) ?_
  refine aw_skip ?_
  -- the parents
  refine aw_seq ?_
  refine aw_seq ?_
  (refine aw_ops (by kernel_rfl) (fun K hK => ?_); simp (disch := first | omega | (simp only [lnS]; try omega; done)) [-getElem?_pos, -getElem?_neg]; refine hK _ _ ?_; clear hK K)
  refine aw_block ?_
  refine aw_loop (fun c α G => ∃ i : Nat, 1 ≤ i ∧ i + c = o.parents.length + 1 ∧ α 1 = .pointer (some ⟨n, 0, none⟩) ∧ α 3 = .int .i64 (i : Nat) ∧ G = G2 ∧ ∀ k, k + 1 < i → cmpL (o.parents.getD k []) (o.parents.getD (k + 1) []) < 0) o.parents.length ?_ ?_
  · exact ⟨1, by omega, by omega, by (first | (simp [put_at, put_none, fr0_at, q1]; done) | rfl), by (first | (simp [put_at, put_none, fr0_at]; done) | rfl), rfl, fun k hk => by omega⟩
  clear q1 q44
  rintro c α G ⟨i, hi1, hic, q1, q3, rfl, hpre⟩
  refine aw_seq ?_
  refine aw_seq ?_
  by_cases hi : i < o.parents.length
  case pos =>
    obtain ⟨x0, y0, r1, r2, r3, r4, r5⟩ := hpacc.at_ (i - 1) (by omega)
    obtain ⟨x1, y1, s1, s2, s3, s4, s5⟩ := hpacc.at_ i hi
    subst r4 s4
    have r5 := r5 G (Low.refl (Nat.le_refl _))
    have s5 := s5 G (Low.refl (Nat.le_refl _))
    have hk0 := hw.parents (o.parents.getD (i - 1) []) (by rw [List.getD_eq_getElem?_getD, List.getElem?_eq_getElem (show i - 1 < o.parents.length by omega)]; exact List.getElem_mem _)
    have hk1 := hw.parents (o.parents.getD i []) (by rw [List.getD_eq_getElem?_getD, List.getElem?_eq_getElem hi]; exact List.getElem_mem _)
    have hsub : (i : Int) - 1 = ((i - 1 : Nat) : Int) := by omega
    have hls := less_vc _ _ hk0.1 hk1.1 hk0.2 hk1.2
    have hgt := cmpL_gt hk1.2 hk0.2 (by rw [hk1.1, hk0.1])
    have hlt := cmpL_lt hk0.2 hk1.2 (by rw [hk1.1, hk0.1])
    have hnx : cmpL (o.parents.getD (i - 1) []) (o.parents.getD (i - 1 + 1) []) = cmpL (o.parents.getD (i - 1) []) (o.parents.getD i []) := by rw [show i - 1 + 1 = i by omega]
    (refine aw_ops (by kernel_rfl) (fun K hK => ?_); simp (disch := first | omega | (simp only [lnS]; try omega; done)) [-getElem?_pos, -getElem?_neg, q1, q3, hb, hul, c2, -notTuple, p1, p2, nt_intG, nt_ptrG, -xlen, p3, hi]; refine hK _ _ ?_; clear hK K)
    refine aw_t (by (first | (simp [eval_tmp, put_at, hi]; done) | (simp [eval_tmp, put_at, hi]; omega))) (by kernel_rfl) ?_
    refine aw_skip ?_
    refine aw_seq ?_
    refine aw_block ?_
    refine aw_seq ?_
    have e1 : (0 : Int) < cmpL (o.parents.getD i []) (o.parents.getD (i - 1) []) ↔ cmpL (o.parents.getD (i - 1) []) (o.parents.getD i []) < 0 := hgt.trans hlt.symm
    generalize hA : o.parents.getD (i - 1) [] = A at *
    generalize hB : o.parents.getD i [] = B at *
    (refine aw_plan [] [] [0, 1, 2, 3, 4, 5, 6, 7, 8, 9, 10, 11, 12] 13 0 (by kernel_rfl) (by kernel_rfl) (by kernel_rfl) (fun K hK => ?_)); simp only [sel, List.getElem?_cons_succ, List.getElem?_cons_zero, List.drop_succ_cons, List.drop_zero]; simp (disch := first | omega | (simp only [lnS]; try omega; done)) [-getElem?_pos, -getElem?_neg, q1, q3, hb, hul, c2, hsub, -notTuple, p1, p2, r1, s1, r3, s3, nt_intG, nt_ptrG, nt_aggG, -xindexAddr, r2, s2, -xload, hx2, r5, s5, PL_nil, plainB_lit, PL_cons, PLc_val, PLc_new, stepP_t, stepP_f, stepPC_n, stepPC_s, stepPX_s, stepPX_n, stepPV_n, stepPV_s, stepPA_t, stepPA_c, stepPA_l, stepPN_s, allocOp, reloc_sl, reloc_ptr, List.map_cons, List.map_nil, List.nil_append, List.append_assoc, List.cons_append, Nat.add_assoc]
    refine PLc_call (v := .bool (decide (0 < cmpL B A))) (by kernel_rfl) (fun L hL => ac_of_vc (by simp [pv_iv, pv_int, pv_bool, pv_string, pv_tup2, pv_tup3, iv_plain, p2_int, p2_bool, p2_string]) hls rfl) (by simp [pv_iv, pv_int, pv_bool, pv_string, pv_tup2, pv_tup3, iv_plain, p2_int, p2_bool, p2_string]) ?_
    by_cases hlt2 : 0 < cmpL B A
    · simp (disch := first | omega | (simp only [lnS]; try omega; done)) [-getElem?_pos, -getElem?_neg, hlt2, PL_nil, plainB_lit, PL_cons, PLc_val, PLc_new, stepP_t, stepP_f, stepPC_n, stepPC_s, stepPX_s, stepPX_n, stepPV_n, stepPV_s, stepPA_t, stepPA_c, stepPA_l, stepPN_s, allocOp, reloc_sl, reloc_ptr, List.map_cons, List.map_nil, List.nil_append, List.append_assoc, List.cons_append, Nat.add_assoc]
      refine hK _ _ ?_; clear hK K
      refine aw_f (by (first | (simp [eval_tmp, put_at, hlt2]; done) | (simp [eval_tmp, put_at, hlt2]; omega))) (by kernel_rfl) ?_
      refine aw_skip ?_
      (refine aw_ops (by kernel_rfl) (fun K hK => ?_); simp (disch := first | omega | (simp only [lnS]; try omega; done)) [-getElem?_pos, -getElem?_neg, q3]; refine hK _ _ ?_; clear hK K)
      refine ⟨c - 1, by omega, i + 1, by omega, by omega, by (first | (simp [put_at, put_none, fr0_at, q1]; done) | rfl), by (first | (simp [put_at, put_none, fr0_at]; done) | rfl), rfl, fun k hk => ?_⟩
      by_cases e : k = i - 1
      · subst e
        rw [hA, hnx]
        exact e1.1 hlt2
      · exact hpre k (by omega)
    · simp (disch := first | omega | (simp only [lnS]; try omega; done)) [-getElem?_pos, -getElem?_neg, hlt2, PL_nil, plainB_lit, PL_cons, PLc_val, PLc_new, stepP_t, stepP_f, stepPC_n, stepPC_s, stepPX_s, stepPX_n, stepPV_n, stepPV_s, stepPA_t, stepPA_c, stepPA_l, stepPN_s, allocOp, reloc_sl, reloc_ptr, List.map_cons, List.map_nil, List.nil_append, List.append_assoc, List.cons_append, Nat.add_assoc]
      refine hK _ _ ?_; clear hK K
      refine aw_t (by (first | (simp [eval_tmp, put_at, hlt2]; done) | (simp [eval_tmp, put_at, hlt2]; omega))) (by kernel_rfl) ?_
      refine aw_seq ?_
      (refine aw_ops (by kernel_rfl) (fun K hK => ?_); simp (disch := first | omega | (simp only [lnS]; try omega; done)) [-getElem?_pos, -getElem?_neg]; refine hK _ _ ?_; clear hK K)
      (refine aw_ret ?_; simp (disch := first | omega | (simp only [lnS]; try omega; done)) [-getElem?_pos, -getElem?_neg, thenQ_ret, scopeQ_ret, inBlockQ_ret, RQ, resL, resV])
      rw [hrf]
      have : risesK o.parents = false := by
        unfold risesK
        refine range_false (i := i - 1) (by omega) ?_
        rw [hA, hnx, decide_eq_false_iff_not]
        exact fun hh => hlt2 (e1.2 hh)
      rw [this]; rfl
  (refine aw_ops (by kernel_rfl) (fun K hK => ?_); simp (disch := first | omega | (simp only [lnS]; try omega; done)) [-getElem?_pos, -getElem?_neg, q1, q3, hb, hul, c2, -notTuple, p1, p2, nt_intG, nt_ptrG, -xlen, p3, hi]; refine hK _ _ ?_; clear hK K)
  refine aw_f (by (first | (simp [eval_tmp, put_at, hi]; done) | (simp [eval_tmp, put_at, hi]; omega))) (by kernel_rfl) ?_
  refine aw_exit ?_
  have hrK : risesK o.parents = true := by
    unfold risesK
    exact range_true fun k hk => by
      rw [decide_eq_true_eq]
      exact hpre k (by omega)
  rw [hrK, Bool.true_and] at hrf
  -- who
  refine aw_seq ?_
  (refine aw_ops (by kernel_rfl) (fun K hK => ?_); simp (disch := first | omega | (simp only [lnS]; try omega; done)) [-getElem?_pos, -getElem?_neg]; refine hK _ _ ?_; clear hK K)
  refine aw_seq ?_
  refine aw_seq ?_
  (refine aw_ops (by kernel_rfl) (fun K hK => ?_); simp (disch := first | omega | (simp only [lnS]; try omega; done)) [-getElem?_pos, -getElem?_neg]; refine hK _ _ ?_; clear hK K)
  refine aw_block ?_
  refine aw_loop (fun c α G2 => ∃ i : Nat, i + c = o.who.length ∧ α 1 = .pointer (some ⟨n, 0, none⟩) ∧ α 4 = .bool (decide (o.author ∈ o.who.take i)) ∧ α 5 = .int .i64 (i : Nat) ∧ G2 = G ∧ (∀ k z, k < i → o.who[k]? = some z → memI z = true) ∧ ∀ k, k + 1 < i → o.who.getD k 0 < o.who.getD (k + 1) 0) o.who.length ?_ ?_
  · exact ⟨0, by omega, by (first | (simp [put_at, put_none, fr0_at, q1]; done) | rfl), by simp [put_at], by (first | (simp [put_at, put_none, fr0_at]; done) | rfl), rfl, fun k z hk => by omega, fun k hk => by omega⟩
  clear q1 q3
  rintro c α G3 ⟨i, hic, q1, q4, q5, rfl, hmem, hrise⟩
  refine aw_seq ?_
  refine aw_seq ?_
  by_cases hi : i < o.who.length
  case pos =>
    obtain ⟨x1, y1, s1, s2, s3, s4, s5⟩ := hwacc.at_ i hi
    subst s4
    have s5 := s5 G3 (Low.refl (Nat.le_refl _))
    obtain ⟨z, hz⟩ : ∃ z, o.who[i]? = some z := ⟨_, List.getElem?_eq_getElem hi⟩
    have hzd : o.who.getD i 0 = z := getD_of hz
    have hzb := hw.who z (List.mem_of_getElem? hz)
    have htk : o.who.take (i + 1) = o.who.take i ++ [z] := by rw [List.take_add_one, hz]; rfl
    rw [hzd] at s5 s3
    (refine aw_ops (by kernel_rfl) (fun K hK => ?_); simp (disch := first | omega | (simp only [lnS]; try omega; done)) [-getElem?_pos, -getElem?_neg, q1, q5, hb, hul, c4, -notTuple, w1, w2, nt_intG, nt_ptrG, -xlen, w3, hi]; refine hK _ _ ?_; clear hK K)
    refine aw_t (by (first | (simp [eval_tmp, put_at, hi]; done) | (simp [eval_tmp, put_at, hi]; omega))) (by kernel_rfl) ?_
    refine aw_skip ?_
    refine aw_seq ?_
    refine aw_block ?_
    refine aw_seq ?_
    refine aw_cut (fun α G2 => α 1 = .pointer (some ⟨n, 0, none⟩) ∧ α 4 = .bool (decide (o.author ∈ o.who.take i)) ∧ α 5 = .int .i64 (i : Nat) ∧ G2 = G3 ∧ memI z = true ∧ (0 < i → o.who.getD (i - 1) 0 < z)) ?_ ?_
    · refine aw_seq ?_
      (refine aw_plan [] [] [0, 1, 2, 3, 4, 5, 6, 7, 8, 9, 10, 11, 12, 13, 14, 15, 16, 17, 18, 19, 20, 21, 22, 23, 24] 25 0 (by kernel_rfl) (by kernel_rfl) (by kernel_rfl) (fun K hK => ?_)); simp only [sel, List.getElem?_cons_succ, List.getElem?_cons_zero, List.drop_succ_cons, List.drop_zero]; simp (disch := first | omega | (simp only [lnS]; try omega; done)) [-getElem?_pos, -getElem?_neg, q1, q5, hb, hul, c4, -notTuple, w1, w2, s1, s3, nt_intG, nt_ptrG, -xindexAddr, s2, -xload, hx4, s5, PL_nil, plainB_lit, PL_cons, PLc_val, PLc_new, stepP_t, stepP_f, stepPC_n, stepPC_s, stepPX_s, stepPX_n, stepPV_n, stepPV_s, stepPA_t, stepPA_c, stepPA_l, stepPN_s, allocOp, reloc_sl, reloc_ptr, List.map_cons, List.map_nil, List.nil_append, List.append_assoc, List.cons_append, Nat.add_assoc]
      refine PLc_call (v := .bool (memI z)) (by kernel_rfl) (fun L hL => ac_of_vc (by simp [pv_iv, pv_int, pv_bool, pv_string, pv_tup2, pv_tup3, iv_plain, p2_int, p2_bool, p2_string]) (member_vc z) rfl) (by simp [pv_iv, pv_int, pv_bool, pv_string, pv_tup2, pv_tup3, iv_plain, p2_int, p2_bool, p2_string]) ?_
      have hbadW : (o.who.all memI && risesI o.who) = false → (risesK o.parents && ((o.who.all memI && risesI o.who) && (boxesB o && kindB o (decide (o.author ∈ o.who))))) = false := fun hh => by rw [hh]; simp
      cases hmz : memI z with
      | false =>
        simp (disch := first | omega | (simp only [lnS]; try omega; done)) [-getElem?_pos, -getElem?_neg, PL_nil, plainB_lit, PL_cons, PLc_val, PLc_new, stepP_t, stepP_f, stepPC_n, stepPC_s, stepPX_s, stepPX_n, stepPV_n, stepPV_s, stepPA_t, stepPA_c, stepPA_l, stepPN_s, allocOp, reloc_sl, reloc_ptr, List.map_cons, List.map_nil, List.nil_append, List.append_assoc, List.cons_append, Nat.add_assoc]
        refine hK _ _ ?_; clear hK K
        refine aw_t (by (first | (simp [eval_tmp, put_at]; done) | (simp [eval_tmp, put_at]; omega))) (by kernel_rfl) ?_
        refine aw_seq ?_
        (refine aw_ops (by kernel_rfl) (fun K hK => ?_); simp (disch := first | omega | (simp only [lnS]; try omega; done)) [-getElem?_pos, -getElem?_neg]; refine hK _ _ ?_; clear hK K)
        (refine aw_ret ?_; simp (disch := first | omega | (simp only [lnS]; try omega; done)) [-getElem?_pos, -getElem?_neg, thenQ_ret, scopeQ_ret, inBlockQ_ret, RQ, resL, resV])
        rw [hrf, all_false hz hmz]; simp
      | true =>
      by_cases hi0 : 0 < i
      case neg =>
        simp (disch := first | omega | (simp only [lnS]; try omega; done)) [-getElem?_pos, -getElem?_neg, q1, q5, hb, hul, c4, -notTuple, w1, w2, s1, s3, nt_intG, nt_ptrG, -xindexAddr, s2, -xload, hx4, s5, hi0, PL_nil, plainB_lit, PL_cons, PLc_val, PLc_new, stepP_t, stepP_f, stepPC_n, stepPC_s, stepPX_s, stepPX_n, stepPV_n, stepPV_s, stepPA_t, stepPA_c, stepPA_l, stepPN_s, allocOp, reloc_sl, reloc_ptr, List.map_cons, List.map_nil, List.nil_append, List.append_assoc, List.cons_append, Nat.add_assoc]
        refine hK _ _ ?_; clear hK K
        refine aw_f (by (first | (simp [eval_tmp, put_at]; done) | (simp [eval_tmp, put_at]; omega))) (by kernel_rfl) ?_
        refine aw_skip ?_
        exact ⟨by (first | (simp [put_at, put_none, fr0_at, q1]; done) | rfl), by (first | (simp [put_at, put_none, fr0_at, q4]; done) | rfl), by (first | (simp [put_at, put_none, fr0_at, q5]; done) | rfl), rfl, hmz, fun hh => absurd hh hi0⟩
      obtain ⟨x0, y0, r1, r2, r3, r4, r5⟩ := hwacc.at_ (i - 1) (by omega)
      subst r4
      have r5 := r5 G3 (Low.refl (Nat.le_refl _))
      have hsub : (i : Int) - 1 = ((i - 1 : Nat) : Int) := by omega
      obtain ⟨y, hy⟩ : ∃ y, o.who[i - 1]? = some y := ⟨_, List.getElem?_eq_getElem (by omega)⟩
      have hyd : o.who.getD (i - 1) 0 = y := getD_of hy
      rw [hyd] at r5 r3
      by_cases hyz : y < z
      · have hyz2 : ¬ z ≤ y := by omega
        simp (disch := first | omega | (simp only [lnS]; try omega; done)) [-getElem?_pos, -getElem?_neg, q1, q5, hb, hul, c4, -notTuple, w1, w2, s1, s3, nt_intG, nt_ptrG, -xindexAddr, s2, -xload, hx4, s5, hi0, hsub, r1, r3, r2, r5, hyz2, PL_nil, plainB_lit, PL_cons, PLc_val, PLc_new, stepP_t, stepP_f, stepPC_n, stepPC_s, stepPX_s, stepPX_n, stepPV_n, stepPV_s, stepPA_t, stepPA_c, stepPA_l, stepPN_s, allocOp, reloc_sl, reloc_ptr, List.map_cons, List.map_nil, List.nil_append, List.append_assoc, List.cons_append, Nat.add_assoc]
        refine hK _ _ ?_; clear hK K
        refine aw_f (by (first | (simp [eval_tmp, put_at, hyz2]; done) | (simp [eval_tmp, put_at, hyz2]; omega))) (by kernel_rfl) ?_
        refine aw_skip ?_
        exact ⟨by (first | (simp [put_at, put_none, fr0_at, q1]; done) | rfl), by (first | (simp [put_at, put_none, fr0_at, q4]; done) | rfl), by (first | (simp [put_at, put_none, fr0_at, q5]; done) | rfl), rfl, hmz, fun _ => by rw [hyd]; exact hyz⟩
      · have hyz2 : z ≤ y := by omega
        simp (disch := first | omega | (simp only [lnS]; try omega; done)) [-getElem?_pos, -getElem?_neg, q1, q5, hb, hul, c4, -notTuple, w1, w2, s1, s3, nt_intG, nt_ptrG, -xindexAddr, s2, -xload, hx4, s5, hi0, hsub, r1, r3, r2, r5, hyz2, PL_nil, plainB_lit, PL_cons, PLc_val, PLc_new, stepP_t, stepP_f, stepPC_n, stepPC_s, stepPX_s, stepPX_n, stepPV_n, stepPV_s, stepPA_t, stepPA_c, stepPA_l, stepPN_s, allocOp, reloc_sl, reloc_ptr, List.map_cons, List.map_nil, List.nil_append, List.append_assoc, List.cons_append, Nat.add_assoc]
        refine hK _ _ ?_; clear hK K
        refine aw_t (by (first | (simp [eval_tmp, put_at, hyz2]; done) | (simp [eval_tmp, put_at, hyz2]; omega))) (by kernel_rfl) ?_
        refine aw_seq ?_
        (refine aw_ops (by kernel_rfl) (fun K hK => ?_); simp (disch := first | omega | (simp only [lnS]; try omega; done)) [-getElem?_pos, -getElem?_neg]; refine hK _ _ ?_; clear hK K)
        (refine aw_ret ?_; simp (disch := first | omega | (simp only [lnS]; try omega; done)) [-getElem?_pos, -getElem?_neg, thenQ_ret, scopeQ_ret, inBlockQ_ret, RQ, resL, resV])
        have : risesI o.who = false := by
          unfold risesI
          refine range_false (i := i - 1) (by omega) ?_
          rw [decide_eq_false_iff_not, show i - 1 + 1 = i by omega, hyd, hzd, cmpI_lt]
          omega
        rw [hrf, this]; simp
    clear q1 q4 q5
    rintro α G4 ⟨q1, q4, q5, rfl, hmz, hrz⟩
    have hau : decide (o.author ∈ o.who.take (i + 1)) = (decide (o.author ∈ o.who.take i) || decide (z = o.author)) := by
      rw [htk, Bool.eq_iff_iff, Bool.or_eq_true, decide_eq_true_eq, decide_eq_true_eq, decide_eq_true_eq, List.mem_append, List.mem_singleton, eq_comm (a := o.author) (b := z)]
    have hm2 : ∀ k z, k < i + 1 → o.who[k]? = some z → memI z = true := fun k z' hk hz' => by
      by_cases e : k = i
      · subst e
        rw [hz] at hz'
        cases hz'
        exact hmz
      · exact hmem k z' (by omega) hz'
    have hr2 : ∀ k, k + 1 < i + 1 → o.who.getD k 0 < o.who.getD (k + 1) 0 := fun k hk => by
      by_cases e : k + 1 = i
      · rw [e, hzd, show k = i - 1 by omega]
        exact hrz (by omega)
      · exact hrise k (by omega)
    cases hd : decide (o.author ∈ o.who.take i) with
    | true =>
      rw [hd] at q4 hau
      (refine aw_plan [] [] [0, 1, 2, 3, 4, 5, 6, 7, 8, 9, 10, 11] 12 0 (by kernel_rfl) (by kernel_rfl) (by kernel_rfl) (fun K hK => ?_)); simp only [sel, List.getElem?_cons_succ, List.getElem?_cons_zero, List.drop_succ_cons, List.drop_zero]; simp (disch := first | omega | (simp only [lnS]; try omega; done)) [-getElem?_pos, -getElem?_neg, q1, q4, q5, hb, hul, PL_nil, plainB_lit, PL_cons, PLc_val, PLc_new, stepP_t, stepP_f, stepPC_n, stepPC_s, stepPX_s, stepPX_n, stepPV_n, stepPV_s, stepPA_t, stepPA_c, stepPA_l, stepPN_s, allocOp, reloc_sl, reloc_ptr, List.map_cons, List.map_nil, List.nil_append, List.append_assoc, List.cons_append, Nat.add_assoc]
      refine hK _ _ ?_; clear hK K
      (refine aw_ops (by kernel_rfl) (fun K hK => ?_); simp (disch := first | omega | (simp only [lnS]; try omega; done)) [-getElem?_pos, -getElem?_neg, q5]; refine hK _ _ ?_; clear hK K)
      refine ⟨c - 1, by omega, i + 1, by omega, by (first | (simp [put_at, put_none, fr0_at, q1]; done) | rfl), by rw [hau]; (first | (simp [put_at, put_none, fr0_at]; done) | rfl), by (first | (simp [put_at, put_none, fr0_at]; done) | rfl), rfl, hm2, hr2⟩
    | false =>
      rw [hd] at q4 hau
      have hx0 : xload Try.prog 3 (.pointer (some ⟨n, 0, none⟩)) G4 = some (.int .i64 o.author) := by simp [xload, hb, c0]
      by_cases hza : z = o.author
      · have hzab : (z == o.author) = true := by simp [hza]
        (refine aw_plan [] [] [0, 1, 2, 3, 4, 5, 6, 7, 8, 9, 10, 11] 12 0 (by kernel_rfl) (by kernel_rfl) (by kernel_rfl) (fun K hK => ?_)); simp only [sel, List.getElem?_cons_succ, List.getElem?_cons_zero, List.drop_succ_cons, List.drop_zero]; simp (disch := first | omega | (simp only [lnS]; try omega; done)) [-getElem?_pos, -getElem?_neg, q1, q4, q5, hb, hul, -notTuple, w1, w2, s1, s3, nt_intG, nt_ptrG, -xindexAddr, s2, -xload, hx4, hx0, s5, hza, hzab, PL_nil, plainB_lit, PL_cons, PLc_val, PLc_new, stepP_t, stepP_f, stepPC_n, stepPC_s, stepPX_s, stepPX_n, stepPV_n, stepPV_s, stepPA_t, stepPA_c, stepPA_l, stepPN_s, allocOp, reloc_sl, reloc_ptr, List.map_cons, List.map_nil, List.nil_append, List.append_assoc, List.cons_append, Nat.add_assoc]
        refine hK _ _ ?_; clear hK K
        (refine aw_ops (by kernel_rfl) (fun K hK => ?_); simp (disch := first | omega | (simp only [lnS]; try omega; done)) [-getElem?_pos, -getElem?_neg, q5]; refine hK _ _ ?_; clear hK K)
        refine ⟨c - 1, by omega, i + 1, by omega, by (first | (simp [put_at, put_none, fr0_at, q1]; done) | rfl), by rw [hau]; simp [put_at, hza], by (first | (simp [put_at, put_none, fr0_at]; done) | rfl), rfl, hm2, hr2⟩
      · have hzab : (z == o.author) = false := by simp [hza]
        (refine aw_plan [] [] [0, 1, 2, 3, 4, 5, 6, 7, 8, 9, 10, 11] 12 0 (by kernel_rfl) (by kernel_rfl) (by kernel_rfl) (fun K hK => ?_)); simp only [sel, List.getElem?_cons_succ, List.getElem?_cons_zero, List.drop_succ_cons, List.drop_zero]; simp (disch := first | omega | (simp only [lnS]; try omega; done)) [-getElem?_pos, -getElem?_neg, q1, q4, q5, hb, hul, -notTuple, w1, w2, s1, s3, nt_intG, nt_ptrG, -xindexAddr, s2, -xload, hx4, hx0, s5, hza, hzab, PL_nil, plainB_lit, PL_cons, PLc_val, PLc_new, stepP_t, stepP_f, stepPC_n, stepPC_s, stepPX_s, stepPX_n, stepPV_n, stepPV_s, stepPA_t, stepPA_c, stepPA_l, stepPN_s, allocOp, reloc_sl, reloc_ptr, List.map_cons, List.map_nil, List.nil_append, List.append_assoc, List.cons_append, Nat.add_assoc]
        refine hK _ _ ?_; clear hK K
        (refine aw_ops (by kernel_rfl) (fun K hK => ?_); simp (disch := first | omega | (simp only [lnS]; try omega; done)) [-getElem?_pos, -getElem?_neg, q5]; refine hK _ _ ?_; clear hK K)
        refine ⟨c - 1, by omega, i + 1, by omega, by (first | (simp [put_at, put_none, fr0_at, q1]; done) | rfl), by rw [hau]; simp [put_at, hza], by (first | (simp [put_at, put_none, fr0_at]; done) | rfl), rfl, hm2, hr2⟩
  (refine aw_ops (by kernel_rfl) (fun K hK => ?_); simp (disch := first | omega | (simp only [lnS]; try omega; done)) [-getElem?_pos, -getElem?_neg, q1, q5, hb, hul, c4, -notTuple, w1, w2, nt_intG, nt_ptrG, -xlen, w3, hi]; refine hK _ _ ?_; clear hK K)
  refine aw_f (by (first | (simp [eval_tmp, put_at, hi]; done) | (simp [eval_tmp, put_at, hi]; omega))) (by kernel_rfl) ?_
  refine aw_exit ?_
  obtain rfl : i = o.who.length := by omega
  rw [List.take_length] at q4
  have hW : (o.who.all memI && risesI o.who) = true := by
    rw [all_take (fun k z hz => hmem k z (List.getElem?_eq_some_iff.1 hz).1 hz), Bool.true_and]
    unfold risesI
    exact range_true fun k hk => by
      rw [decide_eq_true_eq, cmpI_lt]
      exact hrise k (by omega)
  rw [hW, Bool.true_and] at hrf
  -- boxes
  refine aw_seq ?_
  refine aw_seq ?_
  (refine aw_ops (by kernel_rfl) (fun K hK => ?_); simp (disch := first | omega | (simp only [lnS]; try omega; done)) [-getElem?_pos, -getElem?_neg]; refine hK _ _ ?_; clear hK K)
  refine aw_block ?_
  refine aw_loop (fun c α G2 => ∃ i : Nat, i + c = o.boxes.length ∧ α 1 = .pointer (some ⟨n, 0, none⟩) ∧ α 4 = .bool (decide (o.author ∈ o.who)) ∧ α 6 = .int .i64 (i : Nat) ∧ Low G3.length G3 G2 ∧ (∀ k z, k < i → o.boxes[k]? = some z → boxB o.author z = true) ∧ ∀ k, k + 1 < i → (o.boxes.map BoxD.to).getD k 0 < (o.boxes.map BoxD.to).getD (k + 1) 0) o.boxes.length ?_ ?_
  · exact ⟨0, by omega, by (first | (simp [put_at, put_none, fr0_at, q1]; done) | rfl), by (first | (simp [put_at, put_none, fr0_at, q4]; done) | rfl), by (first | (simp [put_at, put_none, fr0_at]; done) | rfl), Low.refl (Nat.le_refl _), fun k z hk => by omega, fun k hk => by omega⟩
  clear q1 q4 q5
  rintro c α G4 ⟨i, hic, q1, q4, q6, low4, hbox, hrise2⟩
  have hb4 := (low4.1 n (hget_lt hb)).trans hb
  have hle4 := low4.2
  have hlG3 := hget_lt hb
  refine aw_seq ?_
  refine aw_seq ?_
  by_cases hi : i < o.boxes.length
  case neg =>
    (refine aw_ops (by kernel_rfl) (fun K hK => ?_); simp (disch := first | omega | (simp only [lnS]; try omega; done)) [-getElem?_pos, -getElem?_neg, q1, q6, hb4, hul, c70, -notTuple, b1, b2, nt_intG, nt_ptrG, -xlen, hblen, hi]; refine hK _ _ ?_; clear hK K)
    refine aw_f (by (first | (simp [eval_tmp, put_at, hi]; done) | (simp [eval_tmp, put_at, hi]; omega))) (by kernel_rfl) ?_
    refine aw_exit ?_
    obtain rfl : i = o.boxes.length := by omega
    have hB : boxesB o = true := by
      unfold boxesB risesX
      rw [all_take (fun k z hz => hbox k z (List.getElem?_eq_some_iff.1 hz).1 hz), Bool.true_and]
      exact range_true fun k hk => by
        rw [decide_eq_true_eq, cmpI_lt]
        exact hrise2 k (by omega)
    rw [hB, Bool.true_and] at hrf
    have hO4 : OpC G4 us o pv wv bv := hG.low low4.1
    have hkd := rkind_rc (γ := γ) hO4 hw (decide (o.author ∈ o.who))
    refine aw_seq ?_
    refine aw_ops (by kernel_rfl) (fun K hK => ?_)
    simp (disch := first | omega | (simp only [lnS]; try omega; done)) [-getElem?_pos, -getElem?_neg, q1, q4, hb4, hul, htu, nt_aggG]
    refine ⟨by kernel_rfl, ac_of_rc hkd (by simp [pv_iv, pv_int, pv_bool, pv_string, pv_tup2, pv_tup3, iv_plain, p2_int, p2_bool, p2_string]) ?_⟩
    try simp (disch := first | omega | (simp only [lnS]; try omega; done)) [-getElem?_pos, -getElem?_neg]
    refine hK _ _ ?_; clear hK K
    (refine aw_ret ?_; simp (disch := first | omega | (simp only [lnS]; try omega; done)) [-getElem?_pos, -getElem?_neg, thenQ_ret, scopeQ_ret, inBlockQ_ret, RQ, resL, resV])
    rw [hrf]
  obtain ⟨z, hz⟩ : ∃ z, o.boxes[i]? = some z := ⟨_, List.getElem?_eq_getElem hi⟩
  obtain ⟨j, q, bb, ws, hxa, hbb, hq, hws, hcl, hC⟩ := hbx.row_at hw.boxes hz
  have hbb4 := (low4.1 j (hget_lt hbb)).trans hbb
  have hwl := hC.len
  have d0 := hC.c0
  have d35 := hC.c35
  have hws' := hws.symm
  clear hws
  have hset2 : ∀ Z : List Value, Z.length = 36 → setR Z 0 ws = ws := fun Z hZ => setR_all _ _ (by omega)
  have hzw := hw.boxes z (List.mem_of_getElem? hz)
  have hzb := hzw.body
  have hzt := hzw.to
  have htd : (o.boxes.map BoxD.to).getD i 0 = z.to := getD_of (by rw [List.getElem?_map, hz]; rfl)
  have hnG : n ≤ G4.length := by omega
  (refine aw_ops (by kernel_rfl) (fun K hK => ?_); simp (disch := first | omega | (simp only [lnS]; try omega; done)) [-getElem?_pos, -getElem?_neg, q1, q6, hb4, hul, c70, -notTuple, b1, b2, nt_intG, nt_ptrG, -xlen, hblen, hi]; refine hK _ _ ?_; clear hK K)
  refine aw_t (by (first | (simp [eval_tmp, put_at, hi]; done) | (simp [eval_tmp, put_at, hi]; omega))) (by kernel_rfl) ?_
  refine aw_skip ?_
  refine aw_seq ?_
  refine aw_block ?_
  refine aw_seq ?_
  (refine aw_ops (by kernel_rfl) (fun K hK => ?_); simp (disch := first | omega | (simp only [lnS]; try omega; done)) [-getElem?_pos, -getElem?_neg, q1, q6, hb4, hul, c70, -notTuple, b1, b2, nt_intG, nt_ptrG, nt_aggG, -xindexAddr, hxa, hbb4, hws', hwl, hq, hnG, all_zl, hset2]; refine hK _ _ ?_; clear hK K)
  obtain ⟨low5, hbg⟩ := boxed (H := G4) ws 60
  obtain ⟨g, hg⟩ : ∃ g, g = G4.length := ⟨_, rfl⟩
  rw [← hg] at hbg ⊢
  generalize G4 ++ [some ⟨ws, 60, none⟩] = G5 at *
  have hb5 := (low5.1 n (by omega)).trans hb4
  have hxA : xload Try.prog 3 (.pointer (some ⟨n, 0, none⟩)) G5 = some (.int .i64 o.author) := by simp [xload, hb5, c0]
  have hxT : xload Try.prog 3 (.pointer (some ⟨g, 0, none⟩)) G5 = some (.int .i64 z.to) := by simp [xload, hbg, d0]
  have hxB : xload Try.prog 9 (.pointer (some ⟨g, 35, none⟩)) G5 = some (.string z.body) := by simp [xload, hbg, d35]
  have hx70 : xload Try.prog 35 (.pointer (some ⟨n, 70, none⟩)) G5 = some bv := by simp [xload, hb5, c70]
  have hxt : xlen Try.prog 9 (.string z.body) = some (.int .i64 z.body.size) := by simp [xlen]
  have hzb2 : z.body.size ≤ 9223372036854775807 := by simp only [maxLen] at hzb; omega
  have low45 : Low G3.length G3 G5 := ⟨fun j hj => (low5.1 j (by omega)).trans (low4.1 j hj), by have := low5.2; omega⟩
  have q6' := q6
  have hbadB : boxB o.author z = false → boxesB o = false := fun hh => by unfold boxesB; rw [all_false hz hh]; rfl
  refine aw_seq ?_
  have hnextI : ∀ w : Int, (o.boxes.map BoxD.to).getD (i - 1) 0 = w → True := fun _ _ => trivial
  refine aw_cut (fun α G2 => α 152 = .bool (!(boxB o.author z && (decide (i = 0) || decide ((o.boxes.map BoxD.to).getD (i - 1) 0 < z.to)))) ∧ α 1 = .pointer (some ⟨n, 0, none⟩) ∧ α 4 = .bool (decide (o.author ∈ o.who)) ∧ α 6 = .int .i64 (i : Nat) ∧ G2 = G5) ?_ ?_
  · (refine aw_plan [] [] [0, 1, 2, 3, 4, 5, 6, 7, 8, 9, 10, 11, 12, 13, 14, 15, 16, 17, 18, 19, 20, 21, 22, 23, 24, 25, 26, 27, 28, 29, 30, 31, 32] 33 0 (by kernel_rfl) (by kernel_rfl) (by kernel_rfl) (fun K hK => ?_)); simp only [sel, List.getElem?_cons_succ, List.getElem?_cons_zero, List.drop_succ_cons, List.drop_zero]; simp (disch := first | omega | (simp only [lnS]; try omega; done)) [-getElem?_pos, -getElem?_neg, q1, q6, hb, hul, c70, hbg, hwl, d0, d35, -notTuple, b1, b2, nt_intG, nt_ptrG, nt_strG, -xlen, hxt, -xload, hxA, hxT, hxB, hx70, PL_nil, plainB_lit, PL_cons, PLc_val, PLc_new, stepP_t, stepP_f, stepPC_n, stepPC_s, stepPX_s, stepPX_n, stepPV_n, stepPV_s, stepPA_t, stepPA_c, stepPA_l, stepPN_s, allocOp, reloc_sl, reloc_ptr, List.map_cons, List.map_nil, List.nil_append, List.append_assoc, List.cons_append, Nat.add_assoc]
    refine PLc_call (v := .bool (memI z.to)) (by kernel_rfl) (fun L hL => ac_of_vc (by simp [pv_iv, pv_int, pv_bool, pv_string, pv_tup2, pv_tup3, iv_plain, p2_int, p2_bool, p2_string]) (member_vc z.to) rfl) (by simp [pv_iv, pv_int, pv_bool, pv_string, pv_tup2, pv_tup3, iv_plain, p2_int, p2_bool, p2_string]) ?_
    cases k1 : memI z.to with
    | false =>
      simp (disch := first | omega | (simp only [lnS]; try omega; done)) [-getElem?_pos, -getElem?_neg, PL_nil, plainB_lit, PL_cons, PLc_val, PLc_new, stepP_t, stepP_f, stepPC_n, stepPC_s, stepPX_s, stepPX_n, stepPV_n, stepPV_s, stepPA_t, stepPA_c, stepPA_l, stepPN_s, allocOp, reloc_sl, reloc_ptr, List.map_cons, List.map_nil, List.nil_append, List.append_assoc, List.cons_append, Nat.add_assoc]
      refine hK _ _ ?_; clear hK K
      exact ⟨by simp [boxB, k1, put_at], by (first | (simp [put_at, put_none, fr0_at, q1]; done) | rfl), by (first | (simp [put_at, put_none, fr0_at, q4]; done) | rfl), by (first | (simp [put_at, put_none, fr0_at, q6]; done) | rfl), rfl⟩
    | true =>
    by_cases k2 : z.to = o.author
    · have k2b : (z.to == o.author) = true := by simp [k2]
      simp (disch := first | omega | (simp only [lnS]; try omega; done)) [-getElem?_pos, -getElem?_neg, q1, q6, hb, hul, c70, hbg, hwl, d0, d35, -notTuple, b1, b2, nt_intG, nt_ptrG, nt_strG, -xlen, hxt, -xload, hxA, hxT, hxB, hx70, k2, k2b, PL_nil, plainB_lit, PL_cons, PLc_val, PLc_new, stepP_t, stepP_f, stepPC_n, stepPC_s, stepPX_s, stepPX_n, stepPV_n, stepPV_s, stepPA_t, stepPA_c, stepPA_l, stepPN_s, allocOp, reloc_sl, reloc_ptr, List.map_cons, List.map_nil, List.nil_append, List.append_assoc, List.cons_append, Nat.add_assoc]
      refine hK _ _ ?_; clear hK K
      exact ⟨by simp [boxB, k1, k2, put_at], by (first | (simp [put_at, put_none, fr0_at, q1]; done) | rfl), by (first | (simp [put_at, put_none, fr0_at, q4]; done) | rfl), by (first | (simp [put_at, put_none, fr0_at, q6]; done) | rfl), rfl⟩
    have k2b : (z.to == o.author) = false := by simp [k2]
    by_cases k3 : z.body.size ≤ 256
    case neg =>
      have k3b : 256 < z.body.size := by omega
      simp (disch := first | omega | (simp only [lnS]; try omega; done)) [-getElem?_pos, -getElem?_neg, q1, q6, hb, hul, c70, hbg, hwl, d0, d35, -notTuple, b1, b2, nt_intG, nt_ptrG, nt_strG, -xlen, hxt, -xload, hxA, hxT, hxB, hx70, k2, k2b, k3b, PL_nil, plainB_lit, PL_cons, PLc_val, PLc_new, stepP_t, stepP_f, stepPC_n, stepPC_s, stepPX_s, stepPX_n, stepPV_n, stepPV_s, stepPA_t, stepPA_c, stepPA_l, stepPN_s, allocOp, reloc_sl, reloc_ptr, List.map_cons, List.map_nil, List.nil_append, List.append_assoc, List.cons_append, Nat.add_assoc]
      refine hK _ _ ?_; clear hK K
      exact ⟨by simp [boxB, k1, k2, k3, put_at], by (first | (simp [put_at, put_none, fr0_at, q1]; done) | rfl), by (first | (simp [put_at, put_none, fr0_at, q4]; done) | rfl), by (first | (simp [put_at, put_none, fr0_at, q6]; done) | rfl), rfl⟩
    have k3b : ¬ 256 < z.body.size := by omega
    by_cases hi0 : 0 < i
    case neg =>
      have hi0e : i = 0 := by omega
      simp (disch := first | omega | (simp only [lnS]; try omega; done)) [-getElem?_pos, -getElem?_neg, q1, q6, hb, hul, c70, hbg, hwl, d0, d35, -notTuple, b1, b2, nt_intG, nt_ptrG, nt_strG, -xlen, hxt, -xload, hxA, hxT, hxB, hx70, k2, k2b, k3b, hi0, PL_nil, plainB_lit, PL_cons, PLc_val, PLc_new, stepP_t, stepP_f, stepPC_n, stepPC_s, stepPX_s, stepPX_n, stepPV_n, stepPV_s, stepPA_t, stepPA_c, stepPA_l, stepPN_s, allocOp, reloc_sl, reloc_ptr, List.map_cons, List.map_nil, List.nil_append, List.append_assoc, List.cons_append, Nat.add_assoc]
      refine hK _ _ ?_; clear hK K
      exact ⟨by simp [boxB, k1, k2, k3, hi0e, put_at], by (first | (simp [put_at, put_none, fr0_at, q1]; done) | rfl), by (first | (simp [put_at, put_none, fr0_at, q4]; done) | rfl), by (first | (simp [put_at, put_none, fr0_at, q6]; done) | rfl), rfl⟩
    have hi0n : ¬ i = 0 := by omega
    obtain ⟨y, hy⟩ : ∃ y, o.boxes[i - 1]? = some y := ⟨_, List.getElem?_eq_getElem (by omega)⟩
    obtain ⟨j', q', bb', ws', hxa', hbb', hq', hws2, hcl', hC'⟩ := hbx.row_at hw.boxes hy
    have hbb5 := (low45.1 j' (hget_lt hbb')).trans hbb'
    have htd' : (o.boxes.map BoxD.to).getD (i - 1) 0 = y.to := getD_of (by rw [List.getElem?_map, hy]; rfl)
    have e0 := (hcl' 0 (by omega)).trans hC'.c0
    have hxY : xload Try.prog 3 (.pointer (some ⟨j', q', none⟩)) G5 = some (.int .i64 y.to) := by simp [xload, hbb5]; simpa using e0
    have hsub : (i : Int) - 1 = ((i - 1 : Nat) : Int) := by omega
    by_cases k4 : y.to < z.to
    · have k4b : ¬ z.to ≤ y.to := by omega
      simp (disch := first | omega | (simp only [lnS]; try omega; done)) [-getElem?_pos, -getElem?_neg, q1, q6, hb, hul, c70, hbg, hwl, d0, d35, -notTuple, b1, b2, nt_intG, nt_ptrG, nt_strG, -xlen, hxt, -xload, hxA, hxT, hxB, hx70, k2, k2b, k3b, hi0, hsub, -xindexAddr, hxa', hxY, k4b, PL_nil, plainB_lit, PL_cons, PLc_val, PLc_new, stepP_t, stepP_f, stepPC_n, stepPC_s, stepPX_s, stepPX_n, stepPV_n, stepPV_s, stepPA_t, stepPA_c, stepPA_l, stepPN_s, allocOp, reloc_sl, reloc_ptr, List.map_cons, List.map_nil, List.nil_append, List.append_assoc, List.cons_append, Nat.add_assoc]
      refine hK _ _ ?_; clear hK K
      exact ⟨by simp only [htd']; simp [boxB, k1, k2, k3, hi0n, k4, put_at], by (first | (simp [put_at, put_none, fr0_at, q1]; done) | rfl), by (first | (simp [put_at, put_none, fr0_at, q4]; done) | rfl), by (first | (simp [put_at, put_none, fr0_at, q6]; done) | rfl), rfl⟩
    · have k4b : z.to ≤ y.to := by omega
      simp (disch := first | omega | (simp only [lnS]; try omega; done)) [-getElem?_pos, -getElem?_neg, q1, q6, hb, hul, c70, hbg, hwl, d0, d35, -notTuple, b1, b2, nt_intG, nt_ptrG, nt_strG, -xlen, hxt, -xload, hxA, hxT, hxB, hx70, k2, k2b, k3b, hi0, hsub, -xindexAddr, hxa', hxY, k4b, PL_nil, plainB_lit, PL_cons, PLc_val, PLc_new, stepP_t, stepP_f, stepPC_n, stepPC_s, stepPX_s, stepPX_n, stepPV_n, stepPV_s, stepPA_t, stepPA_c, stepPA_l, stepPN_s, allocOp, reloc_sl, reloc_ptr, List.map_cons, List.map_nil, List.nil_append, List.append_assoc, List.cons_append, Nat.add_assoc]
      refine hK _ _ ?_; clear hK K
      exact ⟨by simp only [htd']; simp [boxB, k1, k2, k3, hi0n, k4, put_at], by (first | (simp [put_at, put_none, fr0_at, q1]; done) | rfl), by (first | (simp [put_at, put_none, fr0_at, q4]; done) | rfl), by (first | (simp [put_at, put_none, fr0_at, q6]; done) | rfl), rfl⟩
  clear q1 q4 q6 q6'
  rintro α G6 ⟨q152, q1, q4, q6, rfl⟩
  cases hgood : (boxB o.author z && (decide (i = 0) || decide ((o.boxes.map BoxD.to).getD (i - 1) 0 < z.to))) with
  | false =>
    rw [hgood] at q152
    refine aw_t (by (first | (simp [eval_tmp, put_at, q152]; done) | (simp [eval_tmp, put_at, q152]; omega))) (by kernel_rfl) ?_
    refine aw_seq ?_
    (refine aw_ops (by kernel_rfl) (fun K hK => ?_); simp (disch := first | omega | (simp only [lnS]; try omega; done)) [-getElem?_pos, -getElem?_neg]; refine hK _ _ ?_; clear hK K)
    (refine aw_ret ?_; simp (disch := first | omega | (simp only [lnS]; try omega; done)) [-getElem?_pos, -getElem?_neg, thenQ_ret, scopeQ_ret, inBlockQ_ret, RQ, resL, resV])
    have hBf : boxesB o = false := by
      rw [Bool.and_eq_false_iff] at hgood
      rcases hgood with hh | hh
      · exact hbadB hh
      · rw [Bool.or_eq_false_iff, decide_eq_false_iff_not, decide_eq_false_iff_not] at hh
        unfold boxesB
        have : risesX o.boxes = false := by
          unfold risesX
          refine range_false (i := i - 1) (by omega) ?_
          rw [decide_eq_false_iff_not, show i - 1 + 1 = i by omega, htd, cmpI_lt]
          exact hh.2
        rw [this, Bool.and_false]
    rw [hrf, hBf]; rfl
  | true =>
    rw [hgood] at q152
    refine aw_f (by (first | (simp [eval_tmp, put_at, q152]; done) | (simp [eval_tmp, put_at, q152]; omega))) (by kernel_rfl) ?_
    refine aw_skip ?_
    rw [Bool.and_eq_true, Bool.or_eq_true, decide_eq_true_eq, decide_eq_true_eq] at hgood
    (refine aw_ops (by kernel_rfl) (fun K hK => ?_); simp (disch := first | omega | (simp only [lnS]; try omega; done)) [-getElem?_pos, -getElem?_neg, q6]; refine hK _ _ ?_; clear hK K)
    refine ⟨c - 1, by omega, i + 1, by omega, by (first | (simp [put_at, put_none, fr0_at, q1]; done) | rfl), by (first | (simp [put_at, put_none, fr0_at, q4]; done) | rfl), by (first | (simp [put_at, put_none, fr0_at]; done) | rfl), low45, fun k z' hk hz' => ?_, fun k hk => ?_⟩
    · by_cases e : k = i
      · subst e
        rw [hz] at hz'
        cases hz'
        exact hgood.1
      · exact hbox k z' (by omega) hz'
    · by_cases e : k + 1 = i
      · rw [e, htd, show k = i - 1 by omega]
        rcases hgood.2 with hh | hh
        · omega
        · exact hh
      · exact hrise2 k (by omega)
end
section
/-- A datum of one cell that has no memory beneath it, and its value. -/
def CD.flat : CD → Bool | .sl _ => false | _ => true
def CD.fv : CD → Value | .int k z => .int k z | .str s => .string s | .bool b => .bool b | .sl _ => undef
theorem flat_val {H : AH} {d : CD} {x : Value} (hf : d.flat = true) (h : CD.Val H d x) : x = d.fv := by
  cases h with
  | int => rfl
  | str => rfl
  | bool => rfl
  | nil _ => cases hf
  | sl _ _ _ _ => cases hf
theorem val_flat {H : AH} {d : CD} (hf : d.flat = true) : CD.Val H d d.fv := by
  cases d with
  | int => exact .int
  | str => exact .str
  | bool => exact .bool
  | sl => cases hf
theorem fl_at {β : Type} {L : List (List β)} {n i c : Nat} {row : List β} {d : β} (h : ∀ r ∈ L, r.length = n) (hi : L[i]? = some row) (hc : row[c]? = some d) : L.flatten[i * n + c]? = some d := by
  have hr := h row (List.mem_of_getElem? hi)
  have hcl := (List.getElem?_eq_some_iff.1 hc).1
  have := fl_get h hi
  rw [← this] at hc
  rwa [List.getElem?_take_of_lt (by omega), List.getElem?_drop] at hc
def flatR (rows : List (List CD)) : Prop := ∀ row ∈ rows, ∀ d ∈ row, d.flat = true
theorem val_cells {H : AH} {rows : List (List CD)} {v : Value} {sz : Nat} (h0 : 0 < sz) (h : CD.Val H (.sl rows) v) (hr : ∀ row ∈ rows, row.length = sz) (hf : flatR rows) : xcells sz v H = some (rows.flatten.map CD.fv) := by
  cases h with
  | @nil a ha =>
    cases a with
    | none => rfl
    | some x =>
      obtain ⟨j, off, spot⟩ := x
      have hsp : spot = some 0 := ha _ rfl
      subst hsp
      rfl
  | @sl sz' j k _ h1 h2 h3 h4 =>
    have hlen : rows.flatten.length = rows.length * sz := fl_len hr
    have hle : rows.length * sz ≤ k.cells.length := by
      cases rows with
      | nil => simp
      | cons r rs =>
        have e1 := h3 r (by simp)
        have e2 := hr r (by simp)
        rw [← e2, e1]; exact h2
    have hx : xcells sz (.slice (some ⟨j, 0, none⟩) rows.length rows.length) H = some ((k.cells.drop 0).take (rows.length * sz)) := by
      unfold xcells
      simp only [h1]
      rw [if_pos (by omega)]
    rw [hx, List.drop_zero]
    congr 1
    apply List.ext_getElem?
    intro c
    rcases Nat.lt_or_ge c (rows.length * sz) with hc | hc
    · have hi : c / sz < rows.length := Nat.div_lt_of_lt_mul (by rw [Nat.mul_comm]; exact hc)
      obtain ⟨row, hrow⟩ : ∃ row, rows[c / sz]? = some row := ⟨_, List.getElem?_eq_getElem hi⟩
      have hrl := hr row (List.mem_of_getElem? hrow)
      have hrl' := h3 row (List.mem_of_getElem? hrow)
      have hm := Nat.mod_lt c h0
      obtain ⟨d, hd⟩ : ∃ d, row[c % sz]? = some d := ⟨_, List.getElem?_eq_getElem (by omega)⟩
      have hce : c / sz * sz + c % sz = c := by rw [Nat.mul_comm]; exact Nat.div_add_mod c sz
      have hat := fl_at hr hrow hd
      rw [hce] at hat
      have hkc : k.cells[c]? = some (k.cells[c]'(by omega)) := List.getElem?_eq_getElem _
      have hv := h4 (c / sz) row (c % sz) d _ hrow hd (by rw [show sz' = sz by omega, hce]; exact hkc)
      rw [List.getElem?_take_of_lt hc, hkc, flat_val (hf row (List.mem_of_getElem? hrow) d (List.mem_of_getElem? hd)) hv, List.getElem?_map, hat]
      rfl
    · rw [List.getElem?_eq_none (by rw [List.length_take]; omega), List.getElem?_eq_none (by rw [List.length_map, hlen]; omega)]
theorem own_val {G : AH} {v : Value} {e : TypeId} {sz : Nat} {rows : List (List CD)} {F : List Nat} (h0 : 0 < sz) (h : OwnF G v e sz (rows.flatten.map CD.fv) F) (hr : ∀ row ∈ rows, row.length = sz) (hf : flatR rows) : CD.Val G (.sl rows) v := by
  have hlen : rows.flatten.length = rows.length * sz := fl_len hr
  rcases h with ⟨rfl, h1, _⟩ | ⟨j, len, rfl, h2, h3, _⟩
  · have h4 := congrArg List.length h1
    rw [List.length_map, hlen, List.length_nil] at h4
    have : rows.length = 0 := by
      rcases Nat.mul_eq_zero.1 h4 with h | h
      · exact h
      · omega
    rw [List.eq_nil_of_length_eq_zero this]
    exact .nil (fun x e => by cases e)
  · rw [List.length_map, hlen] at h3
    have : len = rows.length := (Nat.eq_of_mul_eq_mul_right h0 h3).symm
    subst this
    refine .sl (sz := sz) h2 (by show _ ≤ (rows.flatten.map CD.fv).length; rw [List.length_map, hlen]; exact Nat.le_refl _) hr (fun i row c d x hi hc hx => ?_)
    have hat := fl_at hr hi hc
    have hx' : (rows.flatten.map CD.fv)[i * sz + c]? = some x := hx
    rw [List.getElem?_map, hat] at hx'
    cases hx'
    exact val_flat (hf row (List.mem_of_getElem? hi) d (List.mem_of_getElem? hc))
/-- The copy of a slice. -/
def clV (v : Value) (n : Nat) : Value := match v with | .slice none _ _ => .slice none 0 0 | .slice (some _) k _ => .slice (some ⟨n + 1, 0, none⟩) k k | _ => undef
def clN (v : Value) : Nat := match v with | .slice none _ _ => 0 | _ => 2
theorem val_shape {H : AH} {rows : List (List CD)} {v : Value} (h : CD.Val H (.sl rows) v) : (v = .slice none 0 0 ∧ rows = []) ∨ ∃ a, v = .slice (some a) rows.length rows.length := by
  cases h with
  | @nil a ha =>
    cases a with
    | none => exact .inl ⟨rfl, rfl⟩
    | some x => exact .inr ⟨x, rfl⟩
  | sl _ _ _ _ => exact .inr ⟨_, rfl⟩
theorem clone_app {P : Program} {nro : Nat} {t e : TypeId} {sz : Nat} {cells : List Value} {H : AH} {a : Addr} {n : Nat} (hu : und P t = .slice e) (hs : szt P e = sz) (h0 : 0 < sz) (hz : (zer P e).map (·.cells.size) = some sz) (hnro : nro ≤ H.length)
    (hx : xcells sz (.slice (some a) n n) (H ++ [some ⟨[], e, some sz⟩]) = some cells) (hl : cells.length = n * sz) (hb : cells.length * byt P e ≤ 140737488355328) (hm : cells.length ≤ maxLen) :
    xappend P nro t (.slice (some ⟨H.length, 0, none⟩) 0 0) (.slice (some a) n n) (H ++ [some ⟨[], e, some sz⟩]) = some (.slice (some ⟨H.length + 1, 0, none⟩) n n, H ++ [none, some ⟨cells, e, some sz⟩]) := by
  subst hs
  have hg : hget (H ++ [some ⟨[], e, some (szt P e)⟩]) H.length = some ⟨[], e, some (szt P e)⟩ := by rw [hget_app0]; rfl
  unfold xappend
  simp only [hu, hx, hg]
  rw [if_pos ⟨trivial, h0, hz, hnro, trivial, trivial, by simp, by simpa using hb, by simpa using hm⟩, hl, Nat.mul_div_cancel _ h0]
  simp
/-- New memory that shows a row's cells. -/
def NewC (H : AH) (v : Value) (e : TypeId) (sz : Nat) (cells : List Value) (v' : Value) (H' : AH) : Prop :=
  v' = clV v H.length ∧ H'.length = H.length + clN v ∧ Low H.length H H' ∧ ∃ F, OwnF H' v' e sz cells F ∧ ∀ j ∈ F, H.length ≤ j
theorem kd_flat (ps : List (List Int)) : flatR (ps.map kd) := by
  intro row hr d hd
  obtain ⟨k, _, rfl⟩ := List.mem_map.1 hr
  obtain ⟨z, _, rfl⟩ := List.mem_map.1 hd
  rfl
theorem int_flat (l : List Int) : flatR (l.map fun z => [CD.int .i64 z]) := by
  intro row hr d hd
  obtain ⟨k, _, rfl⟩ := List.mem_map.1 hr
  rw [List.mem_singleton] at hd
  subst hd
  rfl
theorem box_flat (l : List BoxD) : flatR (l.map BoxD.row) := by
  intro row hr d hd
  obtain ⟨b, _, rfl⟩ := List.mem_map.1 hr
  simp only [BoxD.row, kd, List.mem_append, List.mem_singleton, List.mem_map, List.mem_cons, List.not_mem_nil, or_false] at hd
  rcases hd with rfl | ⟨z, _, rfl⟩ | rfl | rfl | rfl <;> rfl
theorem kd_len {ps : List (List Int)} (h : ∀ k ∈ ps, k.length = 32) : ∀ row ∈ ps.map kd, row.length = 32 := by
  intro row hr
  obtain ⟨k, hk, rfl⟩ := List.mem_map.1 hr
  rw [kd, List.length_map]; exact h k hk
theorem int_len (l : List Int) : ∀ row ∈ l.map fun z => [CD.int .i64 z], row.length = 1 := by
  intro row hr
  obtain ⟨k, hk, rfl⟩ := List.mem_map.1 hr
  rfl
theorem box_len {l : List BoxD} (h : ∀ b ∈ l, b.Wf) : ∀ row ∈ l.map BoxD.row, row.length = 36 := by
  intro row hr
  obtain ⟨b, hb, rfl⟩ := List.mem_map.1 hr
  have := (h b hb).pub.1
  simp [BoxD.row, kd, this]
def ksC (ps : List (List Int)) : List Value := (ps.map kd).flatten.map CD.fv
def isC (l : List Int) : List Value := (l.map fun z => [CD.int .i64 z]).flatten.map CD.fv
def bxC (l : List BoxD) : List Value := (l.map BoxD.row).flatten.map CD.fv
theorem ksC_len {ps : List (List Int)} (h : ∀ k ∈ ps, k.length = 32) : (ksC ps).length = ps.length * 32 := by unfold ksC; rw [List.length_map, fl_len (kd_len h), List.length_map]
theorem isC_len (l : List Int) : (isC l).length = l.length * 1 := by unfold isC; rw [List.length_map, fl_len (int_len l), List.length_map]
theorem bxC_len {l : List BoxD} (h : ∀ b ∈ l, b.Wf) : (bxC l).length = l.length * 36 := by unfold bxC; rw [List.length_map, fl_len (box_len h), List.length_map]
attribute [local simp] wb_bool wb_undef with_lit XL_nil XL_cons XLc_val XLc_call step1_eq stepW_t stepW_f stepC_n stepC_s stepX_s stepX_n stepN_s calleeX oneV xop_eq xopR_s xopR_n wantedA_eq wantedG_n wantedG_s plain1_int plain1_bool plain1_string bits_i64 bits_u64 bits_u32 bits_u16 bits_u8 xeqA xagg xcmp xarr allK_iv num_iv calleeOf xread xeff xbin xint xnil xun xstr xload xconv xpart xfield xfieldAddr xindexAddr xindex bnd asInt? xslice xlen xmin xmax xbuild xfill xappend xapp2 xappstr xappmk xcap xcopy xcells eval_tmp eval_const put_at put_none fr0_at cells_agg cells_int cells_bool cells_string cells_ptr cells_slice notTuple tab iv_all hget_app hget_app0 hget_cons0 hget_cons set_app set_app0 setR setR_one QL_nil QL_cons QLc_val stepQ_t stepQ_f stepQC_n stepQC_s stepQX_s SL_nil SL_cons SLc_val stepS_t stepS_f ltT ltF leT leF eqT eqF ltTn ltFn leTn leFn eqTn eqFn beqT beqF bneT bneF wi64 wu64 wu32 wu16 wu8 tmodP tdivP hgetL hgetNe hgetEq setL nums_def nums_len Nat.succ_le_of_lt List.getElem?_cons_zero List.getElem?_cons_succ Option.getD_some Int.toNat_add Int.toNat_mul agM okM agB agI agS agP agL agA okB okI okS okP okSl okA
theorem cloneI_ac {nro : Nat} {γ : Nat → Option Nat} {H : AH} {v : Value} {l : List Int} (h : InV H v l) (hnro : nro ≤ H.length) (hm : l.length ≤ 100000000000) : AC Try.prog nro γ 73 #[v] H (NewC H v 3 1 (isC l)) := by
  have hxc : ∀ G : AH, Low H.length H G → xcells 1 v G = some (isC l) := fun G hG => val_cells (by omega) (CD.Val.low (fun j hj => hG.1 j hj) h) (int_len l) (int_flat l)
  have hcl := isC_len l
  have hsh := val_shape h
  rw [List.length_map] at hsh
  generalize isC l = cells at *
  have hb0 : Low H.length H (H ++ [some ⟨[], 3, some 1⟩]) := Low.push (Nat.le_refl _) _
  refine ac_of_aw Try.func73 rfl Try.ntmps73 Try.results73 (by simp) ?_
  refine aw_seq ?_
  (refine aw_ops (by kernel_rfl) (fun K hK => ?_); simp (disch := first | omega | (simp only [lnS]; try omega; done)) [-getElem?_pos, -getElem?_neg]; refine hK _ _ ?_; clear hK K)
  refine aw_seq ?_
  refine aw_seq ?_
  rcases hsh with ⟨rfl, hl0⟩ | ⟨a, rfl⟩
  · have hl0 : l = [] := List.map_eq_nil_iff.1 hl0
    subst hl0
    have hc0 : cells = [] := List.eq_nil_of_length_eq_zero (by simpa using hcl)
    subst hc0
    (refine aw_ops (by kernel_rfl) (fun K hK => ?_); simp (disch := first | omega | (simp only [lnS]; try omega; done)) [-getElem?_pos, -getElem?_neg]; refine hK _ _ ?_; clear hK K)
    refine aw_t (by (first | (simp [eval_tmp, put_at]; done) | (simp [eval_tmp, put_at]; omega))) (by kernel_rfl) ?_
    refine aw_seq ?_
    (refine aw_ops (by kernel_rfl) (fun K hK => ?_); simp (disch := first | omega | (simp only [lnS]; try omega; done)) [-getElem?_pos, -getElem?_neg]; refine hK _ _ ?_; clear hK K)
    (refine aw_ret ?_; simp (disch := first | omega | (simp only [lnS]; try omega; done)) [-getElem?_pos, -getElem?_neg, thenQ_ret, scopeQ_ret, inBlockQ_ret, RQ, resL, resV])
    exact ⟨rfl, rfl, Low.refl (Nat.le_refl _), [], .inl ⟨rfl, rfl, rfl⟩, fun j hj => by cases hj⟩
  · have hap := clone_app (P := Try.prog) (nro := nro) (t := 34) (e := 3) (sz := 1) (by simp) (by simp) (by omega) (by simp) hnro (hxc _ hb0) hcl (by rw [hcl]; simp; omega) (by rw [hcl]; simp only [maxLen]; omega)
    (refine aw_ops (by kernel_rfl) (fun K hK => ?_); simp (disch := first | omega | (simp only [lnS]; try omega; done)) [-getElem?_pos, -getElem?_neg]; refine hK _ _ ?_; clear hK K)
    refine aw_f (by (first | (simp [eval_tmp, put_at]; done) | (simp [eval_tmp, put_at]; omega))) (by kernel_rfl) ?_
    refine aw_skip ?_
    refine aw_seq ?_
    (refine aw_ops (by kernel_rfl) (fun K hK => ?_); simp (disch := first | omega | (simp only [lnS]; try omega; done)) [-getElem?_pos, -getElem?_neg, -xappend, hap, List.range_zero, List.map_nil]; refine hK _ _ ?_; clear hK K)
    (refine aw_ret ?_; simp (disch := first | omega | (simp only [lnS]; try omega; done)) [-getElem?_pos, -getElem?_neg, thenQ_ret, scopeQ_ret, inBlockQ_ret, RQ, resL, resV])
    exact ⟨rfl, by simp [clN], ⟨fun j hj => hget_left hj, by simp⟩, [H.length + 1], .inr ⟨H.length + 1, l.length, rfl, by rw [hget_app]; rfl, hcl, rfl⟩, fun j hj => by simp at hj; omega⟩
theorem cloneK_ac {nro : Nat} {γ : Nat → Option Nat} {H : AH} {v : Value} {l : List (List Int)} (h : KsV H v l) (hk : ∀ k ∈ l, k.length = 32) (hnro : nro ≤ H.length) (hm : l.length ≤ 100000000000) : AC Try.prog nro γ 74 #[v] H (NewC H v 24 32 (ksC l)) := by
  have hxc : ∀ G : AH, Low H.length H G → xcells 32 v G = some (ksC l) := fun G hG => val_cells (by omega) (CD.Val.low (fun j hj => hG.1 j hj) h) (kd_len hk) (kd_flat l)
  have hcl := ksC_len hk
  have hsh := val_shape h
  rw [List.length_map] at hsh
  generalize ksC l = cells at *
  have hb0 : Low H.length H (H ++ [some ⟨[], 24, some 32⟩]) := Low.push (Nat.le_refl _) _
  refine ac_of_aw Try.func74 rfl Try.ntmps74 Try.results74 (by simp) ?_
  refine aw_seq ?_
  (refine aw_ops (by kernel_rfl) (fun K hK => ?_); simp (disch := first | omega | (simp only [lnS]; try omega; done)) [-getElem?_pos, -getElem?_neg]; refine hK _ _ ?_; clear hK K)
  refine aw_seq ?_
  refine aw_seq ?_
  rcases hsh with ⟨rfl, hl0⟩ | ⟨a, rfl⟩
  · have hl0 : l = [] := List.map_eq_nil_iff.1 hl0
    subst hl0
    have hc0 : cells = [] := List.eq_nil_of_length_eq_zero (by simpa using hcl)
    subst hc0
    (refine aw_ops (by kernel_rfl) (fun K hK => ?_); simp (disch := first | omega | (simp only [lnS]; try omega; done)) [-getElem?_pos, -getElem?_neg]; refine hK _ _ ?_; clear hK K)
    refine aw_t (by (first | (simp [eval_tmp, put_at]; done) | (simp [eval_tmp, put_at]; omega))) (by kernel_rfl) ?_
    refine aw_seq ?_
    (refine aw_ops (by kernel_rfl) (fun K hK => ?_); simp (disch := first | omega | (simp only [lnS]; try omega; done)) [-getElem?_pos, -getElem?_neg]; refine hK _ _ ?_; clear hK K)
    (refine aw_ret ?_; simp (disch := first | omega | (simp only [lnS]; try omega; done)) [-getElem?_pos, -getElem?_neg, thenQ_ret, scopeQ_ret, inBlockQ_ret, RQ, resL, resV])
    exact ⟨rfl, rfl, Low.refl (Nat.le_refl _), [], .inl ⟨rfl, rfl, rfl⟩, fun j hj => by cases hj⟩
  · have hap := clone_app (P := Try.prog) (nro := nro) (t := 30) (e := 24) (sz := 32) (by simp) (by simp) (by omega) (by simp) hnro (hxc _ hb0) hcl (by rw [hcl]; simp; omega) (by rw [hcl]; simp only [maxLen]; omega)
    (refine aw_ops (by kernel_rfl) (fun K hK => ?_); simp (disch := first | omega | (simp only [lnS]; try omega; done)) [-getElem?_pos, -getElem?_neg]; refine hK _ _ ?_; clear hK K)
    refine aw_f (by (first | (simp [eval_tmp, put_at]; done) | (simp [eval_tmp, put_at]; omega))) (by kernel_rfl) ?_
    refine aw_skip ?_
    refine aw_seq ?_
    (refine aw_ops (by kernel_rfl) (fun K hK => ?_); simp (disch := first | omega | (simp only [lnS]; try omega; done)) [-getElem?_pos, -getElem?_neg, -xappend, hap, List.range_zero, List.map_nil]; refine hK _ _ ?_; clear hK K)
    (refine aw_ret ?_; simp (disch := first | omega | (simp only [lnS]; try omega; done)) [-getElem?_pos, -getElem?_neg, thenQ_ret, scopeQ_ret, inBlockQ_ret, RQ, resL, resV])
    exact ⟨rfl, by simp [clN], ⟨fun j hj => hget_left hj, by simp⟩, [H.length + 1], .inr ⟨H.length + 1, l.length, rfl, by rw [hget_app]; rfl, hcl, rfl⟩, fun j hj => by simp at hj; omega⟩
theorem cloneB_ac {nro : Nat} {γ : Nat → Option Nat} {H : AH} {v : Value} {l : List BoxD} (h : BxV H v l) (hw : ∀ b ∈ l, b.Wf) (hnro : nro ≤ H.length) (hm : l.length ≤ 10000000000) : AC Try.prog nro γ 75 #[v] H (NewC H v 60 36 (bxC l)) := by
  have hxc : ∀ G : AH, Low H.length H G → xcells 36 v G = some (bxC l) := fun G hG => val_cells (by omega) (CD.Val.low (fun j hj => hG.1 j hj) h) (box_len hw) (box_flat l)
  have hcl := bxC_len hw
  have hsh := val_shape h
  rw [List.length_map] at hsh
  generalize bxC l = cells at *
  have hb0 : Low H.length H (H ++ [some ⟨[], 60, some 36⟩]) := Low.push (Nat.le_refl _) _
  refine ac_of_aw Try.func75 rfl Try.ntmps75 Try.results75 (by simp) ?_
  refine aw_seq ?_
  (refine aw_ops (by kernel_rfl) (fun K hK => ?_); simp (disch := first | omega | (simp only [lnS]; try omega; done)) [-getElem?_pos, -getElem?_neg]; refine hK _ _ ?_; clear hK K)
  refine aw_seq ?_
  refine aw_seq ?_
  rcases hsh with ⟨rfl, hl0⟩ | ⟨a, rfl⟩
  · have hl0 : l = [] := List.map_eq_nil_iff.1 hl0
    subst hl0
    have hc0 : cells = [] := List.eq_nil_of_length_eq_zero (by simpa using hcl)
    subst hc0
    (refine aw_ops (by kernel_rfl) (fun K hK => ?_); simp (disch := first | omega | (simp only [lnS]; try omega; done)) [-getElem?_pos, -getElem?_neg]; refine hK _ _ ?_; clear hK K)
    refine aw_t (by (first | (simp [eval_tmp, put_at]; done) | (simp [eval_tmp, put_at]; omega))) (by kernel_rfl) ?_
    refine aw_seq ?_
    (refine aw_ops (by kernel_rfl) (fun K hK => ?_); simp (disch := first | omega | (simp only [lnS]; try omega; done)) [-getElem?_pos, -getElem?_neg]; refine hK _ _ ?_; clear hK K)
    (refine aw_ret ?_; simp (disch := first | omega | (simp only [lnS]; try omega; done)) [-getElem?_pos, -getElem?_neg, thenQ_ret, scopeQ_ret, inBlockQ_ret, RQ, resL, resV])
    exact ⟨rfl, rfl, Low.refl (Nat.le_refl _), [], .inl ⟨rfl, rfl, rfl⟩, fun j hj => by cases hj⟩
  · have hap := clone_app (P := Try.prog) (nro := nro) (t := 35) (e := 60) (sz := 36) (by simp) (by simp) (by omega) (by simp) hnro (hxc _ hb0) hcl (by rw [hcl]; simp; omega) (by rw [hcl]; simp only [maxLen]; omega)
    (refine aw_ops (by kernel_rfl) (fun K hK => ?_); simp (disch := first | omega | (simp only [lnS]; try omega; done)) [-getElem?_pos, -getElem?_neg]; refine hK _ _ ?_; clear hK K)
    refine aw_f (by (first | (simp [eval_tmp, put_at]; done) | (simp [eval_tmp, put_at]; omega))) (by kernel_rfl) ?_
    refine aw_skip ?_
    refine aw_seq ?_
    (refine aw_ops (by kernel_rfl) (fun K hK => ?_); simp (disch := first | omega | (simp only [lnS]; try omega; done)) [-getElem?_pos, -getElem?_neg, -xappend, hap, List.range_zero, List.map_nil]; refine hK _ _ ?_; clear hK K)
    (refine aw_ret ?_; simp (disch := first | omega | (simp only [lnS]; try omega; done)) [-getElem?_pos, -getElem?_neg, thenQ_ret, scopeQ_ret, inBlockQ_ret, RQ, resL, resV])
    exact ⟨rfl, by simp [clN], ⟨fun j hj => hget_left hj, by simp⟩, [H.length + 1], .inr ⟨H.length + 1, l.length, rfl, by rw [hget_app]; rfl, hcl, rfl⟩, fun j hj => by simp at hj; omega⟩
end
section
def opRow (o : OpD) (pv wv bv : Value) : List Value := [.int .i64 o.author, .int .u32 o.seq, pv, .int .i64 o.kind, wv] ++ (iv .u8 o.of ++ (iv .u8 o.check ++ [.string o.text, bv]))
def nodeRow (x : NodeD) (pv wv bv qv : Value) : List Value := iv .u8 x.id ++ (opRow x.op pv wv bv ++ [qv])
theorem opRow_len {o : OpD} (hw : o.Wf) (pv wv bv : Value) : (opRow o pv wv bv).length = 71 := by
  have h1 := hw.of.1
  have h2 := hw.check.1
  simp [opRow, iv_length, h1, h2]
theorem nodeRow_len {x : NodeD} (hw : x.Wf) (pv wv bv qv : Value) : (nodeRow x pv wv bv qv).length = 104 := by
  have h1 := hw.id.1
  have h2 := opRow_len hw.op pv wv bv
  simp [nodeRow, iv_length, h1, h2]
theorem OpC.row {H : AH} {us : List Value} {o : OpD} {pv wv bv : Value} (h : OpC H us o pv wv bv) (hw : o.Wf) : us = opRow o pv wv bv := by
  have hl := h.len
  have e0 : us.take 5 = [.int .i64 o.author, .int .u32 o.seq, pv, .int .i64 o.kind, wv] := by
    apply List.ext_getElem?
    intro i
    match i with
    | 0 => rw [List.getElem?_take_of_lt (by omega), h.c0]; rfl
    | 1 => rw [List.getElem?_take_of_lt (by omega), h.c1]; rfl
    | 2 => rw [List.getElem?_take_of_lt (by omega), h.c2]; rfl
    | 3 => rw [List.getElem?_take_of_lt (by omega), h.c3]; rfl
    | 4 => rw [List.getElem?_take_of_lt (by omega), h.c4]; rfl
    | i + 5 => rw [List.getElem?_eq_none (by rw [List.length_take]; omega), List.getElem?_eq_none (by simp)]
  have e2 : us.drop 69 = [.string o.text, bv] := by
    apply List.ext_getElem?
    intro i
    match i with
    | 0 => rw [List.getElem?_drop, h.c69]; rfl
    | 1 => rw [List.getElem?_drop, h.c70]; rfl
    | i + 2 => rw [List.getElem?_eq_none (by rw [List.length_drop]; omega), List.getElem?_eq_none (by simp)]
  have e1 : us.drop 5 = iv .u8 o.of ++ us.drop 37 := by
    have := (List.take_append_drop 32 (us.drop 5)).symm
    rwa [h.of, List.drop_drop] at this
  have e3 : us.drop 37 = iv .u8 o.check ++ us.drop 69 := by
    have := (List.take_append_drop 32 (us.drop 37)).symm
    rwa [h.check, List.drop_drop] at this
  have := (List.take_append_drop 5 us).symm
  rwa [e0, e1, e3, e2] at this
theorem NodeC.row {H : AH} {us : List Value} {x : NodeD} {pv wv bv qv : Value} (h : NodeC H us x pv wv bv qv) (hw : x.Wf) : us = nodeRow x pv wv bv qv := by
  have hl := h.len
  have e0 := h.op.row hw.op
  have e2 : us.drop 103 = [qv] := by
    apply List.ext_getElem?
    intro i
    match i with
    | 0 => rw [List.getElem?_drop, h.c103]; rfl
    | i + 1 => rw [List.getElem?_eq_none (by rw [List.length_drop]; omega), List.getElem?_eq_none (by simp)]
  have e1 : us.drop 32 = opRow x.op pv wv bv ++ us.drop 103 := by
    have := (List.take_append_drop 71 (us.drop 32)).symm
    rwa [e0, List.drop_drop] at this
  have := (List.take_append_drop 32 us).symm
  rwa [h.id, e1, e2] at this
theorem ValL.app {H : AH} {a b : List CD} {x y : List Value} (h1 : ValL H a x) (h2 : ValL H b y) : ValL H (a ++ b) (x ++ y) := by
  refine ⟨by rw [List.length_append, List.length_append, h1.1, h2.1], fun c d u hd hu => ?_⟩
  have hl := h1.1
  rcases Nat.lt_or_ge c a.length with hc | hc
  · rw [List.getElem?_append_left hc] at hd
    rw [List.getElem?_append_left (by omega)] at hu
    exact h1.2 c d u hd hu
  · rw [List.getElem?_append_right hc] at hd
    rw [List.getElem?_append_right (by omega), hl] at hu
    exact h2.2 _ d u hd hu
theorem ValL.one {H : AH} {d : CD} {u : Value} {ds : List CD} {us : List Value} (h : CD.Val H d u) (h2 : ValL H ds us) : ValL H (d :: ds) (u :: us) := by
  refine ⟨by simp [h2.1], fun c d' u' hd hu => ?_⟩
  cases c with
  | zero => cases hd; cases hu; exact h
  | succ c => exact h2.2 c d' u' (by simpa using hd) (by simpa using hu)
theorem ValL.none {H : AH} : ValL H [] [] := ⟨rfl, fun c d u hd _ => by cases hd⟩
theorem ValL.kdv {H : AH} (k : List Int) : ValL H (kd k) (iv .u8 k) := by
  induction k with
  | nil => exact .none
  | cons z k ih => exact ValL.one .int ih
theorem op_val {G : AH} {o : OpD} {pv wv bv : Value} (h1 : KsV G pv o.parents) (h2 : InV G wv o.who) (h3 : BxV G bv o.boxes) : ValL G o.row (opRow o pv wv bv) :=
  ValL.app (.one .int (.one .int (.one h1 (.one .int (.one h2 .none))))) (ValL.app (.kdv _) (ValL.app (.kdv _) (.one .str (.one h3 .none))))
theorem node_val {G : AH} {x : NodeD} {pv wv bv qv : Value} (h1 : KsV G pv x.op.parents) (h2 : InV G wv x.op.who) (h3 : BxV G bv x.op.boxes) (h4 : InV G qv x.past) : ValL G x.row (nodeRow x pv wv bv qv) :=
  ValL.app (.kdv _) (ValL.app (op_val h1 h2 h3) (.one h4 .none))
theorem opRow_2 (o : OpD) (pv wv bv : Value) : (opRow o pv wv bv)[2]? = some pv := rfl
theorem opRow_4 (o : OpD) (pv wv bv : Value) : (opRow o pv wv bv)[4]? = some wv := rfl
theorem opRow_cut {o : OpD} (hw : o.Wf) (pv wv bv : Value) : ∃ A : List Value, A.length = 70 ∧ ∀ b, opRow o pv wv b = A ++ [b] := by
  have h1 := hw.of.1
  have h2 := hw.check.1
  refine ⟨[.int .i64 o.author, .int .u32 o.seq, pv, .int .i64 o.kind, wv] ++ (iv .u8 o.of ++ (iv .u8 o.check ++ [.string o.text])), by simp [iv_length, h1, h2], fun b => ?_⟩
  simp [opRow]
theorem opRow_70 {o : OpD} (hw : o.Wf) (pv wv bv : Value) : (opRow o pv wv bv)[70]? = some bv := by
  obtain ⟨A, hA, e⟩ := opRow_cut hw pv wv bv
  rw [e, List.getElem?_append_right (by omega), hA]; rfl
theorem opRow_s2 (o : OpD) (pv wv bv x : Value) : setR (opRow o pv wv bv) 2 [x] = opRow o x wv bv := by rw [setR_one]; rfl
theorem opRow_s4 (o : OpD) (pv wv bv x : Value) : setR (opRow o pv wv bv) 4 [x] = opRow o pv x bv := by rw [setR_one]; rfl
theorem opRow_s70 {o : OpD} (hw : o.Wf) (pv wv bv x : Value) : setR (opRow o pv wv bv) 70 [x] = opRow o pv wv x := by
  obtain ⟨A, hA, e⟩ := opRow_cut hw pv wv bv
  rw [setR_one, e, e, List.set_append_right _ _ (by omega), hA]; rfl
theorem clV_nt {H : AH} {rows : List (List CD)} {v : Value} (h : CD.Val H (.sl rows) v) (n : Nat) : notTuple (clV v n) = true ∧ (clV v n).cells = #[clV v n] := by
  rcases val_shape h with ⟨rfl, _⟩ | ⟨a, rfl⟩ <;> exact ⟨rfl, rfl⟩
/-- Blocks from n on are as they were. -/
def KeepN (n : Nat) (H G : AH) : Prop := ∀ j, n ≤ j → j < H.length → hget G j = hget H j
def SmO (o : OpD) : Prop := o.parents.length ≤ 1000 ∧ o.who.length ≤ 1000 ∧ o.boxes.length ≤ 1000
/-- The copy of an operation lies in new memory. -/
def NewO (n : Nat) (H : AH) (o : OpD) (pv wv bv : Value) : Prop := ∀ G, KeepN n H G → KsV G pv o.parents ∧ InV G wv o.who ∧ BxV G bv o.boxes
def opN (pv wv bv : Value) : Nat := 2 + clN pv + clN wv + clN bv
def opP (pv : Value) (n : Nat) : Value := clV pv (n + 2)
def opW (pv wv : Value) (n : Nat) : Value := clV wv (n + 2 + clN pv)
def opB (pv wv bv : Value) (n : Nat) : Value := clV bv (n + 2 + clN pv + clN wv)
def DeepO (H : AH) (o : OpD) (pv wv bv : Value) (v' : Value) (H' : AH) : Prop :=
  v' = .agg (opRow o (opP pv H.length) (opW pv wv H.length) (opB pv wv bv H.length)).toArray ∧ H'.length = H.length + opN pv wv bv ∧ Low H.length H H' ∧ NewO H.length H' o (opP pv H.length) (opW pv wv H.length) (opB pv wv bv H.length)
theorem set_pack {H G : AH} {n : Nat} {x y : Blk} {X : Option Blk} (h : hget G n = some x) (h2 : hget G (n + 1) = some y) (hlow : Low n H G) : hget (G.set n X) n = X ∧ hget (G.set n X) (n + 1) = some y ∧ Low n H (G.set n X) ∧ (G.set n X).length = G.length ∧ ∀ j, n + 2 ≤ j → hget (G.set n X) j = hget G j :=
  ⟨hget_set_eq (hget_lt h), (hget_set_ne (by omega)).trans h2, ⟨fun j hj => (hget_set_ne (by omega)).trans (hlow.1 j hj), by rw [List.length_set]; exact hlow.2⟩, by rw [List.length_set], fun j hj => hget_set_ne (by omega)⟩
attribute [local simp] wb_bool wb_undef with_lit XL_nil XL_cons XLc_val XLc_call step1_eq stepW_t stepW_f stepC_n stepC_s stepX_s stepX_n stepN_s calleeX oneV xop_eq xopR_s xopR_n wantedA_eq wantedG_n wantedG_s plain1_int plain1_bool plain1_string bits_i64 bits_u64 bits_u32 bits_u16 bits_u8 xeqA xagg xcmp xarr allK_iv num_iv calleeOf xread xeff xbin xint xnil xun xstr xload xconv xpart xfield xfieldAddr xindexAddr xindex bnd asInt? xslice xlen xmin xmax xbuild xfill xappend xapp2 xappstr xappmk xcap xcopy xcells eval_tmp eval_const put_at put_none fr0_at cells_agg cells_int cells_bool cells_string cells_ptr cells_slice notTuple tab iv_all hget_app hget_app0 hget_cons0 hget_cons set_app set_app0 setR setR_one QL_nil QL_cons QLc_val stepQ_t stepQ_f stepQC_n stepQC_s stepQX_s SL_nil SL_cons SLc_val stepS_t stepS_f ltT ltF leT leF eqT eqF ltTn ltFn leTn leFn eqTn eqFn beqT beqF bneT bneF wi64 wu64 wu32 wu16 wu8 tmodP tdivP hgetL hgetNe hgetEq setL nums_def nums_len Nat.succ_le_of_lt List.getElem?_cons_zero List.getElem?_cons_succ Option.getD_some Int.toNat_add Int.toNat_mul agM okM agB agI agS agP agL agA okB okI okS okP okSl okA
theorem deepOp_ac {nro : Nat} {γ : Nat → Option Nat} {H : AH} {us : List Value} {o : OpD} {pv wv bv : Value} (h : OpC H us o pv wv bv) (hw : o.Wf) (hs : SmO o) (hnro : nro ≤ H.length) : AC Try.prog nro γ 55 #[.agg us.toArray] H (DeepO H o pv wv bv) := by
  have hrow := h.row hw
  obtain ⟨s1, s2, s3⟩ := hs
  have hP := h.parents
  have hW := h.who
  have hB := h.boxes
  have r0l := opRow_len hw pv wv bv
  have g2 := opRow_2 o pv wv bv
  rw [← hrow] at r0l g2
  have t1 := opRow_s2 o pv wv bv (opP pv H.length)
  rw [← hrow] at t1
  have r1l := opRow_len hw (opP pv H.length) wv bv
  have g4 := opRow_4 o (opP pv H.length) wv bv
  have t2 := opRow_s4 o (opP pv H.length) wv bv (opW pv wv H.length)
  obtain ⟨R1, hR1⟩ : ∃ R, R = opRow o (opP pv H.length) wv bv := ⟨_, rfl⟩
  rw [← hR1] at t1 r1l g4 t2
  have r2l := opRow_len hw (opP pv H.length) (opW pv wv H.length) bv
  have g70 := opRow_70 hw (opP pv H.length) (opW pv wv H.length) bv
  have t3 := opRow_s70 hw (opP pv H.length) (opW pv wv H.length) bv (opB pv wv bv H.length)
  obtain ⟨R2, hR2⟩ : ∃ R, R = opRow o (opP pv H.length) (opW pv wv H.length) bv := ⟨_, rfl⟩
  rw [← hR2] at t2 r2l g70 t3
  have r3l := opRow_len hw (opP pv H.length) (opW pv wv H.length) (opB pv wv bv H.length)
  obtain ⟨R3, hR3⟩ : ∃ R, R = opRow o (opP pv H.length) (opW pv wv H.length) (opB pv wv bv H.length) := ⟨_, rfl⟩
  rw [← hR3] at t3 r3l
  have np := val_nt hP
  have nw := val_nt hW
  have nb := val_nt hB
  have np' := clV_nt hP (H.length + 2)
  have nw' := clV_nt hW (H.length + 2 + clN pv)
  have nb' := clV_nt hB (H.length + 2 + clN pv + clN wv)
  have hset : ∀ Z : List Value, Z.length = 71 → setR Z 0 R3 = R3 := fun Z hZ => setR_all _ _ (by omega)
  have htk : R3.take 71 = R3 := List.take_of_length_le (by omega)
  unfold opP opW opB at *
  refine ac_of_aw Try.func55 rfl Try.ntmps55 Try.results55 (by simp) ?_
  refine aw_seq ?_
  (refine aw_ops (by kernel_rfl) (fun K hK => ?_); simp (disch := first | omega | (simp only [lnS]; try omega; done)) [-getElem?_pos, -getElem?_neg, r0l, nt_aggG, all_zl]; refine hK _ _ ?_; clear hK K)
  obtain ⟨ZZ, hZZ, hZl⟩ : ∃ ZZ : List Value, Value.int .i64 0 :: .int .u32 0 :: .slice none 0 0 :: .int .i64 0 :: .slice none 0 0 :: (iv .u8 (zl 64) ++ [.string ByteArray.empty, .slice none 0 0]) = ZZ ∧ ZZ.length = 71 := ⟨_, rfl, by simp⟩
  rw [hZZ]
  have hset := hset ZZ hZl
  obtain ⟨G, hG⟩ : ∃ G : AH, G = H ++ [some ⟨us, 37, none⟩, some ⟨ZZ, 37, none⟩] := ⟨_, rfl⟩
  have b1 : hget G H.length = some ⟨us, 37, none⟩ := by rw [hG, hget_app0]; rfl
  have b2 : hget G (H.length + 1) = some ⟨ZZ, 37, none⟩ := by rw [hG, hget_app]; rfl
  have lw : Low H.length H G := hG ▸ Low.push (Nat.le_refl _) _
  have gl : G.length = H.length + 2 := by simp [hG]
  rw [← hG]
  clear hG
  obtain ⟨n, hn⟩ : ∃ n, n = H.length := ⟨_, rfl⟩
  have kP : KsV G pv o.parents := CD.Val.low (fun j hj => lw.1 j hj) hP
  have kW : InV G wv o.who := CD.Val.low (fun j hj => lw.1 j hj) hW
  have kB : BxV G bv o.boxes := CD.Val.low (fun j hj => lw.1 j hj) hB
  unfold DeepO opP opW opB
  rw [← hn] at lw gl b1 b2 np' nw' nb' t1 t2 t3 hnro hR1 hR2 hR3 ⊢
  -- the parents
  refine aw_seq ?_
  refine aw_ops (by kernel_rfl) (fun K hK => ?_)
  simp (disch := first | omega | (simp only [lnS]; try omega; done)) [-getElem?_pos, -getElem?_neg, b1, r0l, g2, -notTuple, np.1, np.2, nt_aggG]
  refine ⟨by kernel_rfl, (cloneK_ac (nro := nro) (γ := γ) kP (fun k hk => (hw.parents k hk).1) (by omega) (by omega)).mono ?_⟩
  rintro v1 G1 ⟨rfl, l1, w1, F1, o1, f1⟩
  rw [gl] at l1 w1 f1 o1 ⊢
  have hle1 := w1.2
  have c1 : hget G1 n = some ⟨us, 37, none⟩ := (w1.1 n (by omega)).trans b1
  have c2 : hget G1 (n + 1) = some ⟨ZZ, 37, none⟩ := (w1.1 (n + 1) (by omega)).trans b2
  simp (disch := first | omega | (simp only [lnS]; try omega; done)) [-getElem?_pos, -getElem?_neg, c1, r0l, -notTuple, np'.1, np'.2, t1]
  refine hK _ _ ?_; clear hK K
  have lw1 : Low n H G1 := ⟨fun j hj => (w1.1 j (by omega)).trans (lw.1 j hj), by have := lw.2; omega⟩
  obtain ⟨d1, d2, d3, d4, d5⟩ := set_pack (X := some ⟨R1, 37, none⟩) c1 c2 lw1
  have o1 : OwnF (G1.set n (some ⟨R1, 37, none⟩)) (clV pv (n + 2)) 24 32 (ksC o.parents) F1 := o1.low (fun j hj => d5 j (f1 j hj))
  rw [l1] at d4
  clear b1 b2 c1 c2 w1 l1 lw1
  generalize G1.set n (some ⟨R1, 37, none⟩) = G2 at *
  have kW := CD.Val.low (H' := G2) (fun j hj => d3.1 j (by omega)) hW
  have kB := CD.Val.low (H' := G2) (fun j hj => d3.1 j (by omega)) hB
  -- who
  refine aw_seq ?_
  refine aw_ops (by kernel_rfl) (fun K hK => ?_)
  simp (disch := first | omega | (simp only [lnS]; try omega; done)) [-getElem?_pos, -getElem?_neg, d1, r1l, g4, -notTuple, nw.1, nw.2, nt_aggG]
  refine ⟨by kernel_rfl, (cloneI_ac (nro := nro) (γ := γ) kW (by omega) (by omega)).mono ?_⟩
  rintro v1 G3 ⟨rfl, l1, w1, F2, o2, f2⟩
  rw [d4] at l1 w1 f2 o2 ⊢
  have hle1 := w1.2
  have c1 : hget G3 n = some ⟨R1, 37, none⟩ := (w1.1 n (by omega)).trans d1
  have c2 : hget G3 (n + 1) = some ⟨ZZ, 37, none⟩ := (w1.1 (n + 1) (by omega)).trans d2
  have hF1 := o1.lt
  have o1 := o1.low (H' := G3) (fun j hj => w1.1 j (by have := hF1 j hj; omega))
  simp (disch := first | omega | (simp only [lnS]; try omega; done)) [-getElem?_pos, -getElem?_neg, c1, r1l, -notTuple, nw'.1, nw'.2, t2]
  refine hK _ _ ?_; clear hK K
  have lw1 : Low n H G3 := ⟨fun j hj => (w1.1 j (by omega)).trans (d3.1 j hj), by have := d3.2; omega⟩
  obtain ⟨e1, e2, e3, e4, e5⟩ := set_pack (X := some ⟨R2, 37, none⟩) c1 c2 lw1
  have o1 := o1.low (H' := G3.set n (some ⟨R2, 37, none⟩)) (fun j hj => e5 j (f1 j hj))
  have o2 := o2.low (H' := G3.set n (some ⟨R2, 37, none⟩)) (fun j hj => e5 j (by have := f2 j hj; omega))
  rw [l1] at e4
  clear c1 c2 w1 l1 lw1 d1 d2 d3 d4 d5
  generalize G3.set n (some ⟨R2, 37, none⟩) = G4 at *
  have kB := CD.Val.low (H' := G4) (fun j hj => e3.1 j (by omega)) hB
  -- boxes
  refine aw_seq ?_
  refine aw_ops (by kernel_rfl) (fun K hK => ?_)
  simp (disch := first | omega | (simp only [lnS]; try omega; done)) [-getElem?_pos, -getElem?_neg, e1, r2l, g70, -notTuple, nb.1, nb.2, nt_aggG]
  refine ⟨by kernel_rfl, (cloneB_ac (nro := nro) (γ := γ) kB hw.boxes (by omega) (by omega)).mono ?_⟩
  rintro v1 G5 ⟨rfl, l1, w1, F3, o3, f3⟩
  rw [e4] at l1 w1 f3 o3 ⊢
  have hle1 := w1.2
  have c1 : hget G5 n = some ⟨R2, 37, none⟩ := (w1.1 n (by omega)).trans e1
  have c2 : hget G5 (n + 1) = some ⟨ZZ, 37, none⟩ := (w1.1 (n + 1) (by omega)).trans e2
  have hF1 := o1.lt
  have hF2 := o2.lt
  have o1 := o1.low (H' := G5) (fun j hj => w1.1 j (by have := hF1 j hj; omega))
  have o2 := o2.low (H' := G5) (fun j hj => w1.1 j (by have := hF2 j hj; omega))
  simp (disch := first | omega | (simp only [lnS]; try omega; done)) [-getElem?_pos, -getElem?_neg, c1, r2l, -notTuple, nb'.1, nb'.2, t3]
  refine hK _ _ ?_; clear hK K
  have lw1 : Low n H G5 := ⟨fun j hj => (w1.1 j (by omega)).trans (e3.1 j hj), by have := e3.2; omega⟩
  obtain ⟨d1, d2, d3, d4, d5⟩ := set_pack (X := some ⟨R3, 37, none⟩) c1 c2 lw1
  have o1 := o1.low (H' := G5.set n (some ⟨R3, 37, none⟩)) (fun j hj => d5 j (f1 j hj))
  have o2 := o2.low (H' := G5.set n (some ⟨R3, 37, none⟩)) (fun j hj => d5 j (by have := f2 j hj; omega))
  have o3 := o3.low (H' := G5.set n (some ⟨R3, 37, none⟩)) (fun j hj => d5 j (by have := f3 j hj; omega))
  rw [l1] at d4
  clear c1 c2 w1 l1 lw1 e1 e2 e3 e4 e5
  generalize G5.set n (some ⟨R3, 37, none⟩) = G6 at *
  -- the answer
  refine aw_seq ?_
  (refine aw_ops (by kernel_rfl) (fun K hK => ?_); simp (disch := first | omega | (simp only [lnS]; try omega; done)) [-getElem?_pos, -getElem?_neg, d1, d2, r3l, hZl, hset, htk, nt_aggG]; refine hK _ _ ?_; clear hK K)
  have hlt2 := hget_lt d2
  have z1 : hget (G6.set (n + 1) (some ⟨R3, 37, none⟩)) (n + 1) = some ⟨R3, 37, none⟩ := hget_set_eq hlt2
  have z2 : ∀ j, j ≠ n + 1 → hget (G6.set (n + 1) (some ⟨R3, 37, none⟩)) j = hget G6 j := fun j hj => hget_set_ne (fun e => hj e.symm)
  have z3 : (G6.set (n + 1) (some ⟨R3, 37, none⟩)).length = G6.length := by rw [List.length_set]
  have hF1 := o1.lt
  have hF2 := o2.lt
  have hF3 := o3.lt
  have o1 := o1.low (H' := G6.set (n + 1) (some ⟨R3, 37, none⟩)) (fun j hj => z2 j (by have := f1 j hj; omega))
  have o2 := o2.low (H' := G6.set (n + 1) (some ⟨R3, 37, none⟩)) (fun j hj => z2 j (by have := f2 j hj; omega))
  have o3 := o3.low (H' := G6.set (n + 1) (some ⟨R3, 37, none⟩)) (fun j hj => z2 j (by have := f3 j hj; omega))
  generalize G6.set (n + 1) (some ⟨R3, 37, none⟩) = G7 at *
  (refine aw_ret ?_; simp (disch := first | omega | (simp only [lnS]; try omega; done)) [-getElem?_pos, -getElem?_neg, thenQ_ret, scopeQ_ret, inBlockQ_ret, RQ, resL, resV, z1, r3l, htk])
  refine ⟨by rw [hR3], by unfold opN; omega, ⟨fun j hj => (z2 j (by omega)).trans (d3.1 j hj), by have := d3.2; omega⟩, fun G hG => ?_⟩
  have o1 := o1.low (H' := G) (fun j hj => hG j (by have := f1 j hj; omega) (by have := hF1 j hj; omega))
  have o2 := o2.low (H' := G) (fun j hj => hG j (by have := f2 j hj; omega) (by have := hF2 j hj; omega))
  have o3 := o3.low (H' := G) (fun j hj => hG j (by have := f3 j hj; omega) (by have := hF3 j hj; omega))
  exact ⟨own_val (by omega) o1 (kd_len fun k hk => (hw.parents k hk).1) (kd_flat _), own_val (by omega) o2 (int_len _) (int_flat _), own_val (by omega) o3 (box_len hw.boxes) (box_flat _)⟩
end
section
theorem put3 {Z A B : List Value} {q : Value} (hA : A.length = 32) (hB : B.length = 71) (hZ : Z.length = 104) : setR (setR (setR Z 0 A) 32 B) 103 [q] = A ++ (B ++ [q]) := by
  have e1 := setR_frontF Z A (by omega)
  rw [e1]
  have l1 : (Z.drop A.length).length = 72 := by rw [List.length_drop]; omega
  have e2 := setR_right A (Z.drop A.length) B 0 (by omega)
  rw [Nat.add_zero] at e2
  rw [show (32 : Nat) = A.length by omega, e2, setR_frontF _ B (by omega)]
  rw [show (103 : Nat) = A.length + 71 by omega, setR_right A _ [q] 71 (by rw [List.length_append, List.length_drop, l1]; simp; omega)]
  congr 1
  have e3 := setR_right B ((Z.drop A.length).drop B.length) [q] 0 (by rw [List.length_drop, l1]; simp; omega)
  rw [Nat.add_zero] at e3
  rw [show (71 : Nat) = B.length by omega, e3, setR_frontF _ [q] (by rw [List.length_drop, l1]; simp; omega)]
  rw [List.drop_of_length_le (l := (Z.drop A.length).drop B.length) (by rw [List.length_drop, l1]; simp; omega), List.append_nil]
theorem build_node {x : NodeD} {pv wv bv qv : Value} (hw : x.Wf) (h1 : notTuple qv = true) (h2 : qv.cells = #[qv]) : xbuild Try.prog 39 [(0, .agg (iv .u8 x.id).toArray), (1, .agg (opRow x.op pv wv bv).toArray), (2, qv)] = some (.agg (nodeRow x pv wv bv qv).toArray) := by
  have hf : flds Try.prog 39 = some [(24, 0), (37, 32), (34, 103)] := by kernel_rfl
  obtain ⟨z, hz⟩ : ∃ z, zer Try.prog 39 = some z := by
    have : (zer Try.prog 39).isSome = true := by kernel_rfl
    exact Option.isSome_iff_exists.1 this
  have hzl : z.cells.toList.length = 104 := by
    have : (zer Try.prog 39).map (fun z => z.cells.toList.length) = some 104 := by kernel_rfl
    rw [hz] at this
    simpa using this
  have hzp : z.cells.toList.all plain1 = true := by
    have : (zer Try.prog 39).map (fun z => z.cells.toList.all plain1) = some true := by kernel_rfl
    rw [hz] at this
    simpa using this
  have s1 : szt Try.prog 24 = 32 := by kernel_rfl
  have s2 : szt Try.prog 37 = 71 := by kernel_rfl
  have s3 : szt Try.prog 34 = 1 := by kernel_rfl
  have hA : (iv .u8 x.id).length = 32 := by rw [iv_length]; exact hw.id.1
  have hB := opRow_len hw.op pv wv bv
  have hp := put3 (q := qv) hA hB hzl
  unfold xbuild
  simp only [hf, hz]
  rw [if_pos ⟨by simp [s1, s2, s3], hzp, by simp only [List.all_cons, List.all_nil, h1, Bool.and_true]; rfl⟩]
  generalize z.cells.toList = Z at *
  unfold nodeRow
  generalize iv .u8 x.id = A at *
  generalize opRow x.op pv wv bv = B at *
  have c1 : (Value.agg A.toArray).cells = A.toArray := rfl
  have c2 : (Value.agg B.toArray).cells = B.toArray := rfl
  simp only [xfill, List.getElem?_cons_zero, List.getElem?_cons_succ, Option.map_some, s1, s2, s3, c1, c2, h2]
  rw [if_pos ⟨by simp [hA], by simp; omega⟩]
  rw [if_pos ⟨by simp [hB], by simp; omega⟩]
  rw [if_pos ⟨by simp, by simp; omega⟩]
  rw [hp]
def nodeN (pv wv bv qv : Value) : Nat := 2 + opN pv wv bv + clN qv
def SmN (x : NodeD) : Prop := SmO x.op ∧ x.past.length ≤ 1000
/-- A copied node's row. -/
def nodeCp (x : NodeD) (pv wv bv qv : Value) (n : Nat) : List Value := nodeRow x (opP pv (n + 2)) (opW pv wv (n + 2)) (opB pv wv bv (n + 2)) (clV qv (n + 2 + opN pv wv bv))
def DeepN (H : AH) (x : NodeD) (pv wv bv qv : Value) (v' : Value) (H' : AH) : Prop :=
  v' = .agg (nodeCp x pv wv bv qv H.length).toArray ∧ H'.length = H.length + nodeN pv wv bv qv ∧ Low H.length H H' ∧ ∀ G, KeepN H.length H' G → ValL G x.row (nodeCp x pv wv bv qv H.length)
theorem KeepN.trans {n : Nat} {A B C : AH} (h : KeepN n A B) (k : KeepN n B C) (hl : A.length ≤ B.length) : KeepN n A C := fun j h1 h2 => (k j h1 (by omega)).trans (h j h1 h2)
theorem opRow_off {x : NodeD} (hw : x.Wf) (pv wv bv qv : Value) : (nodeRow x pv wv bv qv).take 32 = iv .u8 x.id ∧ ((nodeRow x pv wv bv qv).drop 32).take 71 = opRow x.op pv wv bv ∧ (nodeRow x pv wv bv qv)[103]? = some qv := by
  have hA : (iv .u8 x.id).length = 32 := by rw [iv_length]; exact hw.id.1
  have hB := opRow_len hw.op pv wv bv
  unfold nodeRow
  refine ⟨?_, ?_, ?_⟩
  · rw [List.take_append_of_le_length (by omega), List.take_of_length_le (by omega)]
  · rw [List.drop_append_of_le_length (by omega), List.drop_of_length_le (by omega), List.nil_append, List.take_append_of_le_length (by omega), List.take_of_length_le (by omega)]
  · rw [List.getElem?_append_right (by omega), List.getElem?_append_right (by omega), hA, hB]
    rfl
attribute [local simp] wb_bool wb_undef with_lit XL_nil XL_cons XLc_val XLc_call step1_eq stepW_t stepW_f stepC_n stepC_s stepX_s stepX_n stepN_s calleeX oneV xop_eq xopR_s xopR_n wantedA_eq wantedG_n wantedG_s plain1_int plain1_bool plain1_string bits_i64 bits_u64 bits_u32 bits_u16 bits_u8 xeqA xagg xcmp xarr allK_iv num_iv calleeOf xread xeff xbin xint xnil xun xstr xload xconv xpart xfield xfieldAddr xindexAddr xindex bnd asInt? xslice xlen xmin xmax xbuild xfill xappend xapp2 xappstr xappmk xcap xcopy xcells eval_tmp eval_const put_at put_none fr0_at cells_agg cells_int cells_bool cells_string cells_ptr cells_slice notTuple tab iv_all hget_app hget_app0 hget_cons0 hget_cons set_app set_app0 setR setR_one QL_nil QL_cons QLc_val stepQ_t stepQ_f stepQC_n stepQC_s stepQX_s SL_nil SL_cons SLc_val stepS_t stepS_f ltT ltF leT leF eqT eqF ltTn ltFn leTn leFn eqTn eqFn beqT beqF bneT bneF wi64 wu64 wu32 wu16 wu8 tmodP tdivP hgetL hgetNe hgetEq setL nums_def nums_len Nat.succ_le_of_lt List.getElem?_cons_zero List.getElem?_cons_succ Option.getD_some Int.toNat_add Int.toNat_mul agM okM agB agI agS agP agL agA okB okI okS okP okSl okA
theorem nodes1_ac {nro : Nat} {γ : Nat → Option Nat} {H : AH} {us : List Value} {x : NodeD} {pv wv bv qv : Value} (h : NodeC H us x pv wv bv qv) (hw : x.Wf) (hs : SmN x) (hnro : nro ≤ H.length) : AC Try.prog nro γ 72 #[.agg us.toArray] H (DeepN H x pv wv bv qv) := by
  have hrow := h.row hw
  have hul := h.len
  obtain ⟨q1, q2, q3⟩ := opRow_off hw pv wv bv qv
  rw [← hrow] at q1 q2 q3
  have hivl : (iv .u8 x.id).length = 32 := by rw [iv_length]; exact hw.id.1
  have hopl := opRow_len hw.op pv wv bv
  have hQ := h.past
  have nq := val_nt hQ
  have nq' := clV_nt hQ (H.length + 2 + opN pv wv bv)
  have hbl := build_node (pv := opP pv (H.length + 2)) (wv := opW pv wv (H.length + 2)) (bv := opB pv wv bv (H.length + 2)) hw nq'.1 nq'.2
  have hopC : ∀ G : AH, Low H.length H G → OpC G (opRow x.op pv wv bv) x.op pv wv bv := fun G hG => by
    have := h.op.low hG.1
    rwa [q2] at this
  have hr3l := nodeRow_len hw (opP pv (H.length + 2)) (opW pv wv (H.length + 2)) (opB pv wv bv (H.length + 2)) (clV qv (H.length + 2 + opN pv wv bv))
  obtain ⟨R, hR⟩ : ∃ R, R = nodeRow x (opP pv (H.length + 2)) (opW pv wv (H.length + 2)) (opB pv wv bv (H.length + 2)) (clV qv (H.length + 2 + opN pv wv bv)) := ⟨_, rfl⟩
  rw [← hR] at hbl hr3l
  have hset : ∀ Z : List Value, Z.length = 104 → setR Z 0 R = R := fun Z hZ => setR_all _ _ (by omega)
  have htk : R.take 104 = R := List.take_of_length_le (by omega)
  have hopv : notTuple (.agg (opRow x.op (opP pv (H.length + 2)) (opW pv wv (H.length + 2)) (opB pv wv bv (H.length + 2))).toArray) = true := rfl
  refine ac_of_aw Try.func72 rfl Try.ntmps72 Try.results72 (by simp) ?_
  refine aw_seq ?_
  (refine aw_ops (by kernel_rfl) (fun K hK => ?_); simp (disch := first | omega | (simp only [lnS]; try omega; done)) [-getElem?_pos, -getElem?_neg, hul, nt_aggG, all_zl]; refine hK _ _ ?_; clear hK K)
  obtain ⟨ZZ, hZZ, hZl⟩ : ∃ ZZ : List Value, (iv .u8 (zl 32) ++ Value.int .i64 0 :: .int .u32 0 :: .slice none 0 0 :: .int .i64 0 :: .slice none 0 0 :: (iv .u8 (zl 64) ++ [.string ByteArray.empty, .slice none 0 0, .slice none 0 0])) = ZZ ∧ ZZ.length = 104 := ⟨_, rfl, by simp⟩
  rw [hZZ]
  have hset := hset ZZ hZl
  obtain ⟨G, hG⟩ : ∃ G : AH, G = H ++ [some ⟨us, 39, none⟩, some ⟨ZZ, 39, none⟩] := ⟨_, rfl⟩
  have b1 : hget G H.length = some ⟨us, 39, none⟩ := by rw [hG, hget_app0]; rfl
  have b2 : hget G (H.length + 1) = some ⟨ZZ, 39, none⟩ := by rw [hG, hget_app]; rfl
  have lw : Low H.length H G := hG ▸ Low.push (Nat.le_refl _) _
  have gl : G.length = H.length + 2 := by simp [hG]
  rw [← hG]
  clear hG
  have kO := hopC G lw
  have kQ : InV G qv x.past := CD.Val.low (fun j hj => lw.1 j hj) hQ
  have hcO := deepOp_ac (nro := nro) (γ := γ) kO hw.op hs.1 (by omega)
  unfold DeepO at hcO
  rw [gl] at hcO
  unfold DeepN nodeN nodeCp
  obtain ⟨n, hn⟩ : ∃ n, n = H.length := ⟨_, rfl⟩
  rw [← hR]
  rw [← hn] at lw gl b1 b2 nq' hbl hR hnro hcO ⊢
  obtain ⟨ov, hov⟩ : ∃ ov, ov = opRow x.op (opP pv (n + 2)) (opW pv wv (n + 2)) (opB pv wv bv (n + 2)) := ⟨_, rfl⟩
  rw [← hov] at hcO hbl
  have hcells : R = iv .u8 x.id ++ (ov ++ [clV qv (n + 2 + opN pv wv bv)]) := by rw [hR, hov]; rfl
  refine aw_seq ?_
  obtain ⟨Φ, e0, e1, e2, e3, eS⟩ : ∃ Φ : Nat → AH → Prop, (∀ A, Φ 0 A ↔ A = G) ∧ (∀ A, Φ 1 A ↔ (A.length = n + 2 + opN pv wv bv ∧ Low (n + 2) G A ∧ NewO (n + 2) A x.op (opP pv (n + 2)) (opW pv wv (n + 2)) (opB pv wv bv (n + 2)))) ∧
      (∀ A, Φ 2 A ↔ (A.length = n + 2 + opN pv wv bv + clN qv ∧ Low (n + 2) G A ∧ NewO (n + 2) A x.op (opP pv (n + 2)) (opW pv wv (n + 2)) (opB pv wv bv (n + 2)) ∧ ∃ F, OwnF A (clV qv (n + 2 + opN pv wv bv)) 3 1 (isC x.past) F ∧ ∀ j ∈ F, n + 2 ≤ j)) ∧
      (∀ A, Φ 3 A ↔ ∃ B, Φ 2 B ∧ A = B.set (n + 1) (some ⟨R, 39, none⟩)) ∧ (∀ s A, Φ s A → hget A n = hget G n) := by
    refine ⟨fun s A => match s with
      | 0 => A = G
      | 1 => A.length = n + 2 + opN pv wv bv ∧ Low (n + 2) G A ∧ NewO (n + 2) A x.op (opP pv (n + 2)) (opW pv wv (n + 2)) (opB pv wv bv (n + 2))
      | 2 => A.length = n + 2 + opN pv wv bv + clN qv ∧ Low (n + 2) G A ∧ NewO (n + 2) A x.op (opP pv (n + 2)) (opW pv wv (n + 2)) (opB pv wv bv (n + 2)) ∧ ∃ F, OwnF A (clV qv (n + 2 + opN pv wv bv)) 3 1 (isC x.past) F ∧ ∀ j ∈ F, n + 2 ≤ j
      | _ => ∃ B : AH, (B.length = n + 2 + opN pv wv bv + clN qv ∧ Low (n + 2) G B ∧ NewO (n + 2) B x.op (opP pv (n + 2)) (opW pv wv (n + 2)) (opB pv wv bv (n + 2)) ∧ ∃ F, OwnF B (clV qv (n + 2 + opN pv wv bv)) 3 1 (isC x.past) F ∧ ∀ j ∈ F, n + 2 ≤ j) ∧ A = B.set (n + 1) (some ⟨R, 39, none⟩), fun _ => Iff.rfl, fun _ => Iff.rfl, fun _ => Iff.rfl, fun _ => Iff.rfl, fun s A h => ?_⟩
    match s, h with
    | 0, h => cases h; rfl
    | 1, h => exact h.2.1.1 n (by omega)
    | 2, h => exact h.2.1.1 n (by omega)
    | s + 3, ⟨B, h, hA⟩ => rw [hA, hget_set_ne (by omega)]; exact h.2.1.1 n (by omega)
  refine aw_chain (fun j => j == n) Φ (by kernel_rfl) (by kernel_rfl) (by kernel_rfl) (fun s A h j hj => by
    have e : j = n := by simpa using hj
    rw [e]; exact eS s A h) ((e0 _).2 rfl) (fun K hK => ?_)
  simp (disch := first | omega | (simp only [lnS]; try omega; done)) [-getElem?_pos, -getElem?_neg, b1, hul, q1, q2, q3, hivl, hopl, -notTuple, nq.1, nq.2, nt_aggG, CL_nil, CL_cons, CLc_val, CLc_skip, memS, inS, inSp, isCallF, effF]
  refine CLc_call (v := .agg ov.toArray) (by kernel_rfl) (fun A hA => ?_) ?_
  · obtain rfl := (e0 _).1 hA
    exact hcO.mono fun v' A' h => ⟨h.1, (e1 _).2 ⟨h.2.1, h.2.2.1, h.2.2.2⟩⟩
  try simp (disch := first | omega | (simp only [lnS]; try omega; done)) [-getElem?_pos, -getElem?_neg, b1, hul, q1, q2, q3, hivl, hopl, -notTuple, nq.1, nq.2, nt_aggG, CL_nil, CL_cons, CLc_val, CLc_skip, memS, inS, inSp, isCallF, effF]
  refine CLc_call (v := clV qv (n + 2 + opN pv wv bv)) (by kernel_rfl) (fun A hA => ?_) ?_
  · obtain ⟨g1, g2, g3⟩ := (e1 _).1 hA
    have kQ2 : InV A qv x.past := CD.Val.low (fun j hj => g2.1 j (by omega)) kQ
    refine (cloneI_ac (nro := nro) (γ := γ) kQ2 (by omega) (by have := hs.2; omega)).mono ?_
    rintro v' A' ⟨h1, h2, h3, F, h4, h5⟩
    rw [g1] at h1 h2 h3 h5
    refine ⟨h1, (e2 _).2 ⟨h2, ⟨fun j hj => (h3.1 j (by omega)).trans (g2.1 j hj), by have := h3.2; omega⟩, fun B hB => g3 B (KeepN.trans (fun j _ hj => h3.1 j (by omega)) hB (by have := h3.2; omega)), F, by rw [← h1]; exact h4, fun j hj => by have := h5 j hj; omega⟩⟩
  try simp (disch := first | omega | (simp only [lnS]; try omega; done)) [-getElem?_pos, -getElem?_neg, b1, hul, q1, q2, q3, hivl, hopl, -notTuple, nq'.1, nq'.2, nt_aggG, -xbuild, hbl, CL_nil, CL_cons, CLc_val, CLc_skip, memS, inS, inSp, isCallF, effF]
  refine CLc_eff (v := undef) (fun A hA => ?_) ?_
  · have hA2 := hA
    obtain ⟨g1, g2, g3, F, g4, g5⟩ := (e2 _).1 hA2
    have c2 : hget A (n + 1) = some ⟨ZZ, 39, none⟩ := (g2.1 (n + 1) (by omega)).trans b2
    refine ⟨_, ?_, (e3 _).2 ⟨A, hA, rfl⟩⟩
    simp (disch := first | omega | (simp only [lnS]; try omega; done)) [-getElem?_pos, -getElem?_neg, c2, hZl, hset, hr3l, nt_aggG]
  try simp (disch := first | omega | (simp only [lnS]; try omega; done)) [-getElem?_pos, -getElem?_neg, CL_nil, CL_cons, CLc_val, CLc_skip, memS, inS, inSp, isCallF, effF]
  intro A hA
  obtain ⟨B, hB, rfl⟩ := (e3 _).1 hA
  obtain ⟨g1, g2, g3, F, g4, g5⟩ := (e2 _).1 hB
  have hFl := g4.lt
  have c2 : hget B (n + 1) = some ⟨ZZ, 39, none⟩ := (g2.1 (n + 1) (by omega)).trans b2
  have z1 : hget (B.set (n + 1) (some ⟨R, 39, none⟩)) (n + 1) = some ⟨R, 39, none⟩ := hget_set_eq (hget_lt c2)
  have z2 : ∀ j, j ≠ n + 1 → hget (B.set (n + 1) (some ⟨R, 39, none⟩)) j = hget B j := fun j hj => hget_set_ne (fun e => hj e.symm)
  have z3 : (B.set (n + 1) (some ⟨R, 39, none⟩)).length = B.length := by rw [List.length_set]
  generalize B.set (n + 1) (some ⟨R, 39, none⟩) = C at *
  refine hK _ _ ?_; clear hK K
  (refine aw_ret ?_; simp (disch := first | omega | (simp only [lnS]; try omega; done)) [-getElem?_pos, -getElem?_neg, thenQ_ret, scopeQ_ret, inBlockQ_ret, RQ, resL, resV, z1, hr3l, htk])
  refine ⟨⟨fun j hj => (z2 j (by omega)).trans ((g2.1 j (by omega)).trans (lw.1 j hj)), by have := lw.2; omega⟩, fun D hD => ?_⟩
  rw [hR]
  obtain ⟨k1, k2, k3⟩ := g3 D (fun j h1 h2 => (hD j (by omega) (by omega)).trans (z2 j (by omega)))
  have g4 := g4.low (H' := D) (fun j hj => (hD j (by have := g5 j hj; omega) (by have := hFl j hj; omega)).trans (z2 j (by have := g5 j hj; omega)))
  exact node_val k1 k2 k3 (own_val (by omega) g4 (int_len _) (int_flat _))
theorem nodes1_callable : callable Try.prog 72 = true := by kernel_rfl
/-- Rows of new memory that show nodes. -/
def NewRows (n : Nat) (H : AH) (R : List (List Value)) (l : List NodeD) : Prop := R.length = l.length ∧ ∀ (k : Nat) (us : List Value) (x : NodeD), R[k]? = some us → l[k]? = some x → us.length = 104 ∧ ∀ G, KeepN n H G → ValL G x.row us
theorem NewRows.keep {n : Nat} {H G : AH} {R : List (List Value)} {l : List NodeD} (h : NewRows n H R l) (hk : KeepN n H G) (hl : H.length ≤ G.length) : NewRows n G R l :=
  ⟨h.1, fun k us x h1 h2 => ⟨(h.2 k us x h1 h2).1, fun B hB => (h.2 k us x h1 h2).2 B (hk.trans hB hl)⟩⟩
theorem row_put {R : List (List Value)} {Z us : List Value} {i : Nat} (hR : ∀ r ∈ R, r.length = 104) (hl : R.length = i) (hu : us.length = 104) (hZ : 104 ≤ Z.length) : setR (R.flatten ++ Z) (i * 104) us = (R ++ [us]).flatten ++ Z.drop 104 := by
  have hfl := fl_len hR
  rw [hl] at hfl
  have e := setR_right R.flatten Z us 0 (by omega)
  rw [Nat.add_zero, hfl] at e
  rw [e, setR_frontF _ _ (by omega), hu, List.flatten_append]
  simp
theorem NewRows.len {n : Nat} {H : AH} {R : List (List Value)} {l : List NodeD} (h : NewRows n H R l) : ∀ r ∈ R, r.length = 104 := fun r hr => by
  obtain ⟨k, hk⟩ := List.getElem?_of_mem hr
  have hkl := (List.getElem?_eq_some_iff.1 hk).1
  have := h.1
  exact (h.2 k r _ hk (List.getElem?_eq_getElem (show k < l.length by omega))).1
theorem NewRows.push {n : Nat} {H : AH} {R : List (List Value)} {l : List NodeD} {us : List Value} {x : NodeD} (h : NewRows n H R l) (h1 : us.length = 104) (h2 : ∀ G, KeepN n H G → ValL G x.row us) : NewRows n H (R ++ [us]) (l ++ [x]) := by
  have hl := h.1
  refine ⟨by simp [hl], fun k r y hr hy => ?_⟩
  rcases Nat.lt_or_ge k R.length with hk | hk
  · rw [List.getElem?_append_left hk] at hr
    rw [List.getElem?_append_left (by omega)] at hy
    exact h.2 k r y hr hy
  · rw [List.getElem?_append_right hk] at hr
    rw [List.getElem?_append_right (by omega)] at hy
    rw [hl] at hr
    match k - l.length, hr, hy with
    | 0, hr, hy => cases hr; cases hy; exact ⟨h1, h2⟩
theorem node_row_len {x : NodeD} (hw : x.Wf) : x.row.length = 104 := by
  have h1 := hw.id.1
  have h2 := hw.op.of.1
  have h3 := hw.op.check.1
  simp [NodeD.row, OpD.row, kd, h1, h2, h3]
/-- Rows that show nodes make a slice of them. -/
theorem rows_val {D : AH} {b : Nat} {T : TypeId} {es : Option Nat} {R : List (List Value)} {L : List NodeD} (hb : hget D b = some ⟨R.flatten, T, es⟩) (hl : R.length = L.length) (hw : ∀ x ∈ L, x.Wf) (h : ∀ (k : Nat) (us : List Value) (x : NodeD), R[k]? = some us → L[k]? = some x → us.length = 104 ∧ ValL D x.row us) : NdV D (.slice (some ⟨b, 0, none⟩) L.length L.length) L := by
  have hR : ∀ r ∈ R, r.length = 104 := fun r hr => by
    obtain ⟨k, hk⟩ := List.getElem?_of_mem hr
    have hkl := (List.getElem?_eq_some_iff.1 hk).1
    exact (h k r _ hk (List.getElem?_eq_getElem (show k < L.length by omega))).1
  have := CD.Val.sl (H := D) (sz := 104) (rows := L.map NodeD.row) hb (by rw [List.length_map]; show _ ≤ R.flatten.length; rw [fl_len hR, hl]; exact Nat.le_refl _) (fun row hr => by
    obtain ⟨x, hx, rfl⟩ := List.mem_map.1 hr
    exact node_row_len (hw x hx)) (fun i row c d v hi hc hv => by
    rw [List.getElem?_map] at hi
    cases hx : L[i]? with
    | none => rw [hx] at hi; cases hi
    | some x =>
      rw [hx] at hi
      cases hi
      have hil := (List.getElem?_eq_some_iff.1 hx).1
      obtain ⟨us, hus⟩ : ∃ us, R[i]? = some us := ⟨_, List.getElem?_eq_getElem (by omega)⟩
      obtain ⟨h1, h2⟩ := h i us x hus hx
      have hcl := (List.getElem?_eq_some_iff.1 hc).1
      have h2l := h2.1
      obtain ⟨u, hu⟩ : ∃ u, us[c]? = some u := ⟨_, List.getElem?_eq_getElem (by omega)⟩
      have hat := fl_at hR hus hu
      have hv' : R.flatten[i * 104 + c]? = some v := hv
      rw [hat] at hv'
      cases hv'
      exact h2.2 c d _ hc hu)
  rw [List.length_map] at this
  exact this
theorem each_ac {nro : Nat} {γ : Nat → Option Nat} {H : AH} {nv : Value} {l : List NodeD} (hN : NdA H nv l) (hl : l.length ≤ 1000) (hs : ∀ x ∈ l, SmN x) (hnro : nro ≤ H.length) (hcal : callable Try.prog 72 = true) :
    ∃ N : Nat, AC Try.prog nro γ 71 #[nv, .func (.func 72) #[] #[]] H (fun v' H' => v' = .slice (some ⟨H.length, 0, none⟩) l.length l.length ∧ H'.length = N ∧ Low H.length H H' ∧ ∃ R, NewRows (H.length + 1) H' R l ∧ hget H' H.length = some ⟨R.flatten, 39, some 104⟩) := by
  have hN' := hN
  obtain ⟨hnt, hvc, hxl, hwf, hat⟩ := hN
  obtain ⟨c, hc⟩ := Classical.skolem.1 (fun i : Nat => show ∃ N : Nat, ∀ x, l[i]? = some x → ∃ j q b us pv wv bv qv, xindexAddr Try.prog 22 nv (.int .i64 (i : Nat)) = some (.pointer (some ⟨j, q, none⟩)) ∧ hget H j = some b ∧ q + 104 ≤ b.cells.length ∧ us = (b.cells.drop q).take 104 ∧ NodeC H us x pv wv bv qv ∧ nodeN pv wv bv qv = N from by
    cases hi : l[i]? with
    | none => exact ⟨0, fun x hx => by cases hx⟩
    | some x =>
      obtain ⟨j, q, b, us, pv, wv, bv, qv, h1, h2, h3, h4, h5, h6⟩ := hat i x hi
      exact ⟨nodeN pv wv bv qv, fun y hy => by cases hy; exact ⟨j, q, b, us, pv, wv, bv, qv, h1, h2, h3, h5, h6, rfl⟩⟩)
  have hm63 : l.length ≤ 9223372036854775807 := by omega
  have hfn : notTuple (.func (.func 72) #[] #[]) = true := rfl
  have hfc : (Value.func (.func 72) #[] #[]).cells = #[.func (.func 72) #[] #[]] := rfl
  refine ⟨H.length + 1 + ((List.range l.length).map fun i => c i + 1).sum, ?_⟩
  refine ac_of_aw Try.func71 rfl Try.ntmps71 Try.results71 (by simp) ?_
  refine aw_seq ?_
  (refine aw_ops (by kernel_rfl) (fun K hK => ?_); simp (disch := first | omega | (simp only [lnS]; try omega; done)) [-getElem?_pos, -getElem?_neg]; refine hK _ _ ?_; clear hK K)
  refine aw_seq ?_
  refine aw_ops (by kernel_rfl) (fun K hK => ?_)
  have hlm : l.length ≤ maxLen := by simp only [maxLen]; omega
  have hp0 : plain1 (.slice none 0 0) = true := rfl
  simp (disch := first | omega | (simp only [lnS]; try omega; done)) [-getElem?_pos, -getElem?_neg, -notTuple, hnt, hvc, hfn, hfc, nt_intG, -xlen, hxl, all_zl, hlm, hp0]
  refine hK _ _ ?_; clear hK K
  generalize hZZ : List.map (fun j => (iv .u8 (zl 32) ++ Value.int .i64 0 :: .int .u32 0 :: .slice none 0 0 :: .int .i64 0 :: .slice none 0 0 :: (iv .u8 (zl 64) ++ [.string ByteArray.empty, .slice none 0 0, .slice none 0 0]))[j % 104]?.getD undef) (List.range (l.length * 104)) = ZZ
  have hZl : ZZ.length = l.length * 104 := by rw [← hZZ]; simp
  clear hZZ
  obtain ⟨n, hn⟩ : ∃ n, n = H.length := ⟨_, rfl⟩
  obtain ⟨G0, hG0⟩ : ∃ G : AH, G = H ++ [some ⟨ZZ, 39, some 104⟩] := ⟨_, rfl⟩
  have b0 : hget G0 n = some ⟨ZZ, 39, some 104⟩ := by rw [hG0, hn, hget_app0]; rfl
  have lw0 : Low n H G0 := by rw [hG0, hn]; exact Low.push (Nat.le_refl _) _
  have gl0 : G0.length = n + 1 := by rw [hG0, hn]; simp
  rw [← hG0, ← hn]
  rw [← hn] at hnro
  clear hG0
  refine aw_seq ?_
  refine aw_seq ?_
  (refine aw_ops (by kernel_rfl) (fun K hK => ?_); simp (disch := first | omega | (simp only [lnS]; try omega; done)) [-getElem?_pos, -getElem?_neg, -notTuple, hnt, hvc, nt_intG, -xlen, hxl]; refine hK _ _ ?_; clear hK K)
  refine aw_block ?_
  refine aw_loop (fun q α G => ∃ (i : Nat) (R : List (List Value)), i + q = l.length ∧ α 0 = nv ∧ α 1 = .func (.func 72) #[] #[] ∧ α 5 = .slice (some ⟨n, 0, none⟩) l.length l.length ∧ α 11 = nv ∧ α 12 = .int .i64 (l.length : Nat) ∧ α 13 = .int .i64 (i : Nat) ∧ Low n H G ∧ G.length = n + 1 + ((List.range i).map fun i => c i + 1).sum ∧ hget G n = some ⟨R.flatten ++ ZZ.drop (i * 104), 39, some 104⟩ ∧ NewRows (n + 1) G R (l.take i)) l.length ?_ ?_
  · exact ⟨0, [], by omega, by (first | (simp [put_at, put_none, fr0_at]; done) | rfl), by (first | (simp [put_at, put_none, fr0_at]; done) | rfl), by (first | (simp [put_at, put_none, fr0_at]; done) | rfl), by (first | (simp [put_at, put_none, fr0_at]; done) | rfl), by (first | (simp [put_at, put_none, fr0_at]; done) | rfl), by (first | (simp [put_at, put_none, fr0_at]; done) | rfl), lw0, by simp [gl0], by simpa using b0, ⟨by simp, fun k us x h => by simp at h⟩⟩
  rintro q α G ⟨i, R, hiq, h0, h1, h5, h11, h12, h13, hlow, hgl, hout, hrows⟩
  refine aw_seq ?_
  by_cases hi : i < l.length
  case neg =>
    (refine aw_ops (by kernel_rfl) (fun K hK => ?_); simp (disch := first | omega | (simp only [lnS]; try omega; done)) [-getElem?_pos, -getElem?_neg, h12, h13, hi]; refine hK _ _ ?_; clear hK K)
    refine aw_seq ?_
    refine aw_f (by (first | (simp [eval_tmp, put_at, hi]; done) | (simp [eval_tmp, put_at, hi]; omega))) (by kernel_rfl) ?_
    refine aw_exit ?_
    obtain rfl : i = l.length := by omega
    rw [List.drop_of_length_le (by omega), List.append_nil] at hout
    rw [List.take_length] at hrows
    refine aw_seq ?_
    (refine aw_ops (by kernel_rfl) (fun K hK => ?_); simp (disch := first | omega | (simp only [lnS]; try omega; done)) [-getElem?_pos, -getElem?_neg, h5]; refine hK _ _ ?_; clear hK K)
    (refine aw_ret ?_; simp (disch := first | omega | (simp only [lnS]; try omega; done)) [-getElem?_pos, -getElem?_neg, thenQ_ret, scopeQ_ret, inBlockQ_ret, RQ, resL, resV])
    exact ⟨hlow, R, hrows, hout⟩
  obtain ⟨j, qq, bb, us, pv, wv', bv, qv, hx, hbb, hq, hus, hC, hcn⟩ := hc i _ (nd_get hi)
  have hbG : hget G j = some bb := (hlow.1 j (by have := hget_lt hbb; omega)).trans hbb
  have hul := hC.len
  have hxw := hwf _ (List.mem_of_getElem? (nd_get hi))
  have hxs := hs _ (List.mem_of_getElem? (nd_get hi))
  have hus' := hus.symm
  clear hus
  have hset2 : ∀ Z : List Value, Z.length = 104 → setR Z 0 us = us := fun Z hZ => setR_all _ _ (by omega)
  have hle0 := hlow.2
  have hRl := hrows.1
  rw [List.length_take] at hRl
  have hRl : R.length = i := by omega
  (refine aw_ops (by kernel_rfl) (fun K hK => ?_); simp (disch := first | omega | (simp only [lnS]; try omega; done)) [-getElem?_pos, -getElem?_neg, h12, h13, hi]; refine hK _ _ ?_; clear hK K)
  refine aw_seq ?_
  refine aw_t (by (first | (simp [eval_tmp, put_at, hi]; done) | (simp [eval_tmp, put_at, hi]; omega))) (by kernel_rfl) ?_
  refine aw_skip ?_
  refine aw_seq ?_
  refine aw_block ?_
  refine aw_seq ?_
  (refine aw_ops (by kernel_rfl) (fun K hK => ?_); simp (disch := first | omega | (simp only [lnS]; try omega; done)) [-getElem?_pos, -getElem?_neg, h11, h13, -notTuple, hnt, hvc, nt_intG, nt_aggG, -xindexAddr, hx, hbG, hus', hul, hq, hle0, hp0, all_zl, hset2]; refine hK _ _ ?_; clear hK K)
  obtain ⟨hlow2, hb2⟩ := boxed (H := G) us 39
  have hout2 := hget_left' (L := [some ⟨us, 39, none⟩]) hout
  have hgl2 : (G ++ ([some ⟨us, 39, none⟩] : AH)).length = G.length + 1 := by simp
  obtain ⟨g, hg⟩ : ∃ g, g = G.length := ⟨_, rfl⟩
  rw [← hg] at hb2 hgl2 hlow2 hle0 hgl ⊢
  have hrows := hrows.keep (G := G ++ ([some ⟨us, 39, none⟩] : AH)) (fun j _ hj => hlow2.1 j (by omega)) (by omega)
  generalize G ++ [some ⟨us, 39, none⟩] = G2 at *
  have hlowG2 : Low n H G2 := ⟨fun j hj => (hlow2.1 j (by omega)).trans (hlow.1 j hj), by omega⟩
  have hC2 : NodeC G2 us (nd l i) pv wv' bv qv := hC.low (fun j hj => hlowG2.1 j (by omega))
  have hcn1 := nodes1_ac (nro := nro) (γ := γ) hC2 hxw hxs (by omega)
  have htk : us.take 104 = us := List.take_of_length_le (by omega)
  have hsuc : (List.map (fun i => c i + 1) (List.range (i + 1))).sum = (List.map (fun i => c i + 1) (List.range i)).sum + (c i + 1) := by
    rw [List.range_succ, List.map_append, List.sum_append]
    simp
  have hng : n < g := by omega
  refine aw_ops (by kernel_rfl) (fun K hK => ?_)
  simp (disch := first | omega | (simp only [lnS]; try omega; done)) [-getElem?_pos, -getElem?_neg, h5, h1, -notTuple, hnt, hvc, hfn, hfc, nt_intG, nt_aggG, nt_slG, hb2, hul, htk]
  refine ⟨hcal, hcn1.mono ?_⟩
  rintro v1 G3 ⟨rfl, l1, w1, r1⟩
  rw [hgl2] at l1 w1 r1 ⊢
  have hle3 := w1.2
  have hout3 := (w1.1 n (by omega)).trans hout2
  have hrl := nodeRow_len hxw (opP pv (g + 1 + 2)) (opW pv wv' (g + 1 + 2)) (opB pv wv' bv (g + 1 + 2)) (clV qv (g + 1 + 2 + opN pv wv' bv))
  have hput := row_put (Z := ZZ.drop (i * 104)) (us := nodeCp (nd l i) pv wv' bv qv (g + 1)) hrows.len hRl hrl (by rw [List.length_drop]; omega)
  rw [List.drop_drop, show i * 104 + 104 = (i + 1) * 104 by omega] at hput
  have hrows3 := (hrows.keep (G := G3) (fun j _ hj => w1.1 j (by omega)) (by omega)).push (us := nodeCp (nd l i) pv wv' bv qv (g + 1)) hrl (fun B hB => r1 B (fun j h1 h2 => hB j (by omega) h2))
  have hrl : (nodeCp (nd l i) pv wv' bv qv (g + 1)).length = 104 := hrl
  have hcl : (R.flatten ++ ZZ.drop (i * 104)).length = l.length * 104 := by
    rw [List.length_append, fl_len hrows.len, List.length_drop, hRl]; omega
  generalize nodeCp (nd l i) pv wv' bv qv (g + 1) = us' at *
  generalize hCe : R.flatten ++ ZZ.drop (i * 104) = C at *
  generalize hCe2 : (R ++ [us']).flatten ++ ZZ.drop ((i + 1) * 104) = C' at *
  simp (disch := first | omega | (simp only [lnS]; try omega; done)) [-getElem?_pos, -getElem?_neg, hout3, hcl, hrl, hput, nt_aggG, hi]
  refine hK _ _ ?_; clear hK K
  have z1 : hget (G3.set n (some ⟨C', 39, some 104⟩)) n = some ⟨C', 39, some 104⟩ := hget_set_eq (hget_lt hout3)
  have z2 : ∀ j, j ≠ n → hget (G3.set n (some ⟨C', 39, some 104⟩)) j = hget G3 j := fun j hj => hget_set_ne (fun e => hj e.symm)
  have z3 : (G3.set n (some ⟨C', 39, some 104⟩)).length = G3.length := by rw [List.length_set]
  have hrows4 := hrows3.keep (G := G3.set n (some ⟨C', 39, some 104⟩)) (fun j h1 h2 => z2 j (by omega)) (by omega)
  generalize G3.set n (some ⟨C', 39, some 104⟩) = G4 at *
  have htk2 : l.take i ++ [nd l i] = l.take (i + 1) := by rw [List.take_add_one, nd_get hi]; rfl
  rw [htk2] at hrows4
  subst hCe2
  (refine aw_ops (by kernel_rfl) (fun K hK => ?_); simp (disch := first | omega | (simp only [lnS]; try omega; done)) [-getElem?_pos, -getElem?_neg, h13]; refine hK _ _ ?_; clear hK K)
  exact ⟨q - 1, by omega, i + 1, R ++ [us'], by omega, by (first | (simp [put_at, put_none, fr0_at, h0]; done) | rfl), by (first | (simp [put_at, put_none, fr0_at, h1]; done) | rfl), by (first | (simp [put_at, put_none, fr0_at, h5]; done) | rfl), by (first | (simp [put_at, put_none, fr0_at, h11]; done) | rfl), by (first | (simp [put_at, put_none, fr0_at, h12]; done) | rfl), by (first | (simp [put_at, put_none, fr0_at]; done) | rfl), ⟨fun j hj => (z2 j (by omega)).trans ((w1.1 j (by omega)).trans (hlowG2.1 j hj)), by omega⟩, by rw [hsuc]; omega, z1, hrows4⟩
/-- A graph, copied: its length is fixed. -/
theorem deepNodes_ac {nro : Nat} {γ : Nat → Option Nat} {H : AH} {nv : Value} {l : List NodeD} (hN : NdA H nv l) (hl : l.length ≤ 1000) (hs : ∀ x ∈ l, SmN x) (hnro : nro ≤ H.length) :
    ∃ N : Nat, AC Try.prog nro γ 54 #[nv] H (fun v' H' => v' = .slice (some ⟨H.length, 0, none⟩) l.length l.length ∧ H'.length = N ∧ Low H.length H H' ∧ ∃ R, NewRows (H.length + 1) H' R l ∧ hget H' H.length = some ⟨R.flatten, 39, some 104⟩) := by
  obtain ⟨N, hE⟩ := each_ac (nro := nro) (γ := γ) hN hl hs hnro nodes1_callable
  obtain ⟨hnt, hvc, hxl, hwf, hat⟩ := hN
  have hfn : notTuple (.func (.func 72) #[] #[]) = true := rfl
  have hfc : (Value.func (.func 72) #[] #[]).cells = #[.func (.func 72) #[] #[]] := rfl
  refine ⟨N, ?_⟩
  refine ac_of_aw Try.func54 rfl Try.ntmps54 Try.results54 (by simp) ?_
  refine aw_seq ?_
  (refine aw_ops (by kernel_rfl) (fun K hK => ?_); simp (disch := first | omega | (simp only [lnS]; try omega; done)) [-getElem?_pos, -getElem?_neg]; refine hK _ _ ?_; clear hK K)
  refine aw_seq ?_
  refine aw_ops (by kernel_rfl) (fun K hK => ?_)
  simp (disch := first | omega | (simp only [lnS]; try omega; done)) [-getElem?_pos, -getElem?_neg, -notTuple, hnt, hvc, hfn, hfc, eval_fnG]
  refine ⟨by kernel_rfl, hE.mono ?_⟩
  rintro v1 G1 ⟨rfl, h1, h2, h3⟩
  try simp (disch := first | omega | (simp only [lnS]; try omega; done)) [-getElem?_pos, -getElem?_neg]
  refine hK _ _ ?_; clear hK K
  (refine aw_ret ?_; simp (disch := first | omega | (simp only [lnS]; try omega; done)) [-getElem?_pos, -getElem?_neg, thenQ_ret, scopeQ_ret, inBlockQ_ret, RQ, resL, resV])
  exact ⟨h2, h3⟩
end
section
section
variable {l : List NodeD}
theorem right_step (h : rightG l = true) {i : Nat} (hi : i < l.length) : stepB l i = true := by
  unfold rightG at h
  rw [Bool.and_eq_true, List.all_eq_true] at h
  exact h.2 i (List.mem_range.2 hi)
theorem step_iff {i : Nat} : stepB l i = true ↔ ((nd l i).op.parents.all (fun p => (findN l i p).isSome) = true ∧ rightO (nd l i).op = true ∧ findN l i (nd l i).id = none ∧ (nd l i).past = pastL l i (nd l i).op.parents ∧ turnB l i (nd l i).op (nd l i).past = true) := by
  unfold stepB
  rw [Bool.and_eq_true, Bool.and_eq_true, Bool.and_eq_true, Bool.and_eq_true, decide_eq_true_eq, Option.isNone_iff_eq_none]
theorem right_past (h : rightG l = true) {i : Nat} (hi : i < l.length) : (nd l i).past = pastL l i (nd l i).op.parents := (step_iff.1 (right_step h hi)).2.2.2.1
theorem right_op (h : rightG l = true) {i : Nat} (hi : i < l.length) : rightO (nd l i).op = true := (step_iff.1 (right_step h hi)).2.1
theorem right_fresh (h : rightG l = true) {i : Nat} (hi : i < l.length) : findN l i (nd l i).id = none := (step_iff.1 (right_step h hi)).2.2.1
theorem right_turn (h : rightG l = true) {i : Nat} (hi : i < l.length) : turnB l i (nd l i).op (nd l i).past = true := (step_iff.1 (right_step h hi)).2.2.2.2
theorem right_par (h : rightG l = true) {i : Nat} (hi : i < l.length) {p : List Int} (hp : p ∈ (nd l i).op.parents) : ∃ a, findN l i p = some a := by
  have := (step_iff.1 (right_step h hi)).1
  rw [List.all_eq_true] at this
  exact Option.isSome_iff_exists.1 (this p hp)
theorem pastL_bd {n : Nat} {ps : List (List Int)} {z : Int} (h : z ∈ pastL l n ps) : ∃ k : Nat, z = k ∧ k < n ∧ inB l n ps k = true := by
  unfold pastL at h
  obtain ⟨k, hk, rfl⟩ := List.mem_map.1 h
  rw [List.mem_filter, List.mem_range] at hk
  exact ⟨k, rfl, hk.1, hk.2⟩
theorem past_bd (h : rightG l = true) {i : Nat} (hi : i < l.length) {z : Int} (hz : z ∈ (nd l i).past) : ∃ k : Nat, z = k ∧ k < i := by
  rw [right_past h hi] at hz
  obtain ⟨k, e, hk, _⟩ := pastL_bd hz
  exact ⟨k, e, hk⟩
theorem pastL_length (l : List NodeD) (n : Nat) (ps : List (List Int)) : (pastL l n ps).length ≤ n := by
  unfold pastL
  rw [List.length_map]
  exact Nat.le_trans (List.length_filter_le _ _) (by simp)
theorem past_len (h : rightG l = true) {i : Nat} (hi : i < l.length) : (nd l i).past.length ≤ i := by
  rw [right_past h hi]; exact pastL_length _ _ _
theorem rightO_sm {o : OpD} (h : rightO o = true) : o.parents.length ≤ 8 ∧ o.who.length ≤ 8 ∧ o.boxes.length ≤ 8 := by
  rw [← refO_eq] at h
  unfold refO at h
  simp only [Bool.and_eq_true, decide_eq_true_eq, List.all_eq_true] at h
  refine ⟨h.2.2.2.2.1, ?_, h.2.2.2.2.2.1⟩
  obtain ⟨hm, hr⟩ := h.2.2.2.2.2.2.2.2.1
  refine rise_len hm (fun i hi => ?_)
  unfold risesI at hr
  rw [List.all_eq_true] at hr
  have := hr i (List.mem_range.2 (by omega))
  rwa [decide_eq_true_eq, cmpI_lt] at this
theorem rightO_author {o : OpD} (h : rightO o = true) : 0 ≤ o.author ∧ o.author < 8 := by
  unfold rightO at h
  simp only [Bool.and_eq_true] at h
  have := h.2.2.1
  unfold memI at this
  simpa using this
theorem right_sm (h : rightG l = true) : ∀ x ∈ l, SmN x := fun x hx => by
  obtain ⟨i, hi⟩ := List.getElem?_of_mem hx
  have hil := (List.getElem?_eq_some_iff.1 hi).1
  have e := nd_eq hi
  have h1 := rightO_sm (right_op h hil)
  have h2 := past_len h hil
  have h3 := rightG_len h
  rw [e] at h1 h2
  exact ⟨⟨by omega, by omega, by omega⟩, by omega⟩
theorem findN_none {n a : Nat} {k : List Int} (h : findN l n k = none) (ha : a < n) : (nd l a).id ≠ k := by
  unfold findN at h
  rw [List.find?_eq_none] at h
  have := h a (List.mem_range.2 ha)
  simpa using this
theorem ids_ne (h : rightG l = true) {i j : Nat} (hij : i < j) (hj : j < l.length) : (nd l i).id ≠ (nd l j).id := findN_none (right_fresh h hj) hij
theorem author_ahead (h : rightG l = true) {i j : Nat} (hij : i < j) (hj : j < l.length) (he : (nd l i).op.author = (nd l j).op.author) : (i : Int) ∈ (nd l j).past := by
  have := right_turn h hj
  unfold turnB autA at this
  simp only [Bool.and_eq_true, List.all_eq_true] at this
  have := this.2.1 i (List.mem_range.2 hij)
  simpa [he] using this
theorem inB_iff {n k : Nat} {ps : List (List Int)} : inB l n ps k = true ↔ ∃ p ∈ ps, ∃ a, findN l n p = some a ∧ (a = k ∨ (k : Int) ∈ (nd l a).past) := by
  rw [inZ_B]
  unfold inZ
  refine exists_congr fun p => and_congr_right fun _ => exists_congr fun a => and_congr_right fun _ => or_congr ?_ Iff.rfl
  omega
/-- Heads. -/
def behB (l : List NodeD) (k : Nat) : Bool := (List.range l.length).any fun i => decide ((k : Int) ∈ (nd l i).past)
def headP (l : List NodeD) : List Nat := (List.range l.length).filter fun k => !behB l k
def headK (l : List NodeD) : List (List Int) := (headP l).map fun k => (nd l k).id
def headsL (l : List NodeD) : List (List Int) := sortK (headK l)
theorem mem_headP {k : Nat} : k ∈ headP l ↔ k < l.length ∧ ∀ i, i < l.length → (k : Int) ∉ (nd l i).past := by
  unfold headP behB
  rw [List.mem_filter, List.mem_range]
  refine and_congr_right fun _ => ?_
  rw [Bool.not_eq_true', List.any_eq_false]
  refine ⟨fun h i hi => by simpa using h i (List.mem_range.2 hi), fun h i hi => by simpa using h i (List.mem_range.1 hi)⟩
theorem headP_lt : (headP l).Pairwise (· < ·) := List.Pairwise.filter _ List.pairwise_lt_range
theorem headP_len (h : rightG l = true) : (headP l).length ≤ 8 := by
  have hnd : ((headP l).map fun k => (nd l k).op.author.toNat).Nodup := by
    rw [List.Nodup, List.pairwise_map]
    refine List.Pairwise.imp_of_mem ?_ headP_lt
    intro i j hi hj hij e
    have hjl := (mem_headP.1 hj).1
    have hil := (mem_headP.1 hi).1
    have a1 := rightO_author (right_op h hil)
    have a2 := rightO_author (right_op h hjl)
    exact (mem_headP.1 hi).2 j hjl (author_ahead h hij hjl (by omega))
  have := List.Nodup.length_le_of_subset (l₂ := List.range 8) hnd (fun x hx => by
    obtain ⟨k, hk, rfl⟩ := List.mem_map.1 hx
    have a1 := rightO_author (right_op h (mem_headP.1 hk).1)
    exact List.mem_range.2 (by omega))
  simpa using this
theorem headK_nodup (h : rightG l = true) : (headK l).Nodup := by
  unfold headK
  rw [List.Nodup, List.pairwise_map]
  refine List.Pairwise.imp_of_mem ?_ headP_lt
  intro i j hi hj hij
  exact ids_ne h hij (mem_headP.1 hj).1
end
end
section
theorem take_nd {l : List NodeD} {i : Nat} : ∀ a, a < i → nd (l.take i) a = nd l a := fun a ha => nd_take ha
theorem take_len {l : List NodeD} {i : Nat} (hi : i < l.length) : (l.take i).length = i := by rw [List.length_take]; omega
theorem step_false {l : List NodeD} {i : Nat} (h : ¬ ((nd l i).op.parents.all (fun p => (findN l i p).isSome) = true ∧ rightO (nd l i).op = true ∧ findN l i (nd l i).id = none ∧ (nd l i).past = pastL l i (nd l i).op.parents ∧ turnB l i (nd l i).op (nd l i).past = true)) : stepB l i = false := by
  cases hs : stepB l i with
  | false => rfl
  | true => exact absurd (step_iff.1 hs) h
attribute [local simp] wb_bool wb_undef with_lit XL_nil XL_cons XLc_val XLc_call step1_eq stepW_t stepW_f stepC_n stepC_s stepX_s stepX_n stepN_s calleeX oneV xop_eq xopR_s xopR_n wantedA_eq wantedG_n wantedG_s plain1_int plain1_bool plain1_string bits_i64 bits_u64 bits_u32 bits_u16 bits_u8 xeqA xagg xcmp xarr allK_iv num_iv calleeOf xread xeff xbin xint xnil xun xstr xload xconv xpart xfield xfieldAddr xindexAddr xindex bnd asInt? xslice xlen xmin xmax xbuild xfill xappend xapp2 xappstr xappmk xcap xcopy xcells eval_tmp eval_const put_at put_none fr0_at cells_agg cells_int cells_bool cells_string cells_ptr cells_slice notTuple tab iv_all hget_app hget_app0 hget_cons0 hget_cons set_app set_app0 setR setR_one QL_nil QL_cons QLc_val stepQ_t stepQ_f stepQC_n stepQC_s stepQX_s SL_nil SL_cons SLc_val stepS_t stepS_f ltT ltF leT leF eqT eqF ltTn ltFn leTn leFn eqTn eqFn beqT beqF bneT bneF wi64 wu64 wu32 wu16 wu8 tmodP tdivP hgetL hgetNe hgetEq setL nums_def nums_len Nat.succ_le_of_lt List.getElem?_cons_zero List.getElem?_cons_succ Option.getD_some Int.toNat_add Int.toNat_mul agM okM agB agI agS agP agL agA okB okI okS okP okSl okA
theorem rRightG_rc {γ : Nat → Option Nat} {H : AH} {nv : Value} {l : List NodeD} (hV : NdV H nv l) (hw : ∀ x ∈ l, x.Wf) (hm : l.length ≤ maxLen) : AC Try.prog H.length γ 11 #[nv] H (fun v' _ => v' = .bool (rightG l)) := by
  have hN := hV.nda hw
  have hnt := hN.nt
  have hvc := hN.cs
  have hxl := hN.len
  have hm63 : l.length ≤ 9223372036854775807 := by simp only [maxLen] at hm; omega
  obtain ⟨n, hn⟩ : ∃ n, n = H.length := ⟨_, rfl⟩
  rw [← hn]
  refine ac_of_aw Try.func11 rfl Try.ntmps11 Try.results11 (by simp) ?_
  refine aw_seq ?_
  (refine aw_ops (by kernel_rfl) (fun K hK => ?_); simp (disch := first | omega | (simp only [lnS]; try omega; done)) [-getElem?_pos, -getElem?_neg]; refine hK _ _ ?_; clear hK K)
  refine aw_seq ?_
  refine aw_seq ?_
  by_cases hl : 96 < l.length
  · (refine aw_ops (by kernel_rfl) (fun K hK => ?_); simp (disch := first | omega | (simp only [lnS]; try omega; done)) [-getElem?_pos, -getElem?_neg, -notTuple, hnt, hvc, nt_intG, -xlen, hxl, hl]; refine hK _ _ ?_; clear hK K)
    refine aw_t (by (first | (simp [eval_tmp, put_at, hl]; done) | (simp [eval_tmp, put_at, hl]; omega))) (by kernel_rfl) ?_
    refine aw_seq ?_
    (refine aw_ops (by kernel_rfl) (fun K hK => ?_); simp (disch := first | omega | (simp only [lnS]; try omega; done)) [-getElem?_pos, -getElem?_neg]; refine hK _ _ ?_; clear hK K)
    (refine aw_ret ?_; simp (disch := first | omega | (simp only [lnS]; try omega; done)) [-getElem?_pos, -getElem?_neg, thenQ_ret, scopeQ_ret, inBlockQ_ret, RQ, resL, resV])
    have : ¬ l.length ≤ 96 := by omega
    simp [rightG, this]
  (refine aw_ops (by kernel_rfl) (fun K hK => ?_); simp (disch := first | omega | (simp only [lnS]; try omega; done)) [-getElem?_pos, -getElem?_neg, -notTuple, hnt, hvc, nt_intG, -xlen, hxl, hl]; refine hK _ _ ?_; clear hK K)
  refine aw_f (by (first | (simp [eval_tmp, put_at, hl]; done) | (simp [eval_tmp, put_at, hl]; omega))) (by kernel_rfl) ?_
  refine aw_skip ?_
  refine aw_seq ?_
  refine aw_seq ?_
  (refine aw_ops (by kernel_rfl) (fun K hK => ?_); simp (disch := first | omega | (simp only [lnS]; try omega; done)) [-getElem?_pos, -getElem?_neg]; refine hK _ _ ?_; clear hK K)
  refine aw_block ?_
  refine aw_loop (fun c α G => ∃ i : Nat, i + c = l.length ∧ α 0 = nv ∧ α 3 = .int .i64 (i : Nat) ∧ Low n H G ∧ ∀ k, k < i → stepB l k = true) l.length ?_ ?_
  · exact ⟨0, by omega, by (first | (simp [put_at, put_none, fr0_at]; done) | rfl), by (first | (simp [put_at, put_none, fr0_at]; done) | rfl), by rw [hn]; exact Low.refl (Nat.le_refl _), fun k hk => by omega⟩
  rintro c α G ⟨i, hic, q0, q3, hlow, hpre⟩
  refine aw_seq ?_
  refine aw_seq ?_
  by_cases hi : i < l.length
  case neg =>
    (refine aw_ops (by kernel_rfl) (fun K hK => ?_); simp (disch := first | omega | (simp only [lnS]; try omega; done)) [-getElem?_pos, -getElem?_neg, q0, q3, -notTuple, hnt, hvc, nt_intG, -xlen, hxl, hi]; refine hK _ _ ?_; clear hK K)
    refine aw_f (by (first | (simp [eval_tmp, put_at, hi]; done) | (simp [eval_tmp, put_at, hi]; omega))) (by kernel_rfl) ?_
    refine aw_exit ?_
    refine aw_seq ?_
    (refine aw_ops (by kernel_rfl) (fun K hK => ?_); simp (disch := first | omega | (simp only [lnS]; try omega; done)) [-getElem?_pos, -getElem?_neg]; refine hK _ _ ?_; clear hK K)
    (refine aw_ret ?_; simp (disch := first | omega | (simp only [lnS]; try omega; done)) [-getElem?_pos, -getElem?_neg, thenQ_ret, scopeQ_ret, inBlockQ_ret, RQ, resL, resV])
    unfold rightG
    rw [range_true (fun k hk => hpre k (by omega)), Bool.and_true]
    simp; omega
  obtain ⟨tv, hT, hsl⟩ := hV.take hw hi
  have htl := take_len hi
  have hTG := hT.lowG (hn ▸ hlow)
  have t1 := hTG.nt
  have t2 := hTG.cs
  obtain ⟨j, q, bb, us, pv, wv', bv, qv, hx, hbb, hq, hcell, hus, hC⟩ := (hN.lowG (hn ▸ hlow)).at_ i _ (nd_get hi)
  have hxw := hw _ (List.mem_of_getElem? (nd_get hi))
  have hP := hC.op.parents
  have p12 := val_nt hP
  have cp : bb.cells[q + 34]? = some pv := by
    have := hC.op.c2
    rw [List.getElem?_take_of_lt (by omega), List.getElem?_drop] at this
    exact (hcell 34 (by omega)).trans this
  have cq : bb.cells[q + 103]? = some qv := (hcell 103 (by omega)).trans hC.c103
  have co : (bb.cells.drop (q + 32)).take 71 = (us.drop 32).take 71 := by rw [op_cut, ← hus]
  have ci : (bb.cells.drop q).take 32 = iv .u8 (nd l i).id := by
    have := hC.id
    rw [hus, List.take_take] at this
    simpa using this
  have hpk : ∀ k ∈ (nd l i).op.parents, k.length = 32 := fun k hk => (hxw.op.parents k hk).1
  have hrp := (rPast_rc (γ := γ) hTG (by omega) hP hpk hxw.op.plen).thaw (nro := n) (fun v G' h => ⟨h.1.2, h.1.1⟩)
  unfold RPastQ at hrp
  rw [htl, pastL_congr take_nd] at hrp
  have hfc : (fun p => (findN (l.take i) i p).isSome) = fun p => (findN l i p).isSome := by
    funext p
    rw [find_congr take_nd]
  rw [hfc] at hrp
  have hbad : stepB l i = false → rightG l = false := rightG_bad hi
  (refine aw_ops (by kernel_rfl) (fun K hK => ?_); simp (disch := first | omega | (simp only [lnS]; try omega; done)) [-getElem?_pos, -getElem?_neg, q0, q3, -notTuple, hnt, hvc, nt_intG, -xlen, hxl, hi]; refine hK _ _ ?_; clear hK K)
  refine aw_t (by (first | (simp [eval_tmp, put_at, hi]; done) | (simp [eval_tmp, put_at, hi]; omega))) (by kernel_rfl) ?_
  refine aw_skip ?_
  refine aw_seq ?_
  refine aw_block ?_
  refine aw_seq ?_
  refine aw_cut (fun α2 G2 => α2 0 = nv ∧ α2 3 = .int .i64 (i : Nat) ∧ Low n H G2 ∧ Low G.length G G2 ∧ ∃ sv ok, α2 4 = sv ∧ α2 5 = .bool ok ∧ notTuple sv = true ∧ sv.cells = #[sv] ∧ ok = (nd l i).op.parents.all (fun p => (findN l i p).isSome) ∧ (ok = true → ∃ F, OwnF G2 sv 3 1 (iv .i64 (pastL l i (nd l i).op.parents)) F)) ?_ ?_
  (refine aw_ptree [0, 1, 3, 4, 5, 6, 7] 8 [[2, 8, 9, 10, 11, 12, 13, 14], [2, 8, 9, 10, 11, 13, 12, 14], [2, 8, 9, 10, 12, 11, 13, 14], [8, 2, 9, 10, 11, 12, 13, 14], [8, 2, 9, 10, 11, 13, 12, 14], [8, 2, 9, 10, 12, 11, 13, 14]] (by kernel_rfl) (by kernel_rfl) (by kernel_rfl) (fun K hK => ?_)); simp only [sel, List.getElem?_cons_succ, List.getElem?_cons_zero]; simp (disch := first | omega | (simp only [lnS]; try omega; done)) [-getElem?_pos, -getElem?_neg, q0, q3, hsl, -xslice, -xindexAddr, hx, hbb, cp, -notTuple, hnt, hvc, t1, t2, p12.1, p12.2, nt_intG, nt_ptrG, XO_s, XO_z, XLk_val, XLk_call, headsO, behind, List.length_cons, List.length_nil, List.mem_cons, List.not_mem_nil, or_false, forall_eq_or_imp, forall_eq, List.contains_cons, List.contains_nil]
  · have hG1 : ∀ G1 : AH, Low G.length G G1 → Low n H G1 := fun G1 h => ⟨fun j hj => (h.1 j (by have := hlow.2; omega)).trans (hlow.1 j hj), by have := h.2; have := hlow.2; omega⟩
    refine ⟨⟨by kernel_rfl, AC.mono hrp ?_⟩, by kernel_rfl, AC.mono hrp ?_⟩
    all_goals rintro v G1 ⟨low1, ⟨hall, sv, F, rfl, ho, hF⟩ | ⟨hall, rfl⟩⟩
    · obtain ⟨s1, s2⟩ := own_nt ho
      simp (disch := first | omega | (simp only [lnS]; try omega; done)) [-getElem?_pos, -getElem?_neg, -notTuple, s1, s2, nt_boolG, XO_s, XO_z, XLk_val, XLk_call, headsO, behind, List.length_cons, List.length_nil, List.mem_cons, List.not_mem_nil, or_false, forall_eq_or_imp, forall_eq, List.contains_cons, List.contains_nil]
      refine ⟨⟨hK _ _ ?_, hK _ _ ?_⟩, hK _ _ ?_⟩
      · exact ⟨by (first | (simp [put_at, put_none, fr0_at, q0]; done) | rfl), by (first | (simp [put_at, put_none, fr0_at, q3]; done) | rfl), hG1 _ low1, low1, sv, true, by (first | (simp [put_at, put_none, fr0_at]; done) | rfl), by (first | (simp [put_at, put_none, fr0_at]; done) | rfl), s1, s2, hall.symm, fun _ => ⟨F, ho⟩⟩
      · exact ⟨by (first | (simp [put_at, put_none, fr0_at, q0]; done) | rfl), by (first | (simp [put_at, put_none, fr0_at, q3]; done) | rfl), hG1 _ low1, low1, sv, true, by (first | (simp [put_at, put_none, fr0_at]; done) | rfl), by (first | (simp [put_at, put_none, fr0_at]; done) | rfl), s1, s2, hall.symm, fun _ => ⟨F, ho⟩⟩
      · exact ⟨by (first | (simp [put_at, put_none, fr0_at, q0]; done) | rfl), by (first | (simp [put_at, put_none, fr0_at, q3]; done) | rfl), hG1 _ low1, low1, sv, true, by (first | (simp [put_at, put_none, fr0_at]; done) | rfl), by (first | (simp [put_at, put_none, fr0_at]; done) | rfl), s1, s2, hall.symm, fun _ => ⟨F, ho⟩⟩
    · simp (disch := first | omega | (simp only [lnS]; try omega; done)) [-getElem?_pos, -getElem?_neg, XO_s, XO_z, XLk_val, XLk_call, headsO, behind, List.length_cons, List.length_nil, List.mem_cons, List.not_mem_nil, or_false, forall_eq_or_imp, forall_eq, List.contains_cons, List.contains_nil]
      refine ⟨⟨hK _ _ ?_, hK _ _ ?_⟩, hK _ _ ?_⟩
      · exact ⟨by (first | (simp [put_at, put_none, fr0_at, q0]; done) | rfl), by (first | (simp [put_at, put_none, fr0_at, q3]; done) | rfl), hG1 _ low1, low1, .slice none 0 0, false, by (first | (simp [put_at, put_none, fr0_at]; done) | rfl), by (first | (simp [put_at, put_none, fr0_at]; done) | rfl), rfl, rfl, hall.symm, fun h => (by cases h)⟩
      · exact ⟨by (first | (simp [put_at, put_none, fr0_at, q0]; done) | rfl), by (first | (simp [put_at, put_none, fr0_at, q3]; done) | rfl), hG1 _ low1, low1, .slice none 0 0, false, by (first | (simp [put_at, put_none, fr0_at]; done) | rfl), by (first | (simp [put_at, put_none, fr0_at]; done) | rfl), rfl, rfl, hall.symm, fun h => (by cases h)⟩
      · exact ⟨by (first | (simp [put_at, put_none, fr0_at, q0]; done) | rfl), by (first | (simp [put_at, put_none, fr0_at, q3]; done) | rfl), hG1 _ low1, low1, .slice none 0 0, false, by (first | (simp [put_at, put_none, fr0_at]; done) | rfl), by (first | (simp [put_at, put_none, fr0_at]; done) | rfl), rfl, rfl, hall.symm, fun h => (by cases h)⟩
    · obtain ⟨s1, s2⟩ := own_nt ho
      simp (disch := first | omega | (simp only [lnS]; try omega; done)) [-getElem?_pos, -getElem?_neg, -notTuple, s1, s2, nt_boolG, XO_s, XO_z, XLk_val, XLk_call, headsO, behind, List.length_cons, List.length_nil, List.mem_cons, List.not_mem_nil, or_false, forall_eq_or_imp, forall_eq, List.contains_cons, List.contains_nil]
      refine ⟨⟨hK _ _ ?_, hK _ _ ?_⟩, hK _ _ ?_⟩
      · exact ⟨by (first | (simp [put_at, put_none, fr0_at, q0]; done) | rfl), by (first | (simp [put_at, put_none, fr0_at, q3]; done) | rfl), hG1 _ low1, low1, sv, true, by (first | (simp [put_at, put_none, fr0_at]; done) | rfl), by (first | (simp [put_at, put_none, fr0_at]; done) | rfl), s1, s2, hall.symm, fun _ => ⟨F, ho⟩⟩
      · exact ⟨by (first | (simp [put_at, put_none, fr0_at, q0]; done) | rfl), by (first | (simp [put_at, put_none, fr0_at, q3]; done) | rfl), hG1 _ low1, low1, sv, true, by (first | (simp [put_at, put_none, fr0_at]; done) | rfl), by (first | (simp [put_at, put_none, fr0_at]; done) | rfl), s1, s2, hall.symm, fun _ => ⟨F, ho⟩⟩
      · exact ⟨by (first | (simp [put_at, put_none, fr0_at, q0]; done) | rfl), by (first | (simp [put_at, put_none, fr0_at, q3]; done) | rfl), hG1 _ low1, low1, sv, true, by (first | (simp [put_at, put_none, fr0_at]; done) | rfl), by (first | (simp [put_at, put_none, fr0_at]; done) | rfl), s1, s2, hall.symm, fun _ => ⟨F, ho⟩⟩
    · simp (disch := first | omega | (simp only [lnS]; try omega; done)) [-getElem?_pos, -getElem?_neg, XO_s, XO_z, XLk_val, XLk_call, headsO, behind, List.length_cons, List.length_nil, List.mem_cons, List.not_mem_nil, or_false, forall_eq_or_imp, forall_eq, List.contains_cons, List.contains_nil]
      refine ⟨⟨hK _ _ ?_, hK _ _ ?_⟩, hK _ _ ?_⟩
      · exact ⟨by (first | (simp [put_at, put_none, fr0_at, q0]; done) | rfl), by (first | (simp [put_at, put_none, fr0_at, q3]; done) | rfl), hG1 _ low1, low1, .slice none 0 0, false, by (first | (simp [put_at, put_none, fr0_at]; done) | rfl), by (first | (simp [put_at, put_none, fr0_at]; done) | rfl), rfl, rfl, hall.symm, fun h => (by cases h)⟩
      · exact ⟨by (first | (simp [put_at, put_none, fr0_at, q0]; done) | rfl), by (first | (simp [put_at, put_none, fr0_at, q3]; done) | rfl), hG1 _ low1, low1, .slice none 0 0, false, by (first | (simp [put_at, put_none, fr0_at]; done) | rfl), by (first | (simp [put_at, put_none, fr0_at]; done) | rfl), rfl, rfl, hall.symm, fun h => (by cases h)⟩
      · exact ⟨by (first | (simp [put_at, put_none, fr0_at, q0]; done) | rfl), by (first | (simp [put_at, put_none, fr0_at, q3]; done) | rfl), hG1 _ low1, low1, .slice none 0 0, false, by (first | (simp [put_at, put_none, fr0_at]; done) | rfl), by (first | (simp [put_at, put_none, fr0_at]; done) | rfl), rfl, rfl, hall.symm, fun h => (by cases h)⟩
  clear q0 q3
  rintro α G2 ⟨q0, q3, hlow2, lowG2, sv, ok, q4, q5, s1, s2, hok, hown⟩
  have hTG2 := hTG.lowG lowG2
  have hNG2 := hN.lowG (hn ▸ hlow2)
  have hbb2 := (lowG2.1 j (hget_lt hbb)).trans hbb
  have hC2 : NodeC G2 us (nd l i) pv wv' bv qv := hC.low lowG2.1
  refine aw_seq ?_
  refine aw_cut (fun α G3 => α 73 = .bool (!stepB l i) ∧ α 0 = nv ∧ α 3 = .int .i64 (i : Nat) ∧ G3 = G2) ?_ ?_
  · have hrr := rRight_rc (γ := γ) hC2.op hxw.op
    cases ok with
    | false =>
      have hsf : stepB l i = false := step_false (fun h => by rw [← hok] at h; cases h.1)
      (refine aw_plan [] [] [0, 1, 2, 3, 4, 5, 6, 7, 8, 9, 10, 11, 12, 13, 14, 15, 16, 17, 18, 19, 20, 21, 22, 23, 24, 25, 26, 27, 28, 29, 30, 31, 32, 33, 34, 35, 36, 37, 38, 39, 40, 41, 42, 43, 44, 45] 46 0 (by kernel_rfl) (by kernel_rfl) (by kernel_rfl) (fun K hK => ?_)); simp only [sel, List.getElem?_cons_succ, List.getElem?_cons_zero, List.drop_succ_cons, List.drop_zero]; simp (disch := first | omega | (simp only [lnS]; try omega; done)) [-getElem?_pos, -getElem?_neg, q0, q3, q5, PL_nil, plainB_lit, PL_cons, PLc_val, PLc_new, stepP_t, stepP_f, stepPC_n, stepPC_s, stepPX_s, stepPX_n, stepPV_n, stepPV_s, stepPA_t, stepPA_c, stepPA_l, stepPN_s, allocOp, reloc_sl, reloc_ptr, List.map_cons, List.map_nil, List.nil_append, List.append_assoc, List.cons_append, Nat.add_assoc]
      refine hK _ _ ?_; clear hK K
      exact ⟨by rw [hsf]; (first | (simp [put_at, put_none, fr0_at]; done) | rfl), by (first | (simp [put_at, put_none, fr0_at, q0]; done) | rfl), by (first | (simp [put_at, put_none, fr0_at, q3]; done) | rfl), rfl⟩
    | true =>
    obtain ⟨F, ho⟩ := hown rfl
    have hnx : stepB l i = (rightO (nd l i).op && ((findN l i (nd l i).id).isNone && (decide ((nd l i).past = pastL l i (nd l i).op.parents) && turnB l i (nd l i).op (nd l i).past))) := by
      unfold stepB
      rw [← hok, Bool.true_and]
    (refine aw_plan [] [] [0, 1, 2, 3, 4, 5, 6, 7, 8, 9, 10, 11, 12, 13, 14, 15, 16, 17, 18, 19, 20, 21, 22, 23, 24, 25, 26, 27, 28, 29, 30, 31, 32, 33, 34, 35, 36, 37, 38, 39, 40, 41, 42, 43, 44, 45] 46 0 (by kernel_rfl) (by kernel_rfl) (by kernel_rfl) (fun K hK => ?_)); simp only [sel, List.getElem?_cons_succ, List.getElem?_cons_zero, List.drop_succ_cons, List.drop_zero]; simp (disch := first | omega | (simp only [lnS]; try omega; done)) [-getElem?_pos, -getElem?_neg, q0, q3, q4, q5, hsl, -xslice, -xindexAddr, hx, hbb2, co, ci, cq, -notTuple, hnt, hvc, t1, t2, s1, s2, nt_intG, nt_ptrG, nt_aggG, PL_nil, plainB_lit, PL_cons, PLc_val, PLc_new, stepP_t, stepP_f, stepPC_n, stepPC_s, stepPX_s, stepPX_n, stepPV_n, stepPV_s, stepPA_t, stepPA_c, stepPA_l, stepPN_s, allocOp, reloc_sl, reloc_ptr, List.map_cons, List.map_nil, List.nil_append, List.append_assoc, List.cons_append, Nat.add_assoc]
    refine PLc_call (v := .bool (refO (nd l i).op)) (by kernel_rfl) (fun L hL => rRight_rc (hC2.op.low (fun j hj => hget_left hj)) hxw.op) (by simp [pv_iv, pv_int, pv_bool, pv_string, pv_tup2, pv_tup3, iv_plain, p2_int, p2_bool, p2_string]) ?_
    have hri : (iv .u8 (nd l i).id).length = 32 := by rw [iv_length, hxw.id.1]
    have hqn := val_nt hC2.past
    rw [refO_eq]
    cases k1 : rightO (nd l i).op with
    | false =>
      simp (disch := first | omega | (simp only [lnS]; try omega; done)) [-getElem?_pos, -getElem?_neg, PL_nil, plainB_lit, PL_cons, PLc_val, PLc_new, stepP_t, stepP_f, stepPC_n, stepPC_s, stepPX_s, stepPX_n, stepPV_n, stepPV_s, stepPA_t, stepPA_c, stepPA_l, stepPN_s, allocOp, reloc_sl, reloc_ptr, List.map_cons, List.map_nil, List.nil_append, List.append_assoc, List.cons_append, Nat.add_assoc]
      refine hK _ _ ?_; clear hK K
      exact ⟨by rw [hnx]; simp [k1, put_at], by (first | (simp [put_at, put_none, fr0_at, q0]; done) | rfl), by (first | (simp [put_at, put_none, fr0_at, q3]; done) | rfl), rfl⟩
    | true =>
    simp (disch := first | omega | (simp only [lnS]; try omega; done)) [-getElem?_pos, -getElem?_neg, q0, q3, q4, q5, hsl, -xslice, -xindexAddr, hx, hbb2, co, ci, cq, -notTuple, hnt, hvc, t1, t2, s1, s2, nt_intG, nt_ptrG, nt_aggG, hri, PL_nil, plainB_lit, PL_cons, PLc_val, PLc_new, stepP_t, stepP_f, stepPC_n, stepPC_s, stepPX_s, stepPX_n, stepPV_n, stepPV_s, stepPA_t, stepPA_c, stepPA_l, stepPN_s, allocOp, reloc_sl, reloc_ptr, List.map_cons, List.map_nil, List.nil_append, List.append_assoc, List.cons_append, Nat.add_assoc]
    have hfi : ∀ L : AH, AC Try.prog (G2 ++ L).length γ 14 #[tv, .agg (iv .u8 (nd l i).id).toArray] (G2 ++ L) (fun v' _ => v' = .int .i64 (findI l i (nd l i).id)) := fun L => by
      have := rFind_rc (γ := γ) (hTG2.lowG (Low.push (Nat.le_refl _) L)) (by rw [htl]; simp only [maxLen]; omega) hxw.id.1
      rw [htl] at this
      unfold findI at this ⊢
      rwa [find_congr take_nd] at this
    refine PLc_call (v := .int .i64 (findI l i (nd l i).id)) (by kernel_rfl) (fun L hL => hfi L) (by simp [pv_iv, pv_int, pv_bool, pv_string, pv_tup2, pv_tup3, iv_plain, p2_int, p2_bool, p2_string]) ?_
    unfold findI
    cases k2 : findN l i (nd l i).id with
    | some a =>
      have ha := findN_lt k2
      simp (disch := first | omega | (simp only [lnS]; try omega; done)) [-getElem?_pos, -getElem?_neg, q0, q3, q4, q5, hsl, -xslice, -xindexAddr, hx, hbb2, co, ci, cq, -notTuple, hnt, hvc, t1, t2, s1, s2, nt_intG, nt_ptrG, nt_aggG, hri, PL_nil, plainB_lit, PL_cons, PLc_val, PLc_new, stepP_t, stepP_f, stepPC_n, stepPC_s, stepPX_s, stepPX_n, stepPV_n, stepPV_s, stepPA_t, stepPA_c, stepPA_l, stepPN_s, allocOp, reloc_sl, reloc_ptr, List.map_cons, List.map_nil, List.nil_append, List.append_assoc, List.cons_append, Nat.add_assoc]
      refine hK _ _ ?_; clear hK K
      exact ⟨by rw [hnx]; simp [k1, k2, put_at], by (first | (simp [put_at, put_none, fr0_at, q0]; done) | rfl), by (first | (simp [put_at, put_none, fr0_at, q3]; done) | rfl), rfl⟩
    | none =>
    simp (disch := first | omega | (simp only [lnS]; try omega; done)) [-getElem?_pos, -getElem?_neg, q0, q3, q4, q5, hsl, -xslice, -xindexAddr, hx, hbb2, co, ci, cq, -notTuple, hnt, hvc, t1, t2, s1, s2, nt_intG, nt_ptrG, nt_aggG, hri, hqn.1, hqn.2, PL_nil, plainB_lit, PL_cons, PLc_val, PLc_new, stepP_t, stepP_f, stepPC_n, stepPC_s, stepPX_s, stepPX_n, stepPV_n, stepPV_s, stepPA_t, stepPA_c, stepPA_l, stepPN_s, allocOp, reloc_sl, reloc_ptr, List.map_cons, List.map_nil, List.nil_append, List.append_assoc, List.cons_append, Nat.add_assoc]
    have hIP := own_inv ho
    have hpl := pastL_length l i (nd l i).op.parents
    refine PLc_call (v := .bool (decide (pastL l i (nd l i).op.parents = (nd l i).past))) (by kernel_rfl) (fun L hL => sameInts_rc (hIP.lowG (Low.push (Nat.le_refl _) L)) (hC2.past.lowG (Low.push (Nat.le_refl _) L)) (by simp only [maxLen]; omega)) (by simp [pv_iv, pv_int, pv_bool, pv_string, pv_tup2, pv_tup3, iv_plain, p2_int, p2_bool, p2_string]) ?_
    by_cases k3 : pastL l i (nd l i).op.parents = (nd l i).past
    case neg =>
      have k3' : ¬ (nd l i).past = pastL l i (nd l i).op.parents := fun e => k3 e.symm
      simp (disch := first | omega | (simp only [lnS]; try omega; done)) [-getElem?_pos, -getElem?_neg, q0, q3, q4, q5, hsl, -xslice, -xindexAddr, hx, hbb2, co, ci, cq, -notTuple, hnt, hvc, t1, t2, s1, s2, nt_intG, nt_ptrG, nt_aggG, hri, hqn.1, hqn.2, k3, PL_nil, plainB_lit, PL_cons, PLc_val, PLc_new, stepP_t, stepP_f, stepPC_n, stepPC_s, stepPX_s, stepPX_n, stepPV_n, stepPV_s, stepPA_t, stepPA_c, stepPA_l, stepPN_s, allocOp, reloc_sl, reloc_ptr, List.map_cons, List.map_nil, List.nil_append, List.append_assoc, List.cons_append, Nat.add_assoc]
      refine hK _ _ ?_; clear hK K
      exact ⟨by rw [hnx]; simp [k1, k2, k3', put_at], by (first | (simp [put_at, put_none, fr0_at, q0]; done) | rfl), by (first | (simp [put_at, put_none, fr0_at, q3]; done) | rfl), rfl⟩
    have k3' : (nd l i).past = pastL l i (nd l i).op.parents := k3.symm
    simp (disch := first | omega | (simp only [lnS]; try omega; done)) [-getElem?_pos, -getElem?_neg, q0, q3, q4, q5, hsl, -xslice, -xindexAddr, hx, hbb2, co, ci, cq, -notTuple, hnt, hvc, t1, t2, s1, s2, nt_intG, nt_ptrG, nt_aggG, hri, hqn.1, hqn.2, k3, PL_nil, plainB_lit, PL_cons, PLc_val, PLc_new, stepP_t, stepP_f, stepPC_n, stepPC_s, stepPX_s, stepPX_n, stepPV_n, stepPV_s, stepPA_t, stepPA_c, stepPA_l, stepPN_s, allocOp, reloc_sl, reloc_ptr, List.map_cons, List.map_nil, List.nil_append, List.append_assoc, List.cons_append, Nat.add_assoc]
    have htu : ∀ L : AH, AC Try.prog (G2 ++ L).length γ 32 #[tv, .agg ((us.drop 32).take 71).toArray, sv] (G2 ++ L) (fun v' _ => v' = .bool (turnB l i (nd l i).op (pastL l i (nd l i).op.parents))) := fun L => by
      have := turn_rc (γ := γ) (hTG2.lowG (Low.push (Nat.le_refl _) L)) (by omega) (hC2.op.low (fun j hj => hget_left hj)) hxw.op (hIP.lowG (Low.push (Nat.le_refl _) L)) (by simp only [maxLen]; omega)
      rw [htl] at this
      rwa [turnB_congr take_nd] at this
    refine PLc_call (v := .bool (turnB l i (nd l i).op (pastL l i (nd l i).op.parents))) (by kernel_rfl) (fun L hL => htu L) (by simp [pv_iv, pv_int, pv_bool, pv_string, pv_tup2, pv_tup3, iv_plain, p2_int, p2_bool, p2_string]) ?_
    rw [← k3']
    cases k4 : turnB l i (nd l i).op (nd l i).past with
    | false =>
      simp (disch := first | omega | (simp only [lnS]; try omega; done)) [-getElem?_pos, -getElem?_neg, PL_nil, plainB_lit, PL_cons, PLc_val, PLc_new, stepP_t, stepP_f, stepPC_n, stepPC_s, stepPX_s, stepPX_n, stepPV_n, stepPV_s, stepPA_t, stepPA_c, stepPA_l, stepPN_s, allocOp, reloc_sl, reloc_ptr, List.map_cons, List.map_nil, List.nil_append, List.append_assoc, List.cons_append, Nat.add_assoc]
      refine hK _ _ ?_; clear hK K
      exact ⟨by rw [hnx]; simp [k1, k2, ← k3', k4, put_at], by (first | (simp [put_at, put_none, fr0_at, q0]; done) | rfl), by (first | (simp [put_at, put_none, fr0_at, q3]; done) | rfl), rfl⟩
    | true =>
      simp (disch := first | omega | (simp only [lnS]; try omega; done)) [-getElem?_pos, -getElem?_neg, PL_nil, plainB_lit, PL_cons, PLc_val, PLc_new, stepP_t, stepP_f, stepPC_n, stepPC_s, stepPX_s, stepPX_n, stepPV_n, stepPV_s, stepPA_t, stepPA_c, stepPA_l, stepPN_s, allocOp, reloc_sl, reloc_ptr, List.map_cons, List.map_nil, List.nil_append, List.append_assoc, List.cons_append, Nat.add_assoc]
      refine hK _ _ ?_; clear hK K
      exact ⟨by rw [hnx]; simp [k1, k2, ← k3', k4, put_at], by (first | (simp [put_at, put_none, fr0_at, q0]; done) | rfl), by (first | (simp [put_at, put_none, fr0_at, q3]; done) | rfl), rfl⟩
  clear q0 q3 q4 q5
  rintro α G3 ⟨q73, q0, q3, rfl⟩
  cases hst : stepB l i with
  | false =>
    rw [hst] at q73
    refine aw_t (by (first | (simp [eval_tmp, put_at, q73]; done) | (simp [eval_tmp, put_at, q73]; omega))) (by kernel_rfl) ?_
    refine aw_seq ?_
    (refine aw_ops (by kernel_rfl) (fun K hK => ?_); simp (disch := first | omega | (simp only [lnS]; try omega; done)) [-getElem?_pos, -getElem?_neg]; refine hK _ _ ?_; clear hK K)
    (refine aw_ret ?_; simp (disch := first | omega | (simp only [lnS]; try omega; done)) [-getElem?_pos, -getElem?_neg, thenQ_ret, scopeQ_ret, inBlockQ_ret, RQ, resL, resV])
    rw [hbad hst]
  | true =>
    rw [hst] at q73
    refine aw_f (by (first | (simp [eval_tmp, put_at, q73]; done) | (simp [eval_tmp, put_at, q73]; omega))) (by kernel_rfl) ?_
    refine aw_skip ?_
    (refine aw_ops (by kernel_rfl) (fun K hK => ?_); simp (disch := first | omega | (simp only [lnS]; try omega; done)) [-getElem?_pos, -getElem?_neg, q3]; refine hK _ _ ?_; clear hK K)
    refine ⟨c - 1, by omega, i + 1, by omega, by (first | (simp [put_at, put_none, fr0_at, q0]; done) | rfl), by (first | (simp [put_at, put_none, fr0_at]; done) | rfl), hlow2, fun k hk => ?_⟩
    by_cases e : k = i
    · subst e; exact hst
    · exact hpre k (by omega)
end
section
/-- Keys as cells. -/
def kr (l : List (List Int)) : List Value := (l.map (iv .u8)).flatten
theorem ksC_kr (l : List (List Int)) : ksC l = kr l := by
  unfold ksC kr
  induction l with
  | nil => rfl
  | cons k l ih =>
    rw [List.map_cons, List.flatten_cons, List.map_append, ih, List.map_cons, List.flatten_cons]
    congr 1
    simp [kd, iv, CD.fv]
theorem kr_app (a b : List (List Int)) : kr (a ++ b) = kr a ++ kr b := by simp [kr]
theorem kr_one (k : List Int) : kr [k] = iv .u8 k := by simp [kr]
def K32 (l : List (List Int)) : Prop := ∀ k ∈ l, k.length = 32
theorem kr_rows {l : List (List Int)} (h : K32 l) : ∀ r ∈ l.map (iv .u8), r.length = 32 := fun r hr => by
  obtain ⟨k, hk, rfl⟩ := List.mem_map.1 hr
  rw [iv_length]; exact h k hk
theorem kr_len {l : List (List Int)} (h : K32 l) : (kr l).length = l.length * 32 := by unfold kr; rw [fl_len (kr_rows h), List.length_map]
theorem kr_get {l : List (List Int)} (h : K32 l) {j : Nat} {k : List Int} (hj : l[j]? = some k) : ((kr l).drop (j * 32)).take 32 = iv .u8 k := fl_get (kr_rows h) (by rw [List.getElem?_map, hj]; rfl)
theorem kr_set {l : List (List Int)} (h : K32 l) {j : Nat} {k : List Int} (hj : j < l.length) (hk : k.length = 32) : setR (kr l) (j * 32) (iv .u8 k) = kr (l.set j k) := by
  have hj' : l[j]? = some l[j] := List.getElem?_eq_getElem hj
  have hq := h _ (List.mem_of_getElem? hj')
  unfold kr
  rw [fl_setR (q := iv .u8 l[j]) (kr_rows h) (by rw [List.getElem?_map, hj']; rfl) (by rw [iv_length, hk]; omega)]
  rw [List.drop_of_length_le (by rw [iv_length, iv_length]; omega), List.append_nil, List.map_set]
theorem kr_addr {n b j : Nat} (hj : j < n) : xindexAddr Try.prog 30 (.slice (some ⟨b, 0, none⟩) n n) (.int .i64 (j : Nat)) = some (.pointer (some ⟨b, j * 32, none⟩)) := by
  have h1 : und Try.prog 30 = .slice 24 := by kernel_rfl
  have h2 : szt Try.prog 24 = 32 := by kernel_rfl
  unfold xindexAddr
  simp only [h1, h2]
  rw [if_pos ⟨by omega, by omega, by omega⟩]
  simp
theorem kr_load {G : AH} {b j : Nat} {l : List (List Int)} {k : List Int} (h : K32 l) (hj : l[j]? = some k) (hb : hget G b = some ⟨kr l, 24, some 32⟩) : xload Try.prog 24 (.pointer (some ⟨b, j * 32, none⟩)) G = some (.agg (iv .u8 k).toArray) := by
  have hl := (List.getElem?_eq_some_iff.1 hj).1
  refine load_at (sz := 32) hb (by kernel_rfl) (by omega) (by kernel_rfl) (kr_get h hj).symm ?_
  show _ ≤ (kr l).length
  rw [kr_len h]
  have : (j + 1) * 32 ≤ l.length * 32 := Nat.mul_le_mul_right _ hl
  omega
attribute [local simp] wb_bool wb_undef with_lit XL_nil XL_cons XLc_val XLc_call step1_eq stepW_t stepW_f stepC_n stepC_s stepX_s stepX_n stepN_s calleeX oneV xop_eq xopR_s xopR_n wantedA_eq wantedG_n wantedG_s plain1_int plain1_bool plain1_string bits_i64 bits_u64 bits_u32 bits_u16 bits_u8 xeqA xagg xcmp xarr allK_iv num_iv calleeOf xread xeff xbin xint xnil xun xstr xload xconv xpart xfield xfieldAddr xindexAddr xindex bnd asInt? xslice xlen xmin xmax xbuild xfill xappend xapp2 xappstr xappmk xcap xcopy xcells eval_tmp eval_const put_at put_none fr0_at cells_agg cells_int cells_bool cells_string cells_ptr cells_slice notTuple tab iv_all hget_app hget_app0 hget_cons0 hget_cons set_app set_app0 setR setR_one QL_nil QL_cons QLc_val stepQ_t stepQ_f stepQC_n stepQC_s stepQX_s SL_nil SL_cons SLc_val stepS_t stepS_f ltT ltF leT leF eqT eqF ltTn ltFn leTn leFn eqTn eqFn beqT beqF bneT bneF wi64 wu64 wu32 wu16 wu8 tmodP tdivP hgetL hgetNe hgetEq setL nums_def nums_len Nat.succ_le_of_lt List.getElem?_cons_zero List.getElem?_cons_succ Option.getD_some Int.toNat_add Int.toNat_mul agM okM agB agI agS agP agL agA okB okI okS okP okSl okA
theorem heads1_rc {γ : Nat → Option Nat} {H : AH} {a b : List Int} (ha : a.length = 32) (hb : b.length = 32) : AC Try.prog H.length γ 49 #[.agg (iv .u8 a).toArray, .agg (iv .u8 b).toArray] H (fun v' _ => v' = .int .i64 (cmpL a b)) := by
  have hla : (iv .u8 a).length = 32 := by rw [iv_length, ha]
  have hlb : (iv .u8 b).length = 32 := by rw [iv_length, hb]
  refine ac_of_aw Try.func49 rfl Try.ntmps49 Try.results49 (by simp) ?_
  refine aw_seq ?_
  (refine aw_ops (by kernel_rfl) (fun K hK => ?_); simp (disch := first | omega | (simp only [lnS]; try omega; done)) [-getElem?_pos, -getElem?_neg, hla, hlb]; refine hK _ _ ?_; clear hK K)
  obtain ⟨G, hG⟩ : ∃ G : AH, G = H ++ [some ⟨iv .u8 a, 24, none⟩, some ⟨iv .u8 b, 24, none⟩] := ⟨_, rfl⟩
  have g0 : hget G H.length = some ⟨iv .u8 a, 24, none⟩ := by rw [hG, hget_app0]; rfl
  have g1 : hget G (H.length + 1) = some ⟨iv .u8 b, 24, none⟩ := by rw [hG, hget_app]; rfl
  rw [← hG]
  clear hG
  refine aw_seq ?_
  (refine aw_plan [] [] [0, 1, 2, 3] 4 0 (by kernel_rfl) (by kernel_rfl) (by kernel_rfl) (fun K hK => ?_)); simp only [sel, List.getElem?_cons_succ, List.getElem?_cons_zero, List.drop_succ_cons, List.drop_zero]; simp (disch := first | omega | (simp only [lnS]; try omega; done)) [-getElem?_pos, -getElem?_neg, g0, g1, hla, hlb, PL_nil, plainB_lit, PL_cons, PLc_val, PLc_new, stepP_t, stepP_f, stepPC_n, stepPC_s, stepPX_s, stepPX_n, stepPV_n, stepPV_s, stepPA_t, stepPA_c, stepPA_l, stepPN_s, allocOp, reloc_sl, reloc_ptr, List.map_cons, List.map_nil, List.nil_append, List.append_assoc, List.cons_append, Nat.add_assoc]
  refine PLc_call (v := .int .i64 (cmpL a b)) (by kernel_rfl) (fun L hL => ?_) (by simp [pv_iv, pv_int, pv_bool, pv_string, pv_tup2, pv_tup3, iv_plain, p2_int, p2_bool, p2_string]) ?_
  · exact (compare_ac (hget_left' g0) (hget_left' g1) ha hb).mono fun v' H' h => h.1
  simp (disch := first | omega | (simp only [lnS]; try omega; done)) [-getElem?_pos, -getElem?_neg, PL_nil, plainB_lit, PL_cons, PLc_val, PLc_new, stepP_t, stepP_f, stepPC_n, stepPC_s, stepPX_s, stepPX_n, stepPV_n, stepPV_s, stepPA_t, stepPA_c, stepPA_l, stepPN_s, allocOp, reloc_sl, reloc_ptr, List.map_cons, List.map_nil, List.nil_append, List.append_assoc, List.cons_append, Nat.add_assoc]
  refine hK _ _ ?_; clear hK K
  (refine aw_ret ?_; simp (disch := first | omega | (simp only [lnS]; try omega; done)) [-getElem?_pos, -getElem?_neg, thenQ_ret, scopeQ_ret, inBlockQ_ret, RQ, resL, resV])
theorem heads1_callable : callable Try.prog 49 = true := by kernel_rfl
/-- Others than one block are as they were. -/
def Oth (b : Nat) (H G : AH) : Prop := H.length ≤ G.length ∧ ∀ j, j < H.length → j ≠ b → hget G j = hget H j
/-- What a sort answers. -/
def SortQ (b : Nat) (ids : List (List Int)) (H : AH) (v' : Value) (H' : AH) : Prop := hget H' b = some ⟨kr (sortK ids), 24, some 32⟩ ∧ Oth b H H'
theorem insertion_ac {nro : Nat} {γ : Nat → Option Nat} {H : AH} {b n : Nat} {ids : List (List Int)} (hb : hget H b = some ⟨kr ids, 24, some 32⟩) (hn : ids.length = n) (hk : K32 ids) (hy : ∀ k ∈ ids, By k) (hnd : ids.Nodup) (hle : n ≤ 100) (hnro : nro ≤ b) :
    AC Try.prog nro γ 83 #[.slice (some ⟨b, 0, none⟩) n n, .int .i64 0, .int .i64 (n : Nat), .func (.func 49) #[] #[]] H (SortQ b ids H) := by
  have hbl := hget_lt hb
  refine ac_of_aw Try.func83 rfl Try.ntmps83 Try.results83 (by simp) ?_
  refine aw_seq ?_
  (refine aw_ops (by kernel_rfl) (fun K hK => ?_); simp (disch := first | omega | (simp only [lnS]; try omega; done)) [-getElem?_pos, -getElem?_neg]; refine hK _ _ ?_; clear hK K)
  refine aw_block ?_
  refine aw_loop (fun c α G => ∃ (i : Nat) (S : List (List Int)), 1 ≤ i ∧ i + c = n + 1 ∧ α 0 = .slice (some ⟨b, 0, none⟩) n n ∧ α 1 = .int .i64 0 ∧ α 2 = .int .i64 (n : Nat) ∧ α 3 = .func (.func 49) #[] #[] ∧ α 8 = .int .i64 (i : Nat) ∧ hget G b = some ⟨kr (S ++ ids.drop i), 24, some 32⟩ ∧ Oth b H G ∧ S.Perm (ids.take i) ∧ Rise S) n ?_ ?_
  · refine ⟨1, ids.take 1, by omega, by omega, by (first | (simp [put_at, put_none, fr0_at]; done) | rfl), by (first | (simp [put_at, put_none, fr0_at]; done) | rfl), by (first | (simp [put_at, put_none, fr0_at]; done) | rfl), by (first | (simp [put_at, put_none, fr0_at]; done) | rfl), by (first | (simp [put_at, put_none, fr0_at]; done) | rfl), by rw [List.take_append_drop]; exact hb, ⟨Nat.le_refl _, fun _ _ _ => rfl⟩, .refl _, ?_⟩
    cases ids with
    | nil => exact List.Pairwise.nil
    | cons k l => simp
  rintro c α G ⟨i, S, hi1, hic, h0, h1, h2, h3, h8, hbG, hoth, hperm, hrise⟩
  refine aw_seq ?_
  refine aw_seq ?_
  by_cases hi : i < n
  case neg =>
    (refine aw_ops (by kernel_rfl) (fun K hK => ?_); simp (disch := first | omega | (simp only [lnS]; try omega; done)) [-getElem?_pos, -getElem?_neg, h8, h2, hi]; refine hK _ _ ?_; clear hK K)
    refine aw_f (by (first | (simp [eval_tmp, put_at, hi]; done) | (simp [eval_tmp, put_at, hi]; omega))) (by kernel_rfl) ?_
    refine aw_exit ?_
    have e1 : ids.take i = ids := List.take_of_length_le (by omega)
    have e2 : ids.drop i = [] := List.drop_of_length_le (by omega)
    rw [e1] at hperm
    rw [e2, List.append_nil, sortK_eq hperm hrise] at hbG
    exact ⟨[], _, rfl, rfl, hbG, hoth⟩
  (refine aw_ops (by kernel_rfl) (fun K hK => ?_); simp (disch := first | omega | (simp only [lnS]; try omega; done)) [-getElem?_pos, -getElem?_neg, h8, h2, hi]; refine hK _ _ ?_; clear hK K)
  refine aw_t (by (first | (simp [eval_tmp, put_at, hi]; done) | (simp [eval_tmp, put_at, hi]; omega))) (by kernel_rfl) ?_
  refine aw_skip ?_
  refine aw_seq ?_
  refine aw_block ?_
  refine aw_seq ?_
  (refine aw_ops (by kernel_rfl) (fun K hK => ?_); simp (disch := first | omega | (simp only [lnS]; try omega; done)) [-getElem?_pos, -getElem?_neg, h8]; refine hK _ _ ?_; clear hK K)
  obtain ⟨x, hx⟩ : ∃ x, ids[i]? = some x := ⟨_, List.getElem?_eq_getElem (by omega)⟩
  have hxm := List.mem_of_getElem? hx
  have hx32 := hk x hxm
  have hxb := hy x hxm
  have hdi : ids.drop i = x :: ids.drop (i + 1) := by
    obtain ⟨hl, e⟩ := List.getElem?_eq_some_iff.1 hx
    rw [List.drop_eq_getElem_cons hl, e]
  have htk : ids.take (i + 1) = ids.take i ++ [x] := by rw [List.take_add_one, hx]; rfl
  have hSl : S.length = i := by rw [hperm.length_eq, List.length_take]; omega
  have hSm : ∀ s ∈ S, s ∈ ids := fun s hs => List.mem_of_mem_take (hperm.mem_iff.1 hs)
  have hxS : x ∉ S := fun h => by
    have h2 := hperm.mem_iff.1 h
    have hnd2 : (ids.take i ++ [x]).Nodup := by rw [← htk]; exact hnd.sublist (List.take_sublist _ _)
    exact (List.pairwise_append.1 hnd2).2.2 x h2 x (by simp) rfl
  refine aw_block ?_
  refine aw_loop (fun c2 α G => c2 ≤ i ∧ α 0 = .slice (some ⟨b, 0, none⟩) n n ∧ α 1 = .int .i64 0 ∧ α 2 = .int .i64 (n : Nat) ∧ α 3 = .func (.func 49) #[] #[] ∧ α 8 = .int .i64 (i : Nat) ∧ α 9 = .int .i64 (c2 : Nat) ∧ hget G b = some ⟨kr (S.take c2 ++ x :: S.drop c2 ++ ids.drop (i + 1)), 24, some 32⟩ ∧ Oth b H G ∧ ∀ s ∈ S.drop c2, x < s) i ?_ ?_
  · refine ⟨Nat.le_refl _, by (first | (simp [put_at, put_none, fr0_at, h0]; done) | rfl), by (first | (simp [put_at, put_none, fr0_at, h1]; done) | rfl), by (first | (simp [put_at, put_none, fr0_at, h2]; done) | rfl), by (first | (simp [put_at, put_none, fr0_at, h3]; done) | rfl), by (first | (simp [put_at, put_none, fr0_at, h8]; done) | rfl), by (first | (simp [put_at, put_none, fr0_at]; done) | rfl), ?_, hoth, ?_⟩
    · rw [hbG, hdi, List.take_of_length_le (l := S) (by omega), List.drop_of_length_le (l := S) (by omega)]
      simp
    · rw [List.drop_of_length_le (l := S) (by omega)]
      simp
  rintro j α G ⟨hji, h0, h1, h2, h3, h8, h9, hbG, hoth, hgt⟩
  have hLm : ∀ k ∈ S.take j ++ x :: S.drop j ++ ids.drop (i + 1), k ∈ ids := fun k hm => by
    simp only [List.mem_append, List.mem_cons] at hm
    rcases hm with (hm | rfl | hm) | hm
    · exact hSm k (List.mem_of_mem_take hm)
    · exact hxm
    · exact hSm k (List.mem_of_mem_drop hm)
    · exact List.mem_of_mem_drop hm
  have hLk : K32 (S.take j ++ x :: S.drop j ++ ids.drop (i + 1)) := fun k hm => hk k (hLm k hm)
  have hLn : (S.take j ++ x :: S.drop j ++ ids.drop (i + 1)).length = n := by simp; omega
  have hLj : (S.take j ++ x :: S.drop j ++ ids.drop (i + 1))[j]? = some x := by
    rw [List.append_assoc, List.getElem?_append_right (by rw [List.length_take]; omega), List.length_take]
    rw [show j - min j S.length = 0 by omega]
    rfl
  have hend : ∀ s, j ≠ 0 → S[j - 1]? = some s → ¬ x < s → True := fun _ _ _ _ => trivial
  refine aw_seq ?_
  refine aw_seq ?_
  have hexit : (∀ s, j ≠ 0 → S[j - 1]? = some s → ¬ x < s) → (S.take j ++ x :: S.drop j).Perm (ids.take (i + 1)) ∧ Rise (S.take j ++ x :: S.drop j) := fun hle => by
    refine ⟨?_, rise_put hrise (by omega) hgt hle hxS⟩
    rw [htk]
    exact (put_perm x j).trans (hperm.append_right _)
  by_cases hj0 : j = 0
  · subst hj0
    obtain ⟨hp2, hr2⟩ := hexit (fun s h => absurd rfl h)
    (refine aw_plan [] [] [0, 1, 2, 3, 4, 5, 6, 7, 8, 9, 10, 11, 12, 13, 14, 15, 16] 17 0 (by kernel_rfl) (by kernel_rfl) (by kernel_rfl) (fun K hK => ?_)); simp only [sel, List.getElem?_cons_succ, List.getElem?_cons_zero, List.drop_succ_cons, List.drop_zero]; simp (disch := first | omega | (simp only [lnS]; try omega; done)) [-getElem?_pos, -getElem?_neg, h9, h1, PL_nil, plainB_lit, PL_cons, PLc_val, PLc_new, stepP_t, stepP_f, stepPC_n, stepPC_s, stepPX_s, stepPX_n, stepPV_n, stepPV_s, stepPA_t, stepPA_c, stepPA_l, stepPN_s, allocOp, reloc_sl, reloc_ptr, List.map_cons, List.map_nil, List.nil_append, List.append_assoc, List.cons_append, Nat.add_assoc]
    refine hK _ _ ?_; clear hK K
    refine aw_f (by (first | (simp [eval_tmp, put_at]; done) | (simp [eval_tmp, put_at]; omega))) (by kernel_rfl) ?_
    refine aw_exit ?_
    (refine aw_ops (by kernel_rfl) (fun K hK => ?_); simp (disch := first | omega | (simp only [lnS]; try omega; done)) [-getElem?_pos, -getElem?_neg, h8]; refine hK _ _ ?_; clear hK K)
    exact ⟨c - 1, by omega, i + 1, _, by omega, by omega, by (first | (simp [put_at, put_none, fr0_at, h0]; done) | rfl), by (first | (simp [put_at, put_none, fr0_at, h1]; done) | rfl), by (first | (simp [put_at, put_none, fr0_at, h2]; done) | rfl), by (first | (simp [put_at, put_none, fr0_at, h3]; done) | rfl), by (first | (simp [put_at, put_none, fr0_at]; done) | rfl), hbG, hoth, hp2, hr2⟩
  obtain ⟨s, hs⟩ : ∃ s, S[j - 1]? = some s := ⟨_, List.getElem?_eq_getElem (by omega)⟩
  have hsm := hSm s (List.mem_of_getElem? hs)
  have hs32 := hk s hsm
  have hsb := hy s hsm
  have hsub : (j : Int) - 1 = ((j - 1 : Nat) : Int) := by omega
  have hLj1 : (S.take j ++ x :: S.drop j ++ ids.drop (i + 1))[j - 1]? = some s := by
    rw [List.append_assoc, List.getElem?_append_left (by rw [List.length_take]; omega), List.getElem?_take_of_lt (by omega), hs]
  have a0 := kr_addr (b := b) (show j < n by omega)
  have a1 := kr_addr (b := b) (show j - 1 < n by omega)
  have l0 := kr_load hLk hLj hbG
  have l1 := kr_load hLk hLj1 hbG
  have hcall := heads1_rc (γ := γ) (H := G) hx32 hs32
  have hlt := cmpL_lt hxb hsb (by omega)
  have hjp : 0 < j := by omega
  have hfn : notTuple (.func (.func 49) #[] #[]) = true := rfl
  have hfc : (Value.func (.func 49) #[] #[]).cells = #[.func (.func 49) #[] #[]] := rfl
  have t1 := kr_set hLk (j := j) (k := s) (by omega) hs32
  have hLk2 : K32 ((S.take j ++ x :: S.drop j ++ ids.drop (i + 1)).set j s) := fun k hm => by
    rcases List.mem_or_eq_of_mem_set hm with h | rfl
    · exact hLk k h
    · exact hs32
  have t2 := kr_set hLk2 (j := j - 1) (k := x) (by rw [List.length_set]; omega) hx32
  have hLs : ((S.take j ++ x :: S.drop j ++ ids.drop (i + 1)).set j s).set (j - 1) x = S.take (j - 1) ++ x :: S.drop (j - 1) ++ ids.drop (i + 1) := by
    have e1 : S.take j = S.take (j - 1) ++ [s] := by
      have := List.take_add_one (l := S) (i := j - 1)
      rwa [show j - 1 + 1 = j by omega, hs] at this
    have e2 : S.drop (j - 1) = s :: S.drop j := by
      obtain ⟨hl, e⟩ := List.getElem?_eq_some_iff.1 hs
      rw [List.drop_eq_getElem_cons hl, e, show j - 1 + 1 = j by omega]
    have e3 : (S.take (j - 1)).length = j - 1 := by rw [List.length_take]; omega
    rw [e1, e2]
    obtain ⟨A, hA⟩ : ∃ A, A = S.take (j - 1) := ⟨_, rfl⟩
    rw [← hA] at e3 ⊢
    obtain ⟨m, rfl⟩ : ∃ m, j = m + 1 := ⟨j - 1, by omega⟩
    simp only [Nat.add_sub_cancel] at e3 ⊢
    rw [List.append_assoc, List.append_assoc, List.append_assoc, List.set_append_right _ _ (by omega), List.set_append_right _ _ (by omega), e3]
    simp
  rw [hLs] at t2
  have hgl : (kr (S.take j ++ x :: S.drop j ++ ids.drop (i + 1))).length = n * 32 := by rw [kr_len hLk, hLn]
  have hgl2 : (kr ((S.take j ++ x :: S.drop j ++ ids.drop (i + 1)).set j s)).length = n * 32 := by rw [kr_len hLk2, List.length_set, hLn]
  generalize hL : S.take j ++ x :: S.drop j ++ ids.drop (i + 1) = L at t1 t2 hgl hgl2 hbG
  have hdj : S.drop (j - 1) = s :: S.drop j := by
    obtain ⟨hl, e⟩ := List.getElem?_eq_some_iff.1 hs
    rw [List.drop_eq_getElem_cons hl, e, show j - 1 + 1 = j by omega]
  generalize hL3 : S.take (j - 1) ++ x :: S.drop (j - 1) ++ ids.drop (i + 1) = L3 at t2
  (refine aw_plan [] [] [0, 1, 2, 3, 4, 5, 6, 7, 8, 9, 10, 11, 12, 13, 14, 15, 16] 17 0 (by kernel_rfl) (by kernel_rfl) (by kernel_rfl) (fun K hK => ?_)); simp only [sel, List.getElem?_cons_succ, List.getElem?_cons_zero, List.drop_succ_cons, List.drop_zero]; simp (disch := first | omega | (simp only [lnS]; try omega; done)) [-getElem?_pos, -getElem?_neg, h0, h1, h3, h9, hjp, hsub, hfn, hfc, nt_ptrG, nt_intG, nt_slG, -xload, l0, l1, -xindexAddr, a0, a1, PL_nil, plainB_lit, PL_cons, PLc_val, PLc_new, stepP_t, stepP_f, stepPC_n, stepPC_s, stepPX_s, stepPX_n, stepPV_n, stepPV_s, stepPA_t, stepPA_c, stepPA_l, stepPN_s, allocOp, reloc_sl, reloc_ptr, List.map_cons, List.map_nil, List.nil_append, List.append_assoc, List.cons_append, Nat.add_assoc]
  refine PLc_callV (v := .int .i64 (cmpL x s)) heads1_callable (by simpa using hcall) (by simp [pv_iv, pv_int, pv_bool, pv_string, pv_tup2, pv_tup3, iv_plain, p2_int, p2_bool, p2_string]) ?_
  have hbl2 := hget_lt hbG
  by_cases hc : cmpL x s < 0
  · have hxs : x < s := hlt.1 hc
    have hc2 : ¬ 0 ≤ cmpL x s := by omega
    simp (disch := first | omega | (simp only [lnS]; try omega; done)) [-getElem?_pos, -getElem?_neg, hc, hc2, PL_nil, plainB_lit, PL_cons, PLc_val, PLc_new, stepP_t, stepP_f, stepPC_n, stepPC_s, stepPX_s, stepPX_n, stepPV_n, stepPV_s, stepPA_t, stepPA_c, stepPA_l, stepPN_s, allocOp, reloc_sl, reloc_ptr, List.map_cons, List.map_nil, List.nil_append, List.append_assoc, List.cons_append, Nat.add_assoc]
    refine hK _ _ ?_; clear hK K
    refine aw_t (by (first | (simp [eval_tmp, put_at, hc]; done) | (simp [eval_tmp, put_at, hc]; omega))) (by kernel_rfl) ?_
    refine aw_skip ?_
    refine aw_seq ?_
    refine aw_block ?_
    (refine aw_plan [] [2, 3, 4] [0, 1, 5, 6, 7, 8, 9, 10, 11, 12, 13, 14] 15 3 (by kernel_rfl) (by kernel_rfl) (by kernel_rfl) (fun K hK => ?_)); simp only [sel, List.getElem?_cons_succ, List.getElem?_cons_zero, List.drop_succ_cons, List.drop_zero]; simp (disch := first | omega | (simp only [lnS]; try omega; done)) [-getElem?_pos, -getElem?_neg, h0, h9, hsub, nt_ptrG, nt_intG, nt_slG, nt_aggG, -xload, l0, l1, -xindexAddr, a0, a1, hbG, hgl, hgl2, hx32, hs32, iv_length, t1, t2, PL_nil, plainB_lit, PL_cons, PLc_val, PLc_new, stepP_t, stepP_f, stepPC_n, stepPC_s, stepPX_s, stepPX_n, stepPV_n, stepPV_s, stepPA_t, stepPA_c, stepPA_l, stepPN_s, allocOp, reloc_sl, reloc_ptr, List.map_cons, List.map_nil, List.nil_append, List.append_assoc, List.cons_append, Nat.add_assoc]
    refine hK _ _ ?_; clear hK K
    have hG2 : hget (G.set b (some ⟨kr L3, 24, some 32⟩)) b = some ⟨kr L3, 24, some 32⟩ := hget_set_eq hbl2
    have hoth2 : Oth b H (G.set b (some ⟨kr L3, 24, some 32⟩)) := ⟨by rw [List.length_set]; exact hoth.1, fun j hj hjb => (hget_set_ne (fun e => hjb e.symm)).trans (hoth.2 j hj hjb)⟩
    generalize G.set b (some ⟨kr L3, 24, some 32⟩) = G2 at *
    subst hL3
    (refine aw_ops (by kernel_rfl) (fun K hK => ?_); simp (disch := first | omega | (simp only [lnS]; try omega; done)) [-getElem?_pos, -getElem?_neg, h9, hsub]; refine hK _ _ ?_; clear hK K)
    refine ⟨j - 1, by omega, by omega, by (first | (simp [put_at, put_none, fr0_at, h0]; done) | rfl), by (first | (simp [put_at, put_none, fr0_at, h1]; done) | rfl), by (first | (simp [put_at, put_none, fr0_at, h2]; done) | rfl), by (first | (simp [put_at, put_none, fr0_at, h3]; done) | rfl), by (first | (simp [put_at, put_none, fr0_at, h8]; done) | rfl), by (first | (simp [put_at, put_none, fr0_at]; done) | rfl), hG2, hoth2, fun s' hs' => ?_⟩
    rw [hdj] at hs'
    rcases List.mem_cons.1 hs' with rfl | hs'
    · exact hxs
    · exact hgt s' hs'
  · have hc2 : 0 ≤ cmpL x s := by omega
    simp (disch := first | omega | (simp only [lnS]; try omega; done)) [-getElem?_pos, -getElem?_neg, hc, hc2, PL_nil, plainB_lit, PL_cons, PLc_val, PLc_new, stepP_t, stepP_f, stepPC_n, stepPC_s, stepPX_s, stepPX_n, stepPV_n, stepPV_s, stepPA_t, stepPA_c, stepPA_l, stepPN_s, allocOp, reloc_sl, reloc_ptr, List.map_cons, List.map_nil, List.nil_append, List.append_assoc, List.cons_append, Nat.add_assoc]
    refine hK _ _ ?_; clear hK K
    refine aw_f (by (first | (simp [eval_tmp, put_at, hc]; done) | (simp [eval_tmp, put_at, hc]; omega))) (by kernel_rfl) ?_
    refine aw_exit ?_
    (refine aw_ops (by kernel_rfl) (fun K hK => ?_); simp (disch := first | omega | (simp only [lnS]; try omega; done)) [-getElem?_pos, -getElem?_neg, h8]; refine hK _ _ ?_; clear hK K)
    obtain ⟨hp2, hr2⟩ := hexit (fun s' _ h => by rw [hs] at h; cases h; exact fun h => hc (hlt.2 h))
    exact ⟨c - 1, by omega, i + 1, _, by omega, by omega, by (first | (simp [put_at, put_none, fr0_at, h0]; done) | rfl), by (first | (simp [put_at, put_none, fr0_at, h1]; done) | rfl), by (first | (simp [put_at, put_none, fr0_at, h2]; done) | rfl), by (first | (simp [put_at, put_none, fr0_at, h3]; done) | rfl), by (first | (simp [put_at, put_none, fr0_at]; done) | rfl), by rw [hL]; exact hbG, hoth, hp2, hr2⟩
theorem len_rc {nro : Nat} {γ : Nat → Option Nat} {H : AH} {n : Nat} (hn : n ≤ 12) : AC Try.prog nro γ 69 #[.int .u64 (n : Nat)] H (fun v' H' => H' = H ∧ ∃ z, v' = .int .i64 z) := by
  have h64 : AC Try.prog nro γ 92 #[.int .u64 (n : Nat)] H (fun v' H' => H' = H ∧ ∃ z, v' = .int .i64 z) := by
    refine ac_of_aw Try.func92 rfl Try.ntmps92 Try.results92 (by simp) ?_
    refine aw_seq ?_
    (refine aw_ops (by kernel_rfl) (fun K hK => ?_); simp (disch := first | omega | (simp only [lnS]; try omega; done)) [-getElem?_pos, -getElem?_neg]; refine hK _ _ ?_; clear hK K)
    refine aw_seq ?_
    refine aw_seq ?_
    (refine aw_ops (by kernel_rfl) (fun K hK => ?_); simp (disch := first | omega | (simp only [lnS]; try omega; done)) [-getElem?_pos, -getElem?_neg]; refine hK _ _ ?_; clear hK K)
    refine aw_f (by (first | (simp [eval_tmp, put_at]; done) | (simp [eval_tmp, put_at]; omega))) (by kernel_rfl) ?_
    refine aw_skip ?_
    refine aw_seq ?_
    refine aw_seq ?_
    (refine aw_ops (by kernel_rfl) (fun K hK => ?_); simp (disch := first | omega | (simp only [lnS]; try omega; done)) [-getElem?_pos, -getElem?_neg]; refine hK _ _ ?_; clear hK K)
    refine aw_f (by (first | (simp [eval_tmp, put_at]; done) | (simp [eval_tmp, put_at]; omega))) (by kernel_rfl) ?_
    refine aw_skip ?_
    refine aw_seq ?_
    refine aw_seq ?_
    (refine aw_ops (by kernel_rfl) (fun K hK => ?_); simp (disch := first | omega | (simp only [lnS]; try omega; done)) [-getElem?_pos, -getElem?_neg]; refine hK _ _ ?_; clear hK K)
    refine aw_f (by (first | (simp [eval_tmp, put_at]; done) | (simp [eval_tmp, put_at]; omega))) (by kernel_rfl) ?_
    refine aw_skip ?_
    refine aw_seq ?_
    (refine aw_ops (by kernel_rfl) (fun K hK => ?_); simp (disch := first | omega | (simp only [lnS]; try omega; done)) [-getElem?_pos, -getElem?_neg, ByteArray.size, List.size_toArray, List.length_cons, List.length_nil]; refine hK _ _ ?_; clear hK K)
    (refine aw_ret ?_; simp (disch := first | omega | (simp only [lnS]; try omega; done)) [-getElem?_pos, -getElem?_neg, thenQ_ret, scopeQ_ret, inBlockQ_ret, RQ, resL, resV])
  refine ac_of_aw Try.func69 rfl Try.ntmps69 Try.results69 (by simp) ?_
  refine aw_seq ?_
  (refine aw_ops (by kernel_rfl) (fun K hK => ?_); simp (disch := first | omega | (simp only [lnS]; try omega; done)) [-getElem?_pos, -getElem?_neg]; refine hK _ _ ?_; clear hK K)
  refine aw_seq ?_
  refine aw_f (by (first | (simp [eval_tmp, put_at]; done) | (simp [eval_tmp, put_at]; omega))) (by kernel_rfl) ?_
  refine aw_skip ?_
  refine aw_seq ?_
  refine aw_ops (by kernel_rfl) (fun K hK => ?_)
  simp (disch := first | omega | (simp only [lnS]; try omega; done)) [-getElem?_pos, -getElem?_neg]
  refine ⟨by kernel_rfl, h64.mono ?_⟩
  rintro v1 G1 ⟨rfl, z, rfl⟩
  try simp (disch := first | omega | (simp only [lnS]; try omega; done)) [-getElem?_pos, -getElem?_neg]
  refine hK _ _ ?_; clear hK K
  (refine aw_ret ?_; simp (disch := first | omega | (simp only [lnS]; try omega; done)) [-getElem?_pos, -getElem?_neg, thenQ_ret, scopeQ_ret, inBlockQ_ret, RQ, resL, resV])
theorem sort_go {nro : Nat} {γ : Nat → Option Nat} {H : AH} {v : Value} {n : Nat} {z : Int} {Q : Value → AH → Prop} (hv : notTuple v = true ∧ v.cells = #[v]) (hle : n ≤ 12)
    (hins : AC Try.prog nro γ 83 #[v, .int .i64 0, .int .i64 (n : Nat), .func (.func 49) #[] #[]] H (fun _ G => ∀ u, Q u G)) :
    AC Try.prog nro γ 68 #[v, .int .i64 0, .int .i64 (n : Nat), .int .i64 z, .func (.func 49) #[] #[]] H (fun _ G => ∀ u, Q u G) := by
  obtain ⟨v1, v2⟩ := hv
  have hfn : notTuple (.func (.func 49) #[] #[]) = true := rfl
  have hfc : (Value.func (.func 49) #[] #[]).cells = #[.func (.func 49) #[] #[]] := rfl
  refine ac_of_aw Try.func68 rfl Try.ntmps68 Try.results68 (by simp) ?_
  refine aw_seq ?_
  (refine aw_ops (by kernel_rfl) (fun K hK => ?_); simp (disch := first | omega | (simp only [lnS]; try omega; done)) [-getElem?_pos, -getElem?_neg]; refine hK _ _ ?_; clear hK K)
  refine aw_seq ?_
  (refine aw_ops (by kernel_rfl) (fun K hK => ?_); simp (disch := first | omega | (simp only [lnS]; try omega; done)) [-getElem?_pos, -getElem?_neg]; refine hK _ _ ?_; clear hK K)
  refine aw_block ?_
  refine aw_loop (fun c α G => G = H ∧ α 0 = v ∧ α 1 = .int .i64 0 ∧ α 2 = .int .i64 (n : Nat) ∧ α 4 = .func (.func 49) #[] #[]) 1 ?_ ?_
  · exact ⟨rfl, by (first | (simp [put_at, put_none, fr0_at]; done) | rfl), by (first | (simp [put_at, put_none, fr0_at]; done) | rfl), by (first | (simp [put_at, put_none, fr0_at]; done) | rfl), by (first | (simp [put_at, put_none, fr0_at]; done) | rfl)⟩
  rintro c α G ⟨rfl, h0, h1, h2, h4⟩
  refine aw_block ?_
  refine aw_seq ?_
  (refine aw_ops (by kernel_rfl) (fun K hK => ?_); simp (disch := first | omega | (simp only [lnS]; try omega; done)) [-getElem?_pos, -getElem?_neg, h1, h2]; refine hK _ _ ?_; clear hK K)
  refine aw_seq ?_
  refine aw_seq ?_
  (refine aw_ops (by kernel_rfl) (fun K hK => ?_); simp (disch := first | omega | (simp only [lnS]; try omega; done)) [-getElem?_pos, -getElem?_neg, hle]; refine hK _ _ ?_; clear hK K)
  refine aw_t (by (first | (simp [eval_tmp, put_at, hle]; done) | (simp [eval_tmp, put_at, hle]; omega))) (by kernel_rfl) ?_
  refine aw_seq ?_
  refine aw_ops (by kernel_rfl) (fun K hK => ?_)
  simp (disch := first | omega | (simp only [lnS]; try omega; done)) [-getElem?_pos, -getElem?_neg, h0, h1, h2, h4, -notTuple, v1, v2, hfn, hfc, nt_intG]
  refine ⟨by kernel_rfl, hins.mono ?_⟩
  intro u G1 hq
  try simp (disch := first | omega | (simp only [lnS]; try omega; done)) [-getElem?_pos, -getElem?_neg]
  refine hK _ _ ?_; clear hK K
  (refine aw_ret ?_; simp (disch := first | omega | (simp only [lnS]; try omega; done)) [-getElem?_pos, -getElem?_neg, thenQ_ret, scopeQ_ret, inBlockQ_ret, RQ, resL, resV])
  exact hq
theorem sortFunc_go {nro : Nat} {γ : Nat → Option Nat} {H : AH} {v : Value} {n : Nat} {Q : Value → AH → Prop} (hv : notTuple v = true ∧ v.cells = #[v]) (hxl : xlen Try.prog 30 v = some (.int .i64 n)) (hle : n ≤ 12)
    (hins : AC Try.prog nro γ 83 #[v, .int .i64 0, .int .i64 (n : Nat), .func (.func 49) #[] #[]] H (fun _ G => ∀ u, Q u G)) :
    AC Try.prog nro γ 48 #[v, .func (.func 49) #[] #[]] H (fun _ G => ∀ u, Q u G) := by
  have hgo := fun z => sort_go (z := z) hv hle hins
  obtain ⟨v1, v2⟩ := hv
  have hfn : notTuple (.func (.func 49) #[] #[]) = true := rfl
  have hfc : (Value.func (.func 49) #[] #[]).cells = #[.func (.func 49) #[] #[]] := rfl
  have hlen := len_rc (nro := nro) (γ := γ) (H := H) hle
  refine ac_of_aw Try.func48 rfl Try.ntmps48 Try.results48 (by simp) ?_
  refine aw_seq ?_
  (refine aw_ops (by kernel_rfl) (fun K hK => ?_); simp (disch := first | omega | (simp only [lnS]; try omega; done)) [-getElem?_pos, -getElem?_neg, -notTuple, v1, v2, hfn, hfc, nt_intG, -xlen, hxl]; refine hK _ _ ?_; clear hK K)
  refine aw_ops (by kernel_rfl) (fun K hK => ?_)
  simp (disch := first | omega | (simp only [lnS]; try omega; done)) [-getElem?_pos, -getElem?_neg, -notTuple, v1, v2, hfn, hfc, nt_intG]
  refine ⟨by kernel_rfl, hlen.mono ?_⟩
  rintro u1 G1 ⟨rfl, z, rfl⟩
  try simp (disch := first | omega | (simp only [lnS]; try omega; done)) [-getElem?_pos, -getElem?_neg, -notTuple, v1, v2, hfn, hfc, nt_intG]
  refine ⟨by kernel_rfl, (hgo z).mono ?_⟩
  intro u G1 hq
  try simp (disch := first | omega | (simp only [lnS]; try omega; done)) [-getElem?_pos, -getElem?_neg]
  refine hK _ _ ?_; clear hK K
  exact ⟨[], _, rfl, rfl, hq⟩
theorem insertion_nil {nro : Nat} {γ : Nat → Option Nat} {H : AH} : AC Try.prog nro γ 83 #[.slice none 0 0, .int .i64 0, .int .i64 ((0 : Nat) : Int), .func (.func 49) #[] #[]] H (fun _ G => G = H) := by
  refine ac_of_aw Try.func83 rfl Try.ntmps83 Try.results83 (by simp) ?_
  refine aw_seq ?_
  (refine aw_ops (by kernel_rfl) (fun K hK => ?_); simp (disch := first | omega | (simp only [lnS]; try omega; done)) [-getElem?_pos, -getElem?_neg]; refine hK _ _ ?_; clear hK K)
  refine aw_block ?_
  refine aw_loop (fun c α G => G = H ∧ α 8 = .int .i64 1 ∧ α 2 = .int .i64 0) 1 ?_ ?_
  · exact ⟨rfl, by (first | (simp [put_at, put_none, fr0_at]; done) | rfl), by (first | (simp [put_at, put_none, fr0_at]; done) | rfl)⟩
  rintro c α G ⟨rfl, h8, h2⟩
  refine aw_seq ?_
  refine aw_seq ?_
  (refine aw_ops (by kernel_rfl) (fun K hK => ?_); simp (disch := first | omega | (simp only [lnS]; try omega; done)) [-getElem?_pos, -getElem?_neg, h8, h2]; refine hK _ _ ?_; clear hK K)
  refine aw_f (by (first | (simp [eval_tmp, put_at]; done) | (simp [eval_tmp, put_at]; omega))) (by kernel_rfl) ?_
  refine aw_exit ?_
  exact ⟨[], _, rfl, rfl, rfl⟩
/-- An own list of keys, sorted where it lies. -/
theorem sortFunc_ac {nro : Nat} {γ : Nat → Option Nat} {H : AH} {v : Value} {F : List Nat} {ids : List (List Int)} (ho : OwnF H v 24 32 (kr ids) F) (hF : ∀ j ∈ F, nro ≤ j) (hk : K32 ids) (hy : ∀ k ∈ ids, By k) (hnd : ids.Nodup) (hle : ids.length ≤ 12) :
    AC Try.prog nro γ 48 #[v, .func (.func 49) #[] #[]] H (fun _ G => OwnF G v 24 32 (kr (sortK ids)) F ∧ H.length ≤ G.length ∧ ∀ j, j < H.length → j ∉ F → hget G j = hget H j) := by
  have hxl := ho.len (P := Try.prog) (t := 30) (by simp) (kr_len hk) (by omega)
  have hnt := own_nt ho
  refine (sortFunc_go (nro := nro) (γ := γ) (Q := fun _ G => OwnF G v 24 32 (kr (sortK ids)) F ∧ H.length ≤ G.length ∧ ∀ j, j < H.length → j ∉ F → hget G j = hget H j) hnt hxl hle ?_).mono (fun u G h => h u)
  rcases ho with ⟨rfl, hc, rfl⟩ | ⟨j, len, rfl, h2, h3, rfl⟩
  · have hl : ids = [] := by
      have := kr_len hk
      rw [hc, List.length_nil] at this
      exact List.eq_nil_of_length_eq_zero (by omega)
    subst hl
    refine (insertion_nil (nro := nro) (γ := γ) (H := H)).mono ?_
    rintro _ G rfl _
    refine ⟨.inl ⟨rfl, ?_, rfl⟩, Nat.le_refl _, fun _ _ _ => rfl⟩
    rw [(sortK_perm []).eq_nil]; rfl
  · rw [kr_len hk] at h3
    obtain rfl : ids.length = len := by omega
    refine (insertion_ac (nro := nro) (γ := γ) h2 rfl hk hy hnd (by omega) (hF j (by simp))).mono ?_
    rintro _ G ⟨q1, q2, q3⟩ _
    have hks : K32 (sortK ids) := fun k hm => hk k ((sortK_perm ids).mem_iff.1 hm)
    exact ⟨.inr ⟨j, _, rfl, q1, by rw [kr_len hks, (sortK_perm ids).length_eq], rfl⟩, q2, fun i hi hn => q3 i hi (fun e => hn (by simp [e]))⟩
end
section
theorem hasW_zero (k : Nat) : hasW [0, 0] 0 k = false := by
  unfold hasW
  have : ([0, 0] : List Nat).getD (2 * 0 + k / 64) 0 = 0 := by
    match k / 64 with
    | 0 => rfl
    | 1 => rfl
    | j + 2 => rfl
  rw [this]
  exact Nat.zero_testBit _
def behT (l : List NodeD) (t k : Nat) : Bool := (List.range t).any fun i => decide ((k : Int) ∈ (nd l i).past)
theorem behT_succ (l : List NodeD) (t k : Nat) : behT l (t + 1) k = (behT l t k || decide ((k : Int) ∈ (nd l t).past)) := by
  unfold behT
  rw [List.range_succ, List.any_append]
  simp
def headT (l : List NodeD) (t : Nat) : List (List Int) := ((List.range t).filter fun k => !behB l k).map fun k => (nd l k).id
theorem headT_succ (l : List NodeD) (t : Nat) : headT l (t + 1) = headT l t ++ (if behB l t = true then [] else [(nd l t).id]) := by
  unfold headT
  rw [List.range_succ, List.filter_append, List.map_append]
  cases h : behB l t <;> simp [h]
theorem headT_len (l : List NodeD) (t : Nat) : (headT l t).length ≤ t := by
  unfold headT
  rw [List.length_map]
  exact Nat.le_trans (List.length_filter_le _ _) (by simp)
theorem headT_mem {l : List NodeD} {t : Nat} {k : List Int} (h : k ∈ headT l t) : ∃ i, i < t ∧ k = (nd l i).id := by
  unfold headT at h
  obtain ⟨i, hi, rfl⟩ := List.mem_map.1 h
  exact ⟨i, List.mem_range.1 (List.mem_filter.1 hi).1, rfl⟩
theorem Oth.low {n b : Nat} {H G K : AH} (hn : n ≤ b) (hl : Low n H G) (h : Oth b G K) : Low n H K := ⟨fun j hj => (h.2 j (by have := hl.2; omega) (by omega)).trans (hl.1 j hj), by have := hl.2; have := h.1; omega⟩
theorem fill_keyG {k : IntKind} {x : List Int} {n : Nat} (z : List Int) (hx : (iv k x).length = n) : xfill (fun i => some (i * n, n)) (List.map (fun j => (iv k z)[j % n]?.getD undef) (List.range n)) [(0, .agg (iv k x).toArray)] = some (iv k x) := by
  have h1 : (Value.agg (iv k x).toArray).cells.size = n := by simpa [Value.cells] using hx
  unfold xfill
  simp only [Nat.zero_mul]
  rw [if_pos ⟨h1, by rw [h1]; simp⟩]
  unfold xfill
  rw [setR_all _ _ (by simp [Value.cells, hx])]
  rfl
/-- Answers of Heads. -/
def HeadsQ (l : List NodeD) (H : AH) (v' : Value) (H' : AH) : Prop :=
  Low H.length H H' ∧ ((rightG l = true ∧ ∃ F, OwnF H' v' 24 32 (kr (headsL l)) F ∧ ∀ j ∈ F, H.length ≤ j) ∨ (rightG l = false ∧ v' = .slice none 0 0))
attribute [local simp] wb_bool wb_undef with_lit XL_nil XL_cons XLc_val XLc_call step1_eq stepW_t stepW_f stepC_n stepC_s stepX_s stepX_n stepN_s calleeX oneV xop_eq xopR_s xopR_n wantedA_eq wantedG_n wantedG_s plain1_int plain1_bool plain1_string bits_i64 bits_u64 bits_u32 bits_u16 bits_u8 xeqA xagg xcmp xarr allK_iv num_iv calleeOf xread xeff xbin xint xnil xun xstr xload xconv xpart xfield xfieldAddr xindexAddr xindex bnd asInt? xslice xlen xmin xmax xbuild xfill xappend xapp2 xappstr xappmk xcap xcopy xcells eval_tmp eval_const put_at put_none fr0_at cells_agg cells_int cells_bool cells_string cells_ptr cells_slice notTuple tab iv_all hget_app hget_app0 hget_cons0 hget_cons set_app set_app0 setR setR_one QL_nil QL_cons QLc_val stepQ_t stepQ_f stepQC_n stepQC_s stepQX_s SL_nil SL_cons SLc_val stepS_t stepS_f ltT ltF leT leF eqT eqF ltTn ltFn leTn leFn eqTn eqFn beqT beqF bneT bneF wi64 wu64 wu32 wu16 wu8 tmodP tdivP hgetL hgetNe hgetEq setL nums_def nums_len Nat.succ_le_of_lt List.getElem?_cons_zero List.getElem?_cons_succ Option.getD_some Int.toNat_add Int.toNat_mul agM okM agB agI agS agP agL agA okB okI okS okP okSl okA
theorem heads_rc {γ : Nat → Option Nat} {H : AH} {nv : Value} {l : List NodeD} (hN : NdA H nv l) : AC Try.prog H.length γ 19 #[nv] H (HeadsQ l H) := by
  have r3 := graph_right_rc (γ := γ) hN
  have hN' := hN
  obtain ⟨hnt, hvc, hxl, hwf, hat⟩ := hN
  refine ac_of_aw Try.func19 rfl Try.ntmps19 Try.results19 (by simp) ?_
  refine aw_seq ?_
  (refine aw_ops (by kernel_rfl) (fun K hK => ?_); simp (disch := first | omega | (simp only [lnS]; try omega; done)) [-getElem?_pos, -getElem?_neg]; refine hK _ _ ?_; clear hK K)
  refine aw_seq ?_
  refine aw_seq ?_
  refine aw_ops (by kernel_rfl) (fun K hK => ?_)
  simp (disch := first | omega | (simp only [lnS]; try omega; done)) [-getElem?_pos, -getElem?_neg, -notTuple, hnt, hvc, nt_intG]
  refine ⟨by kernel_rfl, ac_of_rc r3 (by simp [pv_iv, pv_int, pv_bool, pv_string, pv_tup2, pv_tup3, iv_plain, p2_int, p2_bool, p2_string]) ?_⟩
  cases hr : rightG l with
  | false =>
    try simp (disch := first | omega | (simp only [lnS]; try omega; done)) [-getElem?_pos, -getElem?_neg]
    refine hK _ _ ?_; clear hK K
    refine aw_t (by (first | (simp [eval_tmp, put_at]; done) | (simp [eval_tmp, put_at]; omega))) (by kernel_rfl) ?_
    refine aw_seq ?_
    (refine aw_ops (by kernel_rfl) (fun K hK => ?_); simp (disch := first | omega | (simp only [lnS]; try omega; done)) [-getElem?_pos, -getElem?_neg]; refine hK _ _ ?_; clear hK K)
    (refine aw_ret ?_; simp (disch := first | omega | (simp only [lnS]; try omega; done)) [-getElem?_pos, -getElem?_neg, thenQ_ret, scopeQ_ret, inBlockQ_ret, RQ, resL, resV])
    exact ⟨Low.refl (Nat.le_refl _), .inr ⟨hr, rfl⟩⟩
  | true =>
  try simp (disch := first | omega | (simp only [lnS]; try omega; done)) [-getElem?_pos, -getElem?_neg]
  refine hK _ _ ?_; clear hK K
  refine aw_f (by (first | (simp [eval_tmp, put_at]; done) | (simp [eval_tmp, put_at]; omega))) (by kernel_rfl) ?_
  refine aw_skip ?_
  have hl := rightG_len hr
  have hm63 : l.length ≤ 9223372036854775807 := by omega
  obtain ⟨n, hn⟩ : ∃ n, n = H.length := ⟨_, rfl⟩
  refine aw_seq ?_
  (refine aw_ops (by kernel_rfl) (fun K hK => ?_); simp (disch := first | omega | (simp only [lnS]; try omega; done)) [-getElem?_pos, -getElem?_neg]; refine hK _ _ ?_; clear hK K)
  obtain ⟨hlow0, hb0⟩ := boxed (H := H) (iv .u64 (zl 2)) 67
  have hwz : iv .u64 (zl 2) = [] ++ wv [0, 0] := rfl
  rw [hwz] at hlow0 hb0 ⊢
  rw [← hn] at hlow0 hb0 ⊢
  generalize H ++ [some ⟨[] ++ wv [0, 0], 67, none⟩] = G0 at *
  have hwd0 : Wd [0, 0] := fun x hx => by
    have : x = 0 := by simpa using hx
    omega
  refine aw_seq ?_
  refine aw_seq ?_
  (refine aw_ops (by kernel_rfl) (fun K hK => ?_); simp (disch := first | omega | (simp only [lnS]; try omega; done)) [-getElem?_pos, -getElem?_neg, -notTuple, hnt, hvc, nt_intG, -xlen, hxl]; refine hK _ _ ?_; clear hK K)
  refine aw_block ?_
  refine aw_loop (fun c α G => ∃ (t : Nat) (W : List Nat), t + c = l.length ∧ α 0 = nv ∧ α 3 = .pointer (some ⟨n, 0, none⟩) ∧ α 14 = nv ∧ α 15 = .int .i64 (l.length : Nat) ∧ α 16 = .int .i64 (t : Nat) ∧ Low n H G ∧ hget G n = some ⟨[] ++ wv W, 67, none⟩ ∧ Wd W ∧ W.length = 2 ∧ ∀ k, k < 128 → hasW W 0 k = behT l t k) l.length ?_ ?_
  · exact ⟨0, [0, 0], by omega, by (first | (simp [put_at, put_none, fr0_at]; done) | rfl), by (first | (simp [put_at, put_none, fr0_at]; done) | rfl), by (first | (simp [put_at, put_none, fr0_at]; done) | rfl), by (first | (simp [put_at, put_none, fr0_at]; done) | rfl), by (first | (simp [put_at, put_none, fr0_at]; done) | rfl), hlow0, hb0, hwd0, rfl, fun k _ => hasW_zero k⟩
  rintro c α G ⟨t, W, htc, h0, h3, h14, h15, h16, hlow, hb, hwd, hWl, hW⟩
  refine aw_seq ?_
  by_cases ht : t < l.length
  case neg =>
    (refine aw_ops (by kernel_rfl) (fun K hK => ?_); simp (disch := first | omega | (simp only [lnS]; try omega; done)) [-getElem?_pos, -getElem?_neg, h15, h16, ht]; refine hK _ _ ?_; clear hK K)
    refine aw_seq ?_
    refine aw_f (by (first | (simp [eval_tmp, put_at, ht]; done) | (simp [eval_tmp, put_at, ht]; omega))) (by kernel_rfl) ?_
    refine aw_exit ?_
    obtain rfl : t = l.length := by omega
    have hW2 : ∀ k, k < 128 → hasW W 0 k = behB l k := hW
    clear hW h14 h15 h16
    refine aw_seq ?_
    (refine aw_ops (by kernel_rfl) (fun K hK => ?_); simp (disch := first | omega | (simp only [lnS]; try omega; done)) [-getElem?_pos, -getElem?_neg]; refine hK _ _ ?_; clear hK K)
    refine aw_seq ?_
    refine aw_seq ?_
    (refine aw_ops (by kernel_rfl) (fun K hK => ?_); simp (disch := first | omega | (simp only [lnS]; try omega; done)) [-getElem?_pos, -getElem?_neg, h0, -notTuple, hnt, hvc, nt_intG, -xlen, hxl]; refine hK _ _ ?_; clear hK K)
    refine aw_block ?_
    refine aw_loop (fun c2 α G => ∃ (i : Nat) (v : Value) (F : List Nat), i + c2 = l.length ∧ α 3 = .pointer (some ⟨n, 0, none⟩) ∧ α 8 = v ∧ α 31 = nv ∧ α 32 = .int .i64 (l.length : Nat) ∧ α 33 = .int .i64 (i : Nat) ∧ Low n H G ∧ hget G n = some ⟨[] ++ wv W, 67, none⟩ ∧ OwnF G v 24 32 (kr (headT l i)) F ∧ ∀ j ∈ F, n < j) l.length ?_ ?_
    · exact ⟨0, .slice none 0 0, [], by omega, by (first | (simp [put_at, put_none, fr0_at, h3]; done) | rfl), by (first | (simp [put_at, put_none, fr0_at]; done) | rfl), by (first | (simp [put_at, put_none, fr0_at]; done) | rfl), by (first | (simp [put_at, put_none, fr0_at]; done) | rfl), by (first | (simp [put_at, put_none, fr0_at]; done) | rfl), hlow, hb, .inl ⟨rfl, rfl, rfl⟩, fun j hj => by cases hj⟩
    rintro c2 α G ⟨i, v, F, hic, h3, h8, h31, h32, h33, hlow, hb, hown, hF⟩
    obtain ⟨v1, v2⟩ := own_nt hown
    have hTl := headT_len l i
    refine aw_seq ?_
    by_cases hi : i < l.length
    case neg =>
      (refine aw_ops (by kernel_rfl) (fun K hK => ?_); simp (disch := first | omega | (simp only [lnS]; try omega; done)) [-getElem?_pos, -getElem?_neg, h32, h33, hi]; refine hK _ _ ?_; clear hK K)
      refine aw_seq ?_
      refine aw_f (by (first | (simp [eval_tmp, put_at, hi]; done) | (simp [eval_tmp, put_at, hi]; omega))) (by kernel_rfl) ?_
      refine aw_exit ?_
      obtain rfl : i = l.length := by omega
      have hids : headT l l.length = headK l := rfl
      rw [hids] at hown hTl
      have hsort := sortFunc_ac (nro := n) (γ := γ) hown (fun j hj => by have := hF j hj; omega) (fun k hk => by
        obtain ⟨i, hi, rfl⟩ := headT_mem (t := l.length) hk
        exact (hwf _ (List.mem_of_getElem? (nd_get hi))).id.1) (fun k hk => by
        obtain ⟨i, hi, rfl⟩ := headT_mem (t := l.length) hk
        exact (hwf _ (List.mem_of_getElem? (nd_get hi))).id.2) (headK_nodup hr) (by have := headP_len hr; unfold headK; rw [List.length_map]; omega)
      refine aw_seq ?_
      refine aw_ops (by kernel_rfl) (fun K hK => ?_)
      simp (disch := first | omega | (simp only [lnS]; try omega; done)) [-getElem?_pos, -getElem?_neg, h8, -notTuple, v1, v2, nt_intG, eval_fnG]
      refine ⟨by kernel_rfl, hsort.mono ?_⟩
      rintro u G1 ⟨ho, hle, hk⟩
      try simp (disch := first | omega | (simp only [lnS]; try omega; done)) [-getElem?_pos, -getElem?_neg]
      refine hK _ _ ?_; clear hK K
      refine aw_seq ?_
      (refine aw_ops (by kernel_rfl) (fun K hK => ?_); simp (disch := first | omega | (simp only [lnS]; try omega; done)) [-getElem?_pos, -getElem?_neg, h8, -notTuple, v1, v2]; refine hK _ _ ?_; clear hK K)
      (refine aw_ret ?_; simp (disch := first | omega | (simp only [lnS]; try omega; done)) [-getElem?_pos, -getElem?_neg, thenQ_ret, scopeQ_ret, inBlockQ_ret, RQ, resL, resV])
      exact ⟨⟨fun j hj => (hk j (by have := hlow.2; omega) (fun h => by have := hF j h; omega)).trans (hlow.1 j (by omega)), by have := hlow.2; omega⟩, .inl ⟨hr, F, ho, fun j hj => by have := hF j hj; omega⟩⟩
    obtain ⟨j, q, bb, us, pv, wv', bv, qv, hx, hbb, hq, hcell, hus, hC⟩ := hat i _ (nd_get hi)
    have hbG : hget G j = some bb := (hlow.1 j (by have := hget_lt hbb; omega)).trans hbb
    have hul := hC.len
    have hid := hC.id
    have hidl := (hwf _ (List.mem_of_getElem? (nd_get hi))).id.1
    have hivl : (iv .u8 (nd l i).id).length = 32 := by rw [iv_length, hidl]
    have hle0 := hlow.2
    have hset2 : ∀ Z : List Value, Z.length = 104 → setR Z 0 us = us := fun Z hZ => setR_all _ _ (by omega)
    have hus' := hus.symm
    clear hus
    have hp0 : plain1 (.slice none 0 0) = true := rfl
    (refine aw_ops (by kernel_rfl) (fun K hK => ?_); simp (disch := first | omega | (simp only [lnS]; try omega; done)) [-getElem?_pos, -getElem?_neg, h32, h33, hi]; refine hK _ _ ?_; clear hK K)
    refine aw_seq ?_
    refine aw_t (by (first | (simp [eval_tmp, put_at, hi]; done) | (simp [eval_tmp, put_at, hi]; omega))) (by kernel_rfl) ?_
    refine aw_skip ?_
    refine aw_seq ?_
    refine aw_block ?_
    refine aw_seq ?_
    have hnG : H.length ≤ G.length := by omega
    (refine aw_ops (by kernel_rfl) (fun K hK => ?_); simp (disch := first | omega | (simp only [lnS]; try omega; done)) [-getElem?_pos, -getElem?_neg, h31, h33, -notTuple, hnt, hvc, nt_intG, nt_aggG, -xindexAddr, hx, hbG, hus', hul, hq, hnG, hp0, all_zl, hset2]; refine hK _ _ ?_; clear hK K)
    obtain ⟨hlow2, hb2⟩ := boxed (H := G) us 39
    have hmb := hget_left' (L := [some ⟨us, 39, none⟩]) hb
    have hown := hown.low (H' := G ++ ([some ⟨us, 39, none⟩] : AH)) (fun j hj => hget_left (hown.lt j hj))
    obtain ⟨g, hg⟩ : ∃ g, g = G.length := ⟨_, rfl⟩
    rw [← hg] at hb2 hlow2 hle0 ⊢
    generalize G ++ [some ⟨us, 39, none⟩] = G2 at *
    have hlowG2 : Low n H G2 := ⟨fun j hj => (hlow2.1 j (by omega)).trans (hlow.1 j hj), by have := hlow2.2; omega⟩
    have hhas := has_rc (nro := n) (γ := γ) (i := 0) (k := i) (off := 0) (p := 0) (pre := []) hmb rfl rfl hwd (by omega) (by omega)
    rw [hW2 i (by omega)] at hhas
    have hsu := headT_succ l i
    refine aw_seq ?_
    refine aw_ops (by kernel_rfl) (fun K hK => ?_)
    simp (disch := first | omega | (simp only [lnS]; try omega; done)) [-getElem?_pos, -getElem?_neg, h3]
    refine ⟨by kernel_rfl, hhas.mono ?_⟩
    rintro u G3 ⟨rfl, rfl⟩
    cases hbh : behB l i with
    | true =>
      try simp (disch := first | omega | (simp only [lnS]; try omega; done)) [-getElem?_pos, -getElem?_neg]
      refine hK _ _ ?_; clear hK K
      refine aw_f (by (first | (simp [eval_tmp, put_at]; done) | (simp [eval_tmp, put_at]; omega))) (by kernel_rfl) ?_
      refine aw_skip ?_
      (refine aw_ops (by kernel_rfl) (fun K hK => ?_); simp (disch := first | omega | (simp only [lnS]; try omega; done)) [-getElem?_pos, -getElem?_neg, h33]; refine hK _ _ ?_; clear hK K)
      rw [hbh, if_pos rfl, List.append_nil] at hsu
      exact ⟨c2 - 1, by omega, i + 1, v, F, by omega, by (first | (simp [put_at, put_none, fr0_at, h3]; done) | rfl), by (first | (simp [put_at, put_none, fr0_at, h8]; done) | rfl), by (first | (simp [put_at, put_none, fr0_at, h31]; done) | rfl), by (first | (simp [put_at, put_none, fr0_at, h32]; done) | rfl), by (first | (simp [put_at, put_none, fr0_at]; done) | rfl), hlowG2, hmb, by rw [hsu]; exact hown, hF⟩
    | false =>
      try simp (disch := first | omega | (simp only [lnS]; try omega; done)) [-getElem?_pos, -getElem?_neg]
      refine hK _ _ ?_; clear hK K
      refine aw_t (by (first | (simp [eval_tmp, put_at]; done) | (simp [eval_tmp, put_at]; omega))) (by kernel_rfl) ?_
      rw [hbh, if_neg (by simp)] at hsu
      have hTk : K32 (headT l i) := fun k hk => by
        obtain ⟨a, ha, rfl⟩ := headT_mem hk
        exact (hwf _ (List.mem_of_getElem? (nd_get (show a < l.length by omega)))).id.1
      have hkl := kr_len hTk
      generalize headT l i = out at *
      generalize (nd l i).id = key at *
      have htk : List.take 32 (iv .u8 key) = iv .u8 key := List.take_of_length_le (by omega)
      have hxc : xcells 32 (.slice (some ⟨G3.length, 0, none⟩) 1 1) (G3 ++ [some ⟨iv .u8 key, 24, some 32⟩]) = some (iv .u8 key) := by simp [xcells, hget_app0, hivl, htk]
      obtain ⟨v', G5, hap, ho3, hl3, hk3⟩ := ownF_append (P := Try.prog) (nro := n) (t := 30) (e := 24) (H := G3 ++ [some ⟨iv .u8 key, 24, some 32⟩]) (v := v) (x := .slice (some ⟨G3.length, 0, none⟩) 1 1) (sz := 32) (cells := kr out) (news := iv .u8 key) (F := F) (by simp) (by simp) (by omega) (by simp) (hown.low (fun j hj => hget_left (hown.lt j hj)))
        (fun j hj => by have := hF j hj; omega) (fun s e => by cases e) hxc (fun e => by rw [e] at hivl; simp at hivl) (by rw [hivl]) (by rw [hkl, hivl]; simp; omega) (by rw [hkl, hivl]; simp [maxLen]; omega)
      have hfil := fill_keyG (k := .u8) (x := key) (n := 32) (zl 32) hivl
      (refine aw_ops (by kernel_rfl) (fun K hK => ?_); simp (disch := first | omega | (simp only [lnS]; try omega; done)) [-getElem?_pos, -getElem?_neg, h8, hb2, hul, hid, hivl, htk, -notTuple, v1, v2, nt_slG, nt_aggG, -xfill, hfil, all_zl, -xappend, hap]; refine hK _ _ ?_; clear hK K)
      (refine aw_ops (by kernel_rfl) (fun K hK => ?_); simp (disch := first | omega | (simp only [lnS]; try omega; done)) [-getElem?_pos, -getElem?_neg, h33]; refine hK _ _ ?_; clear hK K)
      have hgl := hget_lt hmb
      refine ⟨c2 - 1, by omega, i + 1, v', _, by omega, by (first | (simp [put_at, put_none, fr0_at, h3]; done) | rfl), by (first | (simp [put_at, put_none, fr0_at]; done) | rfl), by (first | (simp [put_at, put_none, fr0_at, h31]; done) | rfl), by (first | (simp [put_at, put_none, fr0_at, h32]; done) | rfl), by (first | (simp [put_at, put_none, fr0_at]; done) | rfl), ?_, ?_, by rw [hsu, kr_app, kr_one]; exact ho3, fun j hj => ?_⟩
      · exact ⟨fun j hj => (hk3 j (by have := hlowG2.2; simp; omega) (fun h => by have := hF _ h; omega)).trans ((hget_left (by have := hlowG2.2; omega)).trans (hlowG2.1 j hj)), by have := hlowG2.2; rw [hl3]; simp; omega⟩
      · exact (hk3 n (by simp; omega) (fun h => by have := hF _ h; omega)).trans ((hget_left (by omega)).trans hmb)
      · rw [List.mem_singleton] at hj
        rw [hj]
        simp; omega
  obtain ⟨j, q, bb, us, pv, wv', bv, qv, hx, hbb, hq, hcell, hus, hC⟩ := hat t _ (nd_get ht)
  have hbG : hget G j = some bb := (hlow.1 j (by have := hget_lt hbb; omega)).trans hbb
  have hul := hC.len
  have hle0 := hlow.2
  have hset2 : ∀ Z : List Value, Z.length = 104 → setR Z 0 us = us := fun Z hZ => setR_all _ _ (by omega)
  have hus' := hus.symm
  clear hus
  have hp0 : plain1 (.slice none 0 0) = true := rfl
  have hnG : H.length ≤ G.length := by omega
  (refine aw_ops (by kernel_rfl) (fun K hK => ?_); simp (disch := first | omega | (simp only [lnS]; try omega; done)) [-getElem?_pos, -getElem?_neg, h15, h16, ht]; refine hK _ _ ?_; clear hK K)
  refine aw_seq ?_
  refine aw_t (by (first | (simp [eval_tmp, put_at, ht]; done) | (simp [eval_tmp, put_at, ht]; omega))) (by kernel_rfl) ?_
  refine aw_skip ?_
  refine aw_seq ?_
  refine aw_block ?_
  refine aw_seq ?_
  (refine aw_ops (by kernel_rfl) (fun K hK => ?_); simp (disch := first | omega | (simp only [lnS]; try omega; done)) [-getElem?_pos, -getElem?_neg, h14, h16, -notTuple, hnt, hvc, nt_intG, nt_aggG, -xindexAddr, hx, hbG, hus', hul, hq, hnG, hp0, all_zl, hset2]; refine hK _ _ ?_; clear hK K)
  obtain ⟨hlow2, hb2⟩ := boxed (H := G) us 39
  have hmb := hget_left' (L := [some ⟨us, 39, none⟩]) hb
  obtain ⟨g, hg⟩ : ∃ g, g = G.length := ⟨_, rfl⟩
  rw [← hg] at hb2 hlow2 hle0 ⊢
  generalize G ++ [some ⟨us, 39, none⟩] = G2 at *
  have hlowG2 : Low n H G2 := ⟨fun j hj => (hlow2.1 j (by omega)).trans (hlow.1 j hj), by have := hlow2.2; omega⟩
  have hC2 : NodeC G2 us (nd l t) pv wv' bv qv := hC.low (fun j hj => hlowG2.1 j (by omega))
  have hacc := hC.past.acc
  have c103 := hC.c103
  have hpm := past_len hr ht
  refine aw_seq ?_
  (refine aw_ops (by kernel_rfl) (fun K hK => ?_); simp (disch := first | omega | (simp only [lnS]; try omega; done)) [-getElem?_pos, -getElem?_neg, hb2, hul, c103, -notTuple, hacc.nt, hacc.cs, nt_intG, -xlen, hacc.len]; refine hK _ _ ?_; clear hK K)
  refine aw_block ?_
  refine aw_loop (fun c2 α G => ∃ (e : Nat) (V : List Nat), e + c2 = (nd l t).past.length ∧ α 0 = nv ∧ α 3 = .pointer (some ⟨n, 0, none⟩) ∧ α 14 = nv ∧ α 15 = .int .i64 (l.length : Nat) ∧ α 16 = .int .i64 (t : Nat) ∧ α 21 = qv ∧ α 22 = .int .i64 ((nd l t).past.length : Nat) ∧ α 23 = .int .i64 (e : Nat) ∧ Low n H G ∧ hget G n = some ⟨[] ++ wv V, 67, none⟩ ∧ Wd V ∧ V.length = 2 ∧ ∀ k, k < 128 → hasW V 0 k = (behT l t k || decide ((k : Int) ∈ (nd l t).past.take e))) (nd l t).past.length ?_ ?_
  · exact ⟨0, W, by omega, by (first | (simp [put_at, put_none, fr0_at, h0]; done) | rfl), by (first | (simp [put_at, put_none, fr0_at, h3]; done) | rfl), by (first | (simp [put_at, put_none, fr0_at, h14]; done) | rfl), by (first | (simp [put_at, put_none, fr0_at, h15]; done) | rfl), by (first | (simp [put_at, put_none, fr0_at, h16]; done) | rfl), by (first | (simp [put_at, put_none, fr0_at]; done) | rfl), by (first | (simp [put_at, put_none, fr0_at]; done) | rfl), by (first | (simp [put_at, put_none, fr0_at]; done) | rfl), hlowG2, hmb, hwd, hWl, fun k hk => by rw [hW k hk]; simp⟩
  rintro c2 α G ⟨e, V, hec, h0, h3, h14, h15, h16, h21, h22, h23, hlow, hb, hwd, hWl, hW⟩
  refine aw_seq ?_
  by_cases he : e < (nd l t).past.length
  case neg =>
    (refine aw_ops (by kernel_rfl) (fun K hK => ?_); simp (disch := first | omega | (simp only [lnS]; try omega; done)) [-getElem?_pos, -getElem?_neg, h22, h23, he]; refine hK _ _ ?_; clear hK K)
    refine aw_seq ?_
    refine aw_f (by (first | (simp [eval_tmp, put_at, he]; done) | (simp [eval_tmp, put_at, he]; omega))) (by kernel_rfl) ?_
    refine aw_exit ?_
    obtain rfl : e = (nd l t).past.length := by omega
    (refine aw_ops (by kernel_rfl) (fun K hK => ?_); simp (disch := first | omega | (simp only [lnS]; try omega; done)) [-getElem?_pos, -getElem?_neg, h16]; refine hK _ _ ?_; clear hK K)
    exact ⟨c - 1, by omega, t + 1, V, by omega, by (first | (simp [put_at, put_none, fr0_at, h0]; done) | rfl), by (first | (simp [put_at, put_none, fr0_at, h3]; done) | rfl), by (first | (simp [put_at, put_none, fr0_at, h14]; done) | rfl), by (first | (simp [put_at, put_none, fr0_at, h15]; done) | rfl), by (first | (simp [put_at, put_none, fr0_at]; done) | rfl), hlow, hb, hwd, hWl, fun k hk => by rw [hW k hk, List.take_length, behT_succ]⟩
  obtain ⟨p2, x2, p21, p22, p23, p24, p25⟩ := hacc.at_ e he
  subst p24
  obtain ⟨z, hz⟩ : ∃ z, z = (nd l t).past.getD e 0 := ⟨_, rfl⟩
  rw [← hz] at p25
  have hze : (nd l t).past[e]? = some z := by rw [hz, List.getD_eq_getElem?_getD, List.getElem?_eq_getElem he]; rfl
  have htk2 : (nd l t).past.take (e + 1) = (nd l t).past.take e ++ [z] := by rw [List.take_add_one, hze]; rfl
  have p25 := p25 G (hn ▸ hlow)
  obtain ⟨kz, rfl, hkz⟩ := past_bd hr ht (List.mem_of_getElem? hze)
  have hadd := add_ac (nro := n) (γ := γ) (i := 0) (k := kz) (off := 0) (p := 0) (pre := []) hb (by omega) rfl rfl hwd (by omega) (by omega)
  (refine aw_ops (by kernel_rfl) (fun K hK => ?_); simp (disch := first | omega | (simp only [lnS]; try omega; done)) [-getElem?_pos, -getElem?_neg, h22, h23, he]; refine hK _ _ ?_; clear hK K)
  refine aw_seq ?_
  refine aw_t (by (first | (simp [eval_tmp, put_at, he]; done) | (simp [eval_tmp, put_at, he]; omega))) (by kernel_rfl) ?_
  refine aw_skip ?_
  refine aw_seq ?_
  refine aw_block ?_
  refine aw_seq ?_
  (refine aw_ops (by kernel_rfl) (fun K hK => ?_); simp (disch := first | omega | (simp only [lnS]; try omega; done)) [-getElem?_pos, -getElem?_neg, h21, h23, -notTuple, hacc.nt, hacc.cs, p21, nt_intG, -xindexAddr, p22, -xload, p25]; refine hK _ _ ?_; clear hK K)
  refine aw_ops (by kernel_rfl) (fun K hK => ?_)
  simp (disch := first | omega | (simp only [lnS]; try omega; done)) [-getElem?_pos, -getElem?_neg, h3]
  refine ⟨by kernel_rfl, hadd.mono ?_⟩
  rintro u G3 rfl
  try simp (disch := first | omega | (simp only [lnS]; try omega; done)) [-getElem?_pos, -getElem?_neg]
  refine hK _ _ ?_; clear hK K
  have hbl := hget_lt hb
  have hb3 : hget (G.set n (some ⟨wv (addW V 0 kz), 67, none⟩)) n = some ⟨wv (addW V 0 kz), 67, none⟩ := hget_set_eq hbl
  have hlow3 : Low n H (G.set n (some ⟨wv (addW V 0 kz), 67, none⟩)) := ⟨fun j hj => (hget_set_ne (by omega)).trans (hlow.1 j hj), by rw [List.length_set]; exact hlow.2⟩
  generalize G.set n (some ⟨wv (addW V 0 kz), 67, none⟩) = G4 at *
  (refine aw_ops (by kernel_rfl) (fun K hK => ?_); simp (disch := first | omega | (simp only [lnS]; try omega; done)) [-getElem?_pos, -getElem?_neg, h23]; refine hK _ _ ?_; clear hK K)
  refine ⟨c2 - 1, by omega, e + 1, addW V 0 kz, by omega, by (first | (simp [put_at, put_none, fr0_at, h0]; done) | rfl), by (first | (simp [put_at, put_none, fr0_at, h3]; done) | rfl), by (first | (simp [put_at, put_none, fr0_at, h14]; done) | rfl), by (first | (simp [put_at, put_none, fr0_at, h15]; done) | rfl), by (first | (simp [put_at, put_none, fr0_at, h16]; done) | rfl), by (first | (simp [put_at, put_none, fr0_at, h21]; done) | rfl), by (first | (simp [put_at, put_none, fr0_at, h22]; done) | rfl), by (first | (simp [put_at, put_none, fr0_at]; done) | rfl), hlow3, hb3, hwd.add 0 kz, by rw [addW_len, hWl], fun k hk => ?_⟩
  rw [hasW_add (by omega) hk (by omega), hW k hk, htk2]
  rw [Bool.eq_iff_iff]
  simp only [Bool.or_eq_true, Bool.and_eq_true, decide_eq_true_eq, List.mem_append, List.mem_singleton, or_assoc]
  refine or_congr Iff.rfl (or_congr Iff.rfl ?_)
  constructor
  · intro h; have := h.2; omega
  · intro h; exact ⟨trivial, by omega⟩
end
section
/-- An own slice with cells behind it, whatever they are. -/
theorem ownF_app {P : Program} {nro : Nat} {t e : TypeId} {H : AH} {v x : Value} {sz : Nat} {cells news : List Value} {F : List Nat} (hu : und P t = .slice e) (hs : szt P e = sz) (h0 : 0 < sz) (hz : (zer P e).map (·.cells.size) = some sz)
    (hv : OwnF H v e sz cells F) (hnro : ∀ j ∈ F, nro ≤ j) (hstr : ∀ s, x ≠ .string s) (hx : xcells sz x H = some news) (hd : news.length % sz = 0) (hb : (cells.length + news.length) * byt P e ≤ 140737488355328) (hm : cells.length + news.length ≤ maxLen) :
    ∃ v' H' F', xappend P nro t v x H = some (v', H') ∧ OwnF H' v' e sz (cells ++ news) F' ∧ H.length ≤ H'.length ∧ (∀ j, j < H.length → j ∉ F → hget H' j = hget H j) ∧ ∀ j ∈ F', H.length ≤ j := by
  by_cases hn : news = []
  · subst hn
    rcases hv with ⟨rfl, rfl, rfl⟩ | ⟨j, len, rfl, h3, h4, rfl⟩
    · refine ⟨.slice none 0 0, H, [], ?_, .inl ⟨rfl, rfl, rfl⟩, Nat.le_refl _, fun _ _ _ => rfl, fun j hj => (by cases hj)⟩
      subst hs
      unfold xappend
      cases x <;> first | (exact absurd rfl (hstr _)) | (simp only [hu, hx]; rw [if_pos ⟨h0, hz, by simp, by simp⟩]; first | rw [if_pos rfl] | rw [if_pos trivial])
    · subst hs
      have hj := hget_lt h3
      refine ⟨.slice (some ⟨H.length, 0, none⟩) len len, H.set j none ++ [some ⟨cells, e, some (szt P e)⟩], [H.length], ?_, .inr ⟨H.length, len, rfl, ?_, by simpa using h4, rfl⟩, by simp, fun i hi hni => ?_, fun j hj => by simp at hj; omega⟩
      · have hc : True ∧ 0 < szt P e ∧ (zer P e).map (·.cells.size) = some (szt P e) ∧ nro ≤ j ∧ True ∧ True ∧ len * szt P e ≤ cells.length ∧ (len * szt P e + 0) * byt P e ≤ 140737488355328 ∧ len * szt P e + 0 ≤ maxLen :=
          ⟨trivial, h0, hz, hnro j (by simp), trivial, trivial, by omega, by rw [← h4]; exact hb, by rw [← h4]; exact hm⟩
        have e2 : cells.take (len * szt P e) = cells := List.take_of_length_le (by omega)
        unfold xappend
        cases x <;> first | (exact absurd rfl (hstr _)) | (simp only [hu, hx, h3, List.length_nil]; rw [if_pos hc, e2]; simp)
      · have : (H.set j none).length = H.length := by simp
        rw [← this, hget_app0, hget_cons0, List.append_nil]
      · rw [hget_left (by simp; omega), hget_set_ne (fun e => hni (by simp [e]))]
  · obtain ⟨v', H', h1, h2, h3, h4⟩ := ownF_append (P := P) (nro := nro) (t := t) hu hs h0 hz hv hnro hstr hx hn hd hb hm
    exact ⟨v', H', _, h1, h2, by omega, h4, fun j hj => by simp at hj; omega⟩
attribute [local simp] wb_bool wb_undef with_lit XL_nil XL_cons XLc_val XLc_call step1_eq stepW_t stepW_f stepC_n stepC_s stepX_s stepX_n stepN_s calleeX oneV xop_eq xopR_s xopR_n wantedA_eq wantedG_n wantedG_s plain1_int plain1_bool plain1_string bits_i64 bits_u64 bits_u32 bits_u16 bits_u8 xeqA xagg xcmp xarr allK_iv num_iv calleeOf xread xeff xbin xint xnil xun xstr xload xconv xpart xfield xfieldAddr xindexAddr xindex bnd asInt? xslice xlen xmin xmax xbuild xfill xappend xapp2 xappstr xappmk xcap xcopy xcells eval_tmp eval_const put_at put_none fr0_at cells_agg cells_int cells_bool cells_string cells_ptr cells_slice notTuple tab iv_all hget_app hget_app0 hget_cons0 hget_cons set_app set_app0 setR setR_one QL_nil QL_cons QLc_val stepQ_t stepQ_f stepQC_n stepQC_s stepQX_s SL_nil SL_cons SLc_val stepS_t stepS_f ltT ltF leT leF eqT eqF ltTn ltFn leTn leFn eqTn eqFn beqT beqF bneT bneF wi64 wu64 wu32 wu16 wu8 tmodP tdivP hgetL hgetNe hgetEq setL nums_def nums_len Nat.succ_le_of_lt List.getElem?_cons_zero List.getElem?_cons_succ Option.getD_some Int.toNat_add Int.toNat_mul agM okM agB agI agS agP agL agA okB okI okS okP okSl okA
end
section
theorem tl_eq (a b : ByteArray) : a.toList = b.toList ↔ a = b := by
  rw [ByteArray.toList_eq, ByteArray.toList_eq]
  exact ⟨fun h => ByteArray.ext (Array.toList_inj.1 h), fun h => by rw [h]⟩
theorem BoxD.ext {a b : BoxD} (h1 : a.to = b.to) (h2 : a.pub = b.pub) (h3 : a.n = b.n) (h4 : a.prev = b.prev) (h5 : a.body = b.body) : a = b := by
  cases a; cases b; simp only [BoxD.mk.injEq] at *; exact ⟨h1, h2, h3, h4, h5⟩
theorem OpD.ext {a b : OpD} (h1 : a.author = b.author) (h2 : a.seq = b.seq) (h3 : a.parents = b.parents) (h4 : a.kind = b.kind) (h5 : a.who = b.who) (h6 : a.of = b.of) (h7 : a.check = b.check) (h8 : a.text = b.text) (h9 : a.boxes = b.boxes) : a = b := by
  cases a; cases b; simp only [OpD.mk.injEq] at *; exact ⟨h1, h2, h3, h4, h5, h6, h7, h8, h9⟩
theorem NodeD.ext {a b : NodeD} (h1 : a.id = b.id) (h2 : a.op = b.op) (h3 : a.past = b.past) : a = b := by
  cases a; cases b; simp only [NodeD.mk.injEq] at *; exact ⟨h1, h2, h3⟩
noncomputable instance : DecidableEq BoxD := Classical.typeDecidableEq _
noncomputable instance : DecidableEq OpD := Classical.typeDecidableEq _
noncomputable instance : DecidableEq NodeD := Classical.typeDecidableEq _
/-- A box's cells. -/
def boxRow (b : BoxD) : List Value := .int .i64 b.to :: (iv .u8 b.pub ++ [.int .u32 b.n, .int .u32 b.prev, .string b.body])
theorem BoxC.row {H : AH} {us : List Value} {b : BoxD} (h : BoxC H us b) : us = boxRow b := by
  have hl := h.len
  have e1 : us.drop 1 = iv .u8 b.pub ++ us.drop 33 := by
    have := (List.take_append_drop 32 (us.drop 1)).symm
    rwa [h.pub, List.drop_drop] at this
  have e0 : us.take 1 = [.int .i64 b.to] := by
    apply List.ext_getElem?
    intro i
    match i with
    | 0 => rw [List.getElem?_take_of_lt (by omega), h.c0]; rfl
    | i + 1 => rw [List.getElem?_eq_none (by rw [List.length_take]; omega), List.getElem?_eq_none (by simp)]
  have e2 : us.drop 33 = [.int .u32 b.n, .int .u32 b.prev, .string b.body] := by
    apply List.ext_getElem?
    intro i
    match i with
    | 0 => rw [List.getElem?_drop, h.c33]; rfl
    | 1 => rw [List.getElem?_drop, h.c34]; rfl
    | 2 => rw [List.getElem?_drop, h.c35]; rfl
    | i + 3 => rw [List.getElem?_eq_none (by rw [List.length_drop]; omega), List.getElem?_eq_none (by simp)]
  have := (List.take_append_drop 1 us).symm
  rw [e0, e1, e2] at this
  exact this
theorem iv_p1 (k : IntKind) (l : List Int) : (iv k l).all plain1 = true := by
  rw [List.all_eq_true]
  intro x hx
  unfold iv at hx
  obtain ⟨z, _, rfl⟩ := List.mem_map.1 hx
  rfl
theorem three {fs : List Field} {n1 n2 n3 : String} {t1 t2 t3 o1 o2 o3 : Nat} (h : fs.map (fun f => (f.name, f.type, f.offset)) = [(n1, t1, o1), (n2, t2, o2), (n3, t3, o3)]) : ∃ f1 f2 f3 : Field, fs = [f1, f2, f3] ∧ (f1.name = n1 ∧ f1.type = t1 ∧ f1.offset = o1) ∧ (f2.name = n2 ∧ f2.type = t2 ∧ f2.offset = o2) ∧ (f3.name = n3 ∧ f3.type = t3 ∧ f3.offset = o3) := by
  match fs, h with
  | [f1, f2, f3], h =>
    simp only [List.map_cons, List.map_nil, List.cons.injEq, Prod.mk.injEq, and_true] at h
    exact ⟨f1, f2, f3, rfl, h.1, h.2.1, h.2.2⟩
theorem three_df {P : Program} {q : TypeId → Value → Value → Option Bool} {f1 f2 f3 : Field} {xs ys : Array Value} {u1 u2 u3 v1 v2 v3 : Value} {r1 r2 r3 : Bool} (n1 : f1.name ≠ "_") (n2 : f2.name ≠ "_") (n3 : f3.name ≠ "_") (a1 : xpartV P f1.type xs f1.offset = some u1) (a2 : xpartV P f2.type xs f2.offset = some u2) (a3 : xpartV P f3.type xs f3.offset = some u3) (b1 : xpartV P f1.type ys f1.offset = some v1) (b2 : xpartV P f2.type ys f2.offset = some v2) (b3 : xpartV P f3.type ys f3.offset = some v3) (e1 : q f1.type u1 v1 = some r1) (e2 : q f2.type u2 v2 = some r2) (e3 : q f3.type u3 v3 = some r3) : xdf P q [f1, f2, f3] xs ys = some (r1 && (r2 && (r3 && true))) := by
  unfold xdf
  rw [if_neg n1, a1, b1]
  simp only [e1]
  unfold xdf
  rw [if_neg n2, a2, b2]
  simp only [e2]
  unfold xdf
  rw [if_neg n3, a3, b3]
  simp only [e3]
  unfold xdf
  rfl
theorem part_at {P : Program} {t : TypeId} {xs : Array Value} {o : Nat} {v : Value} (h : isAggD (und P t) = false) (hx : xs[o]? = some v) : xpartV P t xs o = some v := by
  unfold xpartV
  rw [if_neg (by rw [h]; decide), hx]
theorem part_ag {P : Program} {t : TypeId} {xs : Array Value} {o n : Nat} {v : Array Value} (h : isAggD (und P t) = true) (hz : szt P t = n) (h0 : 0 < n) (hx : xs.extract o (o + n) = v) : xpartV P t xs o = some (.agg v) := by
  unfold xpartV
  rw [if_pos h, hz, if_pos h0, hx]
theorem dq_int {P : Program} {d : Nat} {t : TypeId} {k : IntKind} {a b : Int} {kk : IntKind} (h : und P t = .int kk) : xdq P (d + 1) t (.int k a) (.int k b) = some (a == b) := by
  unfold xdq
  rw [h]
  simp
theorem dq_str {P : Program} {d : Nat} {t : TypeId} {a b : ByteArray} (h : und P t = .string) : xdq P (d + 1) t (.string a) (.string b) = some (a.toList == b.toList) := by
  unfold xdq
  rw [h]
theorem dq_ints {P : Program} {d n : Nat} {t e : TypeId} {k : IntKind} {a b : List Int} (h : und P t = .array n e) (he : und P e = .int k) (hs : szt P e = 1) (ha : a.length = n) (hb : b.length = n) : xdq P (d + 1) t (.agg (iv k a).toArray) (.agg (iv k b).toArray) = some (a == b) := by
  unfold xdq
  rw [h]
  simp only [he]
  rw [if_pos ⟨allK_iv k a, allK_iv k b, by simpa [iv_length] using ha, by simpa [iv_length] using hb, hs⟩, num_iv, num_iv]
theorem head_row (b : BoxD) (hb : b.pub.length = 32) : (boxRow b).toArray.extract 1 (1 + 34) = (iv .u8 b.pub ++ [Value.int .u32 b.n, .int .u32 b.prev]).toArray := by
  apply Array.toList_inj.1
  rw [Array.toList_extract, List.extract_eq_take_drop, List.toList_toArray, List.toList_toArray]
  have hl : (iv .u8 b.pub).length = 32 := by rw [iv_length, hb]
  show ((iv .u8 b.pub ++ [Value.int .u32 b.n, .int .u32 b.prev, .string b.body]).take 34) = _
  rw [List.take_append, List.take_of_length_le (by omega), hl]
  rfl
theorem xdq_box {a b : BoxD} (X Y : Array Value) (hX : X = (boxRow a).toArray) (hY : Y = (boxRow b).toArray) (ha : a.pub.length = 32) (hb : b.pub.length = 32) : xdq Try.prog 6 60 (.agg X) (.agg Y) = some ((a.to == b.to) && (((a.pub == b.pub) && ((a.n == b.n) && ((a.prev == b.prev) && true))) && ((a.body.toList == b.body.toList) && true))) := by
  subst hX hY
  have u1 : und Try.prog 60 = .struct (Try.prog.fieldsOf 60) := by kernel_rfl
  have u2 : und Try.prog 58 = .struct (Try.prog.fieldsOf 58) := by kernel_rfl
  have g1 : Try.prog.stoodInHeld 60 = false := by kernel_rfl
  have g2 : Try.prog.stoodInHeld 58 = false := by kernel_rfl
  obtain ⟨f1, f2, f3, ef, ⟨a1, a2, a3⟩, ⟨b1, b2, b3⟩, c1, c2, c3⟩ := three (fs := (Try.prog.fieldsOf 60).toList) (n1 := "To") (t1 := 3) (o1 := 0) (n2 := "Head") (t2 := 58) (o2 := 1) (n3 := "Body") (t3 := 9) (o3 := 35) (by kernel_rfl)
  obtain ⟨h1, h2, h3, eh, ⟨d1, d2, d3⟩, ⟨e1, e2, e3⟩, k1, k2, k3⟩ := three (fs := (Try.prog.fieldsOf 58).toList) (n1 := "Pub") (t1 := 24) (o1 := 0) (n2 := "N") (t2 := 33) (o2 := 32) (n3 := "Prev") (t3 := 33) (o3 := 33) (by kernel_rfl)
  have la : (iv .u8 a.pub).length = 32 := by rw [iv_length, ha]
  have lb : (iv .u8 b.pub).length = 32 := by rw [iv_length, hb]
  have key : ∀ (x : BoxD), (iv .u8 x.pub).length = 32 → (iv .u8 x.pub ++ [Value.int .u32 x.n, .int .u32 x.prev]).toArray.extract 0 (0 + 32) = (iv .u8 x.pub).toArray := fun x hx => by
    apply Array.toList_inj.1
    rw [Array.toList_extract, List.extract_eq_take_drop, List.toList_toArray, List.toList_toArray]
    show (iv .u8 x.pub ++ _).take 32 = _
    rw [List.take_append_of_le_length (by omega), List.take_of_length_le (by omega)]
  have at32 : ∀ (x : BoxD), (iv .u8 x.pub).length = 32 → (iv .u8 x.pub ++ [Value.int .u32 x.n, .int .u32 x.prev]).toArray[32]? = some (.int .u32 x.n) ∧ (iv .u8 x.pub ++ [Value.int .u32 x.n, .int .u32 x.prev]).toArray[33]? = some (.int .u32 x.prev) := fun x hx => by
    constructor
    · rw [List.getElem?_toArray, List.getElem?_append_right (by omega), hx]; rfl
    · rw [List.getElem?_toArray, List.getElem?_append_right (by omega), hx]; rfl
  have at35 : ∀ (x : BoxD), (iv .u8 x.pub).length = 32 → (boxRow x).toArray[35]? = some (.string x.body) := fun x hx => by
    rw [List.getElem?_toArray]
    unfold boxRow
    rw [List.getElem?_cons_succ, List.getElem?_append_right (by omega), hx]; rfl
  have agk : isAggD (und Try.prog 24) = true := by kernel_rfl
  have agh : isAggD (und Try.prog 58) = true := by kernel_rfl
  have agi : isAggD (und Try.prog 3) = false := by kernel_rfl
  have agu : isAggD (und Try.prog 33) = false := by kernel_rfl
  have ags : isAggD (und Try.prog 9) = false := by kernel_rfl
  have sk : szt Try.prog 24 = 32 := by kernel_rfl
  have sh : szt Try.prog 58 = 34 := by kernel_rfl
  have hhead : xdq Try.prog 5 58 (.agg (iv .u8 a.pub ++ [Value.int .u32 a.n, .int .u32 a.prev]).toArray) (.agg (iv .u8 b.pub ++ [Value.int .u32 b.n, .int .u32 b.prev]).toArray) = some ((a.pub == b.pub) && ((a.n == b.n) && ((a.prev == b.prev) && true))) := by
    unfold xdq
    rw [u2]
    simp only [g2, if_true]
    rw [eh]
    refine three_df (by rw [d1]; decide) (by rw [e1]; decide) (by rw [k1]; decide) (by rw [d2, d3]; exact part_ag agk sk (by omega) (key a la)) (by rw [e2, e3]; exact part_at agu (at32 a la).1) (by rw [k2, k3]; exact part_at agu (at32 a la).2) (by rw [d2, d3]; exact part_ag agk sk (by omega) (key b lb)) (by rw [e2, e3]; exact part_at agu (at32 b lb).1) (by rw [k2, k3]; exact part_at agu (at32 b lb).2) ?_ ?_ ?_
    · rw [d2]; exact dq_ints (e := 5) (n := 32) (by kernel_rfl) (by kernel_rfl) (by kernel_rfl) ha hb
    · rw [e2]; exact dq_int (kk := .u32) (by kernel_rfl)
    · rw [k2]; exact dq_int (kk := .u32) (by kernel_rfl)
  unfold xdq
  rw [u1]
  simp only [g1, if_true]
  rw [ef]
  refine three_df (by rw [a1]; decide) (by rw [b1]; decide) (by rw [c1]; decide) (by rw [a2, a3]; exact part_at agi rfl) (by rw [b2, b3]; exact part_ag agh sh (by omega) (head_row a ha)) (by rw [c2, c3]; exact part_at ags (at35 a la)) (by rw [a2, a3]; exact part_at agi rfl) (by rw [b2, b3]; exact part_ag agh sh (by omega) (head_row b hb)) (by rw [c2, c3]; exact part_at ags (at35 b lb)) ?_ ?_ ?_
  · rw [a2]; exact dq_int (kk := .i64) (by kernel_rfl)
  · rw [b2]; exact hhead
  · rw [c2]; exact dq_str (by kernel_rfl)
/-- Two boxes, compared. -/
theorem box_eq {a b : BoxD} (ha : a.pub.length = 32) (hb : b.pub.length = 32) : xagg Try.prog 60 (boxRow a) (boxRow b) = some (decide (a = b)) := by
  have c1 : cmpT Try.prog 60 = none := by kernel_rfl
  have c2 : ∀ xs ys, xarr Try.prog 60 xs ys = none := fun xs ys => by
    have : und Try.prog 60 = .struct (Try.prog.fieldsOf 60) := by kernel_rfl
    unfold xarr
    rw [this]
  have c3 : gl Try.prog 60 = true := by kernel_rfl
  have p : ∀ x : BoxD, (boxRow x).all plain1 = true := fun x => by
    unfold boxRow
    rw [List.all_cons, List.all_append, iv_p1]; rfl
  unfold xagg
  rw [c1]
  simp only [c2]
  unfold xdeep
  rw [if_pos ⟨c3, p a, p b⟩]
  rw [xdq_box _ _ rfl rfl ha hb]
  congr 1
  rw [Bool.eq_iff_iff, decide_eq_true_eq]
  simp only [Bool.and_eq_true, beq_iff_eq, Bool.and_true]
  rw [tl_eq]
  constructor
  · rintro ⟨h1, ⟨h2, h3, h4⟩, h5⟩
    exact BoxD.ext h1 h2 h3 h4 h5
  · rintro rfl
    exact ⟨rfl, ⟨rfl, rfl, rfl⟩, rfl⟩
end
end Go.Proofs.Ytcbfbmdglhlbmaa
