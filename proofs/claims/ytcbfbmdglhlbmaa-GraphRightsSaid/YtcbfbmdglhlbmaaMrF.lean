/-
  The reference: Great.
  Keys in order: the comparison is the order of lists; sorted lists are told by their members.
  cabalref11.Right: what it asks of an operation.
  slices.Equal at int, Key, Box.
  cabalref11.SameOp: are two operations the same?
  frame.sameOp: are two operations the same?
  slices.Clone at numbers, keys, boxes: what is copied lies in new memory.
  deep.Op: an operation, copied into new memory.
  frame.Same over frames of nothing but an operation; graph.Same's comparison of two nodes.
  cabalref15.Same: are two graphs the same?
-/
import Derived.Test.YtcbfbmdglhlbmaaMrE
import Derived.Test.YtcbfbmdglhlbmaaMrD
import Derived.Test.YtcbfbmdglhlbmaaMrB
import Derived.Test.YtcbfbmdglhlbmaaMrC
namespace Go.Proofs.Ytcbfbmdglhlbmaa
open Go Go.RowKit
set_option linter.unusedSimpArgs false
set_option linter.unusedVariables false
set_option maxRecDepth 100000
set_option maxHeartbeats 4000000
section
def bodyAt (l : List BoxD) (k : Nat) : ByteArray := ((l[k]?).map BoxD.body).getD ByteArray.empty
def greatO (o : OpD) : Bool := decide (30 < o.parents.length) || (decide (30 < o.who.length) || (decide (30 < o.boxes.length) || (decide (600 < o.text.size) || (List.range o.boxes.length).any fun k => decide (600 < (bodyAt o.boxes k).size))))
theorem any_none {n : Nat} {p : Nat → Bool} (h : ∀ k, k < n → p k = false) : (List.range n).any p = false := by
  rw [List.any_eq_false]
  intro k hk
  rw [h k (List.mem_range.1 hk)]
  decide
theorem any_some {n k : Nat} {p : Nat → Bool} (hk : k < n) (h : p k = true) : (List.range n).any p = true := List.any_eq_true.2 ⟨k, List.mem_range.2 hk, h⟩
attribute [local simp] wb_bool wb_undef with_lit XL_nil XL_cons XLc_val XLc_call step1_eq stepW_t stepW_f stepC_n stepC_s stepX_s stepX_n stepN_s calleeX oneV xop_eq xopR_s xopR_n wantedA_eq wantedG_n wantedG_s plain1_int plain1_bool plain1_string bits_i64 bits_u64 bits_u32 bits_u16 bits_u8 xeqA xagg xcmp xarr allK_iv num_iv calleeOf xread xeff xbin xint xnil xun xstr xload xconv xpart xfield xfieldAddr xindexAddr xindex bnd asInt? xslice xlen xmin xmax xbuild xfill xappend xapp2 xappstr xappmk xcap xcopy xcells eval_tmp eval_const put_at put_none fr0_at cells_agg cells_int cells_bool cells_string cells_ptr cells_slice notTuple tab iv_all hget_app hget_app0 hget_cons0 hget_cons set_app set_app0 setR setR_one QL_nil QL_cons QLc_val stepQ_t stepQ_f stepQC_n stepQC_s stepQX_s SL_nil SL_cons SLc_val stepS_t stepS_f ltT ltF leT leF eqT eqF ltTn ltFn leTn leFn eqTn eqFn beqT beqF bneT bneF wi64 wu64 wu32 wu16 wu8 tmodP tdivP hgetL hgetNe hgetEq setL nums_def nums_len Nat.succ_le_of_lt List.getElem?_cons_zero List.getElem?_cons_succ Option.getD_some Int.toNat_add Int.toNat_mul agM okM agB agI agS agP agL agA okB okI okS okP okSl okA
theorem BxV.body_at {H : AH} {v : Value} {l : List BoxD} (h : BxV H v l) (hl : ∀ b ∈ l, b.Wf) {i : Nat} (hi : i < l.length) : ∃ j q bb, xindexAddr Try.prog 35 v (.int .i64 (i : Nat)) = some (.pointer (some ⟨j, q, none⟩)) ∧ hget H j = some bb ∧ bb.cells[q + 35]? = some (.string (bodyAt l i)) ∧ (bodyAt l i).size ≤ maxLen := by
  obtain ⟨z, hz⟩ : ∃ z, l[i]? = some z := ⟨_, List.getElem?_eq_getElem hi⟩
  have hzw := hl z (List.mem_of_getElem? hz)
  obtain ⟨j, b, us, hv, hb, hle, hx, hus, hul, hle2, hc, hval⟩ := val_at (P := Try.prog) (t := 35) (e := 60) (sz := 36) h (by simp) (by simp) (by omega) (fun row hr => by
    obtain ⟨y, hy, rfl⟩ := List.mem_map.1 hr
    have := (hl y hy).pub.1
    simp [BoxD.row, kd, this]) (i := i) (row := z.row) (by rw [List.getElem?_map, hz]; rfl)
  have hbody : bodyAt l i = z.body := by simp [bodyAt, hz]
  rw [hbody]
  exact ⟨j, i * 36, b, hx, hb, (hc 35 (by omega)).trans (box_c hzw hval).c35, hzw.body⟩
theorem greatO_rc {γ : Nat → Option Nat} {H : AH} {us : List Value} {o : OpD} {pv wv bv : Value} (h : OpC H us o pv wv bv) (hw : o.Wf) : AC Try.prog H.length γ 23 #[.agg us.toArray] H (fun v' _ => v' = .bool (greatO o)) := by
  have hlen := h.len
  have c2 := h.c2
  have c4 := h.c4
  have c69 := h.c69
  have c70 := h.c70
  have pa := h.parents.acc (fun k hk => (hw.parents k hk).1)
  have wa := h.who.acc
  have ba := h.boxes.acc hw.boxes
  have p1 := pa.nt
  have p2 := pa.cs
  have p3 := pa.len
  have w1 := wa.nt
  have w2 := wa.cs
  have w3 := wa.len
  have b1 := ba.nt
  have b2 := ba.cs
  have b3 := ba.len
  have hbx := h.boxes
  obtain ⟨np, hnp⟩ : ∃ n, n = o.parents.length := ⟨_, rfl⟩
  obtain ⟨nw, hnw⟩ : ∃ n, n = o.who.length := ⟨_, rfl⟩
  obtain ⟨nb, hnb⟩ : ∃ n, n = o.boxes.length := ⟨_, rfl⟩
  obtain ⟨ts, hts⟩ : ∃ t, t = o.text := ⟨_, rfl⟩
  have htz : ts.size ≤ 9223372036854775807 := by rw [hts]; have := hw.text; simp only [maxLen] at this; omega
  have hnb63 : nb ≤ 9223372036854775807 := by rw [hnb]; have := hw.blen; simp only [maxLen] at this; omega
  have hG : greatO o = (decide (30 < np) || (decide (30 < nw) || (decide (30 < nb) || (decide (600 < ts.size) || (List.range nb).any fun k => decide (600 < (bodyAt o.boxes k).size))))) := by rw [hnp, hnw, hnb, hts]; rfl
  rw [hG]
  rw [← hnp] at p3
  rw [← hnw] at w3
  rw [← hnb] at b3
  rw [← hts] at c69
  refine ac_of_aw Try.func23 rfl Try.ntmps23 Try.results23 (by simp) ?_
  refine aw_seq ?_
  (refine aw_ops (by kernel_rfl) (fun K hK => ?_); simp (disch := first | omega | (simp only [lnS]; try omega; done)) [-getElem?_pos, -getElem?_neg, hlen]; refine hK _ _ ?_; clear hK K)
  obtain ⟨hlow, hb⟩ := boxed (H := H) us 37
  generalize H ++ [some ⟨us, 37, none⟩] = G at *
  obtain ⟨g, hg⟩ : ∃ g, g = H.length := ⟨_, rfl⟩
  rw [← hg] at hb ⊢
  refine aw_seq ?_
  refine aw_seq ?_
  refine aw_cut (fun α G' => G = G' ∧ α 1 = .pointer (some ⟨g, 0, none⟩) ∧ α 25 = .bool (decide (30 < np) || (decide (30 < nw) || (decide (30 < nb) || decide (600 < ts.size))))) ?_ ?_
  · by_cases h1 : 30 < np
    · (refine aw_ops (by kernel_rfl) (fun K hK => ?_); simp (disch := first | omega | (simp only [lnS]; try omega; done)) [-getElem?_pos, -getElem?_neg, hb, hlen, c2, -notTuple, p1, p2, nt_intG, -xlen, p3, h1]; refine hK _ _ ?_; clear hK K)
      exact ⟨rfl, by (first | (simp [put_at, put_none, fr0_at]; done) | rfl), by simp [put_at, h1]⟩
    · by_cases h2 : 30 < nw
      · (refine aw_ops (by kernel_rfl) (fun K hK => ?_); simp (disch := first | omega | (simp only [lnS]; try omega; done)) [-getElem?_pos, -getElem?_neg, hb, hlen, c2, c4, -notTuple, p1, p2, w1, w2, nt_intG, -xlen, p3, w3, h1, h2]; refine hK _ _ ?_; clear hK K)
        exact ⟨rfl, by (first | (simp [put_at, put_none, fr0_at]; done) | rfl), by simp [put_at, h2]⟩
      · by_cases h3 : 30 < nb
        · (refine aw_ops (by kernel_rfl) (fun K hK => ?_); simp (disch := first | omega | (simp only [lnS]; try omega; done)) [-getElem?_pos, -getElem?_neg, hb, hlen, c2, c4, c70, -notTuple, p1, p2, w1, w2, b1, b2, nt_intG, -xlen, p3, w3, b3, h1, h2, h3]; refine hK _ _ ?_; clear hK K)
          exact ⟨rfl, by (first | (simp [put_at, put_none, fr0_at]; done) | rfl), by simp [put_at, h3]⟩
        · have hxt : xlen Try.prog 9 (.string ts) = some (.int .i64 ts.size) := by simp [xlen]
          by_cases h4 : 600 < ts.size
          · (refine aw_ops (by kernel_rfl) (fun K hK => ?_); simp (disch := first | omega | (simp only [lnS]; try omega; done)) [-getElem?_pos, -getElem?_neg, hb, hlen, c2, c4, c70, c69, -notTuple, p1, p2, w1, w2, b1, b2, nt_intG, nt_strG, -xlen, p3, w3, b3, hxt, h1, h2, h3, h4]; refine hK _ _ ?_; clear hK K)
            exact ⟨rfl, by (first | (simp [put_at, put_none, fr0_at]; done) | rfl), by simp [put_at, h4]⟩
          · (refine aw_ops (by kernel_rfl) (fun K hK => ?_); simp (disch := first | omega | (simp only [lnS]; try omega; done)) [-getElem?_pos, -getElem?_neg, hb, hlen, c2, c4, c70, c69, -notTuple, p1, p2, w1, w2, b1, b2, nt_intG, nt_strG, -xlen, p3, w3, b3, hxt, h1, h2, h3, h4]; refine hK _ _ ?_; clear hK K)
            exact ⟨rfl, by (first | (simp [put_at, put_none, fr0_at]; done) | rfl), by simp [put_at, h1, h2, h3, h4]⟩
  rintro α G' ⟨rfl, h1, h25⟩
  obtain ⟨B, hB⟩ : ∃ B, B = (decide (30 < np) || (decide (30 < nw) || (decide (30 < nb) || decide (600 < ts.size)))) := ⟨_, rfl⟩
  have hGB : (decide (30 < np) || (decide (30 < nw) || (decide (30 < nb) || (decide (600 < ts.size) || (List.range nb).any fun k => decide (600 < (bodyAt o.boxes k).size))))) = (B || (List.range nb).any fun k => decide (600 < (bodyAt o.boxes k).size)) := by
    rw [hB, Bool.or_assoc, Bool.or_assoc, Bool.or_assoc]
  rw [hGB]
  rw [← hB] at h25
  clear hB hGB hG
  cases B with
  | true =>
    refine aw_t (by (first | (simp [eval_tmp, put_at, h25]; done) | (simp [eval_tmp, put_at, h25]; omega))) (by kernel_rfl) ?_
    refine aw_seq ?_
    (refine aw_ops (by kernel_rfl) (fun K hK => ?_); simp (disch := first | omega | (simp only [lnS]; try omega; done)) [-getElem?_pos, -getElem?_neg]; refine hK _ _ ?_; clear hK K)
    (refine aw_ret ?_; simp (disch := first | omega | (simp only [lnS]; try omega; done)) [-getElem?_pos, -getElem?_neg, thenQ_ret, scopeQ_ret, inBlockQ_ret, RQ, resL, resV])
  | false =>
  rw [Bool.false_or]
  refine aw_f (by (first | (simp [eval_tmp, put_at, h25]; done) | (simp [eval_tmp, put_at, h25]; omega))) (by kernel_rfl) ?_
  refine aw_skip ?_
  refine aw_seq ?_
  refine aw_seq ?_
  (refine aw_ops (by kernel_rfl) (fun K hK => ?_); simp (disch := first | omega | (simp only [lnS]; try omega; done)) [-getElem?_pos, -getElem?_neg]; refine hK _ _ ?_; clear hK K)
  refine aw_block ?_
  refine aw_loop (fun c α G' => ∃ i : Nat, i + c = nb ∧ G = G' ∧ α 1 = .pointer (some ⟨g, 0, none⟩) ∧ α 3 = .int .i64 (i : Nat) ∧ ∀ k, k < i → decide (600 < (bodyAt o.boxes k).size) = false) nb ?_ ?_
  · exact ⟨0, by omega, rfl, by (first | (simp [put_at, put_none, fr0_at, h1]; done) | rfl), by (first | (simp [put_at, put_none, fr0_at]; done) | rfl), fun k hk => by omega⟩
  clear h1 h25 α
  rintro c α G' ⟨i, hic, rfl, h1, h3, hpre⟩
  refine aw_seq ?_
  refine aw_seq ?_
  by_cases hi : i < nb
  case neg =>
    (refine aw_ops (by kernel_rfl) (fun K hK => ?_); simp (disch := first | omega | (simp only [lnS]; try omega; done)) [-getElem?_pos, -getElem?_neg, h1, h3, hb, hlen, c70, -notTuple, b1, b2, nt_intG, -xlen, b3, hi]; refine hK _ _ ?_; clear hK K)
    refine aw_f (by (first | (simp [eval_tmp, put_at, hi]; done) | (simp [eval_tmp, put_at, hi]; omega))) (by kernel_rfl) ?_
    refine aw_exit ?_
    refine aw_seq ?_
    (refine aw_ops (by kernel_rfl) (fun K hK => ?_); simp (disch := first | omega | (simp only [lnS]; try omega; done)) [-getElem?_pos, -getElem?_neg]; refine hK _ _ ?_; clear hK K)
    (refine aw_ret ?_; simp (disch := first | omega | (simp only [lnS]; try omega; done)) [-getElem?_pos, -getElem?_neg, thenQ_ret, scopeQ_ret, inBlockQ_ret, RQ, resL, resV])
    intro k hk
    have := hpre k (by omega)
    simp at this
    exact this
  obtain ⟨j, q, bb, hx, hbb, hcb, hbm⟩ := hbx.body_at hw.boxes (i := i) (by omega)
  have hbG : hget G j = some bb := (hlow.1 j (hget_lt hbb)).trans hbb
  (refine aw_ops (by kernel_rfl) (fun K hK => ?_); simp (disch := first | omega | (simp only [lnS]; try omega; done)) [-getElem?_pos, -getElem?_neg, h1, h3, hb, hlen, c70, -notTuple, b1, b2, nt_intG, -xlen, b3, hi]; refine hK _ _ ?_; clear hK K)
  refine aw_t (by (first | (simp [eval_tmp, put_at, hi]; done) | (simp [eval_tmp, put_at, hi]; omega))) (by kernel_rfl) ?_
  refine aw_skip ?_
  refine aw_seq ?_
  refine aw_block ?_
  obtain ⟨bd, hbd⟩ : ∃ b, b = bodyAt o.boxes i := ⟨_, rfl⟩
  rw [← hbd] at hcb hbm
  have hbz : bd.size ≤ 9223372036854775807 := by simp only [maxLen] at hbm; omega
  have hxt : xlen Try.prog 9 (.string bd) = some (.int .i64 bd.size) := by simp [xlen]
  refine aw_seq ?_
  by_cases h6 : 600 < bd.size
  · (refine aw_ops (by kernel_rfl) (fun K hK => ?_); simp (disch := first | omega | (simp only [lnS]; try omega; done)) [-getElem?_pos, -getElem?_neg, h1, h3, hb, hlen, c70, -notTuple, b1, b2, nt_intG, nt_strG, -xindexAddr, hx, hbG, hcb, -xlen, hxt, h6]; refine hK _ _ ?_; clear hK K)
    refine aw_t (by (first | (simp [eval_tmp, put_at, h6]; done) | (simp [eval_tmp, put_at, h6]; omega))) (by kernel_rfl) ?_
    refine aw_seq ?_
    (refine aw_ops (by kernel_rfl) (fun K hK => ?_); simp (disch := first | omega | (simp only [lnS]; try omega; done)) [-getElem?_pos, -getElem?_neg]; refine hK _ _ ?_; clear hK K)
    (refine aw_ret ?_; simp (disch := first | omega | (simp only [lnS]; try omega; done)) [-getElem?_pos, -getElem?_neg, thenQ_ret, scopeQ_ret, inBlockQ_ret, RQ, resL, resV])
    exact ⟨i, hi, by rw [← hbd]; exact h6⟩
  · (refine aw_ops (by kernel_rfl) (fun K hK => ?_); simp (disch := first | omega | (simp only [lnS]; try omega; done)) [-getElem?_pos, -getElem?_neg, h1, h3, hb, hlen, c70, -notTuple, b1, b2, nt_intG, nt_strG, -xindexAddr, hx, hbG, hcb, -xlen, hxt, h6]; refine hK _ _ ?_; clear hK K)
    refine aw_f (by (first | (simp [eval_tmp, put_at, h6]; done) | (simp [eval_tmp, put_at, h6]; omega))) (by kernel_rfl) ?_
    refine aw_skip ?_
    (refine aw_ops (by kernel_rfl) (fun K hK => ?_); simp (disch := first | omega | (simp only [lnS]; try omega; done)) [-getElem?_pos, -getElem?_neg, h3]; refine hK _ _ ?_; clear hK K)
    refine ⟨c - 1, by omega, i + 1, by omega, rfl, by (first | (simp [put_at, put_none, fr0_at, h1]; done) | rfl), by (first | (simp [put_at, put_none, fr0_at]; done) | rfl), fun k hk => ?_⟩
    by_cases e : k = i
    · subst e
      rw [← hbd]
      simpa using h6
    · exact hpre k (by omega)
def greatG (l : List NodeD) : Bool := decide (110 < l.length) || (List.range l.length).any fun k => greatO (nd l k).op || decide (200 < (nd l k).past.length)
theorem greatG_rc {γ : Nat → Option Nat} {H : AH} {nv : Value} {l : List NodeD} (hN : NdA H nv l) : AC Try.prog H.length γ 10 #[nv] H (fun v' _ => v' = .bool (greatG l)) := by
  have hN' := hN
  obtain ⟨hnt, hvc, hxl, hwf, hat⟩ := hN
  unfold greatG
  refine ac_of_aw Try.func10 rfl Try.ntmps10 Try.results10 (by simp) ?_
  refine aw_seq ?_
  (refine aw_ops (by kernel_rfl) (fun K hK => ?_); simp (disch := first | omega | (simp only [lnS]; try omega; done)) [-getElem?_pos, -getElem?_neg]; refine hK _ _ ?_; clear hK K)
  refine aw_seq ?_
  refine aw_seq ?_
  by_cases hl : 110 < l.length
  · (refine aw_ops (by kernel_rfl) (fun K hK => ?_); simp (disch := first | omega | (simp only [lnS]; try omega; done)) [-getElem?_pos, -getElem?_neg, -notTuple, hnt, hvc, nt_intG, -xlen, hxl, hl]; refine hK _ _ ?_; clear hK K)
    refine aw_t (by (first | (simp [eval_tmp, put_at, hl]; done) | (simp [eval_tmp, put_at, hl]; omega))) (by kernel_rfl) ?_
    refine aw_seq ?_
    (refine aw_ops (by kernel_rfl) (fun K hK => ?_); simp (disch := first | omega | (simp only [lnS]; try omega; done)) [-getElem?_pos, -getElem?_neg]; refine hK _ _ ?_; clear hK K)
    (refine aw_ret ?_; simp (disch := first | omega | (simp only [lnS]; try omega; done)) [-getElem?_pos, -getElem?_neg, thenQ_ret, scopeQ_ret, inBlockQ_ret, RQ, resL, resV])
    all_goals simp [hl]
  have hlf : decide (110 < l.length) = false := by simpa using hl
  rw [hlf, Bool.false_or]
  (refine aw_ops (by kernel_rfl) (fun K hK => ?_); simp (disch := first | omega | (simp only [lnS]; try omega; done)) [-getElem?_pos, -getElem?_neg, -notTuple, hnt, hvc, nt_intG, -xlen, hxl, hl]; refine hK _ _ ?_; clear hK K)
  refine aw_f (by (first | (simp [eval_tmp, put_at, hl]; done) | (simp [eval_tmp, put_at, hl]; omega))) (by kernel_rfl) ?_
  refine aw_skip ?_
  refine aw_seq ?_
  refine aw_seq ?_
  (refine aw_ops (by kernel_rfl) (fun K hK => ?_); simp (disch := first | omega | (simp only [lnS]; try omega; done)) [-getElem?_pos, -getElem?_neg]; refine hK _ _ ?_; clear hK K)
  refine aw_block ?_
  obtain ⟨R, hR⟩ : ∃ R, R = ((List.range l.length).any fun k => greatO (nd l k).op || decide (200 < (nd l k).past.length)) := ⟨_, rfl⟩
  rw [← hR]
  refine aw_loop (fun c α G' => ∃ i : Nat, i + c = l.length ∧ H = G' ∧ α 0 = nv ∧ α 3 = .int .i64 (i : Nat) ∧ ∀ k, k < i → (greatO (nd l k).op || decide (200 < (nd l k).past.length)) = false) l.length ?_ ?_
  · exact ⟨0, by omega, rfl, by (first | (simp [put_at, put_none, fr0_at]; done) | rfl), by (first | (simp [put_at, put_none, fr0_at]; done) | rfl), fun k hk => by omega⟩
  rintro c α G' ⟨i, hic, rfl, h0, h3, hpre⟩
  refine aw_seq ?_
  refine aw_seq ?_
  by_cases hi : i < l.length
  case neg =>
    (refine aw_ops (by kernel_rfl) (fun K hK => ?_); simp (disch := first | omega | (simp only [lnS]; try omega; done)) [-getElem?_pos, -getElem?_neg, h0, h3, -notTuple, hnt, hvc, nt_intG, -xlen, hxl, hi]; refine hK _ _ ?_; clear hK K)
    refine aw_f (by (first | (simp [eval_tmp, put_at, hi]; done) | (simp [eval_tmp, put_at, hi]; omega))) (by kernel_rfl) ?_
    refine aw_exit ?_
    have hRf : R = false := hR.trans (any_none (fun k hk => hpre k (by omega)))
    rw [hRf]
    refine aw_seq ?_
    (refine aw_ops (by kernel_rfl) (fun K hK => ?_); simp (disch := first | omega | (simp only [lnS]; try omega; done)) [-getElem?_pos, -getElem?_neg]; refine hK _ _ ?_; clear hK K)
    (refine aw_ret ?_; simp (disch := first | omega | (simp only [lnS]; try omega; done)) [-getElem?_pos, -getElem?_neg, thenQ_ret, scopeQ_ret, inBlockQ_ret, RQ, resL, resV])
  obtain ⟨j, q, bb, us, pv, wv', bv, qv, hx, hbb, hq, hcell, hus, hC⟩ := hat i _ (nd_get hi)
  have hwfi := hwf _ (List.mem_of_getElem? (nd_get hi))
  obtain ⟨u7, hu7⟩ : ∃ u, u = (us.drop 32).take 71 := ⟨_, rfl⟩
  have hO : OpC H u7 (nd l i).op pv wv' bv := hu7 ▸ hC.op
  have hcut : (bb.cells.drop (q + 32)).take 71 = u7 := by rw [op_cut, ← hus, hu7]
  have hu7l := hO.len
  have hgo := greatO_rc (γ := γ) hO hwfi.op
  have hqv : bb.cells[q + 103]? = some qv := (hcell 103 (by omega)).trans hC.c103
  have qa := hC.past.acc
  have q1 := qa.nt
  have q2 := qa.cs
  have q3 := qa.len
  have hRt : (greatO (nd l i).op || decide (200 < (nd l i).past.length)) = true → R = true := fun e => hR.trans (any_some hi e)
  (refine aw_ops (by kernel_rfl) (fun K hK => ?_); simp (disch := first | omega | (simp only [lnS]; try omega; done)) [-getElem?_pos, -getElem?_neg, h0, h3, -notTuple, hnt, hvc, nt_intG, -xlen, hxl, hi]; refine hK _ _ ?_; clear hK K)
  refine aw_t (by (first | (simp [eval_tmp, put_at, hi]; done) | (simp [eval_tmp, put_at, hi]; omega))) (by kernel_rfl) ?_
  refine aw_skip ?_
  refine aw_seq ?_
  refine aw_block ?_
  refine aw_seq ?_
  refine aw_ops (by kernel_rfl) (fun K hK => ?_)
  simp (disch := first | omega | (simp only [lnS]; try omega; done)) [-getElem?_pos, -getElem?_neg, h0, h3, -notTuple, hnt, hvc, nt_intG, nt_aggG, -xindexAddr, hx, hbb, hcut, hu7l]
  refine ⟨by kernel_rfl, ac_of_rc hgo (by simp [pv_iv, pv_int, pv_bool, pv_string, pv_tup2, pv_tup3, iv_plain, p2_int, p2_bool, p2_string]) ?_⟩
  cases h5 : greatO (nd l i).op with
  | true =>
    try simp (disch := first | omega | (simp only [lnS]; try omega; done)) [-getElem?_pos, -getElem?_neg]
    refine hK _ _ ?_; clear hK K
    refine aw_t (by (first | (simp [eval_tmp, put_at]; done) | (simp [eval_tmp, put_at]; omega))) (by kernel_rfl) ?_
    refine aw_seq ?_
    rw [hRt (by rw [h5]; rfl)]
    (refine aw_ops (by kernel_rfl) (fun K hK => ?_); simp (disch := first | omega | (simp only [lnS]; try omega; done)) [-getElem?_pos, -getElem?_neg]; refine hK _ _ ?_; clear hK K)
    (refine aw_ret ?_; simp (disch := first | omega | (simp only [lnS]; try omega; done)) [-getElem?_pos, -getElem?_neg, thenQ_ret, scopeQ_ret, inBlockQ_ret, RQ, resL, resV])
  | false =>
    by_cases h6 : 200 < (nd l i).past.length
    · simp (disch := first | omega | (simp only [lnS]; try omega; done)) [-getElem?_pos, -getElem?_neg, h0, h3, -notTuple, hnt, hvc, q1, q2, nt_intG, -xindexAddr, hx, hbb, hqv, -xlen, q3, h6]
      refine hK _ _ ?_; clear hK K
      refine aw_t (by (first | (simp [eval_tmp, put_at]; done) | (simp [eval_tmp, put_at]; omega))) (by kernel_rfl) ?_
      refine aw_seq ?_
      rw [hRt (by rw [decide_eq_true h6, Bool.or_true])]
      (refine aw_ops (by kernel_rfl) (fun K hK => ?_); simp (disch := first | omega | (simp only [lnS]; try omega; done)) [-getElem?_pos, -getElem?_neg]; refine hK _ _ ?_; clear hK K)
      (refine aw_ret ?_; simp (disch := first | omega | (simp only [lnS]; try omega; done)) [-getElem?_pos, -getElem?_neg, thenQ_ret, scopeQ_ret, inBlockQ_ret, RQ, resL, resV])
    · simp (disch := first | omega | (simp only [lnS]; try omega; done)) [-getElem?_pos, -getElem?_neg, h0, h3, -notTuple, hnt, hvc, q1, q2, nt_intG, -xindexAddr, hx, hbb, hqv, -xlen, q3, h6]
      refine hK _ _ ?_; clear hK K
      refine aw_f (by (first | (simp [eval_tmp, put_at]; done) | (simp [eval_tmp, put_at]; omega))) (by kernel_rfl) ?_
      refine aw_skip ?_
      (refine aw_ops (by kernel_rfl) (fun K hK => ?_); simp (disch := first | omega | (simp only [lnS]; try omega; done)) [-getElem?_pos, -getElem?_neg, h3]; refine hK _ _ ?_; clear hK K)
      refine ⟨c - 1, by omega, i + 1, by omega, rfl, by (first | (simp [put_at, put_none, fr0_at, h0]; done) | rfl), by (first | (simp [put_at, put_none, fr0_at]; done) | rfl), fun k hk => ?_⟩
      by_cases e : k = i
      · subst e
        rw [h5, decide_eq_false h6]; rfl
      · exact hpre k (by omega)
end
section
theorem first_diff : ∀ {a b : List Int}, a.length = b.length → a ≠ b → ∃ p x y r s, a = p ++ x :: r ∧ b = p ++ y :: s ∧ x ≠ y
  | [], [], _, h => absurd rfl h
  | [], _ :: _, h, _ => by cases h
  | _ :: _, [], h, _ => by cases h
  | u :: a, v :: b, hl, h => by
    by_cases e : u = v
    · subst e
      obtain ⟨p, x, y, r, s, rfl, rfl, hxy⟩ := first_diff (a := a) (b := b) (by simpa using hl) (fun e => h (by rw [e]))
      exact ⟨u :: p, x, y, r, s, rfl, rfl, hxy⟩
    · exact ⟨[], u, v, a, b, rfl, rfl, e⟩
theorem lt_at (p : List Int) (x y : Int) (r s : List Int) (h : x ≠ y) : p ++ x :: r < p ++ y :: s ↔ x < y := by
  induction p with
  | nil =>
    rw [List.nil_append, List.nil_append, List.cons_lt_cons_iff]
    exact ⟨fun h2 => h2.elim id (fun h3 => absurd h3.1 h), Or.inl⟩
  | cons u p ih =>
    rw [List.cons_append, List.cons_append, List.cons_lt_cons_iff]
    exact ⟨fun h2 => h2.elim (fun h3 => absurd h3 (Int.lt_irrefl _)) (fun h3 => ih.1 h3.2), fun h2 => .inr ⟨rfl, ih.2 h2⟩⟩
theorem cmpL_lt {a b : List Int} (ha : By a) (hb : By b) (hl : a.length = b.length) : cmpL a b < 0 ↔ a < b := by
  by_cases e : a = b
  · subst e
    rw [cmpL_eq]
    exact ⟨fun h => absurd h (by omega), fun h => absurd h (List.lt_irrefl a)⟩
  · obtain ⟨p, x, y, r, s, rfl, rfl, hxy⟩ := first_diff hl e
    rw [lt_at p x y r s hxy, cmpL_at ha hb hl (i := p.length) (x := x) (y := y) (by simp) (by simp) hxy (by simp)]
    split
    · exact ⟨fun _ => by assumption, fun _ => by omega⟩
    · exact ⟨fun h => by omega, fun h => by contradiction⟩
theorem cmpL_gt {a b : List Int} (ha : By a) (hb : By b) (hl : a.length = b.length) : 0 < cmpL a b ↔ b < a := by
  by_cases e : a = b
  · subst e
    rw [cmpL_eq]
    exact ⟨fun h => absurd h (by omega), fun h => absurd h (List.lt_irrefl a)⟩
  · obtain ⟨p, x, y, r, s, rfl, rfl, hxy⟩ := first_diff hl e
    rw [lt_at p y x s r (fun e => hxy e.symm), cmpL_at ha hb hl (i := p.length) (x := x) (y := y) (by simp) (by simp) hxy (by simp)]
    split
    · exact ⟨fun h => by omega, fun h => by omega⟩
    · exact ⟨fun h => by omega, fun h => by omega⟩
theorem lt_tri {a b : List Int} (h1 : ¬ a < b) (h2 : a ≠ b) : b < a := by
  rcases List.le_total a b with h | h
  · exact Decidable.byContradiction fun h3 => h2 (List.le_antisymm h (List.not_lt.1 h1))
  · exact Decidable.byContradiction fun h3 => h2 (List.le_antisymm (List.not_lt.1 h3) (List.not_lt.1 h1))
abbrev Rise (l : List (List Int)) : Prop := l.Pairwise (· < ·)
/-- One more key put where it belongs. -/
theorem rise_put {S : List (List Int)} {x : List Int} {j : Nat} (hS : Rise S) (hj : j ≤ S.length) (hgt : ∀ s ∈ S.drop j, x < s) (hle : ∀ s, j ≠ 0 → S[j - 1]? = some s → ¬ x < s) (hx : x ∉ S) : Rise (S.take j ++ x :: S.drop j) := by
  have hS' := hS
  rw [← List.take_append_drop j S] at hS'
  obtain ⟨h1, h2, h3⟩ := List.pairwise_append.1 hS'
  refine List.pairwise_append.2 ⟨h1, List.pairwise_cons.2 ⟨hgt, h2⟩, fun a ha b hb => ?_⟩
  rcases List.mem_cons.1 hb with rfl | hb
  · cases j with
    | zero => simp at ha
    | succ j =>
      have hjl : j < S.length := by omega
      obtain ⟨s, hs⟩ : ∃ s, S[j]? = some s := ⟨_, List.getElem?_eq_getElem hjl⟩
      have hsx : s < b := lt_tri (hle s (by omega) (by simpa using hs)) (fun e => hx (by rw [e]; exact List.mem_of_getElem? hs))
      rw [List.take_add_one, hs] at ha h1
      rcases List.mem_append.1 ha with ha | ha
      · exact List.lt_trans ((List.pairwise_append.1 h1).2.2 a ha s (by simp)) hsx
      · simp at ha; subst ha; exact hsx
  · exact h3 a ha b hb
theorem put_perm {S : List (List Int)} (x : List Int) (j : Nat) : (S.take j ++ x :: S.drop j).Perm (S ++ [x]) := by
  refine List.perm_middle.trans ?_
  rw [List.take_append_drop]
  exact (List.perm_append_comm (l₁ := S) (l₂ := [x])).symm
/-- Keys, sorted. -/
def sortK (l : List (List Int)) : List (List Int) := l.mergeSort fun a b => !decide (b < a)
theorem sortK_perm (l : List (List Int)) : (sortK l).Perm l := List.mergeSort_perm _ _
theorem sortK_le (l : List (List Int)) : (sortK l).Pairwise fun a b => ¬ b < a := by
  have := List.pairwise_mergeSort (le := fun a b : List Int => !decide (b < a)) (fun a b c h1 h2 => by
    simp only [Bool.not_eq_true', decide_eq_false_iff_not] at h1 h2 ⊢
    intro h3
    by_cases e : b = c
    · subst e; exact h1 h3
    · exact h1 (List.lt_trans (lt_tri h2 (fun e2 => e e2.symm)) h3)) (fun a b => by
    by_cases h : b < a
    · have := List.lt_asymm h
      simp [h, this]
    · simp [h]) l
  exact this.imp (fun h => by simpa using h)
theorem sortK_eq {L l : List (List Int)} (hp : L.Perm l) (hs : Rise L) : L = sortK l := by
  refine List.Perm.eq_of_pairwise (le := fun a b => ¬ b < a) (fun a b _ _ h1 h2 => Decidable.byContradiction fun e => h1 (lt_tri h2 e)) (hs.imp fun h => List.lt_asymm h) (sortK_le l) (hp.trans (sortK_perm l).symm)
end
section
def hdO (o : OpD) : Bool := memI o.author && (decide (o.seq ≠ 0) && (decide (1 ≤ o.kind) && (decide (o.kind ≤ 7) && (decide (o.parents.length ≤ 8) && (decide (o.boxes.length ≤ 8) && decide (o.text.size ≤ 256))))))
theorem refO_hd (o : OpD) : refO o = (hdO o && (risesK o.parents && ((o.who.all memI && risesI o.who) && (boxesB o && kindB o (decide (o.author ∈ o.who)))))) := by
  unfold refO hdO
  simp only [Bool.and_assoc]
theorem BxV.row_at {H : AH} {v : Value} {l : List BoxD} (h : BxV H v l) (hl : ∀ b ∈ l, b.Wf) {i : Nat} {z : BoxD} (hz : l[i]? = some z) : ∃ j q bb ws, xindexAddr Try.prog 35 v (.int .i64 (i : Nat)) = some (.pointer (some ⟨j, q, none⟩)) ∧ hget H j = some bb ∧ q + 36 ≤ bb.cells.length ∧ ws = (bb.cells.drop q).take 36 ∧ (∀ c, c < 36 → bb.cells[q + c]? = ws[c]?) ∧ BoxC H ws z := by
  have hzw := hl z (List.mem_of_getElem? hz)
  obtain ⟨j, b, us, hv, hb, hle, hx, hus, hul, hle2, hc, hval⟩ := val_at (P := Try.prog) (t := 35) (e := 60) (sz := 36) h (by kernel_rfl) (by kernel_rfl) (by omega) (fun row hr => by
    obtain ⟨y, hy, rfl⟩ := List.mem_map.1 hr
    have := (hl y hy).pub.1
    simp [BoxD.row, kd, this]) (i := i) (row := z.row) (by rw [List.getElem?_map, hz]; rfl)
  exact ⟨j, i * 36, b, us, hx, hb, hle2, hus, hc, box_c hzw hval⟩
theorem all_false {β : Type} {l : List β} {p : β → Bool} {i : Nat} {z : β} (hz : l[i]? = some z) (h : p z = false) : l.all p = false := by
  rw [List.all_eq_false]
  exact ⟨z, List.mem_of_getElem? hz, by rw [h]; decide⟩
theorem all_take {β : Type} {l : List β} {p : β → Bool} (h : ∀ (k : Nat) (z : β), l[k]? = some z → p z = true) : l.all p = true := by
  rw [List.all_eq_true]
  intro z hz
  obtain ⟨k, hk⟩ := List.getElem?_of_mem hz
  exact h k z hk
theorem range_false {n i : Nat} {p : Nat → Bool} (hi : i < n) (h : p i = false) : (List.range n).all p = false := by
  rw [List.all_eq_false]
  exact ⟨i, List.mem_range.2 hi, by rw [h]; decide⟩
theorem range_true {n : Nat} {p : Nat → Bool} (h : ∀ i, i < n → p i = true) : (List.range n).all p = true := by
  rw [List.all_eq_true]
  exact fun i hi => h i (List.mem_range.1 hi)
theorem getD_of {β : Type} {l : List β} {i : Nat} {z d : β} (h : l[i]? = some z) : l.getD i d = z := by rw [List.getD_eq_getElem?_getD, h]; rfl
attribute [local simp] wb_bool wb_undef with_lit XL_nil XL_cons XLc_val XLc_call step1_eq stepW_t stepW_f stepC_n stepC_s stepX_s stepX_n stepN_s calleeX oneV xop_eq xopR_s xopR_n wantedA_eq wantedG_n wantedG_s plain1_int plain1_bool plain1_string bits_i64 bits_u64 bits_u32 bits_u16 bits_u8 xeqA xagg xcmp xarr allK_iv num_iv calleeOf xread xeff xbin xint xnil xun xstr xload xconv xpart xfield xfieldAddr xindexAddr xindex bnd asInt? xslice xlen xmin xmax xbuild xfill xappend xapp2 xappstr xappmk xcap xcopy xcells eval_tmp eval_const put_at put_none fr0_at cells_agg cells_int cells_bool cells_string cells_ptr cells_slice notTuple tab iv_all hget_app hget_app0 hget_cons0 hget_cons set_app set_app0 setR setR_one QL_nil QL_cons QLc_val stepQ_t stepQ_f stepQC_n stepQC_s stepQX_s SL_nil SL_cons SLc_val stepS_t stepS_f ltT ltF leT leF eqT eqF ltTn ltFn leTn leFn eqTn eqFn beqT beqF bneT bneF wi64 wu64 wu32 wu16 wu8 tmodP tdivP hgetL hgetNe hgetEq setL nums_def nums_len Nat.succ_le_of_lt List.getElem?_cons_zero List.getElem?_cons_succ Option.getD_some Int.toNat_add Int.toNat_mul agM okM agB agI agS agP agL agA okB okI okS okP okSl okA
theorem member_vc (z : Int) : VC Try.prog 56 #[.int .i64 z] (.bool (memI z)) := by
  refine vc_of_ac (by simp [pv_iv, pv_int, pv_bool, pv_string, pv_tup2, pv_tup3, iv_plain, p2_int, p2_bool, p2_string]) (by simp [pv_iv, pv_int, pv_bool, pv_string, pv_tup2, pv_tup3, iv_plain, p2_int, p2_bool, p2_string]) ?_
  refine ac_of_aw Try.func56 rfl Try.ntmps56 Try.results56 (by simp) ?_
  refine aw_seq ?_
  (refine aw_ops (by kernel_rfl) (fun K hK => ?_); simp (disch := first | omega | (simp only [lnS]; try omega; done)) [-getElem?_pos, -getElem?_neg]; refine hK _ _ ?_; clear hK K)
  refine aw_seq ?_
  by_cases h : 0 ≤ z
  · by_cases h2 : z ≤ 7
    · (refine aw_ops (by kernel_rfl) (fun K hK => ?_); simp (disch := first | omega | (simp only [lnS]; try omega; done)) [-getElem?_pos, -getElem?_neg, h, h2]; refine hK _ _ ?_; clear hK K)
      (refine aw_ret ?_; simp (disch := first | omega | (simp only [lnS]; try omega; done)) [-getElem?_pos, -getElem?_neg, thenQ_ret, scopeQ_ret, inBlockQ_ret, RQ, resL, resV])
      simp [memI, h]; omega
    · (refine aw_ops (by kernel_rfl) (fun K hK => ?_); simp (disch := first | omega | (simp only [lnS]; try omega; done)) [-getElem?_pos, -getElem?_neg, h, h2]; refine hK _ _ ?_; clear hK K)
      (refine aw_ret ?_; simp (disch := first | omega | (simp only [lnS]; try omega; done)) [-getElem?_pos, -getElem?_neg, thenQ_ret, scopeQ_ret, inBlockQ_ret, RQ, resL, resV])
      simp [memI, h]; omega
  · (refine aw_ops (by kernel_rfl) (fun K hK => ?_); simp (disch := first | omega | (simp only [lnS]; try omega; done)) [-getElem?_pos, -getElem?_neg, h]; refine hK _ _ ?_; clear hK K)
    (refine aw_ret ?_; simp (disch := first | omega | (simp only [lnS]; try omega; done)) [-getElem?_pos, -getElem?_neg, thenQ_ret, scopeQ_ret, inBlockQ_ret, RQ, resL, resV])
    simp [memI, h]
theorem rRight_rc {γ : Nat → Option Nat} {H : AH} {us : List Value} {o : OpD} {pv wv bv : Value} (h : OpC H us o pv wv bv) (hw : o.Wf) : AC Try.prog H.length γ 31 #[.agg us.toArray] H (fun v' _ => v' = .bool (refO o)) := by
  have hul := h.len
  have htu : us.take 71 = us := List.take_of_length_le (by omega)
  have hps := hw.plen
  have hws := hw.wlen
  have hbs := hw.blen
  have hts := hw.text
  have hm63 : o.parents.length ≤ 9223372036854775807 ∧ o.who.length ≤ 9223372036854775807 ∧ o.boxes.length ≤ 9223372036854775807 ∧ o.text.size ≤ 9223372036854775807 := by simp only [maxLen] at hps hws hbs hts; omega
  obtain ⟨m1, m2, m3, m4⟩ := hm63
  refine ac_of_aw Try.func31 rfl Try.ntmps31 Try.results31 (by simp) ?_
  refine aw_seq ?_
  (refine aw_ops (by kernel_rfl) (fun K hK => ?_); simp (disch := first | omega | (simp only [lnS]; try omega; done)) [-getElem?_pos, -getElem?_neg, hul, nt_aggG]; refine hK _ _ ?_; clear hK K)
  obtain ⟨hlow, hb⟩ := boxed (H := H) us 37
  obtain ⟨n, hn⟩ : ∃ n, n = H.length := ⟨_, rfl⟩
  rw [← hn] at hb hlow ⊢
  generalize H ++ [some ⟨us, 37, none⟩] = G at *
  have hG : OpC G us o pv wv bv := h.low (fun j hj => hlow.1 j (by omega))
  have hpacc := hG.parents.acc (fun k hk => (hw.parents k hk).1)
  have hwacc := hG.who.acc
  have hbx := hG.boxes
  have hbnt := val_nt hbx
  have hblen := val_len (P := Try.prog) (t := 35) (e := 60) hbx (by kernel_rfl)
  rw [List.length_map] at hblen
  have c0 := hG.c0
  have c1 := hG.c1
  have c2 := hG.c2
  have c3 := hG.c3
  have c4 := hG.c4
  have c69 := hG.c69
  have c70 := hG.c70
  have p1 := hpacc.nt
  have p2 := hpacc.cs
  have p3 := hpacc.len
  have w1 := hwacc.nt
  have w2 := hwacc.cs
  have w3 := hwacc.len
  obtain ⟨b1, b2⟩ := hbnt
  have hx2 : xload Try.prog 30 (.pointer (some ⟨n, 2, none⟩)) G = some pv := by simp [xload, hb, c2]
  have hx4 : xload Try.prog 34 (.pointer (some ⟨n, 4, none⟩)) G = some wv := by simp [xload, hb, c4]
  have hx70 : xload Try.prog 35 (.pointer (some ⟨n, 70, none⟩)) G = some bv := by simp [xload, hb, c70]
  have hsq := hw.seq
  unfold U32 at hsq
  refine aw_seq ?_
  refine aw_seq ?_
  refine aw_cut (fun α G2 => α 44 = .bool (!hdO o) ∧ α 1 = .pointer (some ⟨n, 0, none⟩) ∧ G2 = G) ?_ ?_
  · refine aw_ops (by kernel_rfl) (fun K hK => ?_)
    simp (disch := first | omega | (simp only [lnS]; try omega; done)) [-getElem?_pos, -getElem?_neg, hb, hul, c0]
    refine ⟨by kernel_rfl, ac_of_vc (by simp [pv_iv, pv_int, pv_bool, pv_string, pv_tup2, pv_tup3, iv_plain, p2_int, p2_bool, p2_string]) (member_vc o.author) ?_⟩
    cases h1 : memI o.author with
    | false =>
      try simp (disch := first | omega | (simp only [lnS]; try omega; done)) [-getElem?_pos, -getElem?_neg]
      refine hK _ _ ?_; clear hK K
      exact ⟨by simp [hdO, h1, put_at], by (first | (simp [put_at, put_none, fr0_at]; done) | rfl), rfl⟩
    | true =>
    by_cases h2 : o.seq = 0
    · have h2b : (o.seq == 0) = true := by simp [h2]
      simp (disch := first | omega | (simp only [lnS]; try omega; done)) [-getElem?_pos, -getElem?_neg, hb, hul, c1, h2, h2b]
      refine hK _ _ ?_; clear hK K
      exact ⟨by simp [hdO, h1, h2, put_at], by (first | (simp [put_at, put_none, fr0_at]; done) | rfl), rfl⟩
    have h2b : (o.seq == 0) = false := by simp [h2]
    by_cases h3 : 1 ≤ o.kind
    case neg =>
      have h3b : o.kind < 1 := by omega
      simp (disch := first | omega | (simp only [lnS]; try omega; done)) [-getElem?_pos, -getElem?_neg, hb, hul, c1, c3, h2, h2b, h3b]
      refine hK _ _ ?_; clear hK K
      exact ⟨by simp [hdO, h1, h2, h3, put_at], by (first | (simp [put_at, put_none, fr0_at]; done) | rfl), rfl⟩
    have h3b : ¬ o.kind < 1 := by omega
    by_cases h4 : o.kind ≤ 7
    case neg =>
      have h4b : 7 < o.kind := by omega
      simp (disch := first | omega | (simp only [lnS]; try omega; done)) [-getElem?_pos, -getElem?_neg, hb, hul, c1, c3, h2, h2b, h3b, h4b]
      refine hK _ _ ?_; clear hK K
      exact ⟨by simp [hdO, h1, h2, h3, h4, put_at], by (first | (simp [put_at, put_none, fr0_at]; done) | rfl), rfl⟩
    have h4b : ¬ 7 < o.kind := by omega
    by_cases h5 : o.parents.length ≤ 8
    case neg =>
      have h5b : 8 < o.parents.length := by omega
      simp (disch := first | omega | (simp only [lnS]; try omega; done)) [-getElem?_pos, -getElem?_neg, hb, hul, c1, c2, c3, h2, h2b, h3b, h4b, h5b, -notTuple, p1, p2, nt_intG, nt_ptrG, -xlen, p3]
      refine hK _ _ ?_; clear hK K
      exact ⟨by simp [hdO, h1, h2, h3, h4, h5, put_at], by (first | (simp [put_at, put_none, fr0_at]; done) | rfl), rfl⟩
    have h5b : ¬ 8 < o.parents.length := by omega
    by_cases h6 : o.boxes.length ≤ 8
    case neg =>
      have h6b : 8 < o.boxes.length := by omega
      simp (disch := first | omega | (simp only [lnS]; try omega; done)) [-getElem?_pos, -getElem?_neg, hb, hul, c1, c2, c3, c70, h2, h2b, h3b, h4b, h5b, h6b, -notTuple, p1, p2, b1, b2, nt_intG, nt_ptrG, -xlen, p3, hblen]
      refine hK _ _ ?_; clear hK K
      exact ⟨by simp [hdO, h1, h2, h3, h4, h5, h6, put_at], by (first | (simp [put_at, put_none, fr0_at]; done) | rfl), rfl⟩
    have h6b : ¬ 8 < o.boxes.length := by omega
    have hxt : xlen Try.prog 9 (.string o.text) = some (.int .i64 o.text.size) := by simp [xlen]
    by_cases h7 : o.text.size ≤ 256
    · have h7b : ¬ 256 < o.text.size := by omega
      simp (disch := first | omega | (simp only [lnS]; try omega; done)) [-getElem?_pos, -getElem?_neg, hb, hul, c1, c2, c3, c69, c70, h2, h2b, h3b, h4b, h5b, h6b, h7b, -notTuple, p1, p2, b1, b2, nt_intG, nt_ptrG, nt_strG, -xlen, p3, hblen, hxt]
      refine hK _ _ ?_; clear hK K
      exact ⟨by simp [hdO, h1, h2, h3, h4, h5, h6, h7, put_at], by (first | (simp [put_at, put_none, fr0_at]; done) | rfl), rfl⟩
    · have h7b : 256 < o.text.size := by omega
      simp (disch := first | omega | (simp only [lnS]; try omega; done)) [-getElem?_pos, -getElem?_neg, hb, hul, c1, c2, c3, c69, c70, h2, h2b, h3b, h4b, h5b, h6b, h7b, -notTuple, p1, p2, b1, b2, nt_intG, nt_ptrG, nt_strG, -xlen, p3, hblen, hxt]
      refine hK _ _ ?_; clear hK K
      exact ⟨by simp [hdO, h1, h2, h3, h4, h5, h6, h7, put_at], by (first | (simp [put_at, put_none, fr0_at]; done) | rfl), rfl⟩
  rintro α G2 ⟨q44, q1, rfl⟩
  have hrf := refO_hd o
  cases hhd : hdO o with
  | false =>
    rw [hhd] at q44 hrf
    refine aw_t (by (first | (simp [eval_tmp, put_at, q44]; done) | (simp [eval_tmp, put_at, q44]; omega))) (by kernel_rfl) ?_
    refine aw_seq ?_
    (refine aw_ops (by kernel_rfl) (fun K hK => ?_); simp (disch := first | omega | (simp only [lnS]; try omega; done)) [-getElem?_pos, -getElem?_neg]; refine hK _ _ ?_; clear hK K)
    (refine aw_ret ?_; simp (disch := first | omega | (simp only [lnS]; try omega; done)) [-getElem?_pos, -getElem?_neg, thenQ_ret, scopeQ_ret, inBlockQ_ret, RQ, resL, resV])
    rw [hrf]; rfl
  | true =>
  rw [hhd, Bool.true_and] at hrf
  rw [hhd] at q44
  refine aw_f (by (first | (simp [eval_tmp, put_at, q44]; done) | (simp [eval_tmp, put_at, q44]; omega))) (by kernel_rfl) ?_
  refine aw_skip ?_
  -- the parents
  refine aw_seq ?_
  refine aw_seq ?_
  (refine aw_ops (by kernel_rfl) (fun K hK => ?_); simp (disch := first | omega | (simp only [lnS]; try omega; done)) [-getElem?_pos, -getElem?_neg]; refine hK _ _ ?_; clear hK K)
  refine aw_block ?_
  refine aw_loop (fun c α G => ∃ i : Nat, 1 ≤ i ∧ i + c = o.parents.length + 1 ∧ α 1 = .pointer (some ⟨n, 0, none⟩) ∧ α 3 = .int .i64 (i : Nat) ∧ G = G2 ∧ ∀ k, k + 1 < i → cmpL (o.parents.getD k []) (o.parents.getD (k + 1) []) < 0) o.parents.length ?_ ?_
  · exact ⟨1, by omega, by omega, by (first | (simp [put_at, put_none, fr0_at, q1]; done) | rfl), by (first | (simp [put_at, put_none, fr0_at]; done) | rfl), rfl, fun k hk => by omega⟩
  clear q1 q44
  rintro c α G ⟨i, hi1, hic, q1, q3, rfl, hpre⟩
  refine aw_seq ?_
  refine aw_seq ?_
  by_cases hi : i < o.parents.length
  case pos =>
    obtain ⟨x0, y0, r1, r2, r3, r4, r5⟩ := hpacc.at_ (i - 1) (by omega)
    obtain ⟨x1, y1, s1, s2, s3, s4, s5⟩ := hpacc.at_ i hi
    subst r4 s4
    have r5 := r5 G (Low.refl (Nat.le_refl _))
    have s5 := s5 G (Low.refl (Nat.le_refl _))
    have hk0 := hw.parents (o.parents.getD (i - 1) []) (by rw [List.getD_eq_getElem?_getD, List.getElem?_eq_getElem (show i - 1 < o.parents.length by omega)]; exact List.getElem_mem _)
    have hk1 := hw.parents (o.parents.getD i []) (by rw [List.getD_eq_getElem?_getD, List.getElem?_eq_getElem hi]; exact List.getElem_mem _)
    have hsub : (i : Int) - 1 = ((i - 1 : Nat) : Int) := by omega
    have hls := less_vc _ _ hk0.1 hk1.1 hk0.2 hk1.2
    have hgt := cmpL_gt hk1.2 hk0.2 (by rw [hk1.1, hk0.1])
    have hlt := cmpL_lt hk0.2 hk1.2 (by rw [hk1.1, hk0.1])
    have hnx : cmpL (o.parents.getD (i - 1) []) (o.parents.getD (i - 1 + 1) []) = cmpL (o.parents.getD (i - 1) []) (o.parents.getD i []) := by rw [show i - 1 + 1 = i by omega]
    (refine aw_ops (by kernel_rfl) (fun K hK => ?_); simp (disch := first | omega | (simp only [lnS]; try omega; done)) [-getElem?_pos, -getElem?_neg, q1, q3, hb, hul, c2, -notTuple, p1, p2, nt_intG, nt_ptrG, -xlen, p3, hi]; refine hK _ _ ?_; clear hK K)
    refine aw_t (by (first | (simp [eval_tmp, put_at, hi]; done) | (simp [eval_tmp, put_at, hi]; omega))) (by kernel_rfl) ?_
    refine aw_skip ?_
    refine aw_seq ?_
    refine aw_block ?_
    refine aw_seq ?_
    have e1 : (0 : Int) < cmpL (o.parents.getD i []) (o.parents.getD (i - 1) []) ↔ cmpL (o.parents.getD (i - 1) []) (o.parents.getD i []) < 0 := hgt.trans hlt.symm
    generalize hA : o.parents.getD (i - 1) [] = A at *
    generalize hB : o.parents.getD i [] = B at *
    (refine aw_plan [] [] [0, 1, 2, 3, 4, 5, 6, 7, 8, 9, 10, 11, 12] 13 0 (by kernel_rfl) (by kernel_rfl) (by kernel_rfl) (fun K hK => ?_)); simp only [sel, List.getElem?_cons_succ, List.getElem?_cons_zero, List.drop_succ_cons, List.drop_zero]; simp (disch := first | omega | (simp only [lnS]; try omega; done)) [-getElem?_pos, -getElem?_neg, q1, q3, hb, hul, c2, hsub, -notTuple, p1, p2, r1, s1, r3, s3, nt_intG, nt_ptrG, nt_aggG, -xindexAddr, r2, s2, -xload, hx2, r5, s5, PL_nil, plainB_lit, PL_cons, PLc_val, PLc_new, stepP_t, stepP_f, stepPC_n, stepPC_s, stepPX_s, stepPX_n, stepPV_n, stepPV_s, stepPA_t, stepPA_c, stepPA_l, stepPN_s, allocOp, reloc_sl, reloc_ptr, List.map_cons, List.map_nil, List.nil_append, List.append_assoc, List.cons_append, Nat.add_assoc]
    refine PLc_call (v := .bool (decide (0 < cmpL B A))) (by kernel_rfl) (fun L hL => ac_of_vc (by simp [pv_iv, pv_int, pv_bool, pv_string, pv_tup2, pv_tup3, iv_plain, p2_int, p2_bool, p2_string]) hls rfl) (by simp [pv_iv, pv_int, pv_bool, pv_string, pv_tup2, pv_tup3, iv_plain, p2_int, p2_bool, p2_string]) ?_
    by_cases hlt2 : 0 < cmpL B A
    · simp (disch := first | omega | (simp only [lnS]; try omega; done)) [-getElem?_pos, -getElem?_neg, hlt2, PL_nil, plainB_lit, PL_cons, PLc_val, PLc_new, stepP_t, stepP_f, stepPC_n, stepPC_s, stepPX_s, stepPX_n, stepPV_n, stepPV_s, stepPA_t, stepPA_c, stepPA_l, stepPN_s, allocOp, reloc_sl, reloc_ptr, List.map_cons, List.map_nil, List.nil_append, List.append_assoc, List.cons_append, Nat.add_assoc]
      refine hK _ _ ?_; clear hK K
      refine aw_f (by (first | (simp [eval_tmp, put_at, hlt2]; done) | (simp [eval_tmp, put_at, hlt2]; omega))) (by kernel_rfl) ?_
      refine aw_skip ?_
      (refine aw_ops (by kernel_rfl) (fun K hK => ?_); simp (disch := first | omega | (simp only [lnS]; try omega; done)) [-getElem?_pos, -getElem?_neg, q3]; refine hK _ _ ?_; clear hK K)
      refine ⟨c - 1, by omega, i + 1, by omega, by omega, by (first | (simp [put_at, put_none, fr0_at, q1]; done) | rfl), by (first | (simp [put_at, put_none, fr0_at]; done) | rfl), rfl, fun k hk => ?_⟩
      by_cases e : k = i - 1
      · subst e
        rw [hA, hnx]
        exact e1.1 hlt2
      · exact hpre k (by omega)
    · simp (disch := first | omega | (simp only [lnS]; try omega; done)) [-getElem?_pos, -getElem?_neg, hlt2, PL_nil, plainB_lit, PL_cons, PLc_val, PLc_new, stepP_t, stepP_f, stepPC_n, stepPC_s, stepPX_s, stepPX_n, stepPV_n, stepPV_s, stepPA_t, stepPA_c, stepPA_l, stepPN_s, allocOp, reloc_sl, reloc_ptr, List.map_cons, List.map_nil, List.nil_append, List.append_assoc, List.cons_append, Nat.add_assoc]
      refine hK _ _ ?_; clear hK K
      refine aw_t (by (first | (simp [eval_tmp, put_at, hlt2]; done) | (simp [eval_tmp, put_at, hlt2]; omega))) (by kernel_rfl) ?_
      refine aw_seq ?_
      (refine aw_ops (by kernel_rfl) (fun K hK => ?_); simp (disch := first | omega | (simp only [lnS]; try omega; done)) [-getElem?_pos, -getElem?_neg]; refine hK _ _ ?_; clear hK K)
      (refine aw_ret ?_; simp (disch := first | omega | (simp only [lnS]; try omega; done)) [-getElem?_pos, -getElem?_neg, thenQ_ret, scopeQ_ret, inBlockQ_ret, RQ, resL, resV])
      rw [hrf]
      have : risesK o.parents = false := by
        unfold risesK
        refine range_false (i := i - 1) (by omega) ?_
        rw [hA, hnx, decide_eq_false_iff_not]
        exact fun hh => hlt2 (e1.2 hh)
      rw [this]; rfl
  (refine aw_ops (by kernel_rfl) (fun K hK => ?_); simp (disch := first | omega | (simp only [lnS]; try omega; done)) [-getElem?_pos, -getElem?_neg, q1, q3, hb, hul, c2, -notTuple, p1, p2, nt_intG, nt_ptrG, -xlen, p3, hi]; refine hK _ _ ?_; clear hK K)
  refine aw_f (by (first | (simp [eval_tmp, put_at, hi]; done) | (simp [eval_tmp, put_at, hi]; omega))) (by kernel_rfl) ?_
  refine aw_exit ?_
  have hrK : risesK o.parents = true := by
    unfold risesK
    exact range_true fun k hk => by
      rw [decide_eq_true_eq]
      exact hpre k (by omega)
  rw [hrK, Bool.true_and] at hrf
  -- who
  refine aw_seq ?_
  (refine aw_ops (by kernel_rfl) (fun K hK => ?_); simp (disch := first | omega | (simp only [lnS]; try omega; done)) [-getElem?_pos, -getElem?_neg]; refine hK _ _ ?_; clear hK K)
  refine aw_seq ?_
  refine aw_seq ?_
  (refine aw_ops (by kernel_rfl) (fun K hK => ?_); simp (disch := first | omega | (simp only [lnS]; try omega; done)) [-getElem?_pos, -getElem?_neg]; refine hK _ _ ?_; clear hK K)
  refine aw_block ?_
  refine aw_loop (fun c α G2 => ∃ i : Nat, i + c = o.who.length ∧ α 1 = .pointer (some ⟨n, 0, none⟩) ∧ α 4 = .bool (decide (o.author ∈ o.who.take i)) ∧ α 5 = .int .i64 (i : Nat) ∧ G2 = G ∧ (∀ k z, k < i → o.who[k]? = some z → memI z = true) ∧ ∀ k, k + 1 < i → o.who.getD k 0 < o.who.getD (k + 1) 0) o.who.length ?_ ?_
  · exact ⟨0, by omega, by (first | (simp [put_at, put_none, fr0_at, q1]; done) | rfl), by simp [put_at], by (first | (simp [put_at, put_none, fr0_at]; done) | rfl), rfl, fun k z hk => by omega, fun k hk => by omega⟩
  clear q1 q3
  rintro c α G3 ⟨i, hic, q1, q4, q5, rfl, hmem, hrise⟩
  refine aw_seq ?_
  refine aw_seq ?_
  by_cases hi : i < o.who.length
  case pos =>
    obtain ⟨x1, y1, s1, s2, s3, s4, s5⟩ := hwacc.at_ i hi
    subst s4
    have s5 := s5 G3 (Low.refl (Nat.le_refl _))
    obtain ⟨z, hz⟩ : ∃ z, o.who[i]? = some z := ⟨_, List.getElem?_eq_getElem hi⟩
    have hzd : o.who.getD i 0 = z := getD_of hz
    have hzb := hw.who z (List.mem_of_getElem? hz)
    have htk : o.who.take (i + 1) = o.who.take i ++ [z] := by rw [List.take_add_one, hz]; rfl
    rw [hzd] at s5 s3
    (refine aw_ops (by kernel_rfl) (fun K hK => ?_); simp (disch := first | omega | (simp only [lnS]; try omega; done)) [-getElem?_pos, -getElem?_neg, q1, q5, hb, hul, c4, -notTuple, w1, w2, nt_intG, nt_ptrG, -xlen, w3, hi]; refine hK _ _ ?_; clear hK K)
    refine aw_t (by (first | (simp [eval_tmp, put_at, hi]; done) | (simp [eval_tmp, put_at, hi]; omega))) (by kernel_rfl) ?_
    refine aw_skip ?_
    refine aw_seq ?_
    refine aw_block ?_
    refine aw_seq ?_
    refine aw_cut (fun α G2 => α 1 = .pointer (some ⟨n, 0, none⟩) ∧ α 4 = .bool (decide (o.author ∈ o.who.take i)) ∧ α 5 = .int .i64 (i : Nat) ∧ G2 = G3 ∧ memI z = true ∧ (0 < i → o.who.getD (i - 1) 0 < z)) ?_ ?_
    · refine aw_seq ?_
      (refine aw_plan [] [] [0, 1, 2, 3, 4, 5, 6, 7, 8, 9, 10, 11, 12, 13, 14, 15, 16, 17, 18, 19, 20, 21, 22, 23, 24] 25 0 (by kernel_rfl) (by kernel_rfl) (by kernel_rfl) (fun K hK => ?_)); simp only [sel, List.getElem?_cons_succ, List.getElem?_cons_zero, List.drop_succ_cons, List.drop_zero]; simp (disch := first | omega | (simp only [lnS]; try omega; done)) [-getElem?_pos, -getElem?_neg, q1, q5, hb, hul, c4, -notTuple, w1, w2, s1, s3, nt_intG, nt_ptrG, -xindexAddr, s2, -xload, hx4, s5, PL_nil, plainB_lit, PL_cons, PLc_val, PLc_new, stepP_t, stepP_f, stepPC_n, stepPC_s, stepPX_s, stepPX_n, stepPV_n, stepPV_s, stepPA_t, stepPA_c, stepPA_l, stepPN_s, allocOp, reloc_sl, reloc_ptr, List.map_cons, List.map_nil, List.nil_append, List.append_assoc, List.cons_append, Nat.add_assoc]
      refine PLc_call (v := .bool (memI z)) (by kernel_rfl) (fun L hL => ac_of_vc (by simp [pv_iv, pv_int, pv_bool, pv_string, pv_tup2, pv_tup3, iv_plain, p2_int, p2_bool, p2_string]) (member_vc z) rfl) (by simp [pv_iv, pv_int, pv_bool, pv_string, pv_tup2, pv_tup3, iv_plain, p2_int, p2_bool, p2_string]) ?_
      have hbadW : (o.who.all memI && risesI o.who) = false → (risesK o.parents && ((o.who.all memI && risesI o.who) && (boxesB o && kindB o (decide (o.author ∈ o.who))))) = false := fun hh => by rw [hh]; simp
      cases hmz : memI z with
      | false =>
        simp (disch := first | omega | (simp only [lnS]; try omega; done)) [-getElem?_pos, -getElem?_neg, PL_nil, plainB_lit, PL_cons, PLc_val, PLc_new, stepP_t, stepP_f, stepPC_n, stepPC_s, stepPX_s, stepPX_n, stepPV_n, stepPV_s, stepPA_t, stepPA_c, stepPA_l, stepPN_s, allocOp, reloc_sl, reloc_ptr, List.map_cons, List.map_nil, List.nil_append, List.append_assoc, List.cons_append, Nat.add_assoc]
        refine hK _ _ ?_; clear hK K
        refine aw_t (by (first | (simp [eval_tmp, put_at]; done) | (simp [eval_tmp, put_at]; omega))) (by kernel_rfl) ?_
        refine aw_seq ?_
        (refine aw_ops (by kernel_rfl) (fun K hK => ?_); simp (disch := first | omega | (simp only [lnS]; try omega; done)) [-getElem?_pos, -getElem?_neg]; refine hK _ _ ?_; clear hK K)
        (refine aw_ret ?_; simp (disch := first | omega | (simp only [lnS]; try omega; done)) [-getElem?_pos, -getElem?_neg, thenQ_ret, scopeQ_ret, inBlockQ_ret, RQ, resL, resV])
        rw [hrf, all_false hz hmz]; simp
      | true =>
      by_cases hi0 : 0 < i
      case neg =>
        simp (disch := first | omega | (simp only [lnS]; try omega; done)) [-getElem?_pos, -getElem?_neg, q1, q5, hb, hul, c4, -notTuple, w1, w2, s1, s3, nt_intG, nt_ptrG, -xindexAddr, s2, -xload, hx4, s5, hi0, PL_nil, plainB_lit, PL_cons, PLc_val, PLc_new, stepP_t, stepP_f, stepPC_n, stepPC_s, stepPX_s, stepPX_n, stepPV_n, stepPV_s, stepPA_t, stepPA_c, stepPA_l, stepPN_s, allocOp, reloc_sl, reloc_ptr, List.map_cons, List.map_nil, List.nil_append, List.append_assoc, List.cons_append, Nat.add_assoc]
        refine hK _ _ ?_; clear hK K
        refine aw_f (by (first | (simp [eval_tmp, put_at]; done) | (simp [eval_tmp, put_at]; omega))) (by kernel_rfl) ?_
        refine aw_skip ?_
        exact ⟨by (first | (simp [put_at, put_none, fr0_at, q1]; done) | rfl), by (first | (simp [put_at, put_none, fr0_at, q4]; done) | rfl), by (first | (simp [put_at, put_none, fr0_at, q5]; done) | rfl), rfl, hmz, fun hh => absurd hh hi0⟩
      obtain ⟨x0, y0, r1, r2, r3, r4, r5⟩ := hwacc.at_ (i - 1) (by omega)
      subst r4
      have r5 := r5 G3 (Low.refl (Nat.le_refl _))
      have hsub : (i : Int) - 1 = ((i - 1 : Nat) : Int) := by omega
      obtain ⟨y, hy⟩ : ∃ y, o.who[i - 1]? = some y := ⟨_, List.getElem?_eq_getElem (by omega)⟩
      have hyd : o.who.getD (i - 1) 0 = y := getD_of hy
      rw [hyd] at r5 r3
      by_cases hyz : y < z
      · have hyz2 : ¬ z ≤ y := by omega
        simp (disch := first | omega | (simp only [lnS]; try omega; done)) [-getElem?_pos, -getElem?_neg, q1, q5, hb, hul, c4, -notTuple, w1, w2, s1, s3, nt_intG, nt_ptrG, -xindexAddr, s2, -xload, hx4, s5, hi0, hsub, r1, r3, r2, r5, hyz2, PL_nil, plainB_lit, PL_cons, PLc_val, PLc_new, stepP_t, stepP_f, stepPC_n, stepPC_s, stepPX_s, stepPX_n, stepPV_n, stepPV_s, stepPA_t, stepPA_c, stepPA_l, stepPN_s, allocOp, reloc_sl, reloc_ptr, List.map_cons, List.map_nil, List.nil_append, List.append_assoc, List.cons_append, Nat.add_assoc]
        refine hK _ _ ?_; clear hK K
        refine aw_f (by (first | (simp [eval_tmp, put_at, hyz2]; done) | (simp [eval_tmp, put_at, hyz2]; omega))) (by kernel_rfl) ?_
        refine aw_skip ?_
        exact ⟨by (first | (simp [put_at, put_none, fr0_at, q1]; done) | rfl), by (first | (simp [put_at, put_none, fr0_at, q4]; done) | rfl), by (first | (simp [put_at, put_none, fr0_at, q5]; done) | rfl), rfl, hmz, fun _ => by rw [hyd]; exact hyz⟩
      · have hyz2 : z ≤ y := by omega
        simp (disch := first | omega | (simp only [lnS]; try omega; done)) [-getElem?_pos, -getElem?_neg, q1, q5, hb, hul, c4, -notTuple, w1, w2, s1, s3, nt_intG, nt_ptrG, -xindexAddr, s2, -xload, hx4, s5, hi0, hsub, r1, r3, r2, r5, hyz2, PL_nil, plainB_lit, PL_cons, PLc_val, PLc_new, stepP_t, stepP_f, stepPC_n, stepPC_s, stepPX_s, stepPX_n, stepPV_n, stepPV_s, stepPA_t, stepPA_c, stepPA_l, stepPN_s, allocOp, reloc_sl, reloc_ptr, List.map_cons, List.map_nil, List.nil_append, List.append_assoc, List.cons_append, Nat.add_assoc]
        refine hK _ _ ?_; clear hK K
        refine aw_t (by (first | (simp [eval_tmp, put_at, hyz2]; done) | (simp [eval_tmp, put_at, hyz2]; omega))) (by kernel_rfl) ?_
        refine aw_seq ?_
        (refine aw_ops (by kernel_rfl) (fun K hK => ?_); simp (disch := first | omega | (simp only [lnS]; try omega; done)) [-getElem?_pos, -getElem?_neg]; refine hK _ _ ?_; clear hK K)
        (refine aw_ret ?_; simp (disch := first | omega | (simp only [lnS]; try omega; done)) [-getElem?_pos, -getElem?_neg, thenQ_ret, scopeQ_ret, inBlockQ_ret, RQ, resL, resV])
        have : risesI o.who = false := by
          unfold risesI
          refine range_false (i := i - 1) (by omega) ?_
          rw [decide_eq_false_iff_not, show i - 1 + 1 = i by omega, hyd, hzd, cmpI_lt]
          omega
        rw [hrf, this]; simp
    clear q1 q4 q5
    rintro α G4 ⟨q1, q4, q5, rfl, hmz, hrz⟩
    have hau : decide (o.author ∈ o.who.take (i + 1)) = (decide (o.author ∈ o.who.take i) || decide (z = o.author)) := by
      rw [htk, Bool.eq_iff_iff, Bool.or_eq_true, decide_eq_true_eq, decide_eq_true_eq, decide_eq_true_eq, List.mem_append, List.mem_singleton, eq_comm (a := o.author) (b := z)]
    have hm2 : ∀ k z, k < i + 1 → o.who[k]? = some z → memI z = true := fun k z' hk hz' => by
      by_cases e : k = i
      · subst e
        rw [hz] at hz'
        cases hz'
        exact hmz
      · exact hmem k z' (by omega) hz'
    have hr2 : ∀ k, k + 1 < i + 1 → o.who.getD k 0 < o.who.getD (k + 1) 0 := fun k hk => by
      by_cases e : k + 1 = i
      · rw [e, hzd, show k = i - 1 by omega]
        exact hrz (by omega)
      · exact hrise k (by omega)
    cases hd : decide (o.author ∈ o.who.take i) with
    | true =>
      rw [hd] at q4 hau
      (refine aw_plan [] [] [0, 1, 2, 3, 4, 5, 6, 7, 8, 9, 10, 11] 12 0 (by kernel_rfl) (by kernel_rfl) (by kernel_rfl) (fun K hK => ?_)); simp only [sel, List.getElem?_cons_succ, List.getElem?_cons_zero, List.drop_succ_cons, List.drop_zero]; simp (disch := first | omega | (simp only [lnS]; try omega; done)) [-getElem?_pos, -getElem?_neg, q1, q4, q5, hb, hul, PL_nil, plainB_lit, PL_cons, PLc_val, PLc_new, stepP_t, stepP_f, stepPC_n, stepPC_s, stepPX_s, stepPX_n, stepPV_n, stepPV_s, stepPA_t, stepPA_c, stepPA_l, stepPN_s, allocOp, reloc_sl, reloc_ptr, List.map_cons, List.map_nil, List.nil_append, List.append_assoc, List.cons_append, Nat.add_assoc]
      refine hK _ _ ?_; clear hK K
      (refine aw_ops (by kernel_rfl) (fun K hK => ?_); simp (disch := first | omega | (simp only [lnS]; try omega; done)) [-getElem?_pos, -getElem?_neg, q5]; refine hK _ _ ?_; clear hK K)
      refine ⟨c - 1, by omega, i + 1, by omega, by (first | (simp [put_at, put_none, fr0_at, q1]; done) | rfl), by rw [hau]; (first | (simp [put_at, put_none, fr0_at]; done) | rfl), by (first | (simp [put_at, put_none, fr0_at]; done) | rfl), rfl, hm2, hr2⟩
    | false =>
      rw [hd] at q4 hau
      have hx0 : xload Try.prog 3 (.pointer (some ⟨n, 0, none⟩)) G4 = some (.int .i64 o.author) := by simp [xload, hb, c0]
      by_cases hza : z = o.author
      · have hzab : (z == o.author) = true := by simp [hza]
        (refine aw_plan [] [] [0, 1, 2, 3, 4, 5, 6, 7, 8, 9, 10, 11] 12 0 (by kernel_rfl) (by kernel_rfl) (by kernel_rfl) (fun K hK => ?_)); simp only [sel, List.getElem?_cons_succ, List.getElem?_cons_zero, List.drop_succ_cons, List.drop_zero]; simp (disch := first | omega | (simp only [lnS]; try omega; done)) [-getElem?_pos, -getElem?_neg, q1, q4, q5, hb, hul, -notTuple, w1, w2, s1, s3, nt_intG, nt_ptrG, -xindexAddr, s2, -xload, hx4, hx0, s5, hza, hzab, PL_nil, plainB_lit, PL_cons, PLc_val, PLc_new, stepP_t, stepP_f, stepPC_n, stepPC_s, stepPX_s, stepPX_n, stepPV_n, stepPV_s, stepPA_t, stepPA_c, stepPA_l, stepPN_s, allocOp, reloc_sl, reloc_ptr, List.map_cons, List.map_nil, List.nil_append, List.append_assoc, List.cons_append, Nat.add_assoc]
        refine hK _ _ ?_; clear hK K
        (refine aw_ops (by kernel_rfl) (fun K hK => ?_); simp (disch := first | omega | (simp only [lnS]; try omega; done)) [-getElem?_pos, -getElem?_neg, q5]; refine hK _ _ ?_; clear hK K)
        refine ⟨c - 1, by omega, i + 1, by omega, by (first | (simp [put_at, put_none, fr0_at, q1]; done) | rfl), by rw [hau]; simp [put_at, hza], by (first | (simp [put_at, put_none, fr0_at]; done) | rfl), rfl, hm2, hr2⟩
      · have hzab : (z == o.author) = false := by simp [hza]
        (refine aw_plan [] [] [0, 1, 2, 3, 4, 5, 6, 7, 8, 9, 10, 11] 12 0 (by kernel_rfl) (by kernel_rfl) (by kernel_rfl) (fun K hK => ?_)); simp only [sel, List.getElem?_cons_succ, List.getElem?_cons_zero, List.drop_succ_cons, List.drop_zero]; simp (disch := first | omega | (simp only [lnS]; try omega; done)) [-getElem?_pos, -getElem?_neg, q1, q4, q5, hb, hul, -notTuple, w1, w2, s1, s3, nt_intG, nt_ptrG, -xindexAddr, s2, -xload, hx4, hx0, s5, hza, hzab, PL_nil, plainB_lit, PL_cons, PLc_val, PLc_new, stepP_t, stepP_f, stepPC_n, stepPC_s, stepPX_s, stepPX_n, stepPV_n, stepPV_s, stepPA_t, stepPA_c, stepPA_l, stepPN_s, allocOp, reloc_sl, reloc_ptr, List.map_cons, List.map_nil, List.nil_append, List.append_assoc, List.cons_append, Nat.add_assoc]
        refine hK _ _ ?_; clear hK K
        (refine aw_ops (by kernel_rfl) (fun K hK => ?_); simp (disch := first | omega | (simp only [lnS]; try omega; done)) [-getElem?_pos, -getElem?_neg, q5]; refine hK _ _ ?_; clear hK K)
        refine ⟨c - 1, by omega, i + 1, by omega, by (first | (simp [put_at, put_none, fr0_at, q1]; done) | rfl), by rw [hau]; simp [put_at, hza], by (first | (simp [put_at, put_none, fr0_at]; done) | rfl), rfl, hm2, hr2⟩
  (refine aw_ops (by kernel_rfl) (fun K hK => ?_); simp (disch := first | omega | (simp only [lnS]; try omega; done)) [-getElem?_pos, -getElem?_neg, q1, q5, hb, hul, c4, -notTuple, w1, w2, nt_intG, nt_ptrG, -xlen, w3, hi]; refine hK _ _ ?_; clear hK K)
  refine aw_f (by (first | (simp [eval_tmp, put_at, hi]; done) | (simp [eval_tmp, put_at, hi]; omega))) (by kernel_rfl) ?_
  refine aw_exit ?_
  obtain rfl : i = o.who.length := by omega
  rw [List.take_length] at q4
  have hW : (o.who.all memI && risesI o.who) = true := by
    rw [all_take (fun k z hz => hmem k z (List.getElem?_eq_some_iff.1 hz).1 hz), Bool.true_and]
    unfold risesI
    exact range_true fun k hk => by
      rw [decide_eq_true_eq, cmpI_lt]
      exact hrise k (by omega)
  rw [hW, Bool.true_and] at hrf
  -- boxes
  refine aw_seq ?_
  refine aw_seq ?_
  (refine aw_ops (by kernel_rfl) (fun K hK => ?_); simp (disch := first | omega | (simp only [lnS]; try omega; done)) [-getElem?_pos, -getElem?_neg]; refine hK _ _ ?_; clear hK K)
  refine aw_block ?_
  refine aw_loop (fun c α G2 => ∃ i : Nat, i + c = o.boxes.length ∧ α 1 = .pointer (some ⟨n, 0, none⟩) ∧ α 4 = .bool (decide (o.author ∈ o.who)) ∧ α 6 = .int .i64 (i : Nat) ∧ Low G3.length G3 G2 ∧ (∀ k z, k < i → o.boxes[k]? = some z → boxB o.author z = true) ∧ ∀ k, k + 1 < i → (o.boxes.map BoxD.to).getD k 0 < (o.boxes.map BoxD.to).getD (k + 1) 0) o.boxes.length ?_ ?_
  · exact ⟨0, by omega, by (first | (simp [put_at, put_none, fr0_at, q1]; done) | rfl), by (first | (simp [put_at, put_none, fr0_at, q4]; done) | rfl), by (first | (simp [put_at, put_none, fr0_at]; done) | rfl), Low.refl (Nat.le_refl _), fun k z hk => by omega, fun k hk => by omega⟩
  clear q1 q4 q5
  rintro c α G4 ⟨i, hic, q1, q4, q6, low4, hbox, hrise2⟩
  have hb4 := (low4.1 n (hget_lt hb)).trans hb
  have hle4 := low4.2
  have hlG3 := hget_lt hb
  refine aw_seq ?_
  refine aw_seq ?_
  by_cases hi : i < o.boxes.length
  case neg =>
    (refine aw_ops (by kernel_rfl) (fun K hK => ?_); simp (disch := first | omega | (simp only [lnS]; try omega; done)) [-getElem?_pos, -getElem?_neg, q1, q6, hb4, hul, c70, -notTuple, b1, b2, nt_intG, nt_ptrG, -xlen, hblen, hi]; refine hK _ _ ?_; clear hK K)
    refine aw_f (by (first | (simp [eval_tmp, put_at, hi]; done) | (simp [eval_tmp, put_at, hi]; omega))) (by kernel_rfl) ?_
    refine aw_exit ?_
    obtain rfl : i = o.boxes.length := by omega
    have hB : boxesB o = true := by
      unfold boxesB risesX
      rw [all_take (fun k z hz => hbox k z (List.getElem?_eq_some_iff.1 hz).1 hz), Bool.true_and]
      exact range_true fun k hk => by
        rw [decide_eq_true_eq, cmpI_lt]
        exact hrise2 k (by omega)
    rw [hB, Bool.true_and] at hrf
    have hO4 : OpC G4 us o pv wv bv := hG.low low4.1
    have hkd := rkind_rc (γ := γ) hO4 hw (decide (o.author ∈ o.who))
    refine aw_seq ?_
    refine aw_ops (by kernel_rfl) (fun K hK => ?_)
    simp (disch := first | omega | (simp only [lnS]; try omega; done)) [-getElem?_pos, -getElem?_neg, q1, q4, hb4, hul, htu, nt_aggG]
    refine ⟨by kernel_rfl, ac_of_rc hkd (by simp [pv_iv, pv_int, pv_bool, pv_string, pv_tup2, pv_tup3, iv_plain, p2_int, p2_bool, p2_string]) ?_⟩
    try simp (disch := first | omega | (simp only [lnS]; try omega; done)) [-getElem?_pos, -getElem?_neg]
    refine hK _ _ ?_; clear hK K
    (refine aw_ret ?_; simp (disch := first | omega | (simp only [lnS]; try omega; done)) [-getElem?_pos, -getElem?_neg, thenQ_ret, scopeQ_ret, inBlockQ_ret, RQ, resL, resV])
    rw [hrf]
  obtain ⟨z, hz⟩ : ∃ z, o.boxes[i]? = some z := ⟨_, List.getElem?_eq_getElem hi⟩
  obtain ⟨j, q, bb, ws, hxa, hbb, hq, hws, hcl, hC⟩ := hbx.row_at hw.boxes hz
  have hbb4 := (low4.1 j (hget_lt hbb)).trans hbb
  have hwl := hC.len
  have d0 := hC.c0
  have d35 := hC.c35
  have hws' := hws.symm
  clear hws
  have hset2 : ∀ Z : List Value, Z.length = 36 → setR Z 0 ws = ws := fun Z hZ => setR_all _ _ (by omega)
  have hzw := hw.boxes z (List.mem_of_getElem? hz)
  have hzb := hzw.body
  have hzt := hzw.to
  have htd : (o.boxes.map BoxD.to).getD i 0 = z.to := getD_of (by rw [List.getElem?_map, hz]; rfl)
  have hnG : n ≤ G4.length := by omega
  (refine aw_ops (by kernel_rfl) (fun K hK => ?_); simp (disch := first | omega | (simp only [lnS]; try omega; done)) [-getElem?_pos, -getElem?_neg, q1, q6, hb4, hul, c70, -notTuple, b1, b2, nt_intG, nt_ptrG, -xlen, hblen, hi]; refine hK _ _ ?_; clear hK K)
  refine aw_t (by (first | (simp [eval_tmp, put_at, hi]; done) | (simp [eval_tmp, put_at, hi]; omega))) (by kernel_rfl) ?_
  refine aw_skip ?_
  refine aw_seq ?_
  refine aw_block ?_
  refine aw_seq ?_
  (refine aw_ops (by kernel_rfl) (fun K hK => ?_); simp (disch := first | omega | (simp only [lnS]; try omega; done)) [-getElem?_pos, -getElem?_neg, q1, q6, hb4, hul, c70, -notTuple, b1, b2, nt_intG, nt_ptrG, nt_aggG, -xindexAddr, hxa, hbb4, hws', hwl, hq, hnG, all_zl, hset2]; refine hK _ _ ?_; clear hK K)
  obtain ⟨low5, hbg⟩ := boxed (H := G4) ws 60
  obtain ⟨g, hg⟩ : ∃ g, g = G4.length := ⟨_, rfl⟩
  rw [← hg] at hbg ⊢
  generalize G4 ++ [some ⟨ws, 60, none⟩] = G5 at *
  have hb5 := (low5.1 n (by omega)).trans hb4
  have hxA : xload Try.prog 3 (.pointer (some ⟨n, 0, none⟩)) G5 = some (.int .i64 o.author) := by simp [xload, hb5, c0]
  have hxT : xload Try.prog 3 (.pointer (some ⟨g, 0, none⟩)) G5 = some (.int .i64 z.to) := by simp [xload, hbg, d0]
  have hxB : xload Try.prog 9 (.pointer (some ⟨g, 35, none⟩)) G5 = some (.string z.body) := by simp [xload, hbg, d35]
  have hx70 : xload Try.prog 35 (.pointer (some ⟨n, 70, none⟩)) G5 = some bv := by simp [xload, hb5, c70]
  have hxt : xlen Try.prog 9 (.string z.body) = some (.int .i64 z.body.size) := by simp [xlen]
  have hzb2 : z.body.size ≤ 9223372036854775807 := by simp only [maxLen] at hzb; omega
  have low45 : Low G3.length G3 G5 := ⟨fun j hj => (low5.1 j (by omega)).trans (low4.1 j hj), by have := low5.2; omega⟩
  have q6' := q6
  have hbadB : boxB o.author z = false → boxesB o = false := fun hh => by unfold boxesB; rw [all_false hz hh]; rfl
  refine aw_seq ?_
  have hnextI : ∀ w : Int, (o.boxes.map BoxD.to).getD (i - 1) 0 = w → True := fun _ _ => trivial
  refine aw_cut (fun α G2 => α 152 = .bool (!(boxB o.author z && (decide (i = 0) || decide ((o.boxes.map BoxD.to).getD (i - 1) 0 < z.to)))) ∧ α 1 = .pointer (some ⟨n, 0, none⟩) ∧ α 4 = .bool (decide (o.author ∈ o.who)) ∧ α 6 = .int .i64 (i : Nat) ∧ G2 = G5) ?_ ?_
  · (refine aw_plan [] [] [0, 1, 2, 3, 4, 5, 6, 7, 8, 9, 10, 11, 12, 13, 14, 15, 16, 17, 18, 19, 20, 21, 22, 23, 24, 25, 26, 27, 28, 29, 30, 31, 32] 33 0 (by kernel_rfl) (by kernel_rfl) (by kernel_rfl) (fun K hK => ?_)); simp only [sel, List.getElem?_cons_succ, List.getElem?_cons_zero, List.drop_succ_cons, List.drop_zero]; simp (disch := first | omega | (simp only [lnS]; try omega; done)) [-getElem?_pos, -getElem?_neg, q1, q6, hb, hul, c70, hbg, hwl, d0, d35, -notTuple, b1, b2, nt_intG, nt_ptrG, nt_strG, -xlen, hxt, -xload, hxA, hxT, hxB, hx70, PL_nil, plainB_lit, PL_cons, PLc_val, PLc_new, stepP_t, stepP_f, stepPC_n, stepPC_s, stepPX_s, stepPX_n, stepPV_n, stepPV_s, stepPA_t, stepPA_c, stepPA_l, stepPN_s, allocOp, reloc_sl, reloc_ptr, List.map_cons, List.map_nil, List.nil_append, List.append_assoc, List.cons_append, Nat.add_assoc]
    refine PLc_call (v := .bool (memI z.to)) (by kernel_rfl) (fun L hL => ac_of_vc (by simp [pv_iv, pv_int, pv_bool, pv_string, pv_tup2, pv_tup3, iv_plain, p2_int, p2_bool, p2_string]) (member_vc z.to) rfl) (by simp [pv_iv, pv_int, pv_bool, pv_string, pv_tup2, pv_tup3, iv_plain, p2_int, p2_bool, p2_string]) ?_
    cases k1 : memI z.to with
    | false =>
      simp (disch := first | omega | (simp only [lnS]; try omega; done)) [-getElem?_pos, -getElem?_neg, PL_nil, plainB_lit, PL_cons, PLc_val, PLc_new, stepP_t, stepP_f, stepPC_n, stepPC_s, stepPX_s, stepPX_n, stepPV_n, stepPV_s, stepPA_t, stepPA_c, stepPA_l, stepPN_s, allocOp, reloc_sl, reloc_ptr, List.map_cons, List.map_nil, List.nil_append, List.append_assoc, List.cons_append, Nat.add_assoc]
      refine hK _ _ ?_; clear hK K
      exact ⟨by simp [boxB, k1, put_at], by (first | (simp [put_at, put_none, fr0_at, q1]; done) | rfl), by (first | (simp [put_at, put_none, fr0_at, q4]; done) | rfl), by (first | (simp [put_at, put_none, fr0_at, q6]; done) | rfl), rfl⟩
    | true =>
    by_cases k2 : z.to = o.author
    · have k2b : (z.to == o.author) = true := by simp [k2]
      simp (disch := first | omega | (simp only [lnS]; try omega; done)) [-getElem?_pos, -getElem?_neg, q1, q6, hb, hul, c70, hbg, hwl, d0, d35, -notTuple, b1, b2, nt_intG, nt_ptrG, nt_strG, -xlen, hxt, -xload, hxA, hxT, hxB, hx70, k2, k2b, PL_nil, plainB_lit, PL_cons, PLc_val, PLc_new, stepP_t, stepP_f, stepPC_n, stepPC_s, stepPX_s, stepPX_n, stepPV_n, stepPV_s, stepPA_t, stepPA_c, stepPA_l, stepPN_s, allocOp, reloc_sl, reloc_ptr, List.map_cons, List.map_nil, List.nil_append, List.append_assoc, List.cons_append, Nat.add_assoc]
      refine hK _ _ ?_; clear hK K
      exact ⟨by simp [boxB, k1, k2, put_at], by (first | (simp [put_at, put_none, fr0_at, q1]; done) | rfl), by (first | (simp [put_at, put_none, fr0_at, q4]; done) | rfl), by (first | (simp [put_at, put_none, fr0_at, q6]; done) | rfl), rfl⟩
    have k2b : (z.to == o.author) = false := by simp [k2]
    by_cases k3 : z.body.size ≤ 256
    case neg =>
      have k3b : 256 < z.body.size := by omega
      simp (disch := first | omega | (simp only [lnS]; try omega; done)) [-getElem?_pos, -getElem?_neg, q1, q6, hb, hul, c70, hbg, hwl, d0, d35, -notTuple, b1, b2, nt_intG, nt_ptrG, nt_strG, -xlen, hxt, -xload, hxA, hxT, hxB, hx70, k2, k2b, k3b, PL_nil, plainB_lit, PL_cons, PLc_val, PLc_new, stepP_t, stepP_f, stepPC_n, stepPC_s, stepPX_s, stepPX_n, stepPV_n, stepPV_s, stepPA_t, stepPA_c, stepPA_l, stepPN_s, allocOp, reloc_sl, reloc_ptr, List.map_cons, List.map_nil, List.nil_append, List.append_assoc, List.cons_append, Nat.add_assoc]
      refine hK _ _ ?_; clear hK K
      exact ⟨by simp [boxB, k1, k2, k3, put_at], by (first | (simp [put_at, put_none, fr0_at, q1]; done) | rfl), by (first | (simp [put_at, put_none, fr0_at, q4]; done) | rfl), by (first | (simp [put_at, put_none, fr0_at, q6]; done) | rfl), rfl⟩
    have k3b : ¬ 256 < z.body.size := by omega
    by_cases hi0 : 0 < i
    case neg =>
      have hi0e : i = 0 := by omega
      simp (disch := first | omega | (simp only [lnS]; try omega; done)) [-getElem?_pos, -getElem?_neg, q1, q6, hb, hul, c70, hbg, hwl, d0, d35, -notTuple, b1, b2, nt_intG, nt_ptrG, nt_strG, -xlen, hxt, -xload, hxA, hxT, hxB, hx70, k2, k2b, k3b, hi0, PL_nil, plainB_lit, PL_cons, PLc_val, PLc_new, stepP_t, stepP_f, stepPC_n, stepPC_s, stepPX_s, stepPX_n, stepPV_n, stepPV_s, stepPA_t, stepPA_c, stepPA_l, stepPN_s, allocOp, reloc_sl, reloc_ptr, List.map_cons, List.map_nil, List.nil_append, List.append_assoc, List.cons_append, Nat.add_assoc]
      refine hK _ _ ?_; clear hK K
      exact ⟨by simp [boxB, k1, k2, k3, hi0e, put_at], by (first | (simp [put_at, put_none, fr0_at, q1]; done) | rfl), by (first | (simp [put_at, put_none, fr0_at, q4]; done) | rfl), by (first | (simp [put_at, put_none, fr0_at, q6]; done) | rfl), rfl⟩
    have hi0n : ¬ i = 0 := by omega
    obtain ⟨y, hy⟩ : ∃ y, o.boxes[i - 1]? = some y := ⟨_, List.getElem?_eq_getElem (by omega)⟩
    obtain ⟨j', q', bb', ws', hxa', hbb', hq', hws2, hcl', hC'⟩ := hbx.row_at hw.boxes hy
    have hbb5 := (low45.1 j' (hget_lt hbb')).trans hbb'
    have htd' : (o.boxes.map BoxD.to).getD (i - 1) 0 = y.to := getD_of (by rw [List.getElem?_map, hy]; rfl)
    have e0 := (hcl' 0 (by omega)).trans hC'.c0
    have hxY : xload Try.prog 3 (.pointer (some ⟨j', q', none⟩)) G5 = some (.int .i64 y.to) := by simp [xload, hbb5]; simpa using e0
    have hsub : (i : Int) - 1 = ((i - 1 : Nat) : Int) := by omega
    by_cases k4 : y.to < z.to
    · have k4b : ¬ z.to ≤ y.to := by omega
      simp (disch := first | omega | (simp only [lnS]; try omega; done)) [-getElem?_pos, -getElem?_neg, q1, q6, hb, hul, c70, hbg, hwl, d0, d35, -notTuple, b1, b2, nt_intG, nt_ptrG, nt_strG, -xlen, hxt, -xload, hxA, hxT, hxB, hx70, k2, k2b, k3b, hi0, hsub, -xindexAddr, hxa', hxY, k4b, PL_nil, plainB_lit, PL_cons, PLc_val, PLc_new, stepP_t, stepP_f, stepPC_n, stepPC_s, stepPX_s, stepPX_n, stepPV_n, stepPV_s, stepPA_t, stepPA_c, stepPA_l, stepPN_s, allocOp, reloc_sl, reloc_ptr, List.map_cons, List.map_nil, List.nil_append, List.append_assoc, List.cons_append, Nat.add_assoc]
      refine hK _ _ ?_; clear hK K
      exact ⟨by simp only [htd']; simp [boxB, k1, k2, k3, hi0n, k4, put_at], by (first | (simp [put_at, put_none, fr0_at, q1]; done) | rfl), by (first | (simp [put_at, put_none, fr0_at, q4]; done) | rfl), by (first | (simp [put_at, put_none, fr0_at, q6]; done) | rfl), rfl⟩
    · have k4b : z.to ≤ y.to := by omega
      simp (disch := first | omega | (simp only [lnS]; try omega; done)) [-getElem?_pos, -getElem?_neg, q1, q6, hb, hul, c70, hbg, hwl, d0, d35, -notTuple, b1, b2, nt_intG, nt_ptrG, nt_strG, -xlen, hxt, -xload, hxA, hxT, hxB, hx70, k2, k2b, k3b, hi0, hsub, -xindexAddr, hxa', hxY, k4b, PL_nil, plainB_lit, PL_cons, PLc_val, PLc_new, stepP_t, stepP_f, stepPC_n, stepPC_s, stepPX_s, stepPX_n, stepPV_n, stepPV_s, stepPA_t, stepPA_c, stepPA_l, stepPN_s, allocOp, reloc_sl, reloc_ptr, List.map_cons, List.map_nil, List.nil_append, List.append_assoc, List.cons_append, Nat.add_assoc]
      refine hK _ _ ?_; clear hK K
      exact ⟨by simp only [htd']; simp [boxB, k1, k2, k3, hi0n, k4, put_at], by (first | (simp [put_at, put_none, fr0_at, q1]; done) | rfl), by (first | (simp [put_at, put_none, fr0_at, q4]; done) | rfl), by (first | (simp [put_at, put_none, fr0_at, q6]; done) | rfl), rfl⟩
  clear q1 q4 q6 q6'
  rintro α G6 ⟨q152, q1, q4, q6, rfl⟩
  cases hgood : (boxB o.author z && (decide (i = 0) || decide ((o.boxes.map BoxD.to).getD (i - 1) 0 < z.to))) with
  | false =>
    rw [hgood] at q152
    refine aw_t (by (first | (simp [eval_tmp, put_at, q152]; done) | (simp [eval_tmp, put_at, q152]; omega))) (by kernel_rfl) ?_
    refine aw_seq ?_
    (refine aw_ops (by kernel_rfl) (fun K hK => ?_); simp (disch := first | omega | (simp only [lnS]; try omega; done)) [-getElem?_pos, -getElem?_neg]; refine hK _ _ ?_; clear hK K)
    (refine aw_ret ?_; simp (disch := first | omega | (simp only [lnS]; try omega; done)) [-getElem?_pos, -getElem?_neg, thenQ_ret, scopeQ_ret, inBlockQ_ret, RQ, resL, resV])
    have hBf : boxesB o = false := by
      rw [Bool.and_eq_false_iff] at hgood
      rcases hgood with hh | hh
      · exact hbadB hh
      · rw [Bool.or_eq_false_iff, decide_eq_false_iff_not, decide_eq_false_iff_not] at hh
        unfold boxesB
        have : risesX o.boxes = false := by
          unfold risesX
          refine range_false (i := i - 1) (by omega) ?_
          rw [decide_eq_false_iff_not, show i - 1 + 1 = i by omega, htd, cmpI_lt]
          exact hh.2
        rw [this, Bool.and_false]
    rw [hrf, hBf]; rfl
  | true =>
    rw [hgood] at q152
    refine aw_f (by (first | (simp [eval_tmp, put_at, q152]; done) | (simp [eval_tmp, put_at, q152]; omega))) (by kernel_rfl) ?_
    refine aw_skip ?_
    rw [Bool.and_eq_true, Bool.or_eq_true, decide_eq_true_eq, decide_eq_true_eq] at hgood
    (refine aw_ops (by kernel_rfl) (fun K hK => ?_); simp (disch := first | omega | (simp only [lnS]; try omega; done)) [-getElem?_pos, -getElem?_neg, q6]; refine hK _ _ ?_; clear hK K)
    refine ⟨c - 1, by omega, i + 1, by omega, by (first | (simp [put_at, put_none, fr0_at, q1]; done) | rfl), by (first | (simp [put_at, put_none, fr0_at, q4]; done) | rfl), by (first | (simp [put_at, put_none, fr0_at]; done) | rfl), low45, fun k z' hk hz' => ?_, fun k hk => ?_⟩
    · by_cases e : k = i
      · subst e
        rw [hz] at hz'
        cases hz'
        exact hgood.1
      · exact hbox k z' (by omega) hz'
    · by_cases e : k + 1 = i
      · rw [e, htd, show k = i - 1 by omega]
        rcases hgood.2 with hh | hh
        · omega
        · exact hh
      · exact hrise2 k (by omega)
end
section
theorem box_ld {G : AH} {j g : Nat} {bb : Blk} (h1 : hget G j = some bb) (h2 : g + 36 ≤ bb.cells.length) : xload Try.prog 60 (.pointer (some ⟨j, g, none⟩)) G = some (.agg ((bb.cells.drop g).take 36).toArray) := by
  have h4 : isAggD (und Try.prog 60) = true := by kernel_rfl
  have h5 : szt Try.prog 60 = 36 := by kernel_rfl
  unfold xload
  simp only [h1, h4, h5, if_true]
  rw [if_pos ⟨by omega, h2⟩]
attribute [local simp] wb_bool wb_undef with_lit XL_nil XL_cons XLc_val XLc_call step1_eq stepW_t stepW_f stepC_n stepC_s stepX_s stepX_n stepN_s calleeX oneV xop_eq xopR_s xopR_n wantedA_eq wantedG_n wantedG_s plain1_int plain1_bool plain1_string bits_i64 bits_u64 bits_u32 bits_u16 bits_u8 xeqA xagg xcmp xarr allK_iv num_iv calleeOf xread xeff xbin xint xnil xun xstr xload xconv xpart xfield xfieldAddr xindexAddr xindex bnd asInt? xslice xlen xmin xmax xbuild xfill xappend xapp2 xappstr xappmk xcap xcopy xcells eval_tmp eval_const put_at put_none fr0_at cells_agg cells_int cells_bool cells_string cells_ptr cells_slice notTuple tab iv_all hget_app hget_app0 hget_cons0 hget_cons set_app set_app0 setR setR_one QL_nil QL_cons QLc_val stepQ_t stepQ_f stepQC_n stepQC_s stepQX_s SL_nil SL_cons SLc_val stepS_t stepS_f ltT ltF leT leF eqT eqF ltTn ltFn leTn leFn eqTn eqFn beqT beqF bneT bneF wi64 wu64 wu32 wu16 wu8 tmodP tdivP hgetL hgetNe hgetEq setL nums_def nums_len Nat.succ_le_of_lt List.getElem?_cons_zero List.getElem?_cons_succ Option.getD_some Int.toNat_add Int.toNat_mul agM okM agB agI agS agP agL agA okB okI okS okP okSl okA
theorem eqI_rc {γ : Nat → Option Nat} {H : AH} {u v : Value} {a b : List Int} (ha : InV H u a) (hb : InV H v b) (hm : a.length ≤ maxLen) : AC Try.prog H.length γ 41 #[u, v] H (fun v' _ => v' = .bool (decide (a = b))) := by
  obtain ⟨hnt, hvc, hxl, hat⟩ := ha.acc
  obtain ⟨hnt2, hvc2, hxl2, hat2⟩ := hb.acc
  have hm63 : a.length ≤ 9223372036854775807 := by simp only [maxLen] at hm; omega
  refine ac_of_aw Try.func41 rfl Try.ntmps41 Try.results41 (by simp) ?_
  refine aw_seq ?_
  (refine aw_ops (by kernel_rfl) (fun K hK => ?_); simp (disch := first | omega | (simp only [lnS]; try omega; done)) [-getElem?_pos, -getElem?_neg]; refine hK _ _ ?_; clear hK K)
  refine aw_seq ?_
  refine aw_seq ?_
  by_cases hab : a.length = b.length
  case neg =>
    have hne : ((a.length : Int) == (b.length : Int)) = false := by rw [beq_eq_false_iff_ne]; omega
    have hne2 : ¬ (a.length : Int) = (b.length : Int) := by omega
    (refine aw_ops (by kernel_rfl) (fun K hK => ?_); simp (disch := first | omega | (simp only [lnS]; try omega; done)) [-getElem?_pos, -getElem?_neg, -notTuple, hnt, hvc, hnt2, hvc2, nt_intG, -xlen, hxl, hxl2, hne, hne2]; refine hK _ _ ?_; clear hK K)
    refine aw_t (by (first | (simp [eval_tmp, put_at]; done) | (simp [eval_tmp, put_at]; omega))) (by kernel_rfl) ?_
    refine aw_seq ?_
    (refine aw_ops (by kernel_rfl) (fun K hK => ?_); simp (disch := first | omega | (simp only [lnS]; try omega; done)) [-getElem?_pos, -getElem?_neg]; refine hK _ _ ?_; clear hK K)
    (refine aw_ret ?_; simp (disch := first | omega | (simp only [lnS]; try omega; done)) [-getElem?_pos, -getElem?_neg, thenQ_ret, scopeQ_ret, inBlockQ_ret, RQ, resL, resV])
    all_goals exact fun h => hab (congrArg List.length h)
  have heq : ((a.length : Int) == (b.length : Int)) = true := by rw [beq_iff_eq]; omega
  have heq2 : (a.length : Int) = (b.length : Int) := by omega
  (refine aw_ops (by kernel_rfl) (fun K hK => ?_); simp (disch := first | omega | (simp only [lnS]; try omega; done)) [-getElem?_pos, -getElem?_neg, -notTuple, hnt, hvc, hnt2, hvc2, nt_intG, -xlen, hxl, hxl2, hab, heq, heq2]; refine hK _ _ ?_; clear hK K)
  refine aw_f (by (first | (simp [eval_tmp, put_at]; done) | (simp [eval_tmp, put_at]; omega))) (by kernel_rfl) ?_
  refine aw_skip ?_
  refine aw_seq ?_
  refine aw_seq ?_
  (refine aw_ops (by kernel_rfl) (fun K hK => ?_); simp (disch := first | omega | (simp only [lnS]; try omega; done)) [-getElem?_pos, -getElem?_neg, -notTuple, hnt, hvc, nt_intG, -xlen, hxl]; refine hK _ _ ?_; clear hK K)
  refine aw_block ?_
  refine aw_loop (fun c α G => ∃ i : Nat, i + c = a.length ∧ G = H ∧ α 0 = u ∧ α 1 = v ∧ α 12 = .int .i64 (a.length : Nat) ∧ α 13 = .int .i64 (i : Nat) ∧ ∀ k, k < i → a.getD k 0 = b.getD k 0) a.length ?_ ?_
  · exact ⟨0, by omega, rfl, by (first | (simp [put_at, put_none, fr0_at]; done) | rfl), by (first | (simp [put_at, put_none, fr0_at]; done) | rfl), by (first | (simp [put_at, put_none, fr0_at]; done) | rfl), by (first | (simp [put_at, put_none, fr0_at]; done) | rfl), fun k hk => by omega⟩
  rintro c α G ⟨i, hic, rfl, h0, h1, h12, h13, hpre⟩
  refine aw_seq ?_
  by_cases hi : i < a.length
  case neg =>
    (refine aw_ops (by kernel_rfl) (fun K hK => ?_); simp (disch := first | omega | (simp only [lnS]; try omega; done)) [-getElem?_pos, -getElem?_neg, h12, h13, nt_intG, hi]; refine hK _ _ ?_; clear hK K)
    refine aw_seq ?_
    refine aw_f (by (first | (simp [eval_tmp, put_at, hi]; done) | (simp [eval_tmp, put_at, hi]; omega))) (by kernel_rfl) ?_
    refine aw_exit ?_
    refine aw_seq ?_
    (refine aw_ops (by kernel_rfl) (fun K hK => ?_); simp (disch := first | omega | (simp only [lnS]; try omega; done)) [-getElem?_pos, -getElem?_neg]; refine hK _ _ ?_; clear hK K)
    (refine aw_ret ?_; simp (disch := first | omega | (simp only [lnS]; try omega; done)) [-getElem?_pos, -getElem?_neg, thenQ_ret, scopeQ_ret, inBlockQ_ret, RQ, resL, resV])
    all_goals exact list_getD_ext hab (fun k hk => hpre k (by omega))
  obtain ⟨z1, y1, s1, s2, s3, s4, s5⟩ := hat i hi
  obtain ⟨z2, y2, t1, t2, t3, t4, t5⟩ := hat2 i (by omega)
  subst s4 t4
  have s5 := s5 G (Low.refl (Nat.le_refl _))
  have t5 := t5 G (Low.refl (Nat.le_refl _))
  (refine aw_ops (by kernel_rfl) (fun K hK => ?_); simp (disch := first | omega | (simp only [lnS]; try omega; done)) [-getElem?_pos, -getElem?_neg, h12, h13, nt_intG, hi]; refine hK _ _ ?_; clear hK K)
  refine aw_seq ?_
  refine aw_t (by (first | (simp [eval_tmp, put_at, hi]; done) | (simp [eval_tmp, put_at, hi]; omega))) (by kernel_rfl) ?_
  refine aw_skip ?_
  refine aw_seq ?_
  refine aw_block ?_
  refine aw_seq ?_
  (refine aw_ops (by kernel_rfl) (fun K hK => ?_); simp (disch := first | omega | (simp only [lnS]; try omega; done)) [-getElem?_pos, -getElem?_neg, h13]; refine hK _ _ ?_; clear hK K)
  refine aw_seq ?_
  generalize hA : a.getD i 0 = A at *
  generalize hB : b.getD i 0 = B at *
  by_cases hAB : A = B
  · have hq : (A == B) = true := by rw [beq_iff_eq]; exact hAB
    (refine aw_plan [] [] [0, 1, 2, 3, 4, 5, 6, 7, 8] 9 0 (by kernel_rfl) (by kernel_rfl) (by kernel_rfl) (fun K hK => ?_)); simp only [sel, List.getElem?_cons_succ, List.getElem?_cons_zero, List.drop_succ_cons, List.drop_zero]; simp (disch := first | omega | (simp only [lnS]; try omega; done)) [-getElem?_pos, -getElem?_neg, h0, h1, h13, -notTuple, hnt, hvc, hnt2, hvc2, nt_intG, nt_ptrG, nt_aggG, -xindexAddr, -xload, s1, t1, s2, t2, s3, t3, s5, t5, hq, hAB, PL_nil, plainB_lit, PL_cons, PLc_val, PLc_new, stepP_t, stepP_f, stepPC_n, stepPC_s, stepPX_s, stepPX_n, stepPV_n, stepPV_s, stepPA_t, stepPA_c, stepPA_l, stepPN_s, allocOp, reloc_sl, reloc_ptr, List.map_cons, List.map_nil, List.nil_append, List.append_assoc, List.cons_append, Nat.add_assoc]
    refine hK _ _ ?_; clear hK K
    refine aw_f (by (first | (simp [eval_tmp, put_at]; done) | (simp [eval_tmp, put_at]; omega))) (by kernel_rfl) ?_
    refine aw_skip ?_
    (refine aw_ops (by kernel_rfl) (fun K hK => ?_); simp (disch := first | omega | (simp only [lnS]; try omega; done)) [-getElem?_pos, -getElem?_neg, h13]; refine hK _ _ ?_; clear hK K)
    refine ⟨c - 1, by omega, i + 1, by omega, rfl, by (first | (simp [put_at, put_none, fr0_at, h0]; done) | rfl), by (first | (simp [put_at, put_none, fr0_at, h1]; done) | rfl), by (first | (simp [put_at, put_none, fr0_at, h12]; done) | rfl), by (first | (simp [put_at, put_none, fr0_at]; done) | rfl), fun k hk => ?_⟩
    by_cases e : k = i
    · subst e; rw [hA, hB, hAB]
    · exact hpre k (by omega)
  · have hq : (A == B) = false := by rw [beq_eq_false_iff_ne]; exact hAB
    (refine aw_plan [] [] [0, 1, 2, 3, 4, 5, 6, 7, 8] 9 0 (by kernel_rfl) (by kernel_rfl) (by kernel_rfl) (fun K hK => ?_)); simp only [sel, List.getElem?_cons_succ, List.getElem?_cons_zero, List.drop_succ_cons, List.drop_zero]; simp (disch := first | omega | (simp only [lnS]; try omega; done)) [-getElem?_pos, -getElem?_neg, h0, h1, h13, -notTuple, hnt, hvc, hnt2, hvc2, nt_intG, nt_ptrG, nt_aggG, -xindexAddr, -xload, s1, t1, s2, t2, s3, t3, s5, t5, hq, hAB, PL_nil, plainB_lit, PL_cons, PLc_val, PLc_new, stepP_t, stepP_f, stepPC_n, stepPC_s, stepPX_s, stepPX_n, stepPV_n, stepPV_s, stepPA_t, stepPA_c, stepPA_l, stepPN_s, allocOp, reloc_sl, reloc_ptr, List.map_cons, List.map_nil, List.nil_append, List.append_assoc, List.cons_append, Nat.add_assoc]
    refine hK _ _ ?_; clear hK K
    refine aw_t (by (first | (simp [eval_tmp, put_at, hAB]; done) | (simp [eval_tmp, put_at, hAB]; omega))) (by kernel_rfl) ?_
    refine aw_seq ?_
    (refine aw_ops (by kernel_rfl) (fun K hK => ?_); simp (disch := first | omega | (simp only [lnS]; try omega; done)) [-getElem?_pos, -getElem?_neg]; refine hK _ _ ?_; clear hK K)
    (refine aw_ret ?_; simp (disch := first | omega | (simp only [lnS]; try omega; done)) [-getElem?_pos, -getElem?_neg, thenQ_ret, scopeQ_ret, inBlockQ_ret, RQ, resL, resV])
    all_goals exact fun hh => hAB (by rw [← hA, ← hB, hh])
theorem eqK_rc {γ : Nat → Option Nat} {H : AH} {u v : Value} {a b : List (List Int)} (ha : KsV H u a) (hb : KsV H v b) (hka : ∀ k ∈ a, k.length = 32) (hkb : ∀ k ∈ b, k.length = 32) (hm : a.length ≤ maxLen) : AC Try.prog H.length γ 65 #[u, v] H (fun v' _ => v' = .bool (decide (a = b))) := by
  obtain ⟨hnt, hvc, hxl, hat⟩ := ha.acc hka
  obtain ⟨hnt2, hvc2, hxl2, hat2⟩ := hb.acc hkb
  have hm63 : a.length ≤ 9223372036854775807 := by simp only [maxLen] at hm; omega
  refine ac_of_aw Try.func65 rfl Try.ntmps65 Try.results65 (by simp) ?_
  refine aw_seq ?_
  (refine aw_ops (by kernel_rfl) (fun K hK => ?_); simp (disch := first | omega | (simp only [lnS]; try omega; done)) [-getElem?_pos, -getElem?_neg]; refine hK _ _ ?_; clear hK K)
  refine aw_seq ?_
  refine aw_seq ?_
  by_cases hab : a.length = b.length
  case neg =>
    have hne : ((a.length : Int) == (b.length : Int)) = false := by rw [beq_eq_false_iff_ne]; omega
    have hne2 : ¬ (a.length : Int) = (b.length : Int) := by omega
    (refine aw_ops (by kernel_rfl) (fun K hK => ?_); simp (disch := first | omega | (simp only [lnS]; try omega; done)) [-getElem?_pos, -getElem?_neg, -notTuple, hnt, hvc, hnt2, hvc2, nt_intG, -xlen, hxl, hxl2, hne, hne2]; refine hK _ _ ?_; clear hK K)
    refine aw_t (by (first | (simp [eval_tmp, put_at]; done) | (simp [eval_tmp, put_at]; omega))) (by kernel_rfl) ?_
    refine aw_seq ?_
    (refine aw_ops (by kernel_rfl) (fun K hK => ?_); simp (disch := first | omega | (simp only [lnS]; try omega; done)) [-getElem?_pos, -getElem?_neg]; refine hK _ _ ?_; clear hK K)
    (refine aw_ret ?_; simp (disch := first | omega | (simp only [lnS]; try omega; done)) [-getElem?_pos, -getElem?_neg, thenQ_ret, scopeQ_ret, inBlockQ_ret, RQ, resL, resV])
    all_goals exact fun h => hab (congrArg List.length h)
  have heq : ((a.length : Int) == (b.length : Int)) = true := by rw [beq_iff_eq]; omega
  have heq2 : (a.length : Int) = (b.length : Int) := by omega
  (refine aw_ops (by kernel_rfl) (fun K hK => ?_); simp (disch := first | omega | (simp only [lnS]; try omega; done)) [-getElem?_pos, -getElem?_neg, -notTuple, hnt, hvc, hnt2, hvc2, nt_intG, -xlen, hxl, hxl2, hab, heq, heq2]; refine hK _ _ ?_; clear hK K)
  refine aw_f (by (first | (simp [eval_tmp, put_at]; done) | (simp [eval_tmp, put_at]; omega))) (by kernel_rfl) ?_
  refine aw_skip ?_
  refine aw_seq ?_
  refine aw_seq ?_
  (refine aw_ops (by kernel_rfl) (fun K hK => ?_); simp (disch := first | omega | (simp only [lnS]; try omega; done)) [-getElem?_pos, -getElem?_neg, -notTuple, hnt, hvc, nt_intG, -xlen, hxl]; refine hK _ _ ?_; clear hK K)
  refine aw_block ?_
  refine aw_loop (fun c α G => ∃ i : Nat, i + c = a.length ∧ G = H ∧ α 0 = u ∧ α 1 = v ∧ α 12 = .int .i64 (a.length : Nat) ∧ α 13 = .int .i64 (i : Nat) ∧ ∀ k, k < i → a.getD k [] = b.getD k []) a.length ?_ ?_
  · exact ⟨0, by omega, rfl, by (first | (simp [put_at, put_none, fr0_at]; done) | rfl), by (first | (simp [put_at, put_none, fr0_at]; done) | rfl), by (first | (simp [put_at, put_none, fr0_at]; done) | rfl), by (first | (simp [put_at, put_none, fr0_at]; done) | rfl), fun k hk => by omega⟩
  rintro c α G ⟨i, hic, rfl, h0, h1, h12, h13, hpre⟩
  refine aw_seq ?_
  by_cases hi : i < a.length
  case neg =>
    (refine aw_ops (by kernel_rfl) (fun K hK => ?_); simp (disch := first | omega | (simp only [lnS]; try omega; done)) [-getElem?_pos, -getElem?_neg, h12, h13, nt_intG, hi]; refine hK _ _ ?_; clear hK K)
    refine aw_seq ?_
    refine aw_f (by (first | (simp [eval_tmp, put_at, hi]; done) | (simp [eval_tmp, put_at, hi]; omega))) (by kernel_rfl) ?_
    refine aw_exit ?_
    refine aw_seq ?_
    (refine aw_ops (by kernel_rfl) (fun K hK => ?_); simp (disch := first | omega | (simp only [lnS]; try omega; done)) [-getElem?_pos, -getElem?_neg]; refine hK _ _ ?_; clear hK K)
    (refine aw_ret ?_; simp (disch := first | omega | (simp only [lnS]; try omega; done)) [-getElem?_pos, -getElem?_neg, thenQ_ret, scopeQ_ret, inBlockQ_ret, RQ, resL, resV])
    all_goals exact keys_getD_ext hab (fun k hk => hpre k (by omega))
  obtain ⟨z1, y1, s1, s2, s3, s4, s5⟩ := hat i hi
  obtain ⟨z2, y2, t1, t2, t3, t4, t5⟩ := hat2 i (by omega)
  subst s4 t4
  have s5 := s5 G (Low.refl (Nat.le_refl _))
  have t5 := t5 G (Low.refl (Nat.le_refl _))
  have k1 : (iv .u8 (a.getD i [])).length = 32 := by rw [iv_length]; exact key_getD hka hi
  have k2 : (iv .u8 (b.getD i [])).length = 32 := by rw [iv_length]; exact key_getD hkb (by omega)
  (refine aw_ops (by kernel_rfl) (fun K hK => ?_); simp (disch := first | omega | (simp only [lnS]; try omega; done)) [-getElem?_pos, -getElem?_neg, h12, h13, nt_intG, hi]; refine hK _ _ ?_; clear hK K)
  refine aw_seq ?_
  refine aw_t (by (first | (simp [eval_tmp, put_at, hi]; done) | (simp [eval_tmp, put_at, hi]; omega))) (by kernel_rfl) ?_
  refine aw_skip ?_
  refine aw_seq ?_
  refine aw_block ?_
  refine aw_seq ?_
  (refine aw_ops (by kernel_rfl) (fun K hK => ?_); simp (disch := first | omega | (simp only [lnS]; try omega; done)) [-getElem?_pos, -getElem?_neg, h13]; refine hK _ _ ?_; clear hK K)
  refine aw_seq ?_
  generalize hA : a.getD i [] = A at *
  generalize hB : b.getD i [] = B at *
  by_cases hAB : A = B
  · have hq : (A == B) = true := by rw [beq_iff_eq]; exact hAB
    (refine aw_plan [] [] [0, 1, 2, 3, 4, 5, 6, 7, 8] 9 0 (by kernel_rfl) (by kernel_rfl) (by kernel_rfl) (fun K hK => ?_)); simp only [sel, List.getElem?_cons_succ, List.getElem?_cons_zero, List.drop_succ_cons, List.drop_zero]; simp (disch := first | omega | (simp only [lnS]; try omega; done)) [-getElem?_pos, -getElem?_neg, h0, h1, h13, -notTuple, hnt, hvc, hnt2, hvc2, nt_intG, nt_ptrG, nt_aggG, -xindexAddr, -xload, s1, t1, s2, t2, s3, t3, s5, t5, k1, k2, hq, hAB, PL_nil, plainB_lit, PL_cons, PLc_val, PLc_new, stepP_t, stepP_f, stepPC_n, stepPC_s, stepPX_s, stepPX_n, stepPV_n, stepPV_s, stepPA_t, stepPA_c, stepPA_l, stepPN_s, allocOp, reloc_sl, reloc_ptr, List.map_cons, List.map_nil, List.nil_append, List.append_assoc, List.cons_append, Nat.add_assoc]
    refine hK _ _ ?_; clear hK K
    refine aw_f (by (first | (simp [eval_tmp, put_at]; done) | (simp [eval_tmp, put_at]; omega))) (by kernel_rfl) ?_
    refine aw_skip ?_
    (refine aw_ops (by kernel_rfl) (fun K hK => ?_); simp (disch := first | omega | (simp only [lnS]; try omega; done)) [-getElem?_pos, -getElem?_neg, h13]; refine hK _ _ ?_; clear hK K)
    refine ⟨c - 1, by omega, i + 1, by omega, rfl, by (first | (simp [put_at, put_none, fr0_at, h0]; done) | rfl), by (first | (simp [put_at, put_none, fr0_at, h1]; done) | rfl), by (first | (simp [put_at, put_none, fr0_at, h12]; done) | rfl), by (first | (simp [put_at, put_none, fr0_at]; done) | rfl), fun k hk => ?_⟩
    by_cases e : k = i
    · subst e; rw [hA, hB, hAB]
    · exact hpre k (by omega)
  · have hq : (A == B) = false := by rw [beq_eq_false_iff_ne]; exact hAB
    (refine aw_plan [] [] [0, 1, 2, 3, 4, 5, 6, 7, 8] 9 0 (by kernel_rfl) (by kernel_rfl) (by kernel_rfl) (fun K hK => ?_)); simp only [sel, List.getElem?_cons_succ, List.getElem?_cons_zero, List.drop_succ_cons, List.drop_zero]; simp (disch := first | omega | (simp only [lnS]; try omega; done)) [-getElem?_pos, -getElem?_neg, h0, h1, h13, -notTuple, hnt, hvc, hnt2, hvc2, nt_intG, nt_ptrG, nt_aggG, -xindexAddr, -xload, s1, t1, s2, t2, s3, t3, s5, t5, k1, k2, hq, hAB, PL_nil, plainB_lit, PL_cons, PLc_val, PLc_new, stepP_t, stepP_f, stepPC_n, stepPC_s, stepPX_s, stepPX_n, stepPV_n, stepPV_s, stepPA_t, stepPA_c, stepPA_l, stepPN_s, allocOp, reloc_sl, reloc_ptr, List.map_cons, List.map_nil, List.nil_append, List.append_assoc, List.cons_append, Nat.add_assoc]
    refine hK _ _ ?_; clear hK K
    refine aw_t (by (first | (simp [eval_tmp, put_at, hAB]; done) | (simp [eval_tmp, put_at, hAB]; omega))) (by kernel_rfl) ?_
    refine aw_seq ?_
    (refine aw_ops (by kernel_rfl) (fun K hK => ?_); simp (disch := first | omega | (simp only [lnS]; try omega; done)) [-getElem?_pos, -getElem?_neg]; refine hK _ _ ?_; clear hK K)
    (refine aw_ret ?_; simp (disch := first | omega | (simp only [lnS]; try omega; done)) [-getElem?_pos, -getElem?_neg, thenQ_ret, scopeQ_ret, inBlockQ_ret, RQ, resL, resV])
    all_goals exact fun hh => hAB (by rw [← hA, ← hB, hh])
theorem eqB_rc {γ : Nat → Option Nat} {H : AH} {u v : Value} {a b : List BoxD} (ha : BxV H u a) (hb : BxV H v b) (hwa : ∀ x ∈ a, x.Wf) (hwb : ∀ x ∈ b, x.Wf) (hm : a.length ≤ maxLen) : AC Try.prog H.length γ 82 #[u, v] H (fun v' _ => v' = .bool (decide (a = b))) := by
  obtain ⟨hnt, hvc⟩ := val_nt ha
  obtain ⟨hnt2, hvc2⟩ := val_nt hb
  have hxl := val_len (P := Try.prog) (t := 35) (e := 60) ha (by kernel_rfl)
  rw [List.length_map] at hxl
  have hxl2 := val_len (P := Try.prog) (t := 35) (e := 60) hb (by kernel_rfl)
  rw [List.length_map] at hxl2
  have hm63 : a.length ≤ 9223372036854775807 := by simp only [maxLen] at hm; omega
  refine ac_of_aw Try.func82 rfl Try.ntmps82 Try.results82 (by simp) ?_
  refine aw_seq ?_
  (refine aw_ops (by kernel_rfl) (fun K hK => ?_); simp (disch := first | omega | (simp only [lnS]; try omega; done)) [-getElem?_pos, -getElem?_neg]; refine hK _ _ ?_; clear hK K)
  refine aw_seq ?_
  refine aw_seq ?_
  by_cases hab : a.length = b.length
  case neg =>
    have hne : ((a.length : Int) == (b.length : Int)) = false := by rw [beq_eq_false_iff_ne]; omega
    have hne2 : ¬ (a.length : Int) = (b.length : Int) := by omega
    (refine aw_ops (by kernel_rfl) (fun K hK => ?_); simp (disch := first | omega | (simp only [lnS]; try omega; done)) [-getElem?_pos, -getElem?_neg, -notTuple, hnt, hvc, hnt2, hvc2, nt_intG, -xlen, hxl, hxl2, hne, hne2]; refine hK _ _ ?_; clear hK K)
    refine aw_t (by (first | (simp [eval_tmp, put_at]; done) | (simp [eval_tmp, put_at]; omega))) (by kernel_rfl) ?_
    refine aw_seq ?_
    (refine aw_ops (by kernel_rfl) (fun K hK => ?_); simp (disch := first | omega | (simp only [lnS]; try omega; done)) [-getElem?_pos, -getElem?_neg]; refine hK _ _ ?_; clear hK K)
    (refine aw_ret ?_; simp (disch := first | omega | (simp only [lnS]; try omega; done)) [-getElem?_pos, -getElem?_neg, thenQ_ret, scopeQ_ret, inBlockQ_ret, RQ, resL, resV])
    all_goals exact fun h => hab (congrArg List.length h)
  have heq : ((a.length : Int) == (b.length : Int)) = true := by rw [beq_iff_eq]; omega
  have heq2 : (a.length : Int) = (b.length : Int) := by omega
  (refine aw_ops (by kernel_rfl) (fun K hK => ?_); simp (disch := first | omega | (simp only [lnS]; try omega; done)) [-getElem?_pos, -getElem?_neg, -notTuple, hnt, hvc, hnt2, hvc2, nt_intG, -xlen, hxl, hxl2, hab, heq, heq2]; refine hK _ _ ?_; clear hK K)
  refine aw_f (by (first | (simp [eval_tmp, put_at]; done) | (simp [eval_tmp, put_at]; omega))) (by kernel_rfl) ?_
  refine aw_skip ?_
  refine aw_seq ?_
  refine aw_seq ?_
  (refine aw_ops (by kernel_rfl) (fun K hK => ?_); simp (disch := first | omega | (simp only [lnS]; try omega; done)) [-getElem?_pos, -getElem?_neg, -notTuple, hnt, hvc, nt_intG, -xlen, hxl]; refine hK _ _ ?_; clear hK K)
  refine aw_block ?_
  refine aw_loop (fun c α G => ∃ i : Nat, i + c = a.length ∧ G = H ∧ α 0 = u ∧ α 1 = v ∧ α 12 = .int .i64 (a.length : Nat) ∧ α 13 = .int .i64 (i : Nat) ∧ ∀ k, k < i → a[k]? = b[k]?) a.length ?_ ?_
  · exact ⟨0, by omega, rfl, by (first | (simp [put_at, put_none, fr0_at]; done) | rfl), by (first | (simp [put_at, put_none, fr0_at]; done) | rfl), by (first | (simp [put_at, put_none, fr0_at]; done) | rfl), by (first | (simp [put_at, put_none, fr0_at]; done) | rfl), fun k hk => by omega⟩
  rintro c α G ⟨i, hic, rfl, h0, h1, h12, h13, hpre⟩
  refine aw_seq ?_
  by_cases hi : i < a.length
  case neg =>
    (refine aw_ops (by kernel_rfl) (fun K hK => ?_); simp (disch := first | omega | (simp only [lnS]; try omega; done)) [-getElem?_pos, -getElem?_neg, h12, h13, nt_intG, hi]; refine hK _ _ ?_; clear hK K)
    refine aw_seq ?_
    refine aw_f (by (first | (simp [eval_tmp, put_at, hi]; done) | (simp [eval_tmp, put_at, hi]; omega))) (by kernel_rfl) ?_
    refine aw_exit ?_
    refine aw_seq ?_
    (refine aw_ops (by kernel_rfl) (fun K hK => ?_); simp (disch := first | omega | (simp only [lnS]; try omega; done)) [-getElem?_pos, -getElem?_neg]; refine hK _ _ ?_; clear hK K)
    (refine aw_ret ?_; simp (disch := first | omega | (simp only [lnS]; try omega; done)) [-getElem?_pos, -getElem?_neg, thenQ_ret, scopeQ_ret, inBlockQ_ret, RQ, resL, resV])
    all_goals exact (by
      apply List.ext_getElem?
      intro k
      rcases Nat.lt_or_ge k a.length with hk | hk
      · exact hpre k (by omega)
      · rw [List.getElem?_eq_none hk, List.getElem?_eq_none (by omega)])
  obtain ⟨A, hA⟩ : ∃ A, a[i]? = some A := ⟨_, List.getElem?_eq_getElem hi⟩
  obtain ⟨B, hB⟩ : ∃ B, b[i]? = some B := ⟨_, List.getElem?_eq_getElem (by omega)⟩
  obtain ⟨j1, g1, bb1, a1, s2, s3, s4, s5, s6, hC1⟩ := ha.row_at hwa hA
  obtain ⟨j2, g2, bb2, a2, t2, t3, t4, t5, t6, hC2⟩ := hb.row_at hwb hB
  have hbe := box_eq (a := A) (b := B) (hwa A (List.mem_of_getElem? hA)).pub.1 (hwb B (List.mem_of_getElem? hB)).pub.1
  have l1 := box_ld s3 s4
  have l2 := box_ld t3 t4
  rw [← s5, hC1.row] at l1
  rw [← t5, hC2.row] at l2
  (refine aw_ops (by kernel_rfl) (fun K hK => ?_); simp (disch := first | omega | (simp only [lnS]; try omega; done)) [-getElem?_pos, -getElem?_neg, h12, h13, nt_intG, hi]; refine hK _ _ ?_; clear hK K)
  refine aw_seq ?_
  refine aw_t (by (first | (simp [eval_tmp, put_at, hi]; done) | (simp [eval_tmp, put_at, hi]; omega))) (by kernel_rfl) ?_
  refine aw_skip ?_
  refine aw_seq ?_
  refine aw_block ?_
  refine aw_seq ?_
  (refine aw_ops (by kernel_rfl) (fun K hK => ?_); simp (disch := first | omega | (simp only [lnS]; try omega; done)) [-getElem?_pos, -getElem?_neg, h13]; refine hK _ _ ?_; clear hK K)
  refine aw_seq ?_
  generalize boxRow A = RA at *
  generalize boxRow B = RB at *
  by_cases hAB : A = B
  · rw [decide_eq_true hAB] at hbe
    (refine aw_plan [] [] [0, 1, 2, 3, 4, 5, 6, 7, 8] 9 0 (by kernel_rfl) (by kernel_rfl) (by kernel_rfl) (fun K hK => ?_)); simp only [sel, List.getElem?_cons_succ, List.getElem?_cons_zero, List.drop_succ_cons, List.drop_zero]; simp (disch := first | omega | (simp only [lnS]; try omega; done)) [-getElem?_pos, -getElem?_neg, h0, h1, h13, -notTuple, hnt, hvc, hnt2, hvc2, nt_intG, nt_ptrG, nt_aggG, -xindexAddr, -xload, s2, t2, l1, l2, -xagg, hbe, PL_nil, plainB_lit, PL_cons, PLc_val, PLc_new, stepP_t, stepP_f, stepPC_n, stepPC_s, stepPX_s, stepPX_n, stepPV_n, stepPV_s, stepPA_t, stepPA_c, stepPA_l, stepPN_s, allocOp, reloc_sl, reloc_ptr, List.map_cons, List.map_nil, List.nil_append, List.append_assoc, List.cons_append, Nat.add_assoc]
    refine hK _ _ ?_; clear hK K
    refine aw_f (by (first | (simp [eval_tmp, put_at]; done) | (simp [eval_tmp, put_at]; omega))) (by kernel_rfl) ?_
    refine aw_skip ?_
    (refine aw_ops (by kernel_rfl) (fun K hK => ?_); simp (disch := first | omega | (simp only [lnS]; try omega; done)) [-getElem?_pos, -getElem?_neg, h13]; refine hK _ _ ?_; clear hK K)
    refine ⟨c - 1, by omega, i + 1, by omega, rfl, by (first | (simp [put_at, put_none, fr0_at, h0]; done) | rfl), by (first | (simp [put_at, put_none, fr0_at, h1]; done) | rfl), by (first | (simp [put_at, put_none, fr0_at, h12]; done) | rfl), by (first | (simp [put_at, put_none, fr0_at]; done) | rfl), fun k hk => ?_⟩
    by_cases e : k = i
    · subst e; rw [hA, hB, hAB]
    · exact hpre k (by omega)
  · rw [decide_eq_false hAB] at hbe
    (refine aw_plan [] [] [0, 1, 2, 3, 4, 5, 6, 7, 8] 9 0 (by kernel_rfl) (by kernel_rfl) (by kernel_rfl) (fun K hK => ?_)); simp only [sel, List.getElem?_cons_succ, List.getElem?_cons_zero, List.drop_succ_cons, List.drop_zero]; simp (disch := first | omega | (simp only [lnS]; try omega; done)) [-getElem?_pos, -getElem?_neg, h0, h1, h13, -notTuple, hnt, hvc, hnt2, hvc2, nt_intG, nt_ptrG, nt_aggG, -xindexAddr, -xload, s2, t2, l1, l2, -xagg, hbe, PL_nil, plainB_lit, PL_cons, PLc_val, PLc_new, stepP_t, stepP_f, stepPC_n, stepPC_s, stepPX_s, stepPX_n, stepPV_n, stepPV_s, stepPA_t, stepPA_c, stepPA_l, stepPN_s, allocOp, reloc_sl, reloc_ptr, List.map_cons, List.map_nil, List.nil_append, List.append_assoc, List.cons_append, Nat.add_assoc]
    refine hK _ _ ?_; clear hK K
    refine aw_t (by (first | (simp [eval_tmp, put_at, hAB]; done) | (simp [eval_tmp, put_at, hAB]; omega))) (by kernel_rfl) ?_
    refine aw_seq ?_
    (refine aw_ops (by kernel_rfl) (fun K hK => ?_); simp (disch := first | omega | (simp only [lnS]; try omega; done)) [-getElem?_pos, -getElem?_neg]; refine hK _ _ ?_; clear hK K)
    (refine aw_ret ?_; simp (disch := first | omega | (simp only [lnS]; try omega; done)) [-getElem?_pos, -getElem?_neg, thenQ_ret, scopeQ_ret, inBlockQ_ret, RQ, resL, resV])
    all_goals exact fun hh => hAB (by rw [hh] at hA; rw [hA] at hB; cases hB; rfl)
end
section
attribute [local simp] wb_bool wb_undef with_lit XL_nil XL_cons XLc_val XLc_call step1_eq stepW_t stepW_f stepC_n stepC_s stepX_s stepX_n stepN_s calleeX oneV xop_eq xopR_s xopR_n wantedA_eq wantedG_n wantedG_s plain1_int plain1_bool plain1_string bits_i64 bits_u64 bits_u32 bits_u16 bits_u8 xeqA xagg xcmp xarr allK_iv num_iv calleeOf xread xeff xbin xint xnil xun xstr xload xconv xpart xfield xfieldAddr xindexAddr xindex bnd asInt? xslice xlen xmin xmax xbuild xfill xappend xapp2 xappstr xappmk xcap xcopy xcells eval_tmp eval_const put_at put_none fr0_at cells_agg cells_int cells_bool cells_string cells_ptr cells_slice notTuple tab iv_all hget_app hget_app0 hget_cons0 hget_cons set_app set_app0 setR setR_one QL_nil QL_cons QLc_val stepQ_t stepQ_f stepQC_n stepQC_s stepQX_s SL_nil SL_cons SLc_val stepS_t stepS_f ltT ltF leT leF eqT eqF ltTn ltFn leTn leFn eqTn eqFn beqT beqF bneT bneF wi64 wu64 wu32 wu16 wu8 tmodP tdivP hgetL hgetNe hgetEq setL nums_def nums_len Nat.succ_le_of_lt List.getElem?_cons_zero List.getElem?_cons_succ Option.getD_some Int.toNat_add Int.toNat_mul agM okM agB agI agS agP agL agA okB okI okS okP okSl okA
theorem sameOp_rc {γ : Nat → Option Nat} {H : AH} {us ws : List Value} {o o' : OpD} {pv wv bv pv' wv' bv' : Value} (h : OpC H us o pv wv bv) (h' : OpC H ws o' pv' wv' bv') (hw : o.Wf) (hw' : o'.Wf) (hs : o.parents.length ≤ 1000000 ∧ o.who.length ≤ 1000000 ∧ o.boxes.length ≤ 1000000) : AC Try.prog H.length γ 43 #[.agg us.toArray, .agg ws.toArray] H (fun v' _ => v' = .bool (decide (o = o'))) := by
  have hul := h.len
  have hwl := h'.len
  obtain ⟨m1, m2, m3⟩ := hs
  have hps := hw'.plen
  have hws := hw'.wlen
  have hbs := hw'.blen
  have hm63 : o'.parents.length ≤ 9223372036854775807 ∧ o'.who.length ≤ 9223372036854775807 ∧ o'.boxes.length ≤ 9223372036854775807 := by simp only [maxLen] at hps hws hbs; omega
  obtain ⟨m1', m2', m3'⟩ := hm63
  refine ac_of_aw Try.func43 rfl Try.ntmps43 Try.results43 (by simp) ?_
  refine aw_seq ?_
  (refine aw_ops (by kernel_rfl) (fun K hK => ?_); simp (disch := first | omega | (simp only [lnS]; try omega; done)) [-getElem?_pos, -getElem?_neg, hul, hwl, nt_aggG]; refine hK _ _ ?_; clear hK K)
  obtain ⟨G, hGe⟩ : ∃ G : AH, G = H ++ [some ⟨us, 37, none⟩, some ⟨ws, 37, none⟩] := ⟨_, rfl⟩
  have b2 : hget G H.length = some ⟨us, 37, none⟩ := by rw [hGe, hget_app0]; rfl
  have b3 : hget G (H.length + 1) = some ⟨ws, 37, none⟩ := by rw [hGe, hget_app]; rfl
  have lw : Low H.length H G := hGe ▸ Low.push (Nat.le_refl _) _
  rw [← hGe]
  clear hGe
  obtain ⟨n, hn⟩ : ∃ n, n = H.length := ⟨_, rfl⟩
  rw [← hn] at b2 b3 lw ⊢
  have hO : OpC G us o pv wv bv := h.low (fun j hj => lw.1 j (by omega))
  have hO' : OpC G ws o' pv' wv' bv' := h'.low (fun j hj => lw.1 j (by omega))
  have pa := hO.parents.acc (fun k hk => (hw.parents k hk).1)
  have wa := hO.who.acc
  have bn := val_nt hO.boxes
  have bl := val_len (P := Try.prog) (t := 35) (e := 60) hO.boxes (by kernel_rfl)
  rw [List.length_map] at bl
  have p1 := pa.nt
  have p2 := pa.cs
  have p3 := pa.len
  have w1 := wa.nt
  have w2 := wa.cs
  have w3 := wa.len
  obtain ⟨n1, n2⟩ := bn
  have c0 := hO.c0
  have c1 := hO.c1
  have c2 := hO.c2
  have c3 := hO.c3
  have c4 := hO.c4
  have cf := hO.of
  have cc := hO.check
  have c69 := hO.c69
  have c70 := hO.c70
  have lf : (iv .u8 o.of).length = 32 := by rw [iv_length, hw.of.1]
  have lc : (iv .u8 o.check).length = 32 := by rw [iv_length, hw.check.1]
  have pa' := hO'.parents.acc (fun k hk => (hw'.parents k hk).1)
  have wa' := hO'.who.acc
  have bn' := val_nt hO'.boxes
  have bl' := val_len (P := Try.prog) (t := 35) (e := 60) hO'.boxes (by kernel_rfl)
  rw [List.length_map] at bl'
  have p1' := pa'.nt
  have p2' := pa'.cs
  have p3' := pa'.len
  have w1' := wa'.nt
  have w2' := wa'.cs
  have w3' := wa'.len
  obtain ⟨n1', n2'⟩ := bn'
  have c0' := hO'.c0
  have c1' := hO'.c1
  have c2' := hO'.c2
  have c3' := hO'.c3
  have c4' := hO'.c4
  have cf' := hO'.of
  have cc' := hO'.check
  have c69' := hO'.c69
  have c70' := hO'.c70
  have lf' : (iv .u8 o'.of).length = 32 := by rw [iv_length, hw'.of.1]
  have lc' : (iv .u8 o'.check).length = 32 := by rw [iv_length, hw'.check.1]
  have x2 : xload Try.prog 30 (.pointer (some ⟨n, 2, none⟩)) G = some pv := by simp [xload, b2, c2]
  have x4 : xload Try.prog 34 (.pointer (some ⟨n, 4, none⟩)) G = some wv := by simp [xload, b2, c4]
  have x70 : xload Try.prog 35 (.pointer (some ⟨n, 70, none⟩)) G = some bv := by simp [xload, b2, c70]
  have x2' : xload Try.prog 30 (.pointer (some ⟨n + 1, 2, none⟩)) G = some pv' := by simp [xload, b3, c2']
  have x4' : xload Try.prog 34 (.pointer (some ⟨n + 1, 4, none⟩)) G = some wv' := by simp [xload, b3, c4']
  have x70' : xload Try.prog 35 (.pointer (some ⟨n + 1, 70, none⟩)) G = some bv' := by simp [xload, b3, c70']
  refine aw_seq ?_
  refine aw_seq ?_
  refine aw_cut (fun α G2 => α 2 = .pointer (some ⟨n, 0, none⟩) ∧ α 3 = .pointer (some ⟨n + 1, 0, none⟩) ∧ G2 = G ∧ ∃ b, α 74 = .bool b ∧ (b = true → ¬ o = o') ∧ (b = false → o.author = o'.author ∧ o.seq = o'.seq ∧ o.kind = o'.kind ∧ o.of = o'.of ∧ o.check = o'.check ∧ o.text = o'.text ∧ o.parents.length = o'.parents.length ∧ o.who.length = o'.who.length ∧ o.boxes.length = o'.boxes.length)) ?_ ?_
  · by_cases e0 : o.author = o'.author
    case neg =>
      have q0 : (o.author == o'.author) = false := by rw [beq_eq_false_iff_ne]; exact e0
      (refine aw_ops (by kernel_rfl) (fun K hK => ?_); simp (disch := first | omega | (simp only [lnS]; try omega; done)) [-getElem?_pos, -getElem?_neg, b2, b3, hul, hwl, c0, c0', c1, c1', c2, c2', c3, c3', c4, c4', cf, cf', cc, cc', c69, c69', c70, c70', lf, lf', lc, lc', -notTuple, p1, p1', p2, p2', w1, w1', w2, w2', n1, n1', n2, n2', nt_intG, nt_ptrG, nt_strG, nt_aggG, -xlen, p3, p3', w3, w3', bl, bl', e0, q0]; refine hK _ _ ?_; clear hK K)
      exact ⟨by (first | (simp [put_at, put_none, fr0_at]; done) | rfl), by (first | (simp [put_at, put_none, fr0_at]; done) | rfl), rfl, true, by (first | (simp [put_at, put_none, fr0_at]; done) | rfl), fun _ => fun hh => e0 (by rw [hh]), fun hh => (by cases hh)⟩
    have q0 : (o.author == o'.author) = true := by rw [beq_iff_eq]; exact e0
    by_cases e1 : o.seq = o'.seq
    case neg =>
      have q1 : (o.seq == o'.seq) = false := by rw [beq_eq_false_iff_ne]; exact e1
      (refine aw_ops (by kernel_rfl) (fun K hK => ?_); simp (disch := first | omega | (simp only [lnS]; try omega; done)) [-getElem?_pos, -getElem?_neg, b2, b3, hul, hwl, c0, c0', c1, c1', c2, c2', c3, c3', c4, c4', cf, cf', cc, cc', c69, c69', c70, c70', lf, lf', lc, lc', -notTuple, p1, p1', p2, p2', w1, w1', w2, w2', n1, n1', n2, n2', nt_intG, nt_ptrG, nt_strG, nt_aggG, -xlen, p3, p3', w3, w3', bl, bl', e0, q0, e1, q1]; refine hK _ _ ?_; clear hK K)
      exact ⟨by (first | (simp [put_at, put_none, fr0_at]; done) | rfl), by (first | (simp [put_at, put_none, fr0_at]; done) | rfl), rfl, true, by (first | (simp [put_at, put_none, fr0_at]; done) | rfl), fun _ => fun hh => e1 (by rw [hh]), fun hh => (by cases hh)⟩
    have q1 : (o.seq == o'.seq) = true := by rw [beq_iff_eq]; exact e1
    by_cases e2 : o.kind = o'.kind
    case neg =>
      have q2 : (o.kind == o'.kind) = false := by rw [beq_eq_false_iff_ne]; exact e2
      (refine aw_ops (by kernel_rfl) (fun K hK => ?_); simp (disch := first | omega | (simp only [lnS]; try omega; done)) [-getElem?_pos, -getElem?_neg, b2, b3, hul, hwl, c0, c0', c1, c1', c2, c2', c3, c3', c4, c4', cf, cf', cc, cc', c69, c69', c70, c70', lf, lf', lc, lc', -notTuple, p1, p1', p2, p2', w1, w1', w2, w2', n1, n1', n2, n2', nt_intG, nt_ptrG, nt_strG, nt_aggG, -xlen, p3, p3', w3, w3', bl, bl', e0, q0, e1, q1, e2, q2]; refine hK _ _ ?_; clear hK K)
      exact ⟨by (first | (simp [put_at, put_none, fr0_at]; done) | rfl), by (first | (simp [put_at, put_none, fr0_at]; done) | rfl), rfl, true, by (first | (simp [put_at, put_none, fr0_at]; done) | rfl), fun _ => fun hh => e2 (by rw [hh]), fun hh => (by cases hh)⟩
    have q2 : (o.kind == o'.kind) = true := by rw [beq_iff_eq]; exact e2
    by_cases e3 : o.of = o'.of
    case neg =>
      have q3 : (o.of == o'.of) = false := by rw [beq_eq_false_iff_ne]; exact e3
      (refine aw_ops (by kernel_rfl) (fun K hK => ?_); simp (disch := first | omega | (simp only [lnS]; try omega; done)) [-getElem?_pos, -getElem?_neg, b2, b3, hul, hwl, c0, c0', c1, c1', c2, c2', c3, c3', c4, c4', cf, cf', cc, cc', c69, c69', c70, c70', lf, lf', lc, lc', -notTuple, p1, p1', p2, p2', w1, w1', w2, w2', n1, n1', n2, n2', nt_intG, nt_ptrG, nt_strG, nt_aggG, -xlen, p3, p3', w3, w3', bl, bl', e0, q0, e1, q1, e2, q2, e3, q3]; refine hK _ _ ?_; clear hK K)
      exact ⟨by (first | (simp [put_at, put_none, fr0_at]; done) | rfl), by (first | (simp [put_at, put_none, fr0_at]; done) | rfl), rfl, true, by (first | (simp [put_at, put_none, fr0_at]; done) | rfl), fun _ => fun hh => e3 (by rw [hh]), fun hh => (by cases hh)⟩
    have q3 : (o.of == o'.of) = true := by rw [beq_iff_eq]; exact e3
    by_cases e4 : o.check = o'.check
    case neg =>
      have q4 : (o.check == o'.check) = false := by rw [beq_eq_false_iff_ne]; exact e4
      (refine aw_ops (by kernel_rfl) (fun K hK => ?_); simp (disch := first | omega | (simp only [lnS]; try omega; done)) [-getElem?_pos, -getElem?_neg, b2, b3, hul, hwl, c0, c0', c1, c1', c2, c2', c3, c3', c4, c4', cf, cf', cc, cc', c69, c69', c70, c70', lf, lf', lc, lc', -notTuple, p1, p1', p2, p2', w1, w1', w2, w2', n1, n1', n2, n2', nt_intG, nt_ptrG, nt_strG, nt_aggG, -xlen, p3, p3', w3, w3', bl, bl', e0, q0, e1, q1, e2, q2, e3, q3, e4, q4]; refine hK _ _ ?_; clear hK K)
      exact ⟨by (first | (simp [put_at, put_none, fr0_at]; done) | rfl), by (first | (simp [put_at, put_none, fr0_at]; done) | rfl), rfl, true, by (first | (simp [put_at, put_none, fr0_at]; done) | rfl), fun _ => fun hh => e4 (by rw [hh]), fun hh => (by cases hh)⟩
    have q4 : (o.check == o'.check) = true := by rw [beq_iff_eq]; exact e4
    by_cases e5 : o.text = o'.text
    case neg =>
      have q5 : (o.text.toList == o'.text.toList) = false := by rw [beq_eq_false_iff_ne]; exact fun hh => e5 ((tl_eq _ _).1 hh)
      (refine aw_ops (by kernel_rfl) (fun K hK => ?_); simp (disch := first | omega | (simp only [lnS]; try omega; done)) [-getElem?_pos, -getElem?_neg, b2, b3, hul, hwl, c0, c0', c1, c1', c2, c2', c3, c3', c4, c4', cf, cf', cc, cc', c69, c69', c70, c70', lf, lf', lc, lc', -notTuple, p1, p1', p2, p2', w1, w1', w2, w2', n1, n1', n2, n2', nt_intG, nt_ptrG, nt_strG, nt_aggG, -xlen, p3, p3', w3, w3', bl, bl', e0, q0, e1, q1, e2, q2, e3, q3, e4, q4, q5]; refine hK _ _ ?_; clear hK K)
      exact ⟨by (first | (simp [put_at, put_none, fr0_at]; done) | rfl), by (first | (simp [put_at, put_none, fr0_at]; done) | rfl), rfl, true, by (first | (simp [put_at, put_none, fr0_at]; done) | rfl), fun _ => fun hh => e5 (by rw [hh]), fun hh => (by cases hh)⟩
    have q5 : (o.text.toList == o'.text.toList) = true := by rw [beq_iff_eq]; exact (tl_eq _ _).2 e5
    by_cases e6 : (o.parents.length : Int) = (o'.parents.length : Int)
    case neg =>
      have q6 : ((o.parents.length : Int) == (o'.parents.length : Int)) = false := by rw [beq_eq_false_iff_ne]; exact e6
      (refine aw_ops (by kernel_rfl) (fun K hK => ?_); simp (disch := first | omega | (simp only [lnS]; try omega; done)) [-getElem?_pos, -getElem?_neg, b2, b3, hul, hwl, c0, c0', c1, c1', c2, c2', c3, c3', c4, c4', cf, cf', cc, cc', c69, c69', c70, c70', lf, lf', lc, lc', -notTuple, p1, p1', p2, p2', w1, w1', w2, w2', n1, n1', n2, n2', nt_intG, nt_ptrG, nt_strG, nt_aggG, -xlen, p3, p3', w3, w3', bl, bl', e0, q0, e1, q1, e2, q2, e3, q3, e4, q4, q5, e6, q6]; refine hK _ _ ?_; clear hK K)
      exact ⟨by (first | (simp [put_at, put_none, fr0_at]; done) | rfl), by (first | (simp [put_at, put_none, fr0_at]; done) | rfl), rfl, true, by (first | (simp [put_at, put_none, fr0_at]; done) | rfl), fun _ => fun hh => e6 (by rw [hh]), fun hh => (by cases hh)⟩
    have q6 : ((o.parents.length : Int) == (o'.parents.length : Int)) = true := by rw [beq_iff_eq]; exact e6
    by_cases e7 : (o.who.length : Int) = (o'.who.length : Int)
    case neg =>
      have q7 : ((o.who.length : Int) == (o'.who.length : Int)) = false := by rw [beq_eq_false_iff_ne]; exact e7
      (refine aw_ops (by kernel_rfl) (fun K hK => ?_); simp (disch := first | omega | (simp only [lnS]; try omega; done)) [-getElem?_pos, -getElem?_neg, b2, b3, hul, hwl, c0, c0', c1, c1', c2, c2', c3, c3', c4, c4', cf, cf', cc, cc', c69, c69', c70, c70', lf, lf', lc, lc', -notTuple, p1, p1', p2, p2', w1, w1', w2, w2', n1, n1', n2, n2', nt_intG, nt_ptrG, nt_strG, nt_aggG, -xlen, p3, p3', w3, w3', bl, bl', e0, q0, e1, q1, e2, q2, e3, q3, e4, q4, q5, e6, q6, e7, q7]; refine hK _ _ ?_; clear hK K)
      exact ⟨by (first | (simp [put_at, put_none, fr0_at]; done) | rfl), by (first | (simp [put_at, put_none, fr0_at]; done) | rfl), rfl, true, by (first | (simp [put_at, put_none, fr0_at]; done) | rfl), fun _ => fun hh => e7 (by rw [hh]), fun hh => (by cases hh)⟩
    have q7 : ((o.who.length : Int) == (o'.who.length : Int)) = true := by rw [beq_iff_eq]; exact e7
    by_cases e8 : (o.boxes.length : Int) = (o'.boxes.length : Int)
    case neg =>
      have q8 : ((o.boxes.length : Int) == (o'.boxes.length : Int)) = false := by rw [beq_eq_false_iff_ne]; exact e8
      (refine aw_ops (by kernel_rfl) (fun K hK => ?_); simp (disch := first | omega | (simp only [lnS]; try omega; done)) [-getElem?_pos, -getElem?_neg, b2, b3, hul, hwl, c0, c0', c1, c1', c2, c2', c3, c3', c4, c4', cf, cf', cc, cc', c69, c69', c70, c70', lf, lf', lc, lc', -notTuple, p1, p1', p2, p2', w1, w1', w2, w2', n1, n1', n2, n2', nt_intG, nt_ptrG, nt_strG, nt_aggG, -xlen, p3, p3', w3, w3', bl, bl', e0, q0, e1, q1, e2, q2, e3, q3, e4, q4, q5, e6, q6, e7, q7, e8, q8]; refine hK _ _ ?_; clear hK K)
      exact ⟨by (first | (simp [put_at, put_none, fr0_at]; done) | rfl), by (first | (simp [put_at, put_none, fr0_at]; done) | rfl), rfl, true, by (first | (simp [put_at, put_none, fr0_at]; done) | rfl), fun _ => fun hh => e8 (by rw [hh]), fun hh => (by cases hh)⟩
    have q8 : ((o.boxes.length : Int) == (o'.boxes.length : Int)) = true := by rw [beq_iff_eq]; exact e8
    (refine aw_ops (by kernel_rfl) (fun K hK => ?_); simp (disch := first | omega | (simp only [lnS]; try omega; done)) [-getElem?_pos, -getElem?_neg, b2, b3, hul, hwl, c0, c0', c1, c1', c2, c2', c3, c3', c4, c4', cf, cf', cc, cc', c69, c69', c70, c70', lf, lf', lc, lc', -notTuple, p1, p1', p2, p2', w1, w1', w2, w2', n1, n1', n2, n2', nt_intG, nt_ptrG, nt_strG, nt_aggG, -xlen, p3, p3', w3, w3', bl, bl', e0, q0, e1, q1, e2, q2, e3, q3, e4, q4, q5, e6, q6, e7, q7, e8, q8]; refine hK _ _ ?_; clear hK K)
    exact ⟨by (first | (simp [put_at, put_none, fr0_at]; done) | rfl), by (first | (simp [put_at, put_none, fr0_at]; done) | rfl), rfl, false, by (first | (simp [put_at, put_none, fr0_at]; done) | rfl), fun hh => (by cases hh), fun _ => ⟨e0, e1, e2, e3, e4, e5, by omega, by omega, by omega⟩⟩
  rintro α G2 ⟨q2, q3, rfl, b, q74, hb1, hb2⟩
  cases b with
  | true =>
    have hne := hb1 rfl
    refine aw_t (by (first | (simp [eval_tmp, put_at, q74]; done) | (simp [eval_tmp, put_at, q74]; omega))) (by kernel_rfl) ?_
    refine aw_seq ?_
    (refine aw_ops (by kernel_rfl) (fun K hK => ?_); simp (disch := first | omega | (simp only [lnS]; try omega; done)) [-getElem?_pos, -getElem?_neg]; refine hK _ _ ?_; clear hK K)
    (refine aw_ret ?_; simp (disch := first | omega | (simp only [lnS]; try omega; done)) [-getElem?_pos, -getElem?_neg, thenQ_ret, scopeQ_ret, inBlockQ_ret, RQ, resL, resV])
    all_goals exact hne
  | false =>
  obtain ⟨e0, e1, e2, e3, e4, e5, e6, e7, e8⟩ := hb2 rfl
  refine aw_f (by (first | (simp [eval_tmp, put_at, q74]; done) | (simp [eval_tmp, put_at, q74]; omega))) (by kernel_rfl) ?_
  refine aw_skip ?_
  clear q74 hb1 hb2
  refine aw_seq ?_
  refine aw_seq ?_
  (refine aw_ops (by kernel_rfl) (fun K hK => ?_); simp (disch := first | omega | (simp only [lnS]; try omega; done)) [-getElem?_pos, -getElem?_neg]; refine hK _ _ ?_; clear hK K)
  refine aw_block ?_
  refine aw_loop (fun c α G => ∃ i : Nat, i + c = o.parents.length ∧ α 2 = .pointer (some ⟨n, 0, none⟩) ∧ α 3 = .pointer (some ⟨n + 1, 0, none⟩) ∧ α 5 = .int .i64 (i : Nat) ∧ G = G2 ∧ ∀ k, k < i → o.parents.getD k [] = o'.parents.getD k []) o.parents.length ?_ ?_
  · exact ⟨0, by omega, by (first | (simp [put_at, put_none, fr0_at, q2]; done) | rfl), by (first | (simp [put_at, put_none, fr0_at, q3]; done) | rfl), by (first | (simp [put_at, put_none, fr0_at]; done) | rfl), rfl, fun k hk => by omega⟩
  clear q2 q3
  rintro c α G ⟨i, hic, q2, q3, q5, rfl, hpre⟩
  refine aw_seq ?_
  refine aw_seq ?_
  by_cases hi : i < o.parents.length
  case pos =>
    obtain ⟨z1, y1, s1, s2, s3, s4, s5⟩ := pa.at_ i hi
    obtain ⟨z2, y2, t1, t2, t3, t4, t5⟩ := pa'.at_ i (by omega)
    subst s4 t4
    have s5 := s5 G (Low.refl (Nat.le_refl _))
    have t5 := t5 G (Low.refl (Nat.le_refl _))
    have k1 : (iv .u8 (o.parents.getD i [])).length = 32 := by rw [iv_length]; exact key_getD (fun k hk => (hw.parents k hk).1) hi
    have k2 : (iv .u8 (o'.parents.getD i [])).length = 32 := by rw [iv_length]; exact key_getD (fun k hk => (hw'.parents k hk).1) (by omega)
    (refine aw_ops (by kernel_rfl) (fun K hK => ?_); simp (disch := first | omega | (simp only [lnS]; try omega; done)) [-getElem?_pos, -getElem?_neg, q2, q3, q5, b2, b3, hul, hwl, c2, c2', -notTuple, p1, p1', p2, p2', nt_intG, nt_ptrG, -xlen, p3, p3', hi]; refine hK _ _ ?_; clear hK K)
    refine aw_t (by (first | (simp [eval_tmp, put_at, hi]; done) | (simp [eval_tmp, put_at, hi]; omega))) (by kernel_rfl) ?_
    refine aw_skip ?_
    refine aw_seq ?_
    refine aw_block ?_
    refine aw_seq ?_
    generalize hA : o.parents.getD i [] = A at *
    generalize hB : o'.parents.getD i [] = B at *
    by_cases hAB : A = B
    · have hq : (A == B) = true := by rw [beq_iff_eq]; exact hAB
      (refine aw_plan [] [] [0, 1, 2, 3, 4, 5, 6, 7, 8, 9, 10] 11 0 (by kernel_rfl) (by kernel_rfl) (by kernel_rfl) (fun K hK => ?_)); simp only [sel, List.getElem?_cons_succ, List.getElem?_cons_zero, List.drop_succ_cons, List.drop_zero]; simp (disch := first | omega | (simp only [lnS]; try omega; done)) [-getElem?_pos, -getElem?_neg, q2, q3, q5, -notTuple, p1, p1', p2, p2', s1, t1, s3, t3, nt_intG, nt_ptrG, nt_aggG, -xindexAddr, s2, t2, -xload, x2, x2', s5, t5, k1, k2, hq, hAB, PL_nil, plainB_lit, PL_cons, PLc_val, PLc_new, stepP_t, stepP_f, stepPC_n, stepPC_s, stepPX_s, stepPX_n, stepPV_n, stepPV_s, stepPA_t, stepPA_c, stepPA_l, stepPN_s, allocOp, reloc_sl, reloc_ptr, List.map_cons, List.map_nil, List.nil_append, List.append_assoc, List.cons_append, Nat.add_assoc]
      refine hK _ _ ?_; clear hK K
      refine aw_f (by (first | (simp [eval_tmp, put_at]; done) | (simp [eval_tmp, put_at]; omega))) (by kernel_rfl) ?_
      refine aw_skip ?_
      (refine aw_ops (by kernel_rfl) (fun K hK => ?_); simp (disch := first | omega | (simp only [lnS]; try omega; done)) [-getElem?_pos, -getElem?_neg, q5]; refine hK _ _ ?_; clear hK K)
      refine ⟨c - 1, by omega, i + 1, by omega, by (first | (simp [put_at, put_none, fr0_at, q2]; done) | rfl), by (first | (simp [put_at, put_none, fr0_at, q3]; done) | rfl), by (first | (simp [put_at, put_none, fr0_at]; done) | rfl), rfl, fun k hk => ?_⟩
      by_cases e : k = i
      · subst e; rw [hA, hB, hAB]
      · exact hpre k (by omega)
    · have hq : (A == B) = false := by rw [beq_eq_false_iff_ne]; exact hAB
      (refine aw_plan [] [] [0, 1, 2, 3, 4, 5, 6, 7, 8, 9, 10] 11 0 (by kernel_rfl) (by kernel_rfl) (by kernel_rfl) (fun K hK => ?_)); simp only [sel, List.getElem?_cons_succ, List.getElem?_cons_zero, List.drop_succ_cons, List.drop_zero]; simp (disch := first | omega | (simp only [lnS]; try omega; done)) [-getElem?_pos, -getElem?_neg, q2, q3, q5, -notTuple, p1, p1', p2, p2', s1, t1, s3, t3, nt_intG, nt_ptrG, nt_aggG, -xindexAddr, s2, t2, -xload, x2, x2', s5, t5, k1, k2, hq, hAB, PL_nil, plainB_lit, PL_cons, PLc_val, PLc_new, stepP_t, stepP_f, stepPC_n, stepPC_s, stepPX_s, stepPX_n, stepPV_n, stepPV_s, stepPA_t, stepPA_c, stepPA_l, stepPN_s, allocOp, reloc_sl, reloc_ptr, List.map_cons, List.map_nil, List.nil_append, List.append_assoc, List.cons_append, Nat.add_assoc]
      refine hK _ _ ?_; clear hK K
      refine aw_t (by (first | (simp [eval_tmp, put_at]; done) | (simp [eval_tmp, put_at]; omega))) (by kernel_rfl) ?_
      refine aw_seq ?_
      (refine aw_ops (by kernel_rfl) (fun K hK => ?_); simp (disch := first | omega | (simp only [lnS]; try omega; done)) [-getElem?_pos, -getElem?_neg]; refine hK _ _ ?_; clear hK K)
      (refine aw_ret ?_; simp (disch := first | omega | (simp only [lnS]; try omega; done)) [-getElem?_pos, -getElem?_neg, thenQ_ret, scopeQ_ret, inBlockQ_ret, RQ, resL, resV])
      all_goals exact fun hh => hAB (by rw [← hA, ← hB, hh])
  (refine aw_ops (by kernel_rfl) (fun K hK => ?_); simp (disch := first | omega | (simp only [lnS]; try omega; done)) [-getElem?_pos, -getElem?_neg, q2, q3, q5, b2, b3, hul, hwl, c2, c2', -notTuple, p1, p1', p2, p2', nt_intG, nt_ptrG, -xlen, p3, p3', hi]; refine hK _ _ ?_; clear hK K)
  refine aw_f (by (first | (simp [eval_tmp, put_at, hi]; done) | (simp [eval_tmp, put_at, hi]; omega))) (by kernel_rfl) ?_
  refine aw_exit ?_
  have hP : o.parents = o'.parents := keys_getD_ext e6 (fun k hk => hpre k (by omega))
  -- who
  refine aw_seq ?_
  refine aw_seq ?_
  (refine aw_ops (by kernel_rfl) (fun K hK => ?_); simp (disch := first | omega | (simp only [lnS]; try omega; done)) [-getElem?_pos, -getElem?_neg]; refine hK _ _ ?_; clear hK K)
  refine aw_block ?_
  refine aw_loop (fun c α G2 => ∃ i : Nat, i + c = o.who.length ∧ α 2 = .pointer (some ⟨n, 0, none⟩) ∧ α 3 = .pointer (some ⟨n + 1, 0, none⟩) ∧ α 6 = .int .i64 (i : Nat) ∧ G2 = G ∧ ∀ k, k < i → o.who.getD k 0 = o'.who.getD k 0) o.who.length ?_ ?_
  · exact ⟨0, by omega, by (first | (simp [put_at, put_none, fr0_at, q2]; done) | rfl), by (first | (simp [put_at, put_none, fr0_at, q3]; done) | rfl), by (first | (simp [put_at, put_none, fr0_at]; done) | rfl), rfl, fun k hk => by omega⟩
  clear q2 q3 q5
  rintro c α G2 ⟨i, hic, q2, q3, q6, rfl, hpre⟩
  refine aw_seq ?_
  refine aw_seq ?_
  by_cases hi : i < o.who.length
  case pos =>
    obtain ⟨z1, y1, s1, s2, s3, s4, s5⟩ := wa.at_ i hi
    obtain ⟨z2, y2, t1, t2, t3, t4, t5⟩ := wa'.at_ i (by omega)
    subst s4 t4
    have s5 := s5 G2 (Low.refl (Nat.le_refl _))
    have t5 := t5 G2 (Low.refl (Nat.le_refl _))
    (refine aw_ops (by kernel_rfl) (fun K hK => ?_); simp (disch := first | omega | (simp only [lnS]; try omega; done)) [-getElem?_pos, -getElem?_neg, q2, q3, q6, b2, b3, hul, hwl, c4, c4', -notTuple, w1, w1', w2, w2', nt_intG, nt_ptrG, -xlen, w3, w3', hi]; refine hK _ _ ?_; clear hK K)
    refine aw_t (by (first | (simp [eval_tmp, put_at, hi]; done) | (simp [eval_tmp, put_at, hi]; omega))) (by kernel_rfl) ?_
    refine aw_skip ?_
    refine aw_seq ?_
    refine aw_block ?_
    refine aw_seq ?_
    generalize hA : o.who.getD i 0 = A at *
    generalize hB : o'.who.getD i 0 = B at *
    by_cases hAB : A = B
    · have hq : (A == B) = true := by rw [beq_iff_eq]; exact hAB
      (refine aw_plan [] [] [0, 1, 2, 3, 4, 5, 6, 7, 8, 9, 10] 11 0 (by kernel_rfl) (by kernel_rfl) (by kernel_rfl) (fun K hK => ?_)); simp only [sel, List.getElem?_cons_succ, List.getElem?_cons_zero, List.drop_succ_cons, List.drop_zero]; simp (disch := first | omega | (simp only [lnS]; try omega; done)) [-getElem?_pos, -getElem?_neg, q2, q3, q6, -notTuple, w1, w1', w2, w2', s1, t1, s3, t3, nt_intG, nt_ptrG, nt_aggG, -xindexAddr, s2, t2, -xload, x4, x4', s5, t5, hq, hAB, PL_nil, plainB_lit, PL_cons, PLc_val, PLc_new, stepP_t, stepP_f, stepPC_n, stepPC_s, stepPX_s, stepPX_n, stepPV_n, stepPV_s, stepPA_t, stepPA_c, stepPA_l, stepPN_s, allocOp, reloc_sl, reloc_ptr, List.map_cons, List.map_nil, List.nil_append, List.append_assoc, List.cons_append, Nat.add_assoc]
      refine hK _ _ ?_; clear hK K
      refine aw_f (by (first | (simp [eval_tmp, put_at, hAB]; done) | (simp [eval_tmp, put_at, hAB]; omega))) (by kernel_rfl) ?_
      refine aw_skip ?_
      (refine aw_ops (by kernel_rfl) (fun K hK => ?_); simp (disch := first | omega | (simp only [lnS]; try omega; done)) [-getElem?_pos, -getElem?_neg, q6]; refine hK _ _ ?_; clear hK K)
      refine ⟨c - 1, by omega, i + 1, by omega, by (first | (simp [put_at, put_none, fr0_at, q2]; done) | rfl), by (first | (simp [put_at, put_none, fr0_at, q3]; done) | rfl), by (first | (simp [put_at, put_none, fr0_at]; done) | rfl), rfl, fun k hk => ?_⟩
      by_cases e : k = i
      · subst e; rw [hA, hB, hAB]
      · exact hpre k (by omega)
    · have hq : (A == B) = false := by rw [beq_eq_false_iff_ne]; exact hAB
      (refine aw_plan [] [] [0, 1, 2, 3, 4, 5, 6, 7, 8, 9, 10] 11 0 (by kernel_rfl) (by kernel_rfl) (by kernel_rfl) (fun K hK => ?_)); simp only [sel, List.getElem?_cons_succ, List.getElem?_cons_zero, List.drop_succ_cons, List.drop_zero]; simp (disch := first | omega | (simp only [lnS]; try omega; done)) [-getElem?_pos, -getElem?_neg, q2, q3, q6, -notTuple, w1, w1', w2, w2', s1, t1, s3, t3, nt_intG, nt_ptrG, nt_aggG, -xindexAddr, s2, t2, -xload, x4, x4', s5, t5, hq, hAB, PL_nil, plainB_lit, PL_cons, PLc_val, PLc_new, stepP_t, stepP_f, stepPC_n, stepPC_s, stepPX_s, stepPX_n, stepPV_n, stepPV_s, stepPA_t, stepPA_c, stepPA_l, stepPN_s, allocOp, reloc_sl, reloc_ptr, List.map_cons, List.map_nil, List.nil_append, List.append_assoc, List.cons_append, Nat.add_assoc]
      refine hK _ _ ?_; clear hK K
      refine aw_t (by (first | (simp [eval_tmp, put_at, hAB]; done) | (simp [eval_tmp, put_at, hAB]; omega))) (by kernel_rfl) ?_
      refine aw_seq ?_
      (refine aw_ops (by kernel_rfl) (fun K hK => ?_); simp (disch := first | omega | (simp only [lnS]; try omega; done)) [-getElem?_pos, -getElem?_neg]; refine hK _ _ ?_; clear hK K)
      (refine aw_ret ?_; simp (disch := first | omega | (simp only [lnS]; try omega; done)) [-getElem?_pos, -getElem?_neg, thenQ_ret, scopeQ_ret, inBlockQ_ret, RQ, resL, resV])
      all_goals exact fun hh => hAB (by rw [← hA, ← hB, hh])
  (refine aw_ops (by kernel_rfl) (fun K hK => ?_); simp (disch := first | omega | (simp only [lnS]; try omega; done)) [-getElem?_pos, -getElem?_neg, q2, q3, q6, b2, b3, hul, hwl, c4, c4', -notTuple, w1, w1', w2, w2', nt_intG, nt_ptrG, -xlen, w3, w3', hi]; refine hK _ _ ?_; clear hK K)
  refine aw_f (by (first | (simp [eval_tmp, put_at, hi]; done) | (simp [eval_tmp, put_at, hi]; omega))) (by kernel_rfl) ?_
  refine aw_exit ?_
  have hW : o.who = o'.who := list_getD_ext e7 (fun k hk => hpre k (by omega))
  -- boxes
  refine aw_seq ?_
  refine aw_seq ?_
  (refine aw_ops (by kernel_rfl) (fun K hK => ?_); simp (disch := first | omega | (simp only [lnS]; try omega; done)) [-getElem?_pos, -getElem?_neg]; refine hK _ _ ?_; clear hK K)
  refine aw_block ?_
  refine aw_loop (fun c α G => ∃ i : Nat, i + c = o.boxes.length ∧ α 2 = .pointer (some ⟨n, 0, none⟩) ∧ α 3 = .pointer (some ⟨n + 1, 0, none⟩) ∧ α 7 = .int .i64 (i : Nat) ∧ G = G2 ∧ ∀ k, k < i → o.boxes[k]? = o'.boxes[k]?) o.boxes.length ?_ ?_
  · exact ⟨0, by omega, by (first | (simp [put_at, put_none, fr0_at, q2]; done) | rfl), by (first | (simp [put_at, put_none, fr0_at, q3]; done) | rfl), by (first | (simp [put_at, put_none, fr0_at]; done) | rfl), rfl, fun k hk => by omega⟩
  clear q2 q3 q6
  rintro c α G ⟨i, hic, q2, q3, q7, rfl, hpre⟩
  refine aw_seq ?_
  refine aw_seq ?_
  by_cases hi : i < o.boxes.length
  case pos =>
    obtain ⟨A, hA⟩ : ∃ A, o.boxes[i]? = some A := ⟨_, List.getElem?_eq_getElem hi⟩
    obtain ⟨B, hB⟩ : ∃ B, o'.boxes[i]? = some B := ⟨_, List.getElem?_eq_getElem (by omega)⟩
    obtain ⟨j1, g1, bb1, a1, s2, s3, s4, s5, s6, hC1⟩ := hO.boxes.row_at hw.boxes hA
    obtain ⟨j2, g2, bb2, a2, t2, t3, t4, t5, t6, hC2⟩ := hO'.boxes.row_at hw'.boxes hB
    have r1 := hC1.row
    have r2 := hC2.row
    have hbe := box_eq (a := A) (b := B) (hw.boxes A (List.mem_of_getElem? hA)).pub.1 (hw'.boxes B (List.mem_of_getElem? hB)).pub.1
    have lx : ∀ (j g : Nat) (bb : Blk) (a : List Value), hget G j = some bb → g + 36 ≤ bb.cells.length → a = (bb.cells.drop g).take 36 → xload Try.prog 60 (.pointer (some ⟨j, g, none⟩)) G = some (.agg a.toArray) := fun j g bb a h1 h2 h3 => by
      have h4 : isAggD (und Try.prog 60) = true := by kernel_rfl
      have h5 : szt Try.prog 60 = 36 := by kernel_rfl
      unfold xload
      simp only [h1, h4, h5, if_true]
      rw [if_pos ⟨by omega, h2⟩, h3]
    have l1 := lx j1 g1 bb1 _ s3 s4 s5
    have l2 := lx j2 g2 bb2 _ t3 t4 t5
    rw [r1] at l1
    rw [r2] at l2
    (refine aw_ops (by kernel_rfl) (fun K hK => ?_); simp (disch := first | omega | (simp only [lnS]; try omega; done)) [-getElem?_pos, -getElem?_neg, q2, q3, q7, b2, b3, hul, hwl, c70, c70', -notTuple, n1, n1', n2, n2', nt_intG, nt_ptrG, -xlen, bl, bl', hi]; refine hK _ _ ?_; clear hK K)
    refine aw_t (by (first | (simp [eval_tmp, put_at, hi]; done) | (simp [eval_tmp, put_at, hi]; omega))) (by kernel_rfl) ?_
    refine aw_skip ?_
    refine aw_seq ?_
    refine aw_block ?_
    refine aw_seq ?_
    generalize boxRow A = RA at *
    generalize boxRow B = RB at *
    by_cases hAB : A = B
    · rw [decide_eq_true hAB] at hbe
      (refine aw_plan [] [] [0, 1, 2, 3, 4, 5, 6, 7, 8, 9, 10] 11 0 (by kernel_rfl) (by kernel_rfl) (by kernel_rfl) (fun K hK => ?_)); simp only [sel, List.getElem?_cons_succ, List.getElem?_cons_zero, List.drop_succ_cons, List.drop_zero]; simp (disch := first | omega | (simp only [lnS]; try omega; done)) [-getElem?_pos, -getElem?_neg, q2, q3, q7, -notTuple, n1, n1', n2, n2', nt_intG, nt_ptrG, nt_aggG, -xindexAddr, s2, t2, -xload, x70, x70', l1, l2, -xagg, hbe, PL_nil, plainB_lit, PL_cons, PLc_val, PLc_new, stepP_t, stepP_f, stepPC_n, stepPC_s, stepPX_s, stepPX_n, stepPV_n, stepPV_s, stepPA_t, stepPA_c, stepPA_l, stepPN_s, allocOp, reloc_sl, reloc_ptr, List.map_cons, List.map_nil, List.nil_append, List.append_assoc, List.cons_append, Nat.add_assoc]
      refine hK _ _ ?_; clear hK K
      refine aw_f (by (first | (simp [eval_tmp, put_at]; done) | (simp [eval_tmp, put_at]; omega))) (by kernel_rfl) ?_
      refine aw_skip ?_
      (refine aw_ops (by kernel_rfl) (fun K hK => ?_); simp (disch := first | omega | (simp only [lnS]; try omega; done)) [-getElem?_pos, -getElem?_neg, q7]; refine hK _ _ ?_; clear hK K)
      refine ⟨c - 1, by omega, i + 1, by omega, by (first | (simp [put_at, put_none, fr0_at, q2]; done) | rfl), by (first | (simp [put_at, put_none, fr0_at, q3]; done) | rfl), by (first | (simp [put_at, put_none, fr0_at]; done) | rfl), rfl, fun k hk => ?_⟩
      by_cases e : k = i
      · subst e; rw [hA, hB, hAB]
      · exact hpre k (by omega)
    · rw [decide_eq_false hAB] at hbe
      (refine aw_plan [] [] [0, 1, 2, 3, 4, 5, 6, 7, 8, 9, 10] 11 0 (by kernel_rfl) (by kernel_rfl) (by kernel_rfl) (fun K hK => ?_)); simp only [sel, List.getElem?_cons_succ, List.getElem?_cons_zero, List.drop_succ_cons, List.drop_zero]; simp (disch := first | omega | (simp only [lnS]; try omega; done)) [-getElem?_pos, -getElem?_neg, q2, q3, q7, -notTuple, n1, n1', n2, n2', nt_intG, nt_ptrG, nt_aggG, -xindexAddr, s2, t2, -xload, x70, x70', l1, l2, -xagg, hbe, PL_nil, plainB_lit, PL_cons, PLc_val, PLc_new, stepP_t, stepP_f, stepPC_n, stepPC_s, stepPX_s, stepPX_n, stepPV_n, stepPV_s, stepPA_t, stepPA_c, stepPA_l, stepPN_s, allocOp, reloc_sl, reloc_ptr, List.map_cons, List.map_nil, List.nil_append, List.append_assoc, List.cons_append, Nat.add_assoc]
      refine hK _ _ ?_; clear hK K
      refine aw_t (by (first | (simp [eval_tmp, put_at]; done) | (simp [eval_tmp, put_at]; omega))) (by kernel_rfl) ?_
      refine aw_seq ?_
      (refine aw_ops (by kernel_rfl) (fun K hK => ?_); simp (disch := first | omega | (simp only [lnS]; try omega; done)) [-getElem?_pos, -getElem?_neg]; refine hK _ _ ?_; clear hK K)
      (refine aw_ret ?_; simp (disch := first | omega | (simp only [lnS]; try omega; done)) [-getElem?_pos, -getElem?_neg, thenQ_ret, scopeQ_ret, inBlockQ_ret, RQ, resL, resV])
      all_goals exact fun hh => hAB (by rw [hh] at hA; rw [hA] at hB; cases hB; rfl)
  (refine aw_ops (by kernel_rfl) (fun K hK => ?_); simp (disch := first | omega | (simp only [lnS]; try omega; done)) [-getElem?_pos, -getElem?_neg, q2, q3, q7, b2, b3, hul, hwl, c70, c70', -notTuple, n1, n1', n2, n2', nt_intG, nt_ptrG, -xlen, bl, bl', hi]; refine hK _ _ ?_; clear hK K)
  refine aw_f (by (first | (simp [eval_tmp, put_at, hi]; done) | (simp [eval_tmp, put_at, hi]; omega))) (by kernel_rfl) ?_
  refine aw_exit ?_
  have hB : o.boxes = o'.boxes := by
    apply List.ext_getElem?
    intro k
    rcases Nat.lt_or_ge k o.boxes.length with hk | hk
    · exact hpre k (by omega)
    · rw [List.getElem?_eq_none hk, List.getElem?_eq_none (by omega)]
  have hfin : o = o' := OpD.ext e0 e1 hP e2 hW e3 e4 e5 hB
  refine aw_seq ?_
  (refine aw_ops (by kernel_rfl) (fun K hK => ?_); simp (disch := first | omega | (simp only [lnS]; try omega; done)) [-getElem?_pos, -getElem?_neg]; refine hK _ _ ?_; clear hK K)
  (refine aw_ret ?_; simp (disch := first | omega | (simp only [lnS]; try omega; done)) [-getElem?_pos, -getElem?_neg, thenQ_ret, scopeQ_ret, inBlockQ_ret, RQ, resL, resV])
  all_goals exact hfin
end
section
attribute [local simp] wb_bool wb_undef with_lit XL_nil XL_cons XLc_val XLc_call step1_eq stepW_t stepW_f stepC_n stepC_s stepX_s stepX_n stepN_s calleeX oneV xop_eq xopR_s xopR_n wantedA_eq wantedG_n wantedG_s plain1_int plain1_bool plain1_string bits_i64 bits_u64 bits_u32 bits_u16 bits_u8 xeqA xagg xcmp xarr allK_iv num_iv calleeOf xread xeff xbin xint xnil xun xstr xload xconv xpart xfield xfieldAddr xindexAddr xindex bnd asInt? xslice xlen xmin xmax xbuild xfill xappend xapp2 xappstr xappmk xcap xcopy xcells eval_tmp eval_const put_at put_none fr0_at cells_agg cells_int cells_bool cells_string cells_ptr cells_slice notTuple tab iv_all hget_app hget_app0 hget_cons0 hget_cons set_app set_app0 setR setR_one QL_nil QL_cons QLc_val stepQ_t stepQ_f stepQC_n stepQC_s stepQX_s SL_nil SL_cons SLc_val stepS_t stepS_f ltT ltF leT leF eqT eqF ltTn ltFn leTn leFn eqTn eqFn beqT beqF bneT bneF wi64 wu64 wu32 wu16 wu8 tmodP tdivP hgetL hgetNe hgetEq setL nums_def nums_len Nat.succ_le_of_lt List.getElem?_cons_zero List.getElem?_cons_succ Option.getD_some Int.toNat_add Int.toNat_mul agM okM agB agI agS agP agL agA okB okI okS okP okSl okA
theorem fSameOp_rc {γ : Nat → Option Nat} {H : AH} {us ws : List Value} {o o' : OpD} {pv wv bv pv' wv' bv' : Value} (h : OpC H us o pv wv bv) (h' : OpC H ws o' pv' wv' bv') (hw : o.Wf) (hw' : o'.Wf) : AC Try.prog H.length γ 66 #[.agg us.toArray, .agg ws.toArray] H (fun v' _ => v' = .bool (decide (o = o'))) := by
  have hul := h.len
  have hwl := h'.len
  refine ac_of_aw Try.func66 rfl Try.ntmps66 Try.results66 (by simp) ?_
  refine aw_seq ?_
  (refine aw_ops (by kernel_rfl) (fun K hK => ?_); simp (disch := first | omega | (simp only [lnS]; try omega; done)) [-getElem?_pos, -getElem?_neg, hul, hwl, nt_aggG]; refine hK _ _ ?_; clear hK K)
  obtain ⟨G, hGe⟩ : ∃ G : AH, G = H ++ [some ⟨us, 37, none⟩, some ⟨ws, 37, none⟩] := ⟨_, rfl⟩
  have b2 : hget G H.length = some ⟨us, 37, none⟩ := by rw [hGe, hget_app0]; rfl
  have b3 : hget G (H.length + 1) = some ⟨ws, 37, none⟩ := by rw [hGe, hget_app]; rfl
  have lw : Low H.length H G := hGe ▸ Low.push (Nat.le_refl _) _
  rw [← hGe]
  clear hGe
  obtain ⟨n, hn⟩ : ∃ n, n = H.length := ⟨_, rfl⟩
  rw [← hn] at b2 b3 lw ⊢
  have hO : OpC G us o pv wv bv := h.low (fun j hj => lw.1 j (by omega))
  have hO' : OpC G ws o' pv' wv' bv' := h'.low (fun j hj => lw.1 j (by omega))
  have pa := hO.parents.acc (fun k hk => (hw.parents k hk).1)
  have wa := hO.who.acc
  have bn := val_nt hO.boxes
  have bl := val_len (P := Try.prog) (t := 35) (e := 60) hO.boxes (by kernel_rfl)
  rw [List.length_map] at bl
  have p1 := pa.nt
  have p2 := pa.cs
  have p3 := pa.len
  have w1 := wa.nt
  have w2 := wa.cs
  have w3 := wa.len
  obtain ⟨n1, n2⟩ := bn
  have c0 := hO.c0
  have c1 := hO.c1
  have c2 := hO.c2
  have c3 := hO.c3
  have c4 := hO.c4
  have cf := hO.of
  have cc := hO.check
  have c69 := hO.c69
  have c70 := hO.c70
  have lf : (iv .u8 o.of).length = 32 := by rw [iv_length, hw.of.1]
  have lc : (iv .u8 o.check).length = 32 := by rw [iv_length, hw.check.1]
  have pa' := hO'.parents.acc (fun k hk => (hw'.parents k hk).1)
  have wa' := hO'.who.acc
  have bn' := val_nt hO'.boxes
  have bl' := val_len (P := Try.prog) (t := 35) (e := 60) hO'.boxes (by kernel_rfl)
  rw [List.length_map] at bl'
  have p1' := pa'.nt
  have p2' := pa'.cs
  have p3' := pa'.len
  have w1' := wa'.nt
  have w2' := wa'.cs
  have w3' := wa'.len
  obtain ⟨n1', n2'⟩ := bn'
  have c0' := hO'.c0
  have c1' := hO'.c1
  have c2' := hO'.c2
  have c3' := hO'.c3
  have c4' := hO'.c4
  have cf' := hO'.of
  have cc' := hO'.check
  have c69' := hO'.c69
  have c70' := hO'.c70
  have lf' : (iv .u8 o'.of).length = 32 := by rw [iv_length, hw'.of.1]
  have lc' : (iv .u8 o'.check).length = 32 := by rw [iv_length, hw'.check.1]
  have ek := eqK_rc (γ := γ) hO.parents hO'.parents (fun k hk => (hw.parents k hk).1) (fun k hk => (hw'.parents k hk).1) hw.plen
  have ei := eqI_rc (γ := γ) hO.who hO'.who hw.wlen
  have eb := eqB_rc (γ := γ) hO.boxes hO'.boxes hw.boxes hw'.boxes hw.blen
  refine aw_seq ?_
  refine aw_cut (fun α G2 => α 4 = .bool (decide (o = o')) ∧ G2 = G) ?_ ?_
  · by_cases e0 : o.author = o'.author
    case neg =>
      have q0 : (o.author == o'.author) = false := by rw [beq_eq_false_iff_ne]; exact e0
      have hd : decide (o = o') = false := decide_eq_false (fun hh => e0 (by rw [hh]))
      (refine aw_ops (by kernel_rfl) (fun K hK => ?_); simp (disch := first | omega | (simp only [lnS]; try omega; done)) [-getElem?_pos, -getElem?_neg, b2, b3, hul, hwl, c0, c0', c1, c1', c2, c2', c3, c3', c4, c4', cf, cf', cc, cc', c69, c69', c70, c70', lf, lf', lc, lc', -notTuple, p1, p1', p2, p2', w1, w1', w2, w2', n1, n1', n2, n2', nt_intG, nt_ptrG, nt_strG, nt_aggG, e0, q0]; refine hK _ _ ?_; clear hK K)
      exact ⟨by rw [hd]; (first | (simp [put_at, put_none, fr0_at]; done) | rfl), rfl⟩
    have q0 : (o.author == o'.author) = true := by rw [beq_iff_eq]; exact e0
    by_cases e1 : o.seq = o'.seq
    case neg =>
      have q1 : (o.seq == o'.seq) = false := by rw [beq_eq_false_iff_ne]; exact e1
      have hd : decide (o = o') = false := decide_eq_false (fun hh => e1 (by rw [hh]))
      (refine aw_ops (by kernel_rfl) (fun K hK => ?_); simp (disch := first | omega | (simp only [lnS]; try omega; done)) [-getElem?_pos, -getElem?_neg, b2, b3, hul, hwl, c0, c0', c1, c1', c2, c2', c3, c3', c4, c4', cf, cf', cc, cc', c69, c69', c70, c70', lf, lf', lc, lc', -notTuple, p1, p1', p2, p2', w1, w1', w2, w2', n1, n1', n2, n2', nt_intG, nt_ptrG, nt_strG, nt_aggG, e0, q0, e1, q1]; refine hK _ _ ?_; clear hK K)
      exact ⟨by rw [hd]; (first | (simp [put_at, put_none, fr0_at]; done) | rfl), rfl⟩
    have q1 : (o.seq == o'.seq) = true := by rw [beq_iff_eq]; exact e1
    by_cases e2 : o.kind = o'.kind
    case neg =>
      have q2 : (o.kind == o'.kind) = false := by rw [beq_eq_false_iff_ne]; exact e2
      have hd : decide (o = o') = false := decide_eq_false (fun hh => e2 (by rw [hh]))
      (refine aw_ops (by kernel_rfl) (fun K hK => ?_); simp (disch := first | omega | (simp only [lnS]; try omega; done)) [-getElem?_pos, -getElem?_neg, b2, b3, hul, hwl, c0, c0', c1, c1', c2, c2', c3, c3', c4, c4', cf, cf', cc, cc', c69, c69', c70, c70', lf, lf', lc, lc', -notTuple, p1, p1', p2, p2', w1, w1', w2, w2', n1, n1', n2, n2', nt_intG, nt_ptrG, nt_strG, nt_aggG, e0, q0, e1, q1, e2, q2]; refine hK _ _ ?_; clear hK K)
      exact ⟨by rw [hd]; (first | (simp [put_at, put_none, fr0_at]; done) | rfl), rfl⟩
    have q2 : (o.kind == o'.kind) = true := by rw [beq_iff_eq]; exact e2
    by_cases e3 : o.of = o'.of
    case neg =>
      have q3 : (o.of == o'.of) = false := by rw [beq_eq_false_iff_ne]; exact e3
      have hd : decide (o = o') = false := decide_eq_false (fun hh => e3 (by rw [hh]))
      (refine aw_ops (by kernel_rfl) (fun K hK => ?_); simp (disch := first | omega | (simp only [lnS]; try omega; done)) [-getElem?_pos, -getElem?_neg, b2, b3, hul, hwl, c0, c0', c1, c1', c2, c2', c3, c3', c4, c4', cf, cf', cc, cc', c69, c69', c70, c70', lf, lf', lc, lc', -notTuple, p1, p1', p2, p2', w1, w1', w2, w2', n1, n1', n2, n2', nt_intG, nt_ptrG, nt_strG, nt_aggG, e0, q0, e1, q1, e2, q2, e3, q3]; refine hK _ _ ?_; clear hK K)
      exact ⟨by rw [hd]; (first | (simp [put_at, put_none, fr0_at]; done) | rfl), rfl⟩
    have q3 : (o.of == o'.of) = true := by rw [beq_iff_eq]; exact e3
    by_cases e4 : o.check = o'.check
    case neg =>
      have q4 : (o.check == o'.check) = false := by rw [beq_eq_false_iff_ne]; exact e4
      have hd : decide (o = o') = false := decide_eq_false (fun hh => e4 (by rw [hh]))
      (refine aw_ops (by kernel_rfl) (fun K hK => ?_); simp (disch := first | omega | (simp only [lnS]; try omega; done)) [-getElem?_pos, -getElem?_neg, b2, b3, hul, hwl, c0, c0', c1, c1', c2, c2', c3, c3', c4, c4', cf, cf', cc, cc', c69, c69', c70, c70', lf, lf', lc, lc', -notTuple, p1, p1', p2, p2', w1, w1', w2, w2', n1, n1', n2, n2', nt_intG, nt_ptrG, nt_strG, nt_aggG, e0, q0, e1, q1, e2, q2, e3, q3, e4, q4]; refine hK _ _ ?_; clear hK K)
      exact ⟨by rw [hd]; (first | (simp [put_at, put_none, fr0_at]; done) | rfl), rfl⟩
    have q4 : (o.check == o'.check) = true := by rw [beq_iff_eq]; exact e4
    by_cases e5 : o.text = o'.text
    case neg =>
      have q5 : (o.text.toList == o'.text.toList) = false := by rw [beq_eq_false_iff_ne]; exact fun hh => e5 ((tl_eq _ _).1 hh)
      have hd : decide (o = o') = false := decide_eq_false (fun hh => e5 (by rw [hh]))
      (refine aw_ops (by kernel_rfl) (fun K hK => ?_); simp (disch := first | omega | (simp only [lnS]; try omega; done)) [-getElem?_pos, -getElem?_neg, b2, b3, hul, hwl, c0, c0', c1, c1', c2, c2', c3, c3', c4, c4', cf, cf', cc, cc', c69, c69', c70, c70', lf, lf', lc, lc', -notTuple, p1, p1', p2, p2', w1, w1', w2, w2', n1, n1', n2, n2', nt_intG, nt_ptrG, nt_strG, nt_aggG, e0, q0, e1, q1, e2, q2, e3, q3, e4, q4, q5]; refine hK _ _ ?_; clear hK K)
      exact ⟨by rw [hd]; (first | (simp [put_at, put_none, fr0_at]; done) | rfl), rfl⟩
    have q5 : (o.text.toList == o'.text.toList) = true := by rw [beq_iff_eq]; exact (tl_eq _ _).2 e5
    refine aw_ops (by kernel_rfl) (fun K hK => ?_)
    simp (disch := first | omega | (simp only [lnS]; try omega; done)) [-getElem?_pos, -getElem?_neg, b2, b3, hul, hwl, c0, c0', c1, c1', c2, c2', c3, c3', c4, c4', cf, cf', cc, cc', c69, c69', c70, c70', lf, lf', lc, lc', -notTuple, p1, p1', p2, p2', w1, w1', w2, w2', n1, n1', n2, n2', nt_intG, nt_ptrG, nt_strG, nt_aggG, e0, q0, e1, q1, e2, q2, e3, q3, e4, q4, q5]
    by_cases e6 : o.parents = o'.parents
    case neg =>
      have hd : decide (o = o') = false := decide_eq_false (fun hh => e6 (by rw [hh]))
      rw [decide_eq_false e6] at ek
      refine ⟨by kernel_rfl, ac_of_rc ek (by simp [pv_iv, pv_int, pv_bool, pv_string, pv_tup2, pv_tup3, iv_plain, p2_int, p2_bool, p2_string]) ?_⟩
      try simp (disch := first | omega | (simp only [lnS]; try omega; done)) [-getElem?_pos, -getElem?_neg, b2, b3, hul, hwl, c0, c0', c1, c1', c2, c2', c3, c3', c4, c4', cf, cf', cc, cc', c69, c69', c70, c70', lf, lf', lc, lc', -notTuple, p1, p1', p2, p2', w1, w1', w2, w2', n1, n1', n2, n2', nt_intG, nt_ptrG, nt_strG, nt_aggG, e0, q0, e1, q1, e2, q2, e3, q3, e4, q4, q5]
      refine hK _ _ ?_; clear hK K
      exact ⟨by rw [hd]; (first | (simp [put_at, put_none, fr0_at]; done) | rfl), rfl⟩
    rw [decide_eq_true e6] at ek
    refine ⟨by kernel_rfl, ac_of_rc ek (by simp [pv_iv, pv_int, pv_bool, pv_string, pv_tup2, pv_tup3, iv_plain, p2_int, p2_bool, p2_string]) ?_⟩
    try simp (disch := first | omega | (simp only [lnS]; try omega; done)) [-getElem?_pos, -getElem?_neg, b2, b3, hul, hwl, c0, c0', c1, c1', c2, c2', c3, c3', c4, c4', cf, cf', cc, cc', c69, c69', c70, c70', lf, lf', lc, lc', -notTuple, p1, p1', p2, p2', w1, w1', w2, w2', n1, n1', n2, n2', nt_intG, nt_ptrG, nt_strG, nt_aggG, e0, q0, e1, q1, e2, q2, e3, q3, e4, q4, q5]
    by_cases e7 : o.who = o'.who
    case neg =>
      have hd : decide (o = o') = false := decide_eq_false (fun hh => e7 (by rw [hh]))
      rw [decide_eq_false e7] at ei
      refine ⟨by kernel_rfl, ac_of_rc ei (by simp [pv_iv, pv_int, pv_bool, pv_string, pv_tup2, pv_tup3, iv_plain, p2_int, p2_bool, p2_string]) ?_⟩
      try simp (disch := first | omega | (simp only [lnS]; try omega; done)) [-getElem?_pos, -getElem?_neg, b2, b3, hul, hwl, c0, c0', c1, c1', c2, c2', c3, c3', c4, c4', cf, cf', cc, cc', c69, c69', c70, c70', lf, lf', lc, lc', -notTuple, p1, p1', p2, p2', w1, w1', w2, w2', n1, n1', n2, n2', nt_intG, nt_ptrG, nt_strG, nt_aggG, e0, q0, e1, q1, e2, q2, e3, q3, e4, q4, q5]
      refine hK _ _ ?_; clear hK K
      exact ⟨by rw [hd]; (first | (simp [put_at, put_none, fr0_at]; done) | rfl), rfl⟩
    rw [decide_eq_true e7] at ei
    refine ⟨by kernel_rfl, ac_of_rc ei (by simp [pv_iv, pv_int, pv_bool, pv_string, pv_tup2, pv_tup3, iv_plain, p2_int, p2_bool, p2_string]) ?_⟩
    try simp (disch := first | omega | (simp only [lnS]; try omega; done)) [-getElem?_pos, -getElem?_neg, b2, b3, hul, hwl, c0, c0', c1, c1', c2, c2', c3, c3', c4, c4', cf, cf', cc, cc', c69, c69', c70, c70', lf, lf', lc, lc', -notTuple, p1, p1', p2, p2', w1, w1', w2, w2', n1, n1', n2, n2', nt_intG, nt_ptrG, nt_strG, nt_aggG, e0, q0, e1, q1, e2, q2, e3, q3, e4, q4, q5]
    by_cases e8 : o.boxes = o'.boxes
    case neg =>
      have hd : decide (o = o') = false := decide_eq_false (fun hh => e8 (by rw [hh]))
      rw [decide_eq_false e8] at eb
      refine ⟨by kernel_rfl, ac_of_rc eb (by simp [pv_iv, pv_int, pv_bool, pv_string, pv_tup2, pv_tup3, iv_plain, p2_int, p2_bool, p2_string]) ?_⟩
      try simp (disch := first | omega | (simp only [lnS]; try omega; done)) [-getElem?_pos, -getElem?_neg, b2, b3, hul, hwl, c0, c0', c1, c1', c2, c2', c3, c3', c4, c4', cf, cf', cc, cc', c69, c69', c70, c70', lf, lf', lc, lc', -notTuple, p1, p1', p2, p2', w1, w1', w2, w2', n1, n1', n2, n2', nt_intG, nt_ptrG, nt_strG, nt_aggG, e0, q0, e1, q1, e2, q2, e3, q3, e4, q4, q5]
      refine hK _ _ ?_; clear hK K
      exact ⟨by rw [hd]; (first | (simp [put_at, put_none, fr0_at]; done) | rfl), rfl⟩
    rw [decide_eq_true e8] at eb
    refine ⟨by kernel_rfl, ac_of_rc eb (by simp [pv_iv, pv_int, pv_bool, pv_string, pv_tup2, pv_tup3, iv_plain, p2_int, p2_bool, p2_string]) ?_⟩
    try simp (disch := first | omega | (simp only [lnS]; try omega; done)) [-getElem?_pos, -getElem?_neg, b2, b3, hul, hwl, c0, c0', c1, c1', c2, c2', c3, c3', c4, c4', cf, cf', cc, cc', c69, c69', c70, c70', lf, lf', lc, lc', -notTuple, p1, p1', p2, p2', w1, w1', w2, w2', n1, n1', n2, n2', nt_intG, nt_ptrG, nt_strG, nt_aggG, e0, q0, e1, q1, e2, q2, e3, q3, e4, q4, q5]
    refine hK _ _ ?_; clear hK K
    have hd : decide (o = o') = true := decide_eq_true (OpD.ext e0 e1 e6 e2 e7 e3 e4 e5 e8)
    exact ⟨by rw [hd]; (first | (simp [put_at, put_none, fr0_at]; done) | rfl), rfl⟩
  rintro α G2 ⟨q4, rfl⟩
  (refine aw_ret ?_; simp (disch := first | omega | (simp only [lnS]; try omega; done)) [-getElem?_pos, -getElem?_neg, thenQ_ret, scopeQ_ret, inBlockQ_ret, RQ, resL, resV, q4])
end
section
/-- A datum of one cell that has no memory beneath it, and its value. -/
def CD.flat : CD → Bool | .sl _ => false | _ => true
def CD.fv : CD → Value | .int k z => .int k z | .str s => .string s | .bool b => .bool b | .sl _ => undef
theorem flat_val {H : AH} {d : CD} {x : Value} (hf : d.flat = true) (h : CD.Val H d x) : x = d.fv := by
  cases h with
  | int => rfl
  | str => rfl
  | bool => rfl
  | nil _ => cases hf
  | sl _ _ _ _ => cases hf
theorem val_flat {H : AH} {d : CD} (hf : d.flat = true) : CD.Val H d d.fv := by
  cases d with
  | int => exact .int
  | str => exact .str
  | bool => exact .bool
  | sl => cases hf
theorem fl_at {β : Type} {L : List (List β)} {n i c : Nat} {row : List β} {d : β} (h : ∀ r ∈ L, r.length = n) (hi : L[i]? = some row) (hc : row[c]? = some d) : L.flatten[i * n + c]? = some d := by
  have hr := h row (List.mem_of_getElem? hi)
  have hcl := (List.getElem?_eq_some_iff.1 hc).1
  have := fl_get h hi
  rw [← this] at hc
  rwa [List.getElem?_take_of_lt (by omega), List.getElem?_drop] at hc
def flatR (rows : List (List CD)) : Prop := ∀ row ∈ rows, ∀ d ∈ row, d.flat = true
theorem val_cells {H : AH} {rows : List (List CD)} {v : Value} {sz : Nat} (h0 : 0 < sz) (h : CD.Val H (.sl rows) v) (hr : ∀ row ∈ rows, row.length = sz) (hf : flatR rows) : xcells sz v H = some (rows.flatten.map CD.fv) := by
  cases h with
  | @nil a ha =>
    cases a with
    | none => rfl
    | some x =>
      obtain ⟨j, off, spot⟩ := x
      have hsp : spot = some 0 := ha _ rfl
      subst hsp
      rfl
  | @sl sz' j k _ h1 h2 h3 h4 =>
    have hlen : rows.flatten.length = rows.length * sz := fl_len hr
    have hle : rows.length * sz ≤ k.cells.length := by
      cases rows with
      | nil => simp
      | cons r rs =>
        have e1 := h3 r (by simp)
        have e2 := hr r (by simp)
        rw [← e2, e1]; exact h2
    have hx : xcells sz (.slice (some ⟨j, 0, none⟩) rows.length rows.length) H = some ((k.cells.drop 0).take (rows.length * sz)) := by
      unfold xcells
      simp only [h1]
      rw [if_pos (by omega)]
    rw [hx, List.drop_zero]
    congr 1
    apply List.ext_getElem?
    intro c
    rcases Nat.lt_or_ge c (rows.length * sz) with hc | hc
    · have hi : c / sz < rows.length := Nat.div_lt_of_lt_mul (by rw [Nat.mul_comm]; exact hc)
      obtain ⟨row, hrow⟩ : ∃ row, rows[c / sz]? = some row := ⟨_, List.getElem?_eq_getElem hi⟩
      have hrl := hr row (List.mem_of_getElem? hrow)
      have hrl' := h3 row (List.mem_of_getElem? hrow)
      have hm := Nat.mod_lt c h0
      obtain ⟨d, hd⟩ : ∃ d, row[c % sz]? = some d := ⟨_, List.getElem?_eq_getElem (by omega)⟩
      have hce : c / sz * sz + c % sz = c := by rw [Nat.mul_comm]; exact Nat.div_add_mod c sz
      have hat := fl_at hr hrow hd
      rw [hce] at hat
      have hkc : k.cells[c]? = some (k.cells[c]'(by omega)) := List.getElem?_eq_getElem _
      have hv := h4 (c / sz) row (c % sz) d _ hrow hd (by rw [show sz' = sz by omega, hce]; exact hkc)
      rw [List.getElem?_take_of_lt hc, hkc, flat_val (hf row (List.mem_of_getElem? hrow) d (List.mem_of_getElem? hd)) hv, List.getElem?_map, hat]
      rfl
    · rw [List.getElem?_eq_none (by rw [List.length_take]; omega), List.getElem?_eq_none (by rw [List.length_map, hlen]; omega)]
theorem own_val {G : AH} {v : Value} {e : TypeId} {sz : Nat} {rows : List (List CD)} {F : List Nat} (h0 : 0 < sz) (h : OwnF G v e sz (rows.flatten.map CD.fv) F) (hr : ∀ row ∈ rows, row.length = sz) (hf : flatR rows) : CD.Val G (.sl rows) v := by
  have hlen : rows.flatten.length = rows.length * sz := fl_len hr
  rcases h with ⟨rfl, h1, _⟩ | ⟨j, len, rfl, h2, h3, _⟩
  · have h4 := congrArg List.length h1
    rw [List.length_map, hlen, List.length_nil] at h4
    have : rows.length = 0 := by
      rcases Nat.mul_eq_zero.1 h4 with h | h
      · exact h
      · omega
    rw [List.eq_nil_of_length_eq_zero this]
    exact .nil (fun x e => by cases e)
  · rw [List.length_map, hlen] at h3
    have : len = rows.length := (Nat.eq_of_mul_eq_mul_right h0 h3).symm
    subst this
    refine .sl (sz := sz) h2 (by show _ ≤ (rows.flatten.map CD.fv).length; rw [List.length_map, hlen]; exact Nat.le_refl _) hr (fun i row c d x hi hc hx => ?_)
    have hat := fl_at hr hi hc
    have hx' : (rows.flatten.map CD.fv)[i * sz + c]? = some x := hx
    rw [List.getElem?_map, hat] at hx'
    cases hx'
    exact val_flat (hf row (List.mem_of_getElem? hi) d (List.mem_of_getElem? hc))
/-- The copy of a slice. -/
def clV (v : Value) (n : Nat) : Value := match v with | .slice none _ _ => .slice none 0 0 | .slice (some _) k _ => .slice (some ⟨n + 1, 0, none⟩) k k | _ => undef
def clN (v : Value) : Nat := match v with | .slice none _ _ => 0 | _ => 2
theorem val_shape {H : AH} {rows : List (List CD)} {v : Value} (h : CD.Val H (.sl rows) v) : (v = .slice none 0 0 ∧ rows = []) ∨ ∃ a, v = .slice (some a) rows.length rows.length := by
  cases h with
  | @nil a ha =>
    cases a with
    | none => exact .inl ⟨rfl, rfl⟩
    | some x => exact .inr ⟨x, rfl⟩
  | sl _ _ _ _ => exact .inr ⟨_, rfl⟩
theorem clone_app {P : Program} {nro : Nat} {t e : TypeId} {sz : Nat} {cells : List Value} {H : AH} {a : Addr} {n : Nat} (hu : und P t = .slice e) (hs : szt P e = sz) (h0 : 0 < sz) (hz : (zer P e).map (·.cells.size) = some sz) (hnro : nro ≤ H.length)
    (hx : xcells sz (.slice (some a) n n) (H ++ [some ⟨[], e, some sz⟩]) = some cells) (hl : cells.length = n * sz) (hb : cells.length * byt P e ≤ 140737488355328) (hm : cells.length ≤ maxLen) :
    xappend P nro t (.slice (some ⟨H.length, 0, none⟩) 0 0) (.slice (some a) n n) (H ++ [some ⟨[], e, some sz⟩]) = some (.slice (some ⟨H.length + 1, 0, none⟩) n n, H ++ [none, some ⟨cells, e, some sz⟩]) := by
  subst hs
  have hg : hget (H ++ [some ⟨[], e, some (szt P e)⟩]) H.length = some ⟨[], e, some (szt P e)⟩ := by rw [hget_app0]; rfl
  unfold xappend
  simp only [hu, hx, hg]
  rw [if_pos ⟨trivial, h0, hz, hnro, trivial, trivial, by simp, by simpa using hb, by simpa using hm⟩, hl, Nat.mul_div_cancel _ h0]
  simp
/-- New memory that shows a row's cells. -/
def NewC (H : AH) (v : Value) (e : TypeId) (sz : Nat) (cells : List Value) (v' : Value) (H' : AH) : Prop :=
  v' = clV v H.length ∧ H'.length = H.length + clN v ∧ Low H.length H H' ∧ ∃ F, OwnF H' v' e sz cells F ∧ ∀ j ∈ F, H.length ≤ j
theorem kd_flat (ps : List (List Int)) : flatR (ps.map kd) := by
  intro row hr d hd
  obtain ⟨k, _, rfl⟩ := List.mem_map.1 hr
  obtain ⟨z, _, rfl⟩ := List.mem_map.1 hd
  rfl
theorem int_flat (l : List Int) : flatR (l.map fun z => [CD.int .i64 z]) := by
  intro row hr d hd
  obtain ⟨k, _, rfl⟩ := List.mem_map.1 hr
  rw [List.mem_singleton] at hd
  subst hd
  rfl
theorem box_flat (l : List BoxD) : flatR (l.map BoxD.row) := by
  intro row hr d hd
  obtain ⟨b, _, rfl⟩ := List.mem_map.1 hr
  simp only [BoxD.row, kd, List.mem_append, List.mem_singleton, List.mem_map, List.mem_cons, List.not_mem_nil, or_false] at hd
  rcases hd with rfl | ⟨z, _, rfl⟩ | rfl | rfl | rfl <;> rfl
theorem kd_len {ps : List (List Int)} (h : ∀ k ∈ ps, k.length = 32) : ∀ row ∈ ps.map kd, row.length = 32 := by
  intro row hr
  obtain ⟨k, hk, rfl⟩ := List.mem_map.1 hr
  rw [kd, List.length_map]; exact h k hk
theorem int_len (l : List Int) : ∀ row ∈ l.map fun z => [CD.int .i64 z], row.length = 1 := by
  intro row hr
  obtain ⟨k, hk, rfl⟩ := List.mem_map.1 hr
  rfl
theorem box_len {l : List BoxD} (h : ∀ b ∈ l, b.Wf) : ∀ row ∈ l.map BoxD.row, row.length = 36 := by
  intro row hr
  obtain ⟨b, hb, rfl⟩ := List.mem_map.1 hr
  have := (h b hb).pub.1
  simp [BoxD.row, kd, this]
def ksC (ps : List (List Int)) : List Value := (ps.map kd).flatten.map CD.fv
def isC (l : List Int) : List Value := (l.map fun z => [CD.int .i64 z]).flatten.map CD.fv
def bxC (l : List BoxD) : List Value := (l.map BoxD.row).flatten.map CD.fv
theorem ksC_len {ps : List (List Int)} (h : ∀ k ∈ ps, k.length = 32) : (ksC ps).length = ps.length * 32 := by unfold ksC; rw [List.length_map, fl_len (kd_len h), List.length_map]
theorem isC_len (l : List Int) : (isC l).length = l.length * 1 := by unfold isC; rw [List.length_map, fl_len (int_len l), List.length_map]
theorem bxC_len {l : List BoxD} (h : ∀ b ∈ l, b.Wf) : (bxC l).length = l.length * 36 := by unfold bxC; rw [List.length_map, fl_len (box_len h), List.length_map]
attribute [local simp] wb_bool wb_undef with_lit XL_nil XL_cons XLc_val XLc_call step1_eq stepW_t stepW_f stepC_n stepC_s stepX_s stepX_n stepN_s calleeX oneV xop_eq xopR_s xopR_n wantedA_eq wantedG_n wantedG_s plain1_int plain1_bool plain1_string bits_i64 bits_u64 bits_u32 bits_u16 bits_u8 xeqA xagg xcmp xarr allK_iv num_iv calleeOf xread xeff xbin xint xnil xun xstr xload xconv xpart xfield xfieldAddr xindexAddr xindex bnd asInt? xslice xlen xmin xmax xbuild xfill xappend xapp2 xappstr xappmk xcap xcopy xcells eval_tmp eval_const put_at put_none fr0_at cells_agg cells_int cells_bool cells_string cells_ptr cells_slice notTuple tab iv_all hget_app hget_app0 hget_cons0 hget_cons set_app set_app0 setR setR_one QL_nil QL_cons QLc_val stepQ_t stepQ_f stepQC_n stepQC_s stepQX_s SL_nil SL_cons SLc_val stepS_t stepS_f ltT ltF leT leF eqT eqF ltTn ltFn leTn leFn eqTn eqFn beqT beqF bneT bneF wi64 wu64 wu32 wu16 wu8 tmodP tdivP hgetL hgetNe hgetEq setL nums_def nums_len Nat.succ_le_of_lt List.getElem?_cons_zero List.getElem?_cons_succ Option.getD_some Int.toNat_add Int.toNat_mul agM okM agB agI agS agP agL agA okB okI okS okP okSl okA
theorem cloneI_ac {nro : Nat} {γ : Nat → Option Nat} {H : AH} {v : Value} {l : List Int} (h : InV H v l) (hnro : nro ≤ H.length) (hm : l.length ≤ 100000000000) : AC Try.prog nro γ 73 #[v] H (NewC H v 3 1 (isC l)) := by
  have hxc : ∀ G : AH, Low H.length H G → xcells 1 v G = some (isC l) := fun G hG => val_cells (by omega) (CD.Val.low (fun j hj => hG.1 j hj) h) (int_len l) (int_flat l)
  have hcl := isC_len l
  have hsh := val_shape h
  rw [List.length_map] at hsh
  generalize isC l = cells at *
  have hb0 : Low H.length H (H ++ [some ⟨[], 3, some 1⟩]) := Low.push (Nat.le_refl _) _
  refine ac_of_aw Try.func73 rfl Try.ntmps73 Try.results73 (by simp) ?_
  refine aw_seq ?_
  (refine aw_ops (by kernel_rfl) (fun K hK => ?_); simp (disch := first | omega | (simp only [lnS]; try omega; done)) [-getElem?_pos, -getElem?_neg]; refine hK _ _ ?_; clear hK K)
  refine aw_seq ?_
  refine aw_seq ?_
  rcases hsh with ⟨rfl, hl0⟩ | ⟨a, rfl⟩
  · have hl0 : l = [] := List.map_eq_nil_iff.1 hl0
    subst hl0
    have hc0 : cells = [] := List.eq_nil_of_length_eq_zero (by simpa using hcl)
    subst hc0
    (refine aw_ops (by kernel_rfl) (fun K hK => ?_); simp (disch := first | omega | (simp only [lnS]; try omega; done)) [-getElem?_pos, -getElem?_neg]; refine hK _ _ ?_; clear hK K)
    refine aw_t (by (first | (simp [eval_tmp, put_at]; done) | (simp [eval_tmp, put_at]; omega))) (by kernel_rfl) ?_
    refine aw_seq ?_
    (refine aw_ops (by kernel_rfl) (fun K hK => ?_); simp (disch := first | omega | (simp only [lnS]; try omega; done)) [-getElem?_pos, -getElem?_neg]; refine hK _ _ ?_; clear hK K)
    (refine aw_ret ?_; simp (disch := first | omega | (simp only [lnS]; try omega; done)) [-getElem?_pos, -getElem?_neg, thenQ_ret, scopeQ_ret, inBlockQ_ret, RQ, resL, resV])
    exact ⟨rfl, rfl, Low.refl (Nat.le_refl _), [], .inl ⟨rfl, rfl, rfl⟩, fun j hj => by cases hj⟩
  · have hap := clone_app (P := Try.prog) (nro := nro) (t := 34) (e := 3) (sz := 1) (by simp) (by simp) (by omega) (by simp) hnro (hxc _ hb0) hcl (by rw [hcl]; simp; omega) (by rw [hcl]; simp only [maxLen]; omega)
    (refine aw_ops (by kernel_rfl) (fun K hK => ?_); simp (disch := first | omega | (simp only [lnS]; try omega; done)) [-getElem?_pos, -getElem?_neg]; refine hK _ _ ?_; clear hK K)
    refine aw_f (by (first | (simp [eval_tmp, put_at]; done) | (simp [eval_tmp, put_at]; omega))) (by kernel_rfl) ?_
    refine aw_skip ?_
    refine aw_seq ?_
    (refine aw_ops (by kernel_rfl) (fun K hK => ?_); simp (disch := first | omega | (simp only [lnS]; try omega; done)) [-getElem?_pos, -getElem?_neg, -xappend, hap, List.range_zero, List.map_nil]; refine hK _ _ ?_; clear hK K)
    (refine aw_ret ?_; simp (disch := first | omega | (simp only [lnS]; try omega; done)) [-getElem?_pos, -getElem?_neg, thenQ_ret, scopeQ_ret, inBlockQ_ret, RQ, resL, resV])
    exact ⟨rfl, by simp [clN], ⟨fun j hj => hget_left hj, by simp⟩, [H.length + 1], .inr ⟨H.length + 1, l.length, rfl, by rw [hget_app]; rfl, hcl, rfl⟩, fun j hj => by simp at hj; omega⟩
theorem cloneK_ac {nro : Nat} {γ : Nat → Option Nat} {H : AH} {v : Value} {l : List (List Int)} (h : KsV H v l) (hk : ∀ k ∈ l, k.length = 32) (hnro : nro ≤ H.length) (hm : l.length ≤ 100000000000) : AC Try.prog nro γ 74 #[v] H (NewC H v 24 32 (ksC l)) := by
  have hxc : ∀ G : AH, Low H.length H G → xcells 32 v G = some (ksC l) := fun G hG => val_cells (by omega) (CD.Val.low (fun j hj => hG.1 j hj) h) (kd_len hk) (kd_flat l)
  have hcl := ksC_len hk
  have hsh := val_shape h
  rw [List.length_map] at hsh
  generalize ksC l = cells at *
  have hb0 : Low H.length H (H ++ [some ⟨[], 24, some 32⟩]) := Low.push (Nat.le_refl _) _
  refine ac_of_aw Try.func74 rfl Try.ntmps74 Try.results74 (by simp) ?_
  refine aw_seq ?_
  (refine aw_ops (by kernel_rfl) (fun K hK => ?_); simp (disch := first | omega | (simp only [lnS]; try omega; done)) [-getElem?_pos, -getElem?_neg]; refine hK _ _ ?_; clear hK K)
  refine aw_seq ?_
  refine aw_seq ?_
  rcases hsh with ⟨rfl, hl0⟩ | ⟨a, rfl⟩
  · have hl0 : l = [] := List.map_eq_nil_iff.1 hl0
    subst hl0
    have hc0 : cells = [] := List.eq_nil_of_length_eq_zero (by simpa using hcl)
    subst hc0
    (refine aw_ops (by kernel_rfl) (fun K hK => ?_); simp (disch := first | omega | (simp only [lnS]; try omega; done)) [-getElem?_pos, -getElem?_neg]; refine hK _ _ ?_; clear hK K)
    refine aw_t (by (first | (simp [eval_tmp, put_at]; done) | (simp [eval_tmp, put_at]; omega))) (by kernel_rfl) ?_
    refine aw_seq ?_
    (refine aw_ops (by kernel_rfl) (fun K hK => ?_); simp (disch := first | omega | (simp only [lnS]; try omega; done)) [-getElem?_pos, -getElem?_neg]; refine hK _ _ ?_; clear hK K)
    (refine aw_ret ?_; simp (disch := first | omega | (simp only [lnS]; try omega; done)) [-getElem?_pos, -getElem?_neg, thenQ_ret, scopeQ_ret, inBlockQ_ret, RQ, resL, resV])
    exact ⟨rfl, rfl, Low.refl (Nat.le_refl _), [], .inl ⟨rfl, rfl, rfl⟩, fun j hj => by cases hj⟩
  · have hap := clone_app (P := Try.prog) (nro := nro) (t := 30) (e := 24) (sz := 32) (by simp) (by simp) (by omega) (by simp) hnro (hxc _ hb0) hcl (by rw [hcl]; simp; omega) (by rw [hcl]; simp only [maxLen]; omega)
    (refine aw_ops (by kernel_rfl) (fun K hK => ?_); simp (disch := first | omega | (simp only [lnS]; try omega; done)) [-getElem?_pos, -getElem?_neg]; refine hK _ _ ?_; clear hK K)
    refine aw_f (by (first | (simp [eval_tmp, put_at]; done) | (simp [eval_tmp, put_at]; omega))) (by kernel_rfl) ?_
    refine aw_skip ?_
    refine aw_seq ?_
    (refine aw_ops (by kernel_rfl) (fun K hK => ?_); simp (disch := first | omega | (simp only [lnS]; try omega; done)) [-getElem?_pos, -getElem?_neg, -xappend, hap, List.range_zero, List.map_nil]; refine hK _ _ ?_; clear hK K)
    (refine aw_ret ?_; simp (disch := first | omega | (simp only [lnS]; try omega; done)) [-getElem?_pos, -getElem?_neg, thenQ_ret, scopeQ_ret, inBlockQ_ret, RQ, resL, resV])
    exact ⟨rfl, by simp [clN], ⟨fun j hj => hget_left hj, by simp⟩, [H.length + 1], .inr ⟨H.length + 1, l.length, rfl, by rw [hget_app]; rfl, hcl, rfl⟩, fun j hj => by simp at hj; omega⟩
theorem cloneB_ac {nro : Nat} {γ : Nat → Option Nat} {H : AH} {v : Value} {l : List BoxD} (h : BxV H v l) (hw : ∀ b ∈ l, b.Wf) (hnro : nro ≤ H.length) (hm : l.length ≤ 10000000000) : AC Try.prog nro γ 75 #[v] H (NewC H v 60 36 (bxC l)) := by
  have hxc : ∀ G : AH, Low H.length H G → xcells 36 v G = some (bxC l) := fun G hG => val_cells (by omega) (CD.Val.low (fun j hj => hG.1 j hj) h) (box_len hw) (box_flat l)
  have hcl := bxC_len hw
  have hsh := val_shape h
  rw [List.length_map] at hsh
  generalize bxC l = cells at *
  have hb0 : Low H.length H (H ++ [some ⟨[], 60, some 36⟩]) := Low.push (Nat.le_refl _) _
  refine ac_of_aw Try.func75 rfl Try.ntmps75 Try.results75 (by simp) ?_
  refine aw_seq ?_
  (refine aw_ops (by kernel_rfl) (fun K hK => ?_); simp (disch := first | omega | (simp only [lnS]; try omega; done)) [-getElem?_pos, -getElem?_neg]; refine hK _ _ ?_; clear hK K)
  refine aw_seq ?_
  refine aw_seq ?_
  rcases hsh with ⟨rfl, hl0⟩ | ⟨a, rfl⟩
  · have hl0 : l = [] := List.map_eq_nil_iff.1 hl0
    subst hl0
    have hc0 : cells = [] := List.eq_nil_of_length_eq_zero (by simpa using hcl)
    subst hc0
    (refine aw_ops (by kernel_rfl) (fun K hK => ?_); simp (disch := first | omega | (simp only [lnS]; try omega; done)) [-getElem?_pos, -getElem?_neg]; refine hK _ _ ?_; clear hK K)
    refine aw_t (by (first | (simp [eval_tmp, put_at]; done) | (simp [eval_tmp, put_at]; omega))) (by kernel_rfl) ?_
    refine aw_seq ?_
    (refine aw_ops (by kernel_rfl) (fun K hK => ?_); simp (disch := first | omega | (simp only [lnS]; try omega; done)) [-getElem?_pos, -getElem?_neg]; refine hK _ _ ?_; clear hK K)
    (refine aw_ret ?_; simp (disch := first | omega | (simp only [lnS]; try omega; done)) [-getElem?_pos, -getElem?_neg, thenQ_ret, scopeQ_ret, inBlockQ_ret, RQ, resL, resV])
    exact ⟨rfl, rfl, Low.refl (Nat.le_refl _), [], .inl ⟨rfl, rfl, rfl⟩, fun j hj => by cases hj⟩
  · have hap := clone_app (P := Try.prog) (nro := nro) (t := 35) (e := 60) (sz := 36) (by simp) (by simp) (by omega) (by simp) hnro (hxc _ hb0) hcl (by rw [hcl]; simp; omega) (by rw [hcl]; simp only [maxLen]; omega)
    (refine aw_ops (by kernel_rfl) (fun K hK => ?_); simp (disch := first | omega | (simp only [lnS]; try omega; done)) [-getElem?_pos, -getElem?_neg]; refine hK _ _ ?_; clear hK K)
    refine aw_f (by (first | (simp [eval_tmp, put_at]; done) | (simp [eval_tmp, put_at]; omega))) (by kernel_rfl) ?_
    refine aw_skip ?_
    refine aw_seq ?_
    (refine aw_ops (by kernel_rfl) (fun K hK => ?_); simp (disch := first | omega | (simp only [lnS]; try omega; done)) [-getElem?_pos, -getElem?_neg, -xappend, hap, List.range_zero, List.map_nil]; refine hK _ _ ?_; clear hK K)
    (refine aw_ret ?_; simp (disch := first | omega | (simp only [lnS]; try omega; done)) [-getElem?_pos, -getElem?_neg, thenQ_ret, scopeQ_ret, inBlockQ_ret, RQ, resL, resV])
    exact ⟨rfl, by simp [clN], ⟨fun j hj => hget_left hj, by simp⟩, [H.length + 1], .inr ⟨H.length + 1, l.length, rfl, by rw [hget_app]; rfl, hcl, rfl⟩, fun j hj => by simp at hj; omega⟩
end
section
def opRow (o : OpD) (pv wv bv : Value) : List Value := [.int .i64 o.author, .int .u32 o.seq, pv, .int .i64 o.kind, wv] ++ (iv .u8 o.of ++ (iv .u8 o.check ++ [.string o.text, bv]))
def nodeRow (x : NodeD) (pv wv bv qv : Value) : List Value := iv .u8 x.id ++ (opRow x.op pv wv bv ++ [qv])
theorem opRow_len {o : OpD} (hw : o.Wf) (pv wv bv : Value) : (opRow o pv wv bv).length = 71 := by
  have h1 := hw.of.1
  have h2 := hw.check.1
  simp [opRow, iv_length, h1, h2]
theorem nodeRow_len {x : NodeD} (hw : x.Wf) (pv wv bv qv : Value) : (nodeRow x pv wv bv qv).length = 104 := by
  have h1 := hw.id.1
  have h2 := opRow_len hw.op pv wv bv
  simp [nodeRow, iv_length, h1, h2]
theorem OpC.row {H : AH} {us : List Value} {o : OpD} {pv wv bv : Value} (h : OpC H us o pv wv bv) (hw : o.Wf) : us = opRow o pv wv bv := by
  have hl := h.len
  have e0 : us.take 5 = [.int .i64 o.author, .int .u32 o.seq, pv, .int .i64 o.kind, wv] := by
    apply List.ext_getElem?
    intro i
    match i with
    | 0 => rw [List.getElem?_take_of_lt (by omega), h.c0]; rfl
    | 1 => rw [List.getElem?_take_of_lt (by omega), h.c1]; rfl
    | 2 => rw [List.getElem?_take_of_lt (by omega), h.c2]; rfl
    | 3 => rw [List.getElem?_take_of_lt (by omega), h.c3]; rfl
    | 4 => rw [List.getElem?_take_of_lt (by omega), h.c4]; rfl
    | i + 5 => rw [List.getElem?_eq_none (by rw [List.length_take]; omega), List.getElem?_eq_none (by simp)]
  have e2 : us.drop 69 = [.string o.text, bv] := by
    apply List.ext_getElem?
    intro i
    match i with
    | 0 => rw [List.getElem?_drop, h.c69]; rfl
    | 1 => rw [List.getElem?_drop, h.c70]; rfl
    | i + 2 => rw [List.getElem?_eq_none (by rw [List.length_drop]; omega), List.getElem?_eq_none (by simp)]
  have e1 : us.drop 5 = iv .u8 o.of ++ us.drop 37 := by
    have := (List.take_append_drop 32 (us.drop 5)).symm
    rwa [h.of, List.drop_drop] at this
  have e3 : us.drop 37 = iv .u8 o.check ++ us.drop 69 := by
    have := (List.take_append_drop 32 (us.drop 37)).symm
    rwa [h.check, List.drop_drop] at this
  have := (List.take_append_drop 5 us).symm
  rwa [e0, e1, e3, e2] at this
theorem NodeC.row {H : AH} {us : List Value} {x : NodeD} {pv wv bv qv : Value} (h : NodeC H us x pv wv bv qv) (hw : x.Wf) : us = nodeRow x pv wv bv qv := by
  have hl := h.len
  have e0 := h.op.row hw.op
  have e2 : us.drop 103 = [qv] := by
    apply List.ext_getElem?
    intro i
    match i with
    | 0 => rw [List.getElem?_drop, h.c103]; rfl
    | i + 1 => rw [List.getElem?_eq_none (by rw [List.length_drop]; omega), List.getElem?_eq_none (by simp)]
  have e1 : us.drop 32 = opRow x.op pv wv bv ++ us.drop 103 := by
    have := (List.take_append_drop 71 (us.drop 32)).symm
    rwa [e0, List.drop_drop] at this
  have := (List.take_append_drop 32 us).symm
  rwa [h.id, e1, e2] at this
theorem ValL.app {H : AH} {a b : List CD} {x y : List Value} (h1 : ValL H a x) (h2 : ValL H b y) : ValL H (a ++ b) (x ++ y) := by
  refine ⟨by rw [List.length_append, List.length_append, h1.1, h2.1], fun c d u hd hu => ?_⟩
  have hl := h1.1
  rcases Nat.lt_or_ge c a.length with hc | hc
  · rw [List.getElem?_append_left hc] at hd
    rw [List.getElem?_append_left (by omega)] at hu
    exact h1.2 c d u hd hu
  · rw [List.getElem?_append_right hc] at hd
    rw [List.getElem?_append_right (by omega), hl] at hu
    exact h2.2 _ d u hd hu
theorem ValL.one {H : AH} {d : CD} {u : Value} {ds : List CD} {us : List Value} (h : CD.Val H d u) (h2 : ValL H ds us) : ValL H (d :: ds) (u :: us) := by
  refine ⟨by simp [h2.1], fun c d' u' hd hu => ?_⟩
  cases c with
  | zero => cases hd; cases hu; exact h
  | succ c => exact h2.2 c d' u' (by simpa using hd) (by simpa using hu)
theorem ValL.none {H : AH} : ValL H [] [] := ⟨rfl, fun c d u hd _ => by cases hd⟩
theorem ValL.kdv {H : AH} (k : List Int) : ValL H (kd k) (iv .u8 k) := by
  induction k with
  | nil => exact .none
  | cons z k ih => exact ValL.one .int ih
theorem op_val {G : AH} {o : OpD} {pv wv bv : Value} (h1 : KsV G pv o.parents) (h2 : InV G wv o.who) (h3 : BxV G bv o.boxes) : ValL G o.row (opRow o pv wv bv) :=
  ValL.app (.one .int (.one .int (.one h1 (.one .int (.one h2 .none))))) (ValL.app (.kdv _) (ValL.app (.kdv _) (.one .str (.one h3 .none))))
theorem node_val {G : AH} {x : NodeD} {pv wv bv qv : Value} (h1 : KsV G pv x.op.parents) (h2 : InV G wv x.op.who) (h3 : BxV G bv x.op.boxes) (h4 : InV G qv x.past) : ValL G x.row (nodeRow x pv wv bv qv) :=
  ValL.app (.kdv _) (ValL.app (op_val h1 h2 h3) (.one h4 .none))
theorem opRow_2 (o : OpD) (pv wv bv : Value) : (opRow o pv wv bv)[2]? = some pv := rfl
theorem opRow_4 (o : OpD) (pv wv bv : Value) : (opRow o pv wv bv)[4]? = some wv := rfl
theorem opRow_cut {o : OpD} (hw : o.Wf) (pv wv bv : Value) : ∃ A : List Value, A.length = 70 ∧ ∀ b, opRow o pv wv b = A ++ [b] := by
  have h1 := hw.of.1
  have h2 := hw.check.1
  refine ⟨[.int .i64 o.author, .int .u32 o.seq, pv, .int .i64 o.kind, wv] ++ (iv .u8 o.of ++ (iv .u8 o.check ++ [.string o.text])), by simp [iv_length, h1, h2], fun b => ?_⟩
  simp [opRow]
theorem opRow_70 {o : OpD} (hw : o.Wf) (pv wv bv : Value) : (opRow o pv wv bv)[70]? = some bv := by
  obtain ⟨A, hA, e⟩ := opRow_cut hw pv wv bv
  rw [e, List.getElem?_append_right (by omega), hA]; rfl
theorem opRow_s2 (o : OpD) (pv wv bv x : Value) : setR (opRow o pv wv bv) 2 [x] = opRow o x wv bv := by rw [setR_one]; rfl
theorem opRow_s4 (o : OpD) (pv wv bv x : Value) : setR (opRow o pv wv bv) 4 [x] = opRow o pv x bv := by rw [setR_one]; rfl
theorem opRow_s70 {o : OpD} (hw : o.Wf) (pv wv bv x : Value) : setR (opRow o pv wv bv) 70 [x] = opRow o pv wv x := by
  obtain ⟨A, hA, e⟩ := opRow_cut hw pv wv bv
  rw [setR_one, e, e, List.set_append_right _ _ (by omega), hA]; rfl
theorem clV_nt {H : AH} {rows : List (List CD)} {v : Value} (h : CD.Val H (.sl rows) v) (n : Nat) : notTuple (clV v n) = true ∧ (clV v n).cells = #[clV v n] := by
  rcases val_shape h with ⟨rfl, _⟩ | ⟨a, rfl⟩ <;> exact ⟨rfl, rfl⟩
/-- Blocks from n on are as they were. -/
def KeepN (n : Nat) (H G : AH) : Prop := ∀ j, n ≤ j → j < H.length → hget G j = hget H j
def SmO (o : OpD) : Prop := o.parents.length ≤ 1000 ∧ o.who.length ≤ 1000 ∧ o.boxes.length ≤ 1000
/-- The copy of an operation lies in new memory. -/
def NewO (n : Nat) (H : AH) (o : OpD) (pv wv bv : Value) : Prop := ∀ G, KeepN n H G → KsV G pv o.parents ∧ InV G wv o.who ∧ BxV G bv o.boxes
def opN (pv wv bv : Value) : Nat := 2 + clN pv + clN wv + clN bv
def opP (pv : Value) (n : Nat) : Value := clV pv (n + 2)
def opW (pv wv : Value) (n : Nat) : Value := clV wv (n + 2 + clN pv)
def opB (pv wv bv : Value) (n : Nat) : Value := clV bv (n + 2 + clN pv + clN wv)
def DeepO (H : AH) (o : OpD) (pv wv bv : Value) (v' : Value) (H' : AH) : Prop :=
  v' = .agg (opRow o (opP pv H.length) (opW pv wv H.length) (opB pv wv bv H.length)).toArray ∧ H'.length = H.length + opN pv wv bv ∧ Low H.length H H' ∧ NewO H.length H' o (opP pv H.length) (opW pv wv H.length) (opB pv wv bv H.length)
theorem set_pack {H G : AH} {n : Nat} {x y : Blk} {X : Option Blk} (h : hget G n = some x) (h2 : hget G (n + 1) = some y) (hlow : Low n H G) : hget (G.set n X) n = X ∧ hget (G.set n X) (n + 1) = some y ∧ Low n H (G.set n X) ∧ (G.set n X).length = G.length ∧ ∀ j, n + 2 ≤ j → hget (G.set n X) j = hget G j :=
  ⟨hget_set_eq (hget_lt h), (hget_set_ne (by omega)).trans h2, ⟨fun j hj => (hget_set_ne (by omega)).trans (hlow.1 j hj), by rw [List.length_set]; exact hlow.2⟩, by rw [List.length_set], fun j hj => hget_set_ne (by omega)⟩
attribute [local simp] wb_bool wb_undef with_lit XL_nil XL_cons XLc_val XLc_call step1_eq stepW_t stepW_f stepC_n stepC_s stepX_s stepX_n stepN_s calleeX oneV xop_eq xopR_s xopR_n wantedA_eq wantedG_n wantedG_s plain1_int plain1_bool plain1_string bits_i64 bits_u64 bits_u32 bits_u16 bits_u8 xeqA xagg xcmp xarr allK_iv num_iv calleeOf xread xeff xbin xint xnil xun xstr xload xconv xpart xfield xfieldAddr xindexAddr xindex bnd asInt? xslice xlen xmin xmax xbuild xfill xappend xapp2 xappstr xappmk xcap xcopy xcells eval_tmp eval_const put_at put_none fr0_at cells_agg cells_int cells_bool cells_string cells_ptr cells_slice notTuple tab iv_all hget_app hget_app0 hget_cons0 hget_cons set_app set_app0 setR setR_one QL_nil QL_cons QLc_val stepQ_t stepQ_f stepQC_n stepQC_s stepQX_s SL_nil SL_cons SLc_val stepS_t stepS_f ltT ltF leT leF eqT eqF ltTn ltFn leTn leFn eqTn eqFn beqT beqF bneT bneF wi64 wu64 wu32 wu16 wu8 tmodP tdivP hgetL hgetNe hgetEq setL nums_def nums_len Nat.succ_le_of_lt List.getElem?_cons_zero List.getElem?_cons_succ Option.getD_some Int.toNat_add Int.toNat_mul agM okM agB agI agS agP agL agA okB okI okS okP okSl okA
theorem deepOp_ac {nro : Nat} {γ : Nat → Option Nat} {H : AH} {us : List Value} {o : OpD} {pv wv bv : Value} (h : OpC H us o pv wv bv) (hw : o.Wf) (hs : SmO o) (hnro : nro ≤ H.length) : AC Try.prog nro γ 55 #[.agg us.toArray] H (DeepO H o pv wv bv) := by
  have hrow := h.row hw
  obtain ⟨s1, s2, s3⟩ := hs
  have hP := h.parents
  have hW := h.who
  have hB := h.boxes
  have r0l := opRow_len hw pv wv bv
  have g2 := opRow_2 o pv wv bv
  rw [← hrow] at r0l g2
  have t1 := opRow_s2 o pv wv bv (opP pv H.length)
  rw [← hrow] at t1
  have r1l := opRow_len hw (opP pv H.length) wv bv
  have g4 := opRow_4 o (opP pv H.length) wv bv
  have t2 := opRow_s4 o (opP pv H.length) wv bv (opW pv wv H.length)
  obtain ⟨R1, hR1⟩ : ∃ R, R = opRow o (opP pv H.length) wv bv := ⟨_, rfl⟩
  rw [← hR1] at t1 r1l g4 t2
  have r2l := opRow_len hw (opP pv H.length) (opW pv wv H.length) bv
  have g70 := opRow_70 hw (opP pv H.length) (opW pv wv H.length) bv
  have t3 := opRow_s70 hw (opP pv H.length) (opW pv wv H.length) bv (opB pv wv bv H.length)
  obtain ⟨R2, hR2⟩ : ∃ R, R = opRow o (opP pv H.length) (opW pv wv H.length) bv := ⟨_, rfl⟩
  rw [← hR2] at t2 r2l g70 t3
  have r3l := opRow_len hw (opP pv H.length) (opW pv wv H.length) (opB pv wv bv H.length)
  obtain ⟨R3, hR3⟩ : ∃ R, R = opRow o (opP pv H.length) (opW pv wv H.length) (opB pv wv bv H.length) := ⟨_, rfl⟩
  rw [← hR3] at t3 r3l
  have np := val_nt hP
  have nw := val_nt hW
  have nb := val_nt hB
  have np' := clV_nt hP (H.length + 2)
  have nw' := clV_nt hW (H.length + 2 + clN pv)
  have nb' := clV_nt hB (H.length + 2 + clN pv + clN wv)
  have hset : ∀ Z : List Value, Z.length = 71 → setR Z 0 R3 = R3 := fun Z hZ => setR_all _ _ (by omega)
  have htk : R3.take 71 = R3 := List.take_of_length_le (by omega)
  unfold opP opW opB at *
  refine ac_of_aw Try.func55 rfl Try.ntmps55 Try.results55 (by simp) ?_
  refine aw_seq ?_
  (refine aw_ops (by kernel_rfl) (fun K hK => ?_); simp (disch := first | omega | (simp only [lnS]; try omega; done)) [-getElem?_pos, -getElem?_neg, r0l, nt_aggG, all_zl]; refine hK _ _ ?_; clear hK K)
  obtain ⟨ZZ, hZZ, hZl⟩ : ∃ ZZ : List Value, Value.int .i64 0 :: .int .u32 0 :: .slice none 0 0 :: .int .i64 0 :: .slice none 0 0 :: (iv .u8 (zl 64) ++ [.string ByteArray.empty, .slice none 0 0]) = ZZ ∧ ZZ.length = 71 := ⟨_, rfl, by simp⟩
  rw [hZZ]
  have hset := hset ZZ hZl
  obtain ⟨G, hG⟩ : ∃ G : AH, G = H ++ [some ⟨us, 37, none⟩, some ⟨ZZ, 37, none⟩] := ⟨_, rfl⟩
  have b1 : hget G H.length = some ⟨us, 37, none⟩ := by rw [hG, hget_app0]; rfl
  have b2 : hget G (H.length + 1) = some ⟨ZZ, 37, none⟩ := by rw [hG, hget_app]; rfl
  have lw : Low H.length H G := hG ▸ Low.push (Nat.le_refl _) _
  have gl : G.length = H.length + 2 := by simp [hG]
  rw [← hG]
  clear hG
  obtain ⟨n, hn⟩ : ∃ n, n = H.length := ⟨_, rfl⟩
  have kP : KsV G pv o.parents := CD.Val.low (fun j hj => lw.1 j hj) hP
  have kW : InV G wv o.who := CD.Val.low (fun j hj => lw.1 j hj) hW
  have kB : BxV G bv o.boxes := CD.Val.low (fun j hj => lw.1 j hj) hB
  unfold DeepO opP opW opB
  rw [← hn] at lw gl b1 b2 np' nw' nb' t1 t2 t3 hnro hR1 hR2 hR3 ⊢
  -- the parents
  refine aw_seq ?_
  refine aw_ops (by kernel_rfl) (fun K hK => ?_)
  simp (disch := first | omega | (simp only [lnS]; try omega; done)) [-getElem?_pos, -getElem?_neg, b1, r0l, g2, -notTuple, np.1, np.2, nt_aggG]
  refine ⟨by kernel_rfl, (cloneK_ac (nro := nro) (γ := γ) kP (fun k hk => (hw.parents k hk).1) (by omega) (by omega)).mono ?_⟩
  rintro v1 G1 ⟨rfl, l1, w1, F1, o1, f1⟩
  rw [gl] at l1 w1 f1 o1 ⊢
  have hle1 := w1.2
  have c1 : hget G1 n = some ⟨us, 37, none⟩ := (w1.1 n (by omega)).trans b1
  have c2 : hget G1 (n + 1) = some ⟨ZZ, 37, none⟩ := (w1.1 (n + 1) (by omega)).trans b2
  simp (disch := first | omega | (simp only [lnS]; try omega; done)) [-getElem?_pos, -getElem?_neg, c1, r0l, -notTuple, np'.1, np'.2, t1]
  refine hK _ _ ?_; clear hK K
  have lw1 : Low n H G1 := ⟨fun j hj => (w1.1 j (by omega)).trans (lw.1 j hj), by have := lw.2; omega⟩
  obtain ⟨d1, d2, d3, d4, d5⟩ := set_pack (X := some ⟨R1, 37, none⟩) c1 c2 lw1
  have o1 : OwnF (G1.set n (some ⟨R1, 37, none⟩)) (clV pv (n + 2)) 24 32 (ksC o.parents) F1 := o1.low (fun j hj => d5 j (f1 j hj))
  rw [l1] at d4
  clear b1 b2 c1 c2 w1 l1 lw1
  generalize G1.set n (some ⟨R1, 37, none⟩) = G2 at *
  have kW := CD.Val.low (H' := G2) (fun j hj => d3.1 j (by omega)) hW
  have kB := CD.Val.low (H' := G2) (fun j hj => d3.1 j (by omega)) hB
  -- who
  refine aw_seq ?_
  refine aw_ops (by kernel_rfl) (fun K hK => ?_)
  simp (disch := first | omega | (simp only [lnS]; try omega; done)) [-getElem?_pos, -getElem?_neg, d1, r1l, g4, -notTuple, nw.1, nw.2, nt_aggG]
  refine ⟨by kernel_rfl, (cloneI_ac (nro := nro) (γ := γ) kW (by omega) (by omega)).mono ?_⟩
  rintro v1 G3 ⟨rfl, l1, w1, F2, o2, f2⟩
  rw [d4] at l1 w1 f2 o2 ⊢
  have hle1 := w1.2
  have c1 : hget G3 n = some ⟨R1, 37, none⟩ := (w1.1 n (by omega)).trans d1
  have c2 : hget G3 (n + 1) = some ⟨ZZ, 37, none⟩ := (w1.1 (n + 1) (by omega)).trans d2
  have hF1 := o1.lt
  have o1 := o1.low (H' := G3) (fun j hj => w1.1 j (by have := hF1 j hj; omega))
  simp (disch := first | omega | (simp only [lnS]; try omega; done)) [-getElem?_pos, -getElem?_neg, c1, r1l, -notTuple, nw'.1, nw'.2, t2]
  refine hK _ _ ?_; clear hK K
  have lw1 : Low n H G3 := ⟨fun j hj => (w1.1 j (by omega)).trans (d3.1 j hj), by have := d3.2; omega⟩
  obtain ⟨e1, e2, e3, e4, e5⟩ := set_pack (X := some ⟨R2, 37, none⟩) c1 c2 lw1
  have o1 := o1.low (H' := G3.set n (some ⟨R2, 37, none⟩)) (fun j hj => e5 j (f1 j hj))
  have o2 := o2.low (H' := G3.set n (some ⟨R2, 37, none⟩)) (fun j hj => e5 j (by have := f2 j hj; omega))
  rw [l1] at e4
  clear c1 c2 w1 l1 lw1 d1 d2 d3 d4 d5
  generalize G3.set n (some ⟨R2, 37, none⟩) = G4 at *
  have kB := CD.Val.low (H' := G4) (fun j hj => e3.1 j (by omega)) hB
  -- boxes
  refine aw_seq ?_
  refine aw_ops (by kernel_rfl) (fun K hK => ?_)
  simp (disch := first | omega | (simp only [lnS]; try omega; done)) [-getElem?_pos, -getElem?_neg, e1, r2l, g70, -notTuple, nb.1, nb.2, nt_aggG]
  refine ⟨by kernel_rfl, (cloneB_ac (nro := nro) (γ := γ) kB hw.boxes (by omega) (by omega)).mono ?_⟩
  rintro v1 G5 ⟨rfl, l1, w1, F3, o3, f3⟩
  rw [e4] at l1 w1 f3 o3 ⊢
  have hle1 := w1.2
  have c1 : hget G5 n = some ⟨R2, 37, none⟩ := (w1.1 n (by omega)).trans e1
  have c2 : hget G5 (n + 1) = some ⟨ZZ, 37, none⟩ := (w1.1 (n + 1) (by omega)).trans e2
  have hF1 := o1.lt
  have hF2 := o2.lt
  have o1 := o1.low (H' := G5) (fun j hj => w1.1 j (by have := hF1 j hj; omega))
  have o2 := o2.low (H' := G5) (fun j hj => w1.1 j (by have := hF2 j hj; omega))
  simp (disch := first | omega | (simp only [lnS]; try omega; done)) [-getElem?_pos, -getElem?_neg, c1, r2l, -notTuple, nb'.1, nb'.2, t3]
  refine hK _ _ ?_; clear hK K
  have lw1 : Low n H G5 := ⟨fun j hj => (w1.1 j (by omega)).trans (e3.1 j hj), by have := e3.2; omega⟩
  obtain ⟨d1, d2, d3, d4, d5⟩ := set_pack (X := some ⟨R3, 37, none⟩) c1 c2 lw1
  have o1 := o1.low (H' := G5.set n (some ⟨R3, 37, none⟩)) (fun j hj => d5 j (f1 j hj))
  have o2 := o2.low (H' := G5.set n (some ⟨R3, 37, none⟩)) (fun j hj => d5 j (by have := f2 j hj; omega))
  have o3 := o3.low (H' := G5.set n (some ⟨R3, 37, none⟩)) (fun j hj => d5 j (by have := f3 j hj; omega))
  rw [l1] at d4
  clear c1 c2 w1 l1 lw1 e1 e2 e3 e4 e5
  generalize G5.set n (some ⟨R3, 37, none⟩) = G6 at *
  -- the answer
  refine aw_seq ?_
  (refine aw_ops (by kernel_rfl) (fun K hK => ?_); simp (disch := first | omega | (simp only [lnS]; try omega; done)) [-getElem?_pos, -getElem?_neg, d1, d2, r3l, hZl, hset, htk, nt_aggG]; refine hK _ _ ?_; clear hK K)
  have hlt2 := hget_lt d2
  have z1 : hget (G6.set (n + 1) (some ⟨R3, 37, none⟩)) (n + 1) = some ⟨R3, 37, none⟩ := hget_set_eq hlt2
  have z2 : ∀ j, j ≠ n + 1 → hget (G6.set (n + 1) (some ⟨R3, 37, none⟩)) j = hget G6 j := fun j hj => hget_set_ne (fun e => hj e.symm)
  have z3 : (G6.set (n + 1) (some ⟨R3, 37, none⟩)).length = G6.length := by rw [List.length_set]
  have hF1 := o1.lt
  have hF2 := o2.lt
  have hF3 := o3.lt
  have o1 := o1.low (H' := G6.set (n + 1) (some ⟨R3, 37, none⟩)) (fun j hj => z2 j (by have := f1 j hj; omega))
  have o2 := o2.low (H' := G6.set (n + 1) (some ⟨R3, 37, none⟩)) (fun j hj => z2 j (by have := f2 j hj; omega))
  have o3 := o3.low (H' := G6.set (n + 1) (some ⟨R3, 37, none⟩)) (fun j hj => z2 j (by have := f3 j hj; omega))
  generalize G6.set (n + 1) (some ⟨R3, 37, none⟩) = G7 at *
  (refine aw_ret ?_; simp (disch := first | omega | (simp only [lnS]; try omega; done)) [-getElem?_pos, -getElem?_neg, thenQ_ret, scopeQ_ret, inBlockQ_ret, RQ, resL, resV, z1, r3l, htk])
  refine ⟨by rw [hR3], by unfold opN; omega, ⟨fun j hj => (z2 j (by omega)).trans (d3.1 j hj), by have := d3.2; omega⟩, fun G hG => ?_⟩
  have o1 := o1.low (H' := G) (fun j hj => hG j (by have := f1 j hj; omega) (by have := hF1 j hj; omega))
  have o2 := o2.low (H' := G) (fun j hj => hG j (by have := f2 j hj; omega) (by have := hF2 j hj; omega))
  have o3 := o3.low (H' := G) (fun j hj => hG j (by have := f3 j hj; omega) (by have := hF3 j hj; omega))
  exact ⟨own_val (by omega) o1 (kd_len fun k hk => (hw.parents k hk).1) (kd_flat _), own_val (by omega) o2 (int_len _) (int_flat _), own_val (by omega) o3 (box_len hw.boxes) (box_flat _)⟩
end
section
/-- A frame of nothing but an operation: its cells. -/
def frow (us : List Value) : List Value := .int .i64 0 :: .int .i64 0 :: (us ++ [.slice none 0 0])
theorem frow_len {us : List Value} (h : us.length = 71) : (frow us).length = 74 := by unfold frow; simp [h]
theorem frow_op {us : List Value} (h : us.length = 71) : ((frow us).drop 2).take 71 = us := by
  show (us ++ [Value.slice none 0 0]).take 71 = us
  rw [List.take_append_of_le_length (by omega), List.take_of_length_le (by omega)]
theorem frow_73 {us : List Value} (h : us.length = 71) : (frow us)[73]? = some (.slice none 0 0) := by
  show (us ++ [Value.slice none 0 0])[71]? = _
  rw [List.getElem?_append_right (by omega), h]
  rfl
theorem build_frame {us : List Value} (h : us.length = 71) : xbuild Try.prog 78 [(2, .agg us.toArray)] = some (.agg (frow us).toArray) := by
  have hf : flds Try.prog 78 = some [(3, 0), (3, 1), (37, 2), (30, 73)] := by kernel_rfl
  obtain ⟨z, hz⟩ : ∃ z, zer Try.prog 78 = some z := by
    have : (zer Try.prog 78).isSome = true := by kernel_rfl
    exact Option.isSome_iff_exists.1 this
  have hzl : z.cells.toList.length = 74 := by
    have : (zer Try.prog 78).map (fun z => z.cells.toList.length) = some 74 := by kernel_rfl
    rw [hz] at this
    simpa using this
  have hzp : z.cells.toList.all plain1 = true := by
    have : (zer Try.prog 78).map (fun z => z.cells.toList.all plain1) = some true := by kernel_rfl
    rw [hz] at this
    simpa using this
  have hz2 : z.cells.toList.take 2 = [.int .i64 0, .int .i64 0] := by
    have : (zer Try.prog 78).map (fun z => z.cells.toList.take 2) = some [.int .i64 0, .int .i64 0] := by kernel_rfl
    rw [hz] at this
    exact Option.some.inj this
  have hz3 : z.cells.toList.drop 73 = [.slice none 0 0] := by
    have : (zer Try.prog 78).map (fun z => z.cells.toList.drop 73) = some [.slice none 0 0] := by kernel_rfl
    rw [hz] at this
    exact Option.some.inj this
  have s1 : szt Try.prog 3 = 1 := by kernel_rfl
  have s2 : szt Try.prog 37 = 71 := by kernel_rfl
  have s3 : szt Try.prog 30 = 1 := by kernel_rfl
  unfold xbuild
  simp only [hf, hz]
  rw [if_pos ⟨by simp [s1, s2, s3], hzp, by simp only [List.all_cons, List.all_nil, Bool.and_true]; rfl⟩]
  generalize z.cells.toList = Z at *
  have c1 : (Value.agg us.toArray).cells = us.toArray := rfl
  have e0 : Z = [.int .i64 0, .int .i64 0] ++ Z.drop 2 := by rw [← hz2, List.take_append_drop]
  have l2 : (Z.drop 2).length = 72 := by rw [List.length_drop]; omega
  have e1 : setR Z 2 us = frow us := by
    have e2 := setR_right [.int .i64 0, .int .i64 0] (Z.drop 2) us 0 (by omega)
    rw [← e0] at e2
    have e3 : setR Z 2 us = [.int .i64 0, .int .i64 0] ++ setR (Z.drop 2) 0 us := e2
    rw [e3, setR_frontF _ us (by omega), List.drop_drop, show 2 + us.length = 73 by omega, hz3]
    rfl
  simp only [xfill, List.getElem?_cons_zero, List.getElem?_cons_succ, Option.map_some, s1, s2, s3, c1]
  rw [if_pos ⟨by simp [h], by simp; omega⟩]
  rw [e1]
attribute [local simp] wb_bool wb_undef with_lit XL_nil XL_cons XLc_val XLc_call step1_eq stepW_t stepW_f stepC_n stepC_s stepX_s stepX_n stepN_s calleeX oneV xop_eq xopR_s xopR_n wantedA_eq wantedG_n wantedG_s plain1_int plain1_bool plain1_string bits_i64 bits_u64 bits_u32 bits_u16 bits_u8 xeqA xagg xcmp xarr allK_iv num_iv calleeOf xread xeff xbin xint xnil xun xstr xload xconv xpart xfield xfieldAddr xindexAddr xindex bnd asInt? xslice xlen xmin xmax xbuild xfill xappend xapp2 xappstr xappmk xcap xcopy xcells eval_tmp eval_const put_at put_none fr0_at cells_agg cells_int cells_bool cells_string cells_ptr cells_slice notTuple tab iv_all hget_app hget_app0 hget_cons0 hget_cons set_app set_app0 setR setR_one QL_nil QL_cons QLc_val stepQ_t stepQ_f stepQC_n stepQC_s stepQX_s SL_nil SL_cons SLc_val stepS_t stepS_f ltT ltF leT leF eqT eqF ltTn ltFn leTn leFn eqTn eqFn beqT beqF bneT bneF wi64 wu64 wu32 wu16 wu8 tmodP tdivP hgetL hgetNe hgetEq setL nums_def nums_len Nat.succ_le_of_lt List.getElem?_cons_zero List.getElem?_cons_succ Option.getD_some Int.toNat_add Int.toNat_mul agM okM agB agI agS agP agL agA okB okI okS okP okSl okA
theorem frSame_rc {γ : Nat → Option Nat} {H : AH} {us ws : List Value} {o o' : OpD} {pv wv bv pv' wv' bv' : Value} (h : OpC H us o pv wv bv) (h' : OpC H ws o' pv' wv' bv') (hw : o.Wf) (hw' : o'.Wf) : AC Try.prog H.length γ 42 #[.agg (frow us).toArray, .agg (frow ws).toArray] H (fun v' _ => v' = .bool (decide (o = o'))) := by
  have a1 := frow_len h.len
  have a2 := frow_op h.len
  have a3 := frow_73 h.len
  have a4 : (frow us)[0]? = some (.int .i64 0) := rfl
  have a5 : (frow us)[1]? = some (.int .i64 0) := rfl
  have d1 := frow_len h'.len
  have d2 := frow_op h'.len
  have d3 := frow_73 h'.len
  have d4 : (frow ws)[0]? = some (.int .i64 0) := rfl
  have d5 : (frow ws)[1]? = some (.int .i64 0) := rfl
  have hul := h.len
  have hwl := h'.len
  generalize frow us = R at *
  generalize frow ws = S at *
  refine ac_of_aw Try.func42 rfl Try.ntmps42 Try.results42 (by simp) ?_
  refine aw_seq ?_
  (refine aw_ops (by kernel_rfl) (fun K hK => ?_); simp (disch := first | omega | (simp only [lnS]; try omega; done)) [-getElem?_pos, -getElem?_neg, a1, d1, nt_aggG]; refine hK _ _ ?_; clear hK K)
  obtain ⟨G, hGe⟩ : ∃ G : AH, G = H ++ [some ⟨R, 78, none⟩, some ⟨S, 78, none⟩] := ⟨_, rfl⟩
  have b2 : hget G H.length = some ⟨R, 78, none⟩ := by rw [hGe, hget_app0]; rfl
  have b3 : hget G (H.length + 1) = some ⟨S, 78, none⟩ := by rw [hGe, hget_app]; rfl
  have lw : Low H.length H G := hGe ▸ Low.push (Nat.le_refl _) _
  rw [← hGe]
  clear hGe
  obtain ⟨n, hn⟩ : ∃ n, n = H.length := ⟨_, rfl⟩
  rw [← hn] at b2 b3 lw ⊢
  have hO : OpC G us o pv wv bv := h.low (fun j hj => lw.1 j (by omega))
  have hO' : OpC G ws o' pv' wv' bv' := h'.low (fun j hj => lw.1 j (by omega))
  have kn : KsV G (.slice none 0 0) [] := .nil (fun x e => by cases e)
  have ek := eqK_rc (γ := γ) kn kn (fun k hk => by cases hk) (fun k hk => by cases hk) (by simp)
  rw [decide_eq_true rfl] at ek
  have eo := fSameOp_rc (γ := γ) hO hO' hw hw'
  refine aw_seq ?_
  refine aw_cut (fun α G2 => α 4 = .bool (decide (o = o')) ∧ G2 = G) ?_ ?_
  · refine aw_ops (by kernel_rfl) (fun K hK => ?_)
    simp (disch := first | omega | (simp only [lnS]; try omega; done)) [-getElem?_pos, -getElem?_neg, b2, b3, a1, a2, a3, a4, a5, d1, d2, d3, d4, d5, nt_intG, nt_ptrG, nt_aggG, hul, hwl]
    refine ⟨by kernel_rfl, ac_of_rc ek (by simp [pv_iv, pv_int, pv_bool, pv_string, pv_tup2, pv_tup3, iv_plain, p2_int, p2_bool, p2_string]) ?_⟩
    simp (disch := first | omega | (simp only [lnS]; try omega; done)) [-getElem?_pos, -getElem?_neg, b2, b3, a1, a2, a3, a4, a5, d1, d2, d3, d4, d5, nt_intG, nt_ptrG, nt_aggG, hul, hwl]
    refine ⟨by kernel_rfl, ac_of_rc eo (by simp [pv_iv, pv_int, pv_bool, pv_string, pv_tup2, pv_tup3, iv_plain, p2_int, p2_bool, p2_string]) ?_⟩
    try simp (disch := first | omega | (simp only [lnS]; try omega; done)) [-getElem?_pos, -getElem?_neg]
    refine hK _ _ ?_; clear hK K
    exact ⟨by (first | (simp [put_at, put_none, fr0_at]; done) | rfl), rfl⟩
  rintro α G2 ⟨q4, rfl⟩
  (refine aw_ret ?_; simp (disch := first | omega | (simp only [lnS]; try omega; done)) [-getElem?_pos, -getElem?_neg, thenQ_ret, scopeQ_ret, inBlockQ_ret, RQ, resL, resV, q4])
theorem nodeSame_rc {γ : Nat → Option Nat} {H : AH} {us ws : List Value} {x y : NodeD} {pv wv bv qv pv' wv' bv' qv' : Value} (h : NodeC H us x pv wv bv qv) (h' : NodeC H ws y pv' wv' bv' qv') (hw : x.Wf) (hw' : y.Wf) : AC Try.prog H.length γ 40 #[.agg us.toArray, .agg ws.toArray] H (fun v' _ => v' = .bool (decide (x = y))) := by
  have hul := h.len
  have hwl := h'.len
  refine ac_of_aw Try.func40 rfl Try.ntmps40 Try.results40 (by simp) ?_
  refine aw_seq ?_
  (refine aw_ops (by kernel_rfl) (fun K hK => ?_); simp (disch := first | omega | (simp only [lnS]; try omega; done)) [-getElem?_pos, -getElem?_neg, hul, hwl, nt_aggG]; refine hK _ _ ?_; clear hK K)
  obtain ⟨G, hGe⟩ : ∃ G : AH, G = H ++ [some ⟨us, 39, none⟩, some ⟨ws, 39, none⟩] := ⟨_, rfl⟩
  have b2 : hget G H.length = some ⟨us, 39, none⟩ := by rw [hGe, hget_app0]; rfl
  have b3 : hget G (H.length + 1) = some ⟨ws, 39, none⟩ := by rw [hGe, hget_app]; rfl
  have lw : Low H.length H G := hGe ▸ Low.push (Nat.le_refl _) _
  rw [← hGe]
  clear hGe
  obtain ⟨n, hn⟩ : ∃ n, n = H.length := ⟨_, rfl⟩
  rw [← hn] at b2 b3 lw ⊢
  have hN : NodeC G us x pv wv bv qv := h.low (fun j hj => lw.1 j (by omega))
  have hN' : NodeC G ws y pv' wv' bv' qv' := h'.low (fun j hj => lw.1 j (by omega))
  clear h h'
  obtain ⟨_, a1, a2, a3, a4⟩ := hN
  obtain ⟨_, d1, d2, d3, d4⟩ := hN'
  have la : (iv .u8 x.id).length = 32 := by rw [iv_length, hw.id.1]
  have ld : (iv .u8 y.id).length = 32 := by rw [iv_length, hw'.id.1]
  have na := val_nt a4
  have nd := val_nt d4
  have ei := eqI_rc (γ := γ) a4 d4 hw.plen
  have es := frSame_rc (γ := γ) a2 d2 hw.op hw'.op
  have ba := build_frame a2.len
  have bd := build_frame d2.len
  have oa := a2.len
  have od := d2.len
  generalize hA : (us.drop 32).take 71 = A at *
  generalize hB : (ws.drop 32).take 71 = B at *
  generalize frow A = FA at *
  generalize frow B = FB at *
  refine aw_seq ?_
  refine aw_cut (fun α G2 => α 4 = .bool (decide (x = y)) ∧ G2 = G) ?_ ?_
  · by_cases e0 : x.id = y.id
    case neg =>
      have q0 : (x.id == y.id) = false := by rw [beq_eq_false_iff_ne]; exact e0
      have hd : decide (x = y) = false := decide_eq_false (fun hh => e0 (by rw [hh]))
      (refine aw_ops (by kernel_rfl) (fun K hK => ?_); simp (disch := first | omega | (simp only [lnS]; try omega; done)) [-getElem?_pos, -getElem?_neg, b2, b3, hul, hwl, a1, d1, hA, hB, a3, d3, la, ld, oa, od, -notTuple, na.1, na.2, nd.1, nd.2, nt_intG, nt_ptrG, nt_aggG, -xbuild, ba, bd, e0, q0]; refine hK _ _ ?_; clear hK K)
      exact ⟨by rw [hd]; (first | (simp [put_at, put_none, fr0_at]; done) | rfl), rfl⟩
    have q0 : (x.id == y.id) = true := by rw [beq_iff_eq]; exact e0
    refine aw_ops (by kernel_rfl) (fun K hK => ?_)
    simp (disch := first | omega | (simp only [lnS]; try omega; done)) [-getElem?_pos, -getElem?_neg, b2, b3, hul, hwl, a1, d1, hA, hB, a3, d3, la, ld, oa, od, -notTuple, na.1, na.2, nd.1, nd.2, nt_intG, nt_ptrG, nt_aggG, -xbuild, ba, bd, e0, q0]
    by_cases e1 : x.past = y.past
    case neg =>
      have hd : decide (x = y) = false := decide_eq_false (fun hh => e1 (by rw [hh]))
      rw [decide_eq_false e1] at ei
      refine ⟨by kernel_rfl, ac_of_rc ei (by simp [pv_iv, pv_int, pv_bool, pv_string, pv_tup2, pv_tup3, iv_plain, p2_int, p2_bool, p2_string]) ?_⟩
      try simp (disch := first | omega | (simp only [lnS]; try omega; done)) [-getElem?_pos, -getElem?_neg, b2, b3, hul, hwl, a1, d1, hA, hB, a3, d3, la, ld, oa, od, -notTuple, na.1, na.2, nd.1, nd.2, nt_intG, nt_ptrG, nt_aggG, -xbuild, ba, bd]
      refine hK _ _ ?_; clear hK K
      exact ⟨by rw [hd]; (first | (simp [put_at, put_none, fr0_at]; done) | rfl), rfl⟩
    rw [decide_eq_true e1] at ei
    refine ⟨by kernel_rfl, ac_of_rc ei (by simp [pv_iv, pv_int, pv_bool, pv_string, pv_tup2, pv_tup3, iv_plain, p2_int, p2_bool, p2_string]) ?_⟩
    simp (disch := first | omega | (simp only [lnS]; try omega; done)) [-getElem?_pos, -getElem?_neg, b2, b3, hul, hwl, a1, d1, hA, hB, a3, d3, la, ld, oa, od, -notTuple, na.1, na.2, nd.1, nd.2, nt_intG, nt_ptrG, nt_aggG, -xbuild, ba, bd]
    have hd : decide (x = y) = decide (x.op = y.op) := by
      by_cases e2 : x.op = y.op
      · rw [decide_eq_true e2, decide_eq_true (NodeD.ext e0 e2 e1)]
      · rw [decide_eq_false e2, decide_eq_false (fun hh => e2 (by rw [hh]))]
    refine ⟨by kernel_rfl, ac_of_rc es (by simp [pv_iv, pv_int, pv_bool, pv_string, pv_tup2, pv_tup3, iv_plain, p2_int, p2_bool, p2_string]) ?_⟩
    try simp (disch := first | omega | (simp only [lnS]; try omega; done)) [-getElem?_pos, -getElem?_neg]
    refine hK _ _ ?_; clear hK K
    exact ⟨by rw [hd]; (first | (simp [put_at, put_none, fr0_at]; done) | rfl), rfl⟩
  rintro α G2 ⟨q4, rfl⟩
  (refine aw_ret ?_; simp (disch := first | omega | (simp only [lnS]; try omega; done)) [-getElem?_pos, -getElem?_neg, thenQ_ret, scopeQ_ret, inBlockQ_ret, RQ, resL, resV, q4])
end
section
def Sm6 (l : List NodeD) : Prop := ∀ x ∈ l, x.op.parents.length ≤ 1000000 ∧ x.op.who.length ≤ 1000000 ∧ x.op.boxes.length ≤ 1000000
theorem nodes_ext {l m : List NodeD} (hl : l.length = m.length) (h : ∀ k, k < l.length → nd l k = nd m k) : l = m := by
  apply List.ext_getElem?
  intro k
  rcases Nat.lt_or_ge k l.length with hk | hk
  · rw [nd_get hk, nd_get (show k < m.length by omega), h k hk]
  · rw [List.getElem?_eq_none hk, List.getElem?_eq_none (by omega)]
/-- A node by its address: what is loaded of it. -/
structure NodeAt (H : AH) (v : Value) (i : Nat) (x : NodeD) (j q : Nat) (bb : Blk) (us : List Value) (qv : Value) : Prop where
  addr : xindexAddr Try.prog 22 v (.int .i64 (i : Nat)) = some (.pointer (some ⟨j, q, none⟩))
  blk : hget H j = some bb
  le : q + 104 ≤ bb.cells.length
  id : (bb.cells.drop q).take 32 = iv .u8 x.id
  op : (bb.cells.drop (q + 32)).take 71 = us
  past : bb.cells[q + 103]? = some qv
  inv : InV H qv x.past
theorem NdA.node {H : AH} {v : Value} {l : List NodeD} (h : NdA H v l) {i : Nat} (hi : i < l.length) : ∃ j q bb us pv wv bv qv, NodeAt H v i (nd l i) j q bb us qv ∧ OpC H us (nd l i).op pv wv bv := by
  obtain ⟨j, q, bb, us, pv, wv', bv, qv, hx, hbb, hq, hcell, hus, hC⟩ := h.at_ i _ (nd_get hi)
  refine ⟨j, q, bb, (us.drop 32).take 71, pv, wv', bv, qv, ⟨hx, hbb, hq, ?_, by rw [op_cut, ← hus], (hcell 103 (by omega)).trans hC.c103, hC.past⟩, hC.op⟩
  have := hC.id
  rw [hus, List.take_take] at this
  simpa using this
attribute [local simp] wb_bool wb_undef with_lit XL_nil XL_cons XLc_val XLc_call step1_eq stepW_t stepW_f stepC_n stepC_s stepX_s stepX_n stepN_s calleeX oneV xop_eq xopR_s xopR_n wantedA_eq wantedG_n wantedG_s plain1_int plain1_bool plain1_string bits_i64 bits_u64 bits_u32 bits_u16 bits_u8 xeqA xagg xcmp xarr allK_iv num_iv calleeOf xread xeff xbin xint xnil xun xstr xload xconv xpart xfield xfieldAddr xindexAddr xindex bnd asInt? xslice xlen xmin xmax xbuild xfill xappend xapp2 xappstr xappmk xcap xcopy xcells eval_tmp eval_const put_at put_none fr0_at cells_agg cells_int cells_bool cells_string cells_ptr cells_slice notTuple tab iv_all hget_app hget_app0 hget_cons0 hget_cons set_app set_app0 setR setR_one QL_nil QL_cons QLc_val stepQ_t stepQ_f stepQC_n stepQC_s stepQX_s SL_nil SL_cons SLc_val stepS_t stepS_f ltT ltF leT leF eqT eqF ltTn ltFn leTn leFn eqTn eqFn beqT beqF bneT bneF wi64 wu64 wu32 wu16 wu8 tmodP tdivP hgetL hgetNe hgetEq setL nums_def nums_len Nat.succ_le_of_lt List.getElem?_cons_zero List.getElem?_cons_succ Option.getD_some Int.toNat_add Int.toNat_mul agM okM agB agI agS agP agL agA okB okI okS okP okSl okA
theorem rSame_rc {γ : Nat → Option Nat} {H : AH} {u v : Value} {l m : List NodeD} (hU : NdA H u l) (hV : NdA H v m) (sl : Sm6 l) (sm : Sm6 m) (hl : l.length ≤ maxLen) : AC Try.prog H.length γ 16 #[u, v] H (fun v' _ => v' = .bool (decide (l = m))) := by
  have u1 := hU.nt
  have u2 := hU.cs
  have u3 := hU.len
  have v1 := hV.nt
  have v2 := hV.cs
  have v3 := hV.len
  have hm63 : l.length ≤ 9223372036854775807 := by simp only [maxLen] at hl; omega
  refine ac_of_aw Try.func16 rfl Try.ntmps16 Try.results16 (by simp) ?_
  refine aw_seq ?_
  (refine aw_ops (by kernel_rfl) (fun K hK => ?_); simp (disch := first | omega | (simp only [lnS]; try omega; done)) [-getElem?_pos, -getElem?_neg]; refine hK _ _ ?_; clear hK K)
  refine aw_seq ?_
  refine aw_seq ?_
  by_cases hab : l.length = m.length
  case neg =>
    have hne : ((l.length : Int) == (m.length : Int)) = false := by rw [beq_eq_false_iff_ne]; omega
    have hne2 : ¬ (l.length : Int) = (m.length : Int) := by omega
    (refine aw_ops (by kernel_rfl) (fun K hK => ?_); simp (disch := first | omega | (simp only [lnS]; try omega; done)) [-getElem?_pos, -getElem?_neg, -notTuple, u1, u2, v1, v2, nt_intG, -xlen, u3, v3, hne, hne2]; refine hK _ _ ?_; clear hK K)
    refine aw_t (by (first | (simp [eval_tmp, put_at]; done) | (simp [eval_tmp, put_at]; omega))) (by kernel_rfl) ?_
    refine aw_seq ?_
    (refine aw_ops (by kernel_rfl) (fun K hK => ?_); simp (disch := first | omega | (simp only [lnS]; try omega; done)) [-getElem?_pos, -getElem?_neg]; refine hK _ _ ?_; clear hK K)
    (refine aw_ret ?_; simp (disch := first | omega | (simp only [lnS]; try omega; done)) [-getElem?_pos, -getElem?_neg, thenQ_ret, scopeQ_ret, inBlockQ_ret, RQ, resL, resV])
    all_goals exact fun h => hab (congrArg List.length h)
  have heq : ((l.length : Int) == (m.length : Int)) = true := by rw [beq_iff_eq]; omega
  have heq2 : (l.length : Int) = (m.length : Int) := by omega
  (refine aw_ops (by kernel_rfl) (fun K hK => ?_); simp (disch := first | omega | (simp only [lnS]; try omega; done)) [-getElem?_pos, -getElem?_neg, -notTuple, u1, u2, v1, v2, nt_intG, -xlen, u3, v3, hab, heq, heq2]; refine hK _ _ ?_; clear hK K)
  refine aw_f (by (first | (simp [eval_tmp, put_at]; done) | (simp [eval_tmp, put_at]; omega))) (by kernel_rfl) ?_
  refine aw_skip ?_
  refine aw_seq ?_
  refine aw_seq ?_
  (refine aw_ops (by kernel_rfl) (fun K hK => ?_); simp (disch := first | omega | (simp only [lnS]; try omega; done)) [-getElem?_pos, -getElem?_neg]; refine hK _ _ ?_; clear hK K)
  refine aw_block ?_
  refine aw_loop (fun c α G => ∃ i : Nat, i + c = l.length ∧ α 0 = u ∧ α 1 = v ∧ α 5 = .int .i64 (i : Nat) ∧ G = H ∧ ∀ k, k < i → nd l k = nd m k) l.length ?_ ?_
  · exact ⟨0, by omega, by (first | (simp [put_at, put_none, fr0_at]; done) | rfl), by (first | (simp [put_at, put_none, fr0_at]; done) | rfl), by (first | (simp [put_at, put_none, fr0_at]; done) | rfl), rfl, fun k hk => by omega⟩
  rintro c α G ⟨i, hic, q0, q1, q5, rfl, hpre⟩
  refine aw_seq ?_
  refine aw_seq ?_
  by_cases hi : i < l.length
  case neg =>
    (refine aw_ops (by kernel_rfl) (fun K hK => ?_); simp (disch := first | omega | (simp only [lnS]; try omega; done)) [-getElem?_pos, -getElem?_neg, q0, q5, -notTuple, u1, u2, nt_intG, -xlen, u3, hi]; refine hK _ _ ?_; clear hK K)
    refine aw_f (by (first | (simp [eval_tmp, put_at, hi]; done) | (simp [eval_tmp, put_at, hi]; omega))) (by kernel_rfl) ?_
    refine aw_exit ?_
    refine aw_seq ?_
    (refine aw_ops (by kernel_rfl) (fun K hK => ?_); simp (disch := first | omega | (simp only [lnS]; try omega; done)) [-getElem?_pos, -getElem?_neg]; refine hK _ _ ?_; clear hK K)
    (refine aw_ret ?_; simp (disch := first | omega | (simp only [lnS]; try omega; done)) [-getElem?_pos, -getElem?_neg, thenQ_ret, scopeQ_ret, inBlockQ_ret, RQ, resL, resV])
    all_goals exact nodes_ext hab (fun k hk => hpre k (by omega))
  obtain ⟨j, q, bb, us, pv, wv', bv, qv, hn1, hO1⟩ := hU.node hi
  obtain ⟨j', q', bb', us', pv', wv'', bv', qv', hn2, hO2⟩ := hV.node (show i < m.length by omega)
  have xw := hU.wf _ (List.mem_of_getElem? (nd_get hi))
  have yw := hV.wf _ (List.mem_of_getElem? (nd_get (show i < m.length by omega)))
  obtain ⟨a1, a2, a3, a4, a5, a6, a7⟩ := hn1
  obtain ⟨d1, d2, d3, d4, d5, d6, d7⟩ := hn2
  have n1 := val_nt a7
  have n2 := val_nt d7
  have la : (iv .u8 (nd l i).id).length = 32 := by rw [iv_length, xw.id.1]
  have ld : (iv .u8 (nd m i).id).length = 32 := by rw [iv_length, yw.id.1]
  have hol := hO1.len
  have hol' := hO2.len
  (refine aw_ops (by kernel_rfl) (fun K hK => ?_); simp (disch := first | omega | (simp only [lnS]; try omega; done)) [-getElem?_pos, -getElem?_neg, q0, q5, -notTuple, u1, u2, nt_intG, -xlen, u3, hi]; refine hK _ _ ?_; clear hK K)
  refine aw_t (by (first | (simp [eval_tmp, put_at, hi]; done) | (simp [eval_tmp, put_at, hi]; omega))) (by kernel_rfl) ?_
  refine aw_skip ?_
  refine aw_seq ?_
  refine aw_block ?_
  refine aw_seq ?_
  refine aw_cut (fun α G2 => α 55 = .bool (!decide (nd l i = nd m i)) ∧ α 0 = u ∧ α 1 = v ∧ α 5 = .int .i64 (i : Nat) ∧ G2 = G) ?_ ?_
  · by_cases e1 : (nd l i).id = (nd m i).id
    case neg =>
      have k1 : ((nd l i).id == (nd m i).id) = false := by rw [beq_eq_false_iff_ne]; exact e1
      have hd : decide (nd l i = nd m i) = false := decide_eq_false (fun hh => e1 (by rw [hh]))
      (refine aw_plan [] [] [0, 1, 2, 3, 4, 5, 6, 7, 8, 9, 10, 11, 12, 13, 14, 15, 16, 17, 18, 19, 20, 21, 22, 23, 24, 25, 26, 27, 28, 29, 30, 31, 32, 33, 34, 35, 36, 37, 38] 39 0 (by kernel_rfl) (by kernel_rfl) (by kernel_rfl) (fun K hK => ?_)); simp only [sel, List.getElem?_cons_succ, List.getElem?_cons_zero, List.drop_succ_cons, List.drop_zero]; simp (disch := first | omega | (simp only [lnS]; try omega; done)) [-getElem?_pos, -getElem?_neg, q0, q1, q5, -notTuple, u1, u2, v1, v2, n1.1, n1.2, n2.1, n2.2, nt_intG, nt_ptrG, nt_aggG, -xindexAddr, a1, d1, a2, d2, a4, d4, a5, d5, a6, d6, la, ld, k1, PL_nil, plainB_lit, PL_cons, PLc_val, PLc_new, stepP_t, stepP_f, stepPC_n, stepPC_s, stepPX_s, stepPX_n, stepPV_n, stepPV_s, stepPA_t, stepPA_c, stepPA_l, stepPN_s, allocOp, reloc_sl, reloc_ptr, List.map_cons, List.map_nil, List.nil_append, List.append_assoc, List.cons_append, Nat.add_assoc]
      refine hK _ _ ?_; clear hK K
      exact ⟨by rw [hd]; (first | (simp [put_at, put_none, fr0_at]; done) | rfl), by (first | (simp [put_at, put_none, fr0_at, q0]; done) | rfl), by (first | (simp [put_at, put_none, fr0_at, q1]; done) | rfl), by (first | (simp [put_at, put_none, fr0_at, q5]; done) | rfl), rfl⟩
    have k1 : ((nd l i).id == (nd m i).id) = true := by rw [beq_iff_eq]; exact e1
    (refine aw_plan [] [] [0, 1, 2, 3, 4, 5, 6, 7, 8, 9, 10, 11, 12, 13, 14, 15, 16, 17, 18, 19, 20, 21, 22, 23, 24, 25, 26, 27, 28, 29, 30, 31, 32, 33, 34, 35, 36, 37, 38] 39 0 (by kernel_rfl) (by kernel_rfl) (by kernel_rfl) (fun K hK => ?_)); simp only [sel, List.getElem?_cons_succ, List.getElem?_cons_zero, List.drop_succ_cons, List.drop_zero]; simp (disch := first | omega | (simp only [lnS]; try omega; done)) [-getElem?_pos, -getElem?_neg, q0, q1, q5, -notTuple, u1, u2, v1, v2, n1.1, n1.2, n2.1, n2.2, nt_intG, nt_ptrG, nt_aggG, -xindexAddr, a1, d1, a2, d2, a4, d4, a5, d5, a6, d6, la, ld, k1, PL_nil, plainB_lit, PL_cons, PLc_val, PLc_new, stepP_t, stepP_f, stepPC_n, stepPC_s, stepPX_s, stepPX_n, stepPV_n, stepPV_s, stepPA_t, stepPA_c, stepPA_l, stepPN_s, allocOp, reloc_sl, reloc_ptr, List.map_cons, List.map_nil, List.nil_append, List.append_assoc, List.cons_append, Nat.add_assoc]
    refine PLc_call (v := .bool (decide ((nd l i).past = (nd m i).past))) (by kernel_rfl) (fun L hL => sameInts_rc (CD.Val.low (fun j hj => hget_left hj) a7) (CD.Val.low (fun j hj => hget_left hj) d7) xw.plen) (by simp [pv_iv, pv_int, pv_bool, pv_string, pv_tup2, pv_tup3, iv_plain, p2_int, p2_bool, p2_string]) ?_
    by_cases e2 : (nd l i).past = (nd m i).past
    case neg =>
      have hd : decide (nd l i = nd m i) = false := decide_eq_false (fun hh => e2 (by rw [hh]))
      simp (disch := first | omega | (simp only [lnS]; try omega; done)) [-getElem?_pos, -getElem?_neg, e2, PL_nil, plainB_lit, PL_cons, PLc_val, PLc_new, stepP_t, stepP_f, stepPC_n, stepPC_s, stepPX_s, stepPX_n, stepPV_n, stepPV_s, stepPA_t, stepPA_c, stepPA_l, stepPN_s, allocOp, reloc_sl, reloc_ptr, List.map_cons, List.map_nil, List.nil_append, List.append_assoc, List.cons_append, Nat.add_assoc]
      refine hK _ _ ?_; clear hK K
      exact ⟨by rw [hd]; (first | (simp [put_at, put_none, fr0_at]; done) | rfl), by (first | (simp [put_at, put_none, fr0_at, q0]; done) | rfl), by (first | (simp [put_at, put_none, fr0_at, q1]; done) | rfl), by (first | (simp [put_at, put_none, fr0_at, q5]; done) | rfl), rfl⟩
    simp (disch := first | omega | (simp only [lnS]; try omega; done)) [-getElem?_pos, -getElem?_neg, e2, q0, q1, q5, -notTuple, u1, u2, v1, v2, nt_intG, nt_ptrG, nt_aggG, -xindexAddr, a1, d1, a2, d2, a5, d5, PL_nil, plainB_lit, PL_cons, PLc_val, PLc_new, stepP_t, stepP_f, stepPC_n, stepPC_s, stepPX_s, stepPX_n, stepPV_n, stepPV_s, stepPA_t, stepPA_c, stepPA_l, stepPN_s, allocOp, reloc_sl, reloc_ptr, List.map_cons, List.map_nil, List.nil_append, List.append_assoc, List.cons_append, Nat.add_assoc]
    refine PLc_call (v := .bool (decide ((nd l i).op = (nd m i).op))) (by kernel_rfl) (fun L hL => sameOp_rc (hO1.low (fun j hj => hget_left hj)) (hO2.low (fun j hj => hget_left hj)) xw.op yw.op (sl _ (List.mem_of_getElem? (nd_get hi)))) (by simp [pv_iv, pv_int, pv_bool, pv_string, pv_tup2, pv_tup3, iv_plain, p2_int, p2_bool, p2_string]) ?_
    by_cases e3 : (nd l i).op = (nd m i).op
    case neg =>
      have hd : decide (nd l i = nd m i) = false := decide_eq_false (fun hh => e3 (by rw [hh]))
      simp (disch := first | omega | (simp only [lnS]; try omega; done)) [-getElem?_pos, -getElem?_neg, e3, PL_nil, plainB_lit, PL_cons, PLc_val, PLc_new, stepP_t, stepP_f, stepPC_n, stepPC_s, stepPX_s, stepPX_n, stepPV_n, stepPV_s, stepPA_t, stepPA_c, stepPA_l, stepPN_s, allocOp, reloc_sl, reloc_ptr, List.map_cons, List.map_nil, List.nil_append, List.append_assoc, List.cons_append, Nat.add_assoc]
      refine hK _ _ ?_; clear hK K
      exact ⟨by rw [hd]; (first | (simp [put_at, put_none, fr0_at]; done) | rfl), by (first | (simp [put_at, put_none, fr0_at, q0]; done) | rfl), by (first | (simp [put_at, put_none, fr0_at, q1]; done) | rfl), by (first | (simp [put_at, put_none, fr0_at, q5]; done) | rfl), rfl⟩
    have hd : decide (nd l i = nd m i) = true := decide_eq_true (NodeD.ext e1 e3 e2)
    simp (disch := first | omega | (simp only [lnS]; try omega; done)) [-getElem?_pos, -getElem?_neg, e3, PL_nil, plainB_lit, PL_cons, PLc_val, PLc_new, stepP_t, stepP_f, stepPC_n, stepPC_s, stepPX_s, stepPX_n, stepPV_n, stepPV_s, stepPA_t, stepPA_c, stepPA_l, stepPN_s, allocOp, reloc_sl, reloc_ptr, List.map_cons, List.map_nil, List.nil_append, List.append_assoc, List.cons_append, Nat.add_assoc]
    refine hK _ _ ?_; clear hK K
    exact ⟨by rw [hd]; (first | (simp [put_at, put_none, fr0_at]; done) | rfl), by (first | (simp [put_at, put_none, fr0_at, q0]; done) | rfl), by (first | (simp [put_at, put_none, fr0_at, q1]; done) | rfl), by (first | (simp [put_at, put_none, fr0_at, q5]; done) | rfl), rfl⟩
  clear q0 q1 q5
  rintro α G2 ⟨q55, q0, q1, q5, rfl⟩
  by_cases hd : nd l i = nd m i
  · rw [decide_eq_true hd] at q55
    refine aw_f (by (first | (simp [eval_tmp, put_at, q55]; done) | (simp [eval_tmp, put_at, q55]; omega))) (by kernel_rfl) ?_
    refine aw_skip ?_
    (refine aw_ops (by kernel_rfl) (fun K hK => ?_); simp (disch := first | omega | (simp only [lnS]; try omega; done)) [-getElem?_pos, -getElem?_neg, q5]; refine hK _ _ ?_; clear hK K)
    refine ⟨c - 1, by omega, i + 1, by omega, by (first | (simp [put_at, put_none, fr0_at, q0]; done) | rfl), by (first | (simp [put_at, put_none, fr0_at, q1]; done) | rfl), by (first | (simp [put_at, put_none, fr0_at]; done) | rfl), rfl, fun k hk => ?_⟩
    by_cases e : k = i
    · subst e; exact hd
    · exact hpre k (by omega)
  · rw [decide_eq_false hd] at q55
    refine aw_t (by (first | (simp [eval_tmp, put_at, q55]; done) | (simp [eval_tmp, put_at, q55]; omega))) (by kernel_rfl) ?_
    refine aw_seq ?_
    (refine aw_ops (by kernel_rfl) (fun K hK => ?_); simp (disch := first | omega | (simp only [lnS]; try omega; done)) [-getElem?_pos, -getElem?_neg]; refine hK _ _ ?_; clear hK K)
    (refine aw_ret ?_; simp (disch := first | omega | (simp only [lnS]; try omega; done)) [-getElem?_pos, -getElem?_neg, thenQ_ret, scopeQ_ret, inBlockQ_ret, RQ, resL, resV])
    all_goals exact fun hh => hd (by rw [hh])
end
end Go.Proofs.Ytcbfbmdglhlbmaa
