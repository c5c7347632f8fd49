/-
  The reference: Great.
  cabalref11.Right: what it asks of an operation.
  cabalref15.Right: is it a graph?
  Keys sorted: the insertion sort of the library, for at most twelve of them.
  graph.Heads.
  graph.Add.
  The vector that every right program answers: three nodes, put behind one another.
  GraphOrder: the law, walked.
  ClockTells, ClockAhead: the laws, walked.
  clock.Lacks.
  ClockDue: the law, walked.
-/
import Derived.Test.YtdeccbjdhcifiaaMcE
import Derived.Test.YtdeccbjdhcifiaaMcD
import Derived.Test.YtdeccbjdhcifiaaMcC
namespace Go.Proofs.Ytdeccbjdhcifiaa
open Go Go.RowKit
set_option linter.unusedSimpArgs false
set_option linter.unusedVariables false
set_option maxRecDepth 100000
set_option maxHeartbeats 4000000
section
def bodyAt (l : List BoxD) (k : Nat) : ByteArray := ((l[k]?).map BoxD.body).getD ByteArray.empty
def greatO (o : OpD) : Bool := decide (30 < o.parents.length) || (decide (30 < o.who.length) || (decide (30 < o.boxes.length) || (decide (600 < o.text.size) || (List.range o.boxes.length).any fun k => decide (600 < (bodyAt o.boxes k).size))))
theorem any_none {n : Nat} {p : Nat → Bool} (h : ∀ k, k < n → p k = false) : (List.range n).any p = false := by
  rw [List.any_eq_false]
  intro k hk
  rw [h k (List.mem_range.1 hk)]
  decide
theorem any_some {n k : Nat} {p : Nat → Bool} (hk : k < n) (h : p k = true) : (List.range n).any p = true := List.any_eq_true.2 ⟨k, List.mem_range.2 hk, h⟩
attribute [local simp] wb_bool wb_undef with_lit XL_nil XL_cons XLc_val XLc_call step1_eq stepW_t stepW_f stepC_n stepC_s stepX_s stepX_n stepN_s calleeX oneV xop_eq xopR_s xopR_n wantedA_eq wantedG_n wantedG_s plain1_int plain1_bool plain1_string bits_i64 bits_u64 bits_u32 bits_u16 bits_u8 xeqA xagg xcmp xarr allK_iv num_iv calleeOf xread xeff xbin xint xnil xun xstr xload xconv xpart xfield xfieldAddr xindexAddr xindex bnd asInt? xslice xlen xmin xmax xbuild xfill xappend xapp2 xappstr xappmk xcap xcopy xcells eval_tmp eval_const put_at put_none fr0_at cells_agg cells_int cells_bool cells_string cells_ptr cells_slice notTuple tab iv_all hget_app hget_app0 hget_cons0 hget_cons set_app set_app0 setR setR_one QL_nil QL_cons QLc_val stepQ_t stepQ_f stepQC_n stepQC_s stepQX_s SL_nil SL_cons SLc_val stepS_t stepS_f ltT ltF leT leF eqT eqF ltTn ltFn leTn leFn eqTn eqFn beqT beqF bneT bneF wi64 wu64 wu32 wu16 wu8 tmodP tdivP hgetL hgetNe hgetEq setL nums_def nums_len Nat.succ_le_of_lt List.getElem?_cons_zero List.getElem?_cons_succ Option.getD_some Int.toNat_add Int.toNat_mul agM okM agB agI agS agP agL agA okB okI okS okP okSl okA
theorem BxV.body_at {H : AH} {v : Value} {l : List BoxD} (h : BxV H v l) (hl : ∀ b ∈ l, b.Wf) {i : Nat} (hi : i < l.length) : ∃ j q bb, xindexAddr Try.prog 39 v (.int .i64 (i : Nat)) = some (.pointer (some ⟨j, q, none⟩)) ∧ hget H j = some bb ∧ bb.cells[q + 35]? = some (.string (bodyAt l i)) ∧ (bodyAt l i).size ≤ maxLen := by
  obtain ⟨z, hz⟩ : ∃ z, l[i]? = some z := ⟨_, List.getElem?_eq_getElem hi⟩
  have hzw := hl z (List.mem_of_getElem? hz)
  obtain ⟨j, b, us, hv, hb, hle, hx, hus, hul, hle2, hc, hval⟩ := val_at (P := Try.prog) (t := 39) (e := 107) (sz := 36) h (by simp) (by simp) (by omega) (fun row hr => by
    obtain ⟨y, hy, rfl⟩ := List.mem_map.1 hr
    have := (hl y hy).pub.1
    simp [BoxD.row, kd, this]) (i := i) (row := z.row) (by rw [List.getElem?_map, hz]; rfl)
  have hbody : bodyAt l i = z.body := by simp [bodyAt, hz]
  rw [hbody]
  exact ⟨j, i * 36, b, hx, hb, (hc 35 (by omega)).trans (box_c hzw hval).c35, hzw.body⟩
theorem greatO_rc {γ : Nat → Option Nat} {H : AH} {us : List Value} {o : OpD} {pv wv bv : Value} (h : OpC H us o pv wv bv) (hw : o.Wf) : AC Try.prog H.length γ 26 #[.agg us.toArray] H (fun v' _ => v' = .bool (greatO o)) := by
  have hlen := h.len
  have c2 := h.c2
  have c4 := h.c4
  have c69 := h.c69
  have c70 := h.c70
  have pa := h.parents.acc (fun k hk => (hw.parents k hk).1)
  have wa := h.who.acc
  have ba := h.boxes.acc hw.boxes
  have p1 := pa.nt
  have p2 := pa.cs
  have p3 := pa.len
  have w1 := wa.nt
  have w2 := wa.cs
  have w3 := wa.len
  have b1 := ba.nt
  have b2 := ba.cs
  have b3 := ba.len
  have hbx := h.boxes
  obtain ⟨np, hnp⟩ : ∃ n, n = o.parents.length := ⟨_, rfl⟩
  obtain ⟨nw, hnw⟩ : ∃ n, n = o.who.length := ⟨_, rfl⟩
  obtain ⟨nb, hnb⟩ : ∃ n, n = o.boxes.length := ⟨_, rfl⟩
  obtain ⟨ts, hts⟩ : ∃ t, t = o.text := ⟨_, rfl⟩
  have htz : ts.size ≤ 9223372036854775807 := by rw [hts]; have := hw.text; simp only [maxLen] at this; omega
  have hnb63 : nb ≤ 9223372036854775807 := by rw [hnb]; have := hw.blen; simp only [maxLen] at this; omega
  have hG : greatO o = (decide (30 < np) || (decide (30 < nw) || (decide (30 < nb) || (decide (600 < ts.size) || (List.range nb).any fun k => decide (600 < (bodyAt o.boxes k).size))))) := by rw [hnp, hnw, hnb, hts]; rfl
  rw [hG]
  rw [← hnp] at p3
  rw [← hnw] at w3
  rw [← hnb] at b3
  rw [← hts] at c69
  refine ac_of_aw Try.func26 rfl Try.ntmps26 Try.results26 (by simp) ?_
  refine aw_seq ?_
  (refine aw_ops (by kernel_rfl) (fun K hK => ?_); simp (disch := first | omega | (simp only [lnS]; try omega; done)) [-getElem?_pos, -getElem?_neg, hlen]; refine hK _ _ ?_; clear hK K)
  obtain ⟨hlow, hb⟩ := boxed (H := H) us 41
  generalize H ++ [some ⟨us, 41, none⟩] = G at *
  obtain ⟨g, hg⟩ : ∃ g, g = H.length := ⟨_, rfl⟩
  rw [← hg] at hb ⊢
  refine aw_seq ?_
  refine aw_seq ?_
  refine aw_cut (fun α G' => G = G' ∧ α 1 = .pointer (some ⟨g, 0, none⟩) ∧ α 25 = .bool (decide (30 < np) || (decide (30 < nw) || (decide (30 < nb) || decide (600 < ts.size))))) ?_ ?_
  · by_cases h1 : 30 < np
    · (refine aw_ops (by kernel_rfl) (fun K hK => ?_); simp (disch := first | omega | (simp only [lnS]; try omega; done)) [-getElem?_pos, -getElem?_neg, hb, hlen, c2, -notTuple, p1, p2, nt_intG, -xlen, p3, h1]; refine hK _ _ ?_; clear hK K)
      exact ⟨rfl, by (first | (simp [put_at, put_none, fr0_at]; done) | rfl), by simp [put_at, h1]⟩
    · by_cases h2 : 30 < nw
      · (refine aw_ops (by kernel_rfl) (fun K hK => ?_); simp (disch := first | omega | (simp only [lnS]; try omega; done)) [-getElem?_pos, -getElem?_neg, hb, hlen, c2, c4, -notTuple, p1, p2, w1, w2, nt_intG, -xlen, p3, w3, h1, h2]; refine hK _ _ ?_; clear hK K)
        exact ⟨rfl, by (first | (simp [put_at, put_none, fr0_at]; done) | rfl), by simp [put_at, h2]⟩
      · by_cases h3 : 30 < nb
        · (refine aw_ops (by kernel_rfl) (fun K hK => ?_); simp (disch := first | omega | (simp only [lnS]; try omega; done)) [-getElem?_pos, -getElem?_neg, hb, hlen, c2, c4, c70, -notTuple, p1, p2, w1, w2, b1, b2, nt_intG, -xlen, p3, w3, b3, h1, h2, h3]; refine hK _ _ ?_; clear hK K)
          exact ⟨rfl, by (first | (simp [put_at, put_none, fr0_at]; done) | rfl), by simp [put_at, h3]⟩
        · have hxt : xlen Try.prog 9 (.string ts) = some (.int .i64 ts.size) := by simp [xlen]
          by_cases h4 : 600 < ts.size
          · (refine aw_ops (by kernel_rfl) (fun K hK => ?_); simp (disch := first | omega | (simp only [lnS]; try omega; done)) [-getElem?_pos, -getElem?_neg, hb, hlen, c2, c4, c70, c69, -notTuple, p1, p2, w1, w2, b1, b2, nt_intG, nt_strG, -xlen, p3, w3, b3, hxt, h1, h2, h3, h4]; refine hK _ _ ?_; clear hK K)
            exact ⟨rfl, by (first | (simp [put_at, put_none, fr0_at]; done) | rfl), by simp [put_at, h4]⟩
          · (refine aw_ops (by kernel_rfl) (fun K hK => ?_); simp (disch := first | omega | (simp only [lnS]; try omega; done)) [-getElem?_pos, -getElem?_neg, hb, hlen, c2, c4, c70, c69, -notTuple, p1, p2, w1, w2, b1, b2, nt_intG, nt_strG, -xlen, p3, w3, b3, hxt, h1, h2, h3, h4]; refine hK _ _ ?_; clear hK K)
            exact ⟨rfl, by (first | (simp [put_at, put_none, fr0_at]; done) | rfl), by simp [put_at, h1, h2, h3, h4]⟩
  rintro α G' ⟨rfl, h1, h25⟩
  obtain ⟨B, hB⟩ : ∃ B, B = (decide (30 < np) || (decide (30 < nw) || (decide (30 < nb) || decide (600 < ts.size)))) := ⟨_, rfl⟩
  have hGB : (decide (30 < np) || (decide (30 < nw) || (decide (30 < nb) || (decide (600 < ts.size) || (List.range nb).any fun k => decide (600 < (bodyAt o.boxes k).size))))) = (B || (List.range nb).any fun k => decide (600 < (bodyAt o.boxes k).size)) := by
    rw [hB, Bool.or_assoc, Bool.or_assoc, Bool.or_assoc]
  rw [hGB]
  rw [← hB] at h25
  clear hB hGB hG
  cases B with
  | true =>
    refine aw_t (by (first | (simp [eval_tmp, put_at, h25]; done) | (simp [eval_tmp, put_at, h25]; omega))) (by kernel_rfl) ?_
    refine aw_seq ?_
    (refine aw_ops (by kernel_rfl) (fun K hK => ?_); simp (disch := first | omega | (simp only [lnS]; try omega; done)) [-getElem?_pos, -getElem?_neg]; refine hK _ _ ?_; clear hK K)
    (refine aw_ret ?_; simp (disch := first | omega | (simp only [lnS]; try omega; done)) [-getElem?_pos, -getElem?_neg, thenQ_ret, scopeQ_ret, inBlockQ_ret, RQ, resL, resV])
  | false =>
  rw [Bool.false_or]
  refine aw_f (by (first | (simp [eval_tmp, put_at, h25]; done) | (simp [eval_tmp, put_at, h25]; omega))) (by kernel_rfl) ?_
  refine aw_skip ?_
  refine aw_seq ?_
  refine aw_seq ?_
  (refine aw_ops (by kernel_rfl) (fun K hK => ?_); simp (disch := first | omega | (simp only [lnS]; try omega; done)) [-getElem?_pos, -getElem?_neg]; refine hK _ _ ?_; clear hK K)
  refine aw_block ?_
  refine aw_loop (fun c α G' => ∃ i : Nat, i + c = nb ∧ G = G' ∧ α 1 = .pointer (some ⟨g, 0, none⟩) ∧ α 3 = .int .i64 (i : Nat) ∧ ∀ k, k < i → decide (600 < (bodyAt o.boxes k).size) = false) nb ?_ ?_
  · exact ⟨0, by omega, rfl, by (first | (simp [put_at, put_none, fr0_at, h1]; done) | rfl), by (first | (simp [put_at, put_none, fr0_at]; done) | rfl), fun k hk => by omega⟩
  clear h1 h25 α
  rintro c α G' ⟨i, hic, rfl, h1, h3, hpre⟩
  refine aw_seq ?_
  refine aw_seq ?_
  by_cases hi : i < nb
  case neg =>
    (refine aw_ops (by kernel_rfl) (fun K hK => ?_); simp (disch := first | omega | (simp only [lnS]; try omega; done)) [-getElem?_pos, -getElem?_neg, h1, h3, hb, hlen, c70, -notTuple, b1, b2, nt_intG, -xlen, b3, hi]; refine hK _ _ ?_; clear hK K)
    refine aw_f (by (first | (simp [eval_tmp, put_at, hi]; done) | (simp [eval_tmp, put_at, hi]; omega))) (by kernel_rfl) ?_
    refine aw_exit ?_
    refine aw_seq ?_
    (refine aw_ops (by kernel_rfl) (fun K hK => ?_); simp (disch := first | omega | (simp only [lnS]; try omega; done)) [-getElem?_pos, -getElem?_neg]; refine hK _ _ ?_; clear hK K)
    (refine aw_ret ?_; simp (disch := first | omega | (simp only [lnS]; try omega; done)) [-getElem?_pos, -getElem?_neg, thenQ_ret, scopeQ_ret, inBlockQ_ret, RQ, resL, resV])
    intro k hk
    have := hpre k (by omega)
    simp at this
    exact this
  obtain ⟨j, q, bb, hx, hbb, hcb, hbm⟩ := hbx.body_at hw.boxes (i := i) (by omega)
  have hbG : hget G j = some bb := (hlow.1 j (hget_lt hbb)).trans hbb
  (refine aw_ops (by kernel_rfl) (fun K hK => ?_); simp (disch := first | omega | (simp only [lnS]; try omega; done)) [-getElem?_pos, -getElem?_neg, h1, h3, hb, hlen, c70, -notTuple, b1, b2, nt_intG, -xlen, b3, hi]; refine hK _ _ ?_; clear hK K)
  refine aw_t (by (first | (simp [eval_tmp, put_at, hi]; done) | (simp [eval_tmp, put_at, hi]; omega))) (by kernel_rfl) ?_
  refine aw_skip ?_
  refine aw_seq ?_
  refine aw_block ?_
  obtain ⟨bd, hbd⟩ : ∃ b, b = bodyAt o.boxes i := ⟨_, rfl⟩
  rw [← hbd] at hcb hbm
  have hbz : bd.size ≤ 9223372036854775807 := by simp only [maxLen] at hbm; omega
  have hxt : xlen Try.prog 9 (.string bd) = some (.int .i64 bd.size) := by simp [xlen]
  refine aw_seq ?_
  by_cases h6 : 600 < bd.size
  · (refine aw_ops (by kernel_rfl) (fun K hK => ?_); simp (disch := first | omega | (simp only [lnS]; try omega; done)) [-getElem?_pos, -getElem?_neg, h1, h3, hb, hlen, c70, -notTuple, b1, b2, nt_intG, nt_strG, -xindexAddr, hx, hbG, hcb, -xlen, hxt, h6]; refine hK _ _ ?_; clear hK K)
    refine aw_t (by (first | (simp [eval_tmp, put_at, h6]; done) | (simp [eval_tmp, put_at, h6]; omega))) (by kernel_rfl) ?_
    refine aw_seq ?_
    (refine aw_ops (by kernel_rfl) (fun K hK => ?_); simp (disch := first | omega | (simp only [lnS]; try omega; done)) [-getElem?_pos, -getElem?_neg]; refine hK _ _ ?_; clear hK K)
    (refine aw_ret ?_; simp (disch := first | omega | (simp only [lnS]; try omega; done)) [-getElem?_pos, -getElem?_neg, thenQ_ret, scopeQ_ret, inBlockQ_ret, RQ, resL, resV])
    exact ⟨i, hi, by rw [← hbd]; exact h6⟩
  · (refine aw_ops (by kernel_rfl) (fun K hK => ?_); simp (disch := first | omega | (simp only [lnS]; try omega; done)) [-getElem?_pos, -getElem?_neg, h1, h3, hb, hlen, c70, -notTuple, b1, b2, nt_intG, nt_strG, -xindexAddr, hx, hbG, hcb, -xlen, hxt, h6]; refine hK _ _ ?_; clear hK K)
    refine aw_f (by (first | (simp [eval_tmp, put_at, h6]; done) | (simp [eval_tmp, put_at, h6]; omega))) (by kernel_rfl) ?_
    refine aw_skip ?_
    (refine aw_ops (by kernel_rfl) (fun K hK => ?_); simp (disch := first | omega | (simp only [lnS]; try omega; done)) [-getElem?_pos, -getElem?_neg, h3]; refine hK _ _ ?_; clear hK K)
    refine ⟨c - 1, by omega, i + 1, by omega, rfl, by (first | (simp [put_at, put_none, fr0_at, h1]; done) | rfl), by (first | (simp [put_at, put_none, fr0_at]; done) | rfl), fun k hk => ?_⟩
    by_cases e : k = i
    · subst e
      rw [← hbd]
      simpa using h6
    · exact hpre k (by omega)
def greatG (l : List NodeD) : Bool := decide (110 < l.length) || (List.range l.length).any fun k => greatO (nd l k).op || decide (200 < (nd l k).past.length)
theorem greatG_rc {γ : Nat → Option Nat} {H : AH} {nv : Value} {l : List NodeD} (hN : NdA H nv l) : AC Try.prog H.length γ 17 #[nv] H (fun v' _ => v' = .bool (greatG l)) := by
  have hN' := hN
  obtain ⟨hnt, hvc, hxl, hwf, hat⟩ := hN
  unfold greatG
  refine ac_of_aw Try.func17 rfl Try.ntmps17 Try.results17 (by simp) ?_
  refine aw_seq ?_
  (refine aw_ops (by kernel_rfl) (fun K hK => ?_); simp (disch := first | omega | (simp only [lnS]; try omega; done)) [-getElem?_pos, -getElem?_neg]; refine hK _ _ ?_; clear hK K)
  refine aw_seq ?_
  refine aw_seq ?_
  by_cases hl : 110 < l.length
  · (refine aw_ops (by kernel_rfl) (fun K hK => ?_); simp (disch := first | omega | (simp only [lnS]; try omega; done)) [-getElem?_pos, -getElem?_neg, -notTuple, hnt, hvc, nt_intG, -xlen, hxl, hl]; refine hK _ _ ?_; clear hK K)
    refine aw_t (by (first | (simp [eval_tmp, put_at, hl]; done) | (simp [eval_tmp, put_at, hl]; omega))) (by kernel_rfl) ?_
    refine aw_seq ?_
    (refine aw_ops (by kernel_rfl) (fun K hK => ?_); simp (disch := first | omega | (simp only [lnS]; try omega; done)) [-getElem?_pos, -getElem?_neg]; refine hK _ _ ?_; clear hK K)
    (refine aw_ret ?_; simp (disch := first | omega | (simp only [lnS]; try omega; done)) [-getElem?_pos, -getElem?_neg, thenQ_ret, scopeQ_ret, inBlockQ_ret, RQ, resL, resV])
    all_goals simp [hl]
  have hlf : decide (110 < l.length) = false := by simpa using hl
  rw [hlf, Bool.false_or]
  (refine aw_ops (by kernel_rfl) (fun K hK => ?_); simp (disch := first | omega | (simp only [lnS]; try omega; done)) [-getElem?_pos, -getElem?_neg, -notTuple, hnt, hvc, nt_intG, -xlen, hxl, hl]; refine hK _ _ ?_; clear hK K)
  refine aw_f (by (first | (simp [eval_tmp, put_at, hl]; done) | (simp [eval_tmp, put_at, hl]; omega))) (by kernel_rfl) ?_
  refine aw_skip ?_
  refine aw_seq ?_
  refine aw_seq ?_
  (refine aw_ops (by kernel_rfl) (fun K hK => ?_); simp (disch := first | omega | (simp only [lnS]; try omega; done)) [-getElem?_pos, -getElem?_neg]; refine hK _ _ ?_; clear hK K)
  refine aw_block ?_
  obtain ⟨R, hR⟩ : ∃ R, R = ((List.range l.length).any fun k => greatO (nd l k).op || decide (200 < (nd l k).past.length)) := ⟨_, rfl⟩
  rw [← hR]
  refine aw_loop (fun c α G' => ∃ i : Nat, i + c = l.length ∧ H = G' ∧ α 0 = nv ∧ α 3 = .int .i64 (i : Nat) ∧ ∀ k, k < i → (greatO (nd l k).op || decide (200 < (nd l k).past.length)) = false) l.length ?_ ?_
  · exact ⟨0, by omega, rfl, by (first | (simp [put_at, put_none, fr0_at]; done) | rfl), by (first | (simp [put_at, put_none, fr0_at]; done) | rfl), fun k hk => by omega⟩
  rintro c α G' ⟨i, hic, rfl, h0, h3, hpre⟩
  refine aw_seq ?_
  refine aw_seq ?_
  by_cases hi : i < l.length
  case neg =>
    (refine aw_ops (by kernel_rfl) (fun K hK => ?_); simp (disch := first | omega | (simp only [lnS]; try omega; done)) [-getElem?_pos, -getElem?_neg, h0, h3, -notTuple, hnt, hvc, nt_intG, -xlen, hxl, hi]; refine hK _ _ ?_; clear hK K)
    refine aw_f (by (first | (simp [eval_tmp, put_at, hi]; done) | (simp [eval_tmp, put_at, hi]; omega))) (by kernel_rfl) ?_
    refine aw_exit ?_
    have hRf : R = false := hR.trans (any_none (fun k hk => hpre k (by omega)))
    rw [hRf]
    refine aw_seq ?_
    (refine aw_ops (by kernel_rfl) (fun K hK => ?_); simp (disch := first | omega | (simp only [lnS]; try omega; done)) [-getElem?_pos, -getElem?_neg]; refine hK _ _ ?_; clear hK K)
    (refine aw_ret ?_; simp (disch := first | omega | (simp only [lnS]; try omega; done)) [-getElem?_pos, -getElem?_neg, thenQ_ret, scopeQ_ret, inBlockQ_ret, RQ, resL, resV])
  obtain ⟨j, q, bb, us, pv, wv', bv, qv, hx, hbb, hq, hcell, hus, hC⟩ := hat i _ (nd_get hi)
  have hwfi := hwf _ (List.mem_of_getElem? (nd_get hi))
  obtain ⟨u7, hu7⟩ : ∃ u, u = (us.drop 32).take 71 := ⟨_, rfl⟩
  have hO : OpC H u7 (nd l i).op pv wv' bv := hu7 ▸ hC.op
  have hcut : (bb.cells.drop (q + 32)).take 71 = u7 := by rw [op_cut, ← hus, hu7]
  have hu7l := hO.len
  have hgo := greatO_rc (γ := γ) hO hwfi.op
  have hqv : bb.cells[q + 103]? = some qv := (hcell 103 (by omega)).trans hC.c103
  have qa := hC.past.acc
  have q1 := qa.nt
  have q2 := qa.cs
  have q3 := qa.len
  have hRt : (greatO (nd l i).op || decide (200 < (nd l i).past.length)) = true → R = true := fun e => hR.trans (any_some hi e)
  (refine aw_ops (by kernel_rfl) (fun K hK => ?_); simp (disch := first | omega | (simp only [lnS]; try omega; done)) [-getElem?_pos, -getElem?_neg, h0, h3, -notTuple, hnt, hvc, nt_intG, -xlen, hxl, hi]; refine hK _ _ ?_; clear hK K)
  refine aw_t (by (first | (simp [eval_tmp, put_at, hi]; done) | (simp [eval_tmp, put_at, hi]; omega))) (by kernel_rfl) ?_
  refine aw_skip ?_
  refine aw_seq ?_
  refine aw_block ?_
  refine aw_seq ?_
  refine aw_ops (by kernel_rfl) (fun K hK => ?_)
  simp (disch := first | omega | (simp only [lnS]; try omega; done)) [-getElem?_pos, -getElem?_neg, h0, h3, -notTuple, hnt, hvc, nt_intG, nt_aggG, -xindexAddr, hx, hbb, hcut, hu7l]
  refine ⟨by kernel_rfl, ac_of_rc hgo (by simp [pv_iv, pv_int, pv_bool, pv_string, pv_tup2, pv_tup3, iv_plain, p2_int, p2_bool, p2_string]) ?_⟩
  cases h5 : greatO (nd l i).op with
  | true =>
    try simp (disch := first | omega | (simp only [lnS]; try omega; done)) [-getElem?_pos, -getElem?_neg]
    refine hK _ _ ?_; clear hK K
    refine aw_t (by (first | (simp [eval_tmp, put_at]; done) | (simp [eval_tmp, put_at]; omega))) (by kernel_rfl) ?_
    refine aw_seq ?_
    rw [hRt (by rw [h5]; rfl)]
    (refine aw_ops (by kernel_rfl) (fun K hK => ?_); simp (disch := first | omega | (simp only [lnS]; try omega; done)) [-getElem?_pos, -getElem?_neg]; refine hK _ _ ?_; clear hK K)
    (refine aw_ret ?_; simp (disch := first | omega | (simp only [lnS]; try omega; done)) [-getElem?_pos, -getElem?_neg, thenQ_ret, scopeQ_ret, inBlockQ_ret, RQ, resL, resV])
  | false =>
    by_cases h6 : 200 < (nd l i).past.length
    · simp (disch := first | omega | (simp only [lnS]; try omega; done)) [-getElem?_pos, -getElem?_neg, h0, h3, -notTuple, hnt, hvc, q1, q2, nt_intG, -xindexAddr, hx, hbb, hqv, -xlen, q3, h6]
      refine hK _ _ ?_; clear hK K
      refine aw_t (by (first | (simp [eval_tmp, put_at]; done) | (simp [eval_tmp, put_at]; omega))) (by kernel_rfl) ?_
      refine aw_seq ?_
      rw [hRt (by rw [decide_eq_true h6, Bool.or_true])]
      (refine aw_ops (by kernel_rfl) (fun K hK => ?_); simp (disch := first | omega | (simp only [lnS]; try omega; done)) [-getElem?_pos, -getElem?_neg]; refine hK _ _ ?_; clear hK K)
      (refine aw_ret ?_; simp (disch := first | omega | (simp only [lnS]; try omega; done)) [-getElem?_pos, -getElem?_neg, thenQ_ret, scopeQ_ret, inBlockQ_ret, RQ, resL, resV])
    · simp (disch := first | omega | (simp only [lnS]; try omega; done)) [-getElem?_pos, -getElem?_neg, h0, h3, -notTuple, hnt, hvc, q1, q2, nt_intG, -xindexAddr, hx, hbb, hqv, -xlen, q3, h6]
      refine hK _ _ ?_; clear hK K
      refine aw_f (by (first | (simp [eval_tmp, put_at]; done) | (simp [eval_tmp, put_at]; omega))) (by kernel_rfl) ?_
      refine aw_skip ?_
      (refine aw_ops (by kernel_rfl) (fun K hK => ?_); simp (disch := first | omega | (simp only [lnS]; try omega; done)) [-getElem?_pos, -getElem?_neg, h3]; refine hK _ _ ?_; clear hK K)
      refine ⟨c - 1, by omega, i + 1, by omega, rfl, by (first | (simp [put_at, put_none, fr0_at, h0]; done) | rfl), by (first | (simp [put_at, put_none, fr0_at]; done) | rfl), fun k hk => ?_⟩
      by_cases e : k = i
      · subst e
        rw [h5, decide_eq_false h6]; rfl
      · exact hpre k (by omega)
end
section
def hdO (o : OpD) : Bool := memI o.author && (decide (o.seq ≠ 0) && (decide (1 ≤ o.kind) && (decide (o.kind ≤ 7) && (decide (o.parents.length ≤ 8) && (decide (o.boxes.length ≤ 8) && decide (o.text.size ≤ 256))))))
theorem refO_hd (o : OpD) : refO o = (hdO o && (risesK o.parents && ((o.who.all memI && risesI o.who) && (boxesB o && kindB o (decide (o.author ∈ o.who)))))) := by
  unfold refO hdO
  simp only [Bool.and_assoc]
theorem BxV.row_at {H : AH} {v : Value} {l : List BoxD} (h : BxV H v l) (hl : ∀ b ∈ l, b.Wf) {i : Nat} {z : BoxD} (hz : l[i]? = some z) : ∃ j q bb ws, xindexAddr Try.prog 39 v (.int .i64 (i : Nat)) = some (.pointer (some ⟨j, q, none⟩)) ∧ hget H j = some bb ∧ q + 36 ≤ bb.cells.length ∧ ws = (bb.cells.drop q).take 36 ∧ (∀ c, c < 36 → bb.cells[q + c]? = ws[c]?) ∧ BoxC H ws z := by
  have hzw := hl z (List.mem_of_getElem? hz)
  obtain ⟨j, b, us, hv, hb, hle, hx, hus, hul, hle2, hc, hval⟩ := val_at (P := Try.prog) (t := 39) (e := 107) (sz := 36) h (by kernel_rfl) (by kernel_rfl) (by omega) (fun row hr => by
    obtain ⟨y, hy, rfl⟩ := List.mem_map.1 hr
    have := (hl y hy).pub.1
    simp [BoxD.row, kd, this]) (i := i) (row := z.row) (by rw [List.getElem?_map, hz]; rfl)
  exact ⟨j, i * 36, b, us, hx, hb, hle2, hus, hc, box_c hzw hval⟩
theorem all_false {β : Type} {l : List β} {p : β → Bool} {i : Nat} {z : β} (hz : l[i]? = some z) (h : p z = false) : l.all p = false := by
  rw [List.all_eq_false]
  exact ⟨z, List.mem_of_getElem? hz, by rw [h]; decide⟩
theorem all_take {β : Type} {l : List β} {p : β → Bool} (h : ∀ (k : Nat) (z : β), l[k]? = some z → p z = true) : l.all p = true := by
  rw [List.all_eq_true]
  intro z hz
  obtain ⟨k, hk⟩ := List.getElem?_of_mem hz
  exact h k z hk
theorem range_false {n i : Nat} {p : Nat → Bool} (hi : i < n) (h : p i = false) : (List.range n).all p = false := by
  rw [List.all_eq_false]
  exact ⟨i, List.mem_range.2 hi, by rw [h]; decide⟩
theorem range_true {n : Nat} {p : Nat → Bool} (h : ∀ i, i < n → p i = true) : (List.range n).all p = true := by
  rw [List.all_eq_true]
  exact fun i hi => h i (List.mem_range.1 hi)
theorem getD_of {β : Type} {l : List β} {i : Nat} {z d : β} (h : l[i]? = some z) : l.getD i d = z := by rw [List.getD_eq_getElem?_getD, h]; rfl
attribute [local simp] wb_bool wb_undef with_lit XL_nil XL_cons XLc_val XLc_call step1_eq stepW_t stepW_f stepC_n stepC_s stepX_s stepX_n stepN_s calleeX oneV xop_eq xopR_s xopR_n wantedA_eq wantedG_n wantedG_s plain1_int plain1_bool plain1_string bits_i64 bits_u64 bits_u32 bits_u16 bits_u8 xeqA xagg xcmp xarr allK_iv num_iv calleeOf xread xeff xbin xint xnil xun xstr xload xconv xpart xfield xfieldAddr xindexAddr xindex bnd asInt? xslice xlen xmin xmax xbuild xfill xappend xapp2 xappstr xappmk xcap xcopy xcells eval_tmp eval_const put_at put_none fr0_at cells_agg cells_int cells_bool cells_string cells_ptr cells_slice notTuple tab iv_all hget_app hget_app0 hget_cons0 hget_cons set_app set_app0 setR setR_one QL_nil QL_cons QLc_val stepQ_t stepQ_f stepQC_n stepQC_s stepQX_s SL_nil SL_cons SLc_val stepS_t stepS_f ltT ltF leT leF eqT eqF ltTn ltFn leTn leFn eqTn eqFn beqT beqF bneT bneF wi64 wu64 wu32 wu16 wu8 tmodP tdivP hgetL hgetNe hgetEq setL nums_def nums_len Nat.succ_le_of_lt List.getElem?_cons_zero List.getElem?_cons_succ Option.getD_some Int.toNat_add Int.toNat_mul agM okM agB agI agS agP agL agA okB okI okS okP okSl okA
theorem member_vc (z : Int) : VC Try.prog 112 #[.int .i64 z] (.bool (memI z)) := by
  refine vc_of_ac (by simp [pv_iv, pv_int, pv_bool, pv_string, pv_tup2, pv_tup3, iv_plain, p2_int, p2_bool, p2_string]) (by simp [pv_iv, pv_int, pv_bool, pv_string, pv_tup2, pv_tup3, iv_plain, p2_int, p2_bool, p2_string]) ?_
  refine ac_of_aw Try.func112 rfl Try.ntmps112 Try.results112 (by simp) ?_
  refine aw_seq ?_
  (refine aw_ops (by kernel_rfl) (fun K hK => ?_); simp (disch := first | omega | (simp only [lnS]; try omega; done)) [-getElem?_pos, -getElem?_neg]; refine hK _ _ ?_; clear hK K)
  refine aw_seq ?_
  by_cases h : 0 ≤ z
  · by_cases h2 : z ≤ 7
    · (refine aw_ops (by kernel_rfl) (fun K hK => ?_); simp (disch := first | omega | (simp only [lnS]; try omega; done)) [-getElem?_pos, -getElem?_neg, h, h2]; refine hK _ _ ?_; clear hK K)
      (refine aw_ret ?_; simp (disch := first | omega | (simp only [lnS]; try omega; done)) [-getElem?_pos, -getElem?_neg, thenQ_ret, scopeQ_ret, inBlockQ_ret, RQ, resL, resV])
      simp [memI, h]; omega
    · (refine aw_ops (by kernel_rfl) (fun K hK => ?_); simp (disch := first | omega | (simp only [lnS]; try omega; done)) [-getElem?_pos, -getElem?_neg, h, h2]; refine hK _ _ ?_; clear hK K)
      (refine aw_ret ?_; simp (disch := first | omega | (simp only [lnS]; try omega; done)) [-getElem?_pos, -getElem?_neg, thenQ_ret, scopeQ_ret, inBlockQ_ret, RQ, resL, resV])
      simp [memI, h]; omega
  · (refine aw_ops (by kernel_rfl) (fun K hK => ?_); simp (disch := first | omega | (simp only [lnS]; try omega; done)) [-getElem?_pos, -getElem?_neg, h]; refine hK _ _ ?_; clear hK K)
    (refine aw_ret ?_; simp (disch := first | omega | (simp only [lnS]; try omega; done)) [-getElem?_pos, -getElem?_neg, thenQ_ret, scopeQ_ret, inBlockQ_ret, RQ, resL, resV])
    simp [memI, h]
theorem rRight_rc {γ : Nat → Option Nat} {H : AH} {us : List Value} {o : OpD} {pv wv bv : Value} (h : OpC H us o pv wv bv) (hw : o.Wf) : AC Try.prog H.length γ 66 #[.agg us.toArray] H (fun v' _ => v' = .bool (refO o)) := by
  have hul := h.len
  have htu : us.take 71 = us := List.take_of_length_le (by omega)
  have hps := hw.plen
  have hws := hw.wlen
  have hbs := hw.blen
  have hts := hw.text
  have hm63 : o.parents.length ≤ 9223372036854775807 ∧ o.who.length ≤ 9223372036854775807 ∧ o.boxes.length ≤ 9223372036854775807 ∧ o.text.size ≤ 9223372036854775807 := by simp only [maxLen] at hps hws hbs hts; omega
  obtain ⟨m1, m2, m3, m4⟩ := hm63
  refine ac_of_aw Try.func66 rfl Try.ntmps66 Try.results66 (by simp) ?_
  refine aw_seq ?_
  (refine aw_ops (by kernel_rfl) (fun K hK => ?_); simp (disch := first | omega | (simp only [lnS]; try omega; done)) [-getElem?_pos, -getElem?_neg, hul, nt_aggG]; refine hK _ _ ?_; clear hK K)
  obtain ⟨hlow, hb⟩ := boxed (H := H) us 41
  obtain ⟨n, hn⟩ : ∃ n, n = H.length := ⟨_, rfl⟩
  rw [← hn] at hb hlow ⊢
  generalize H ++ [some ⟨us, 41, none⟩] = G at *
  have hG : OpC G us o pv wv bv := h.low (fun j hj => hlow.1 j (by omega))
  have hpacc := hG.parents.acc (fun k hk => (hw.parents k hk).1)
  have hwacc := hG.who.acc
  have hbx := hG.boxes
  have hbnt := val_nt hbx
  have hblen := val_len (P := Try.prog) (t := 39) (e := 107) hbx (by kernel_rfl)
  rw [List.length_map] at hblen
  have c0 := hG.c0
  have c1 := hG.c1
  have c2 := hG.c2
  have c3 := hG.c3
  have c4 := hG.c4
  have c69 := hG.c69
  have c70 := hG.c70
  have p1 := hpacc.nt
  have p2 := hpacc.cs
  have p3 := hpacc.len
  have w1 := hwacc.nt
  have w2 := hwacc.cs
  have w3 := hwacc.len
  obtain ⟨b1, b2⟩ := hbnt
  have hx2 : xload Try.prog 36 (.pointer (some ⟨n, 2, none⟩)) G = some pv := by simp [xload, hb, c2]
  have hx4 : xload Try.prog 23 (.pointer (some ⟨n, 4, none⟩)) G = some wv := by simp [xload, hb, c4]
  have hx70 : xload Try.prog 39 (.pointer (some ⟨n, 70, none⟩)) G = some bv := by simp [xload, hb, c70]
  have hsq := hw.seq
  unfold U32 at hsq
  refine aw_seq ?_
  refine aw_seq ?_
  refine aw_cut (fun α G2 => α 44 = .bool (!hdO o) ∧ α 1 = .pointer (some ⟨n, 0, none⟩) ∧ G2 = G) ?_ ?_
  · refine aw_ops (by kernel_rfl) (fun K hK => ?_)
    simp (disch := first | omega | (simp only [lnS]; try omega; done)) [-getElem?_pos, -getElem?_neg, hb, hul, c0]
    refine ⟨by kernel_rfl, ac_of_vc (by simp [pv_iv, pv_int, pv_bool, pv_string, pv_tup2, pv_tup3, iv_plain, p2_int, p2_bool, p2_string]) (member_vc o.author) ?_⟩
    cases h1 : memI o.author with
    | false =>
      try simp (disch := first | omega | (simp only [lnS]; try omega; done)) [-getElem?_pos, -getElem?_neg]
      refine hK _ _ ?_; clear hK K
      exact ⟨by simp [hdO, h1, put_at], by (first | (simp [put_at, put_none, fr0_at]; done) | rfl), rfl⟩
    | true =>
    by_cases h2 : o.seq = 0
    · have h2b : (o.seq == 0) = true := by simp [h2]
      simp (disch := first | omega | (simp only [lnS]; try omega; done)) [-getElem?_pos, -getElem?_neg, hb, hul, c1, h2, h2b]
      refine hK _ _ ?_; clear hK K
      exact ⟨by simp [hdO, h1, h2, put_at], by (first | (simp [put_at, put_none, fr0_at]; done) | rfl), rfl⟩
    have h2b : (o.seq == 0) = false := by simp [h2]
    by_cases h3 : 1 ≤ o.kind
    case neg =>
      have h3b : o.kind < 1 := by omega
      simp (disch := first | omega | (simp only [lnS]; try omega; done)) [-getElem?_pos, -getElem?_neg, hb, hul, c1, c3, h2, h2b, h3b]
      refine hK _ _ ?_; clear hK K
      exact ⟨by simp [hdO, h1, h2, h3, put_at], by (first | (simp [put_at, put_none, fr0_at]; done) | rfl), rfl⟩
    have h3b : ¬ o.kind < 1 := by omega
    by_cases h4 : o.kind ≤ 7
    case neg =>
      have h4b : 7 < o.kind := by omega
      simp (disch := first | omega | (simp only [lnS]; try omega; done)) [-getElem?_pos, -getElem?_neg, hb, hul, c1, c3, h2, h2b, h3b, h4b]
      refine hK _ _ ?_; clear hK K
      exact ⟨by simp [hdO, h1, h2, h3, h4, put_at], by (first | (simp [put_at, put_none, fr0_at]; done) | rfl), rfl⟩
    have h4b : ¬ 7 < o.kind := by omega
    by_cases h5 : o.parents.length ≤ 8
    case neg =>
      have h5b : 8 < o.parents.length := by omega
      simp (disch := first | omega | (simp only [lnS]; try omega; done)) [-getElem?_pos, -getElem?_neg, hb, hul, c1, c2, c3, h2, h2b, h3b, h4b, h5b, -notTuple, p1, p2, nt_intG, nt_ptrG, -xlen, p3]
      refine hK _ _ ?_; clear hK K
      exact ⟨by simp [hdO, h1, h2, h3, h4, h5, put_at], by (first | (simp [put_at, put_none, fr0_at]; done) | rfl), rfl⟩
    have h5b : ¬ 8 < o.parents.length := by omega
    by_cases h6 : o.boxes.length ≤ 8
    case neg =>
      have h6b : 8 < o.boxes.length := by omega
      simp (disch := first | omega | (simp only [lnS]; try omega; done)) [-getElem?_pos, -getElem?_neg, hb, hul, c1, c2, c3, c70, h2, h2b, h3b, h4b, h5b, h6b, -notTuple, p1, p2, b1, b2, nt_intG, nt_ptrG, -xlen, p3, hblen]
      refine hK _ _ ?_; clear hK K
      exact ⟨by simp [hdO, h1, h2, h3, h4, h5, h6, put_at], by (first | (simp [put_at, put_none, fr0_at]; done) | rfl), rfl⟩
    have h6b : ¬ 8 < o.boxes.length := by omega
    have hxt : xlen Try.prog 9 (.string o.text) = some (.int .i64 o.text.size) := by simp [xlen]
    by_cases h7 : o.text.size ≤ 256
    · have h7b : ¬ 256 < o.text.size := by omega
      simp (disch := first | omega | (simp only [lnS]; try omega; done)) [-getElem?_pos, -getElem?_neg, hb, hul, c1, c2, c3, c69, c70, h2, h2b, h3b, h4b, h5b, h6b, h7b, -notTuple, p1, p2, b1, b2, nt_intG, nt_ptrG, nt_strG, -xlen, p3, hblen, hxt]
      refine hK _ _ ?_; clear hK K
      exact ⟨by simp [hdO, h1, h2, h3, h4, h5, h6, h7, put_at], by (first | (simp [put_at, put_none, fr0_at]; done) | rfl), rfl⟩
    · have h7b : 256 < o.text.size := by omega
      simp (disch := first | omega | (simp only [lnS]; try omega; done)) [-getElem?_pos, -getElem?_neg, hb, hul, c1, c2, c3, c69, c70, h2, h2b, h3b, h4b, h5b, h6b, h7b, -notTuple, p1, p2, b1, b2, nt_intG, nt_ptrG, nt_strG, -xlen, p3, hblen, hxt]
      refine hK _ _ ?_; clear hK K
      exact ⟨by simp [hdO, h1, h2, h3, h4, h5, h6, h7, put_at], by (first | (simp [put_at, put_none, fr0_at]; done) | rfl), rfl⟩
  rintro α G2 ⟨q44, q1, rfl⟩
  have hrf := refO_hd o
  cases hhd : hdO o with
  | false =>
    rw [hhd] at q44 hrf
    refine aw_t (by (first | (simp [eval_tmp, put_at, q44]; done) | (simp [eval_tmp, put_at, q44]; omega))) (by kernel_rfl) ?_
    refine aw_seq ?_
    (refine aw_ops (by kernel_rfl) (fun K hK => ?_); simp (disch := first | omega | (simp only [lnS]; try omega; done)) [-getElem?_pos, -getElem?_neg]; refine hK _ _ ?_; clear hK K)
    (refine aw_ret ?_; simp (disch := first | omega | (simp only [lnS]; try omega; done)) [-getElem?_pos, -getElem?_neg, thenQ_ret, scopeQ_ret, inBlockQ_ret, RQ, resL, resV])
    rw [hrf]; rfl
  | true =>
  rw [hhd, Bool.true_and] at hrf
  rw [hhd] at q44
  refine aw_f (by (first | (simp [eval_tmp, put_at, q44]; done) | (simp [eval_tmp, put_at, q44]; omega))) (by kernel_rfl) ?_
  refine aw_skip ?_
  -- the parents
  refine aw_seq ?_
  refine aw_seq ?_
  (refine aw_ops (by kernel_rfl) (fun K hK => ?_); simp (disch := first | omega | (simp only [lnS]; try omega; done)) [-getElem?_pos, -getElem?_neg]; refine hK _ _ ?_; clear hK K)
  refine aw_block ?_
  refine aw_loop (fun c α G => ∃ i : Nat, 1 ≤ i ∧ i + c = o.parents.length + 1 ∧ α 1 = .pointer (some ⟨n, 0, none⟩) ∧ α 3 = .int .i64 (i : Nat) ∧ G = G2 ∧ ∀ k, k + 1 < i → cmpL (o.parents.getD k []) (o.parents.getD (k + 1) []) < 0) o.parents.length ?_ ?_
  · exact ⟨1, by omega, by omega, by (first | (simp [put_at, put_none, fr0_at, q1]; done) | rfl), by (first | (simp [put_at, put_none, fr0_at]; done) | rfl), rfl, fun k hk => by omega⟩
  clear q1 q44
  rintro c α G ⟨i, hi1, hic, q1, q3, rfl, hpre⟩
  refine aw_seq ?_
  refine aw_seq ?_
  by_cases hi : i < o.parents.length
  case pos =>
    obtain ⟨x0, y0, r1, r2, r3, r4, r5⟩ := hpacc.at_ (i - 1) (by omega)
    obtain ⟨x1, y1, s1, s2, s3, s4, s5⟩ := hpacc.at_ i hi
    subst r4 s4
    have r5 := r5 G (Low.refl (Nat.le_refl _))
    have s5 := s5 G (Low.refl (Nat.le_refl _))
    have hk0 := hw.parents (o.parents.getD (i - 1) []) (by rw [List.getD_eq_getElem?_getD, List.getElem?_eq_getElem (show i - 1 < o.parents.length by omega)]; exact List.getElem_mem _)
    have hk1 := hw.parents (o.parents.getD i []) (by rw [List.getD_eq_getElem?_getD, List.getElem?_eq_getElem hi]; exact List.getElem_mem _)
    have hsub : (i : Int) - 1 = ((i - 1 : Nat) : Int) := by omega
    have hls := less_vc _ _ hk0.1 hk1.1 hk0.2 hk1.2
    have hgt := cmpL_gt hk1.2 hk0.2 (by rw [hk1.1, hk0.1])
    have hlt := cmpL_lt hk0.2 hk1.2 (by rw [hk1.1, hk0.1])
    have hnx : cmpL (o.parents.getD (i - 1) []) (o.parents.getD (i - 1 + 1) []) = cmpL (o.parents.getD (i - 1) []) (o.parents.getD i []) := by rw [show i - 1 + 1 = i by omega]
    (refine aw_ops (by kernel_rfl) (fun K hK => ?_); simp (disch := first | omega | (simp only [lnS]; try omega; done)) [-getElem?_pos, -getElem?_neg, q1, q3, hb, hul, c2, -notTuple, p1, p2, nt_intG, nt_ptrG, -xlen, p3, hi]; refine hK _ _ ?_; clear hK K)
    refine aw_t (by (first | (simp [eval_tmp, put_at, hi]; done) | (simp [eval_tmp, put_at, hi]; omega))) (by kernel_rfl) ?_
    refine aw_skip ?_
    refine aw_seq ?_
    refine aw_block ?_
    refine aw_seq ?_
    have e1 : (0 : Int) < cmpL (o.parents.getD i []) (o.parents.getD (i - 1) []) ↔ cmpL (o.parents.getD (i - 1) []) (o.parents.getD i []) < 0 := hgt.trans hlt.symm
    generalize hA : o.parents.getD (i - 1) [] = A at *
    generalize hB : o.parents.getD i [] = B at *
    (refine aw_plan [] [] [0, 1, 2, 3, 4, 5, 6, 7, 8, 9, 10, 11, 12] 13 0 (by kernel_rfl) (by kernel_rfl) (by kernel_rfl) (fun K hK => ?_)); simp only [sel, List.getElem?_cons_succ, List.getElem?_cons_zero, List.drop_succ_cons, List.drop_zero]; simp (disch := first | omega | (simp only [lnS]; try omega; done)) [-getElem?_pos, -getElem?_neg, q1, q3, hb, hul, c2, hsub, -notTuple, p1, p2, r1, s1, r3, s3, nt_intG, nt_ptrG, nt_aggG, -xindexAddr, r2, s2, -xload, hx2, r5, s5, PL_nil, plainB_lit, PL_cons, PLc_val, PLc_new, stepP_t, stepP_f, stepPC_n, stepPC_s, stepPX_s, stepPX_n, stepPV_n, stepPV_s, stepPA_t, stepPA_c, stepPA_l, stepPN_s, allocOp, reloc_sl, reloc_ptr, List.map_cons, List.map_nil, List.nil_append, List.append_assoc, List.cons_append, Nat.add_assoc]
    refine PLc_call (v := .bool (decide (0 < cmpL B A))) (by kernel_rfl) (fun L hL => ac_of_vc (by simp [pv_iv, pv_int, pv_bool, pv_string, pv_tup2, pv_tup3, iv_plain, p2_int, p2_bool, p2_string]) hls rfl) (by simp [pv_iv, pv_int, pv_bool, pv_string, pv_tup2, pv_tup3, iv_plain, p2_int, p2_bool, p2_string]) ?_
    by_cases hlt2 : 0 < cmpL B A
    · simp (disch := first | omega | (simp only [lnS]; try omega; done)) [-getElem?_pos, -getElem?_neg, hlt2, PL_nil, plainB_lit, PL_cons, PLc_val, PLc_new, stepP_t, stepP_f, stepPC_n, stepPC_s, stepPX_s, stepPX_n, stepPV_n, stepPV_s, stepPA_t, stepPA_c, stepPA_l, stepPN_s, allocOp, reloc_sl, reloc_ptr, List.map_cons, List.map_nil, List.nil_append, List.append_assoc, List.cons_append, Nat.add_assoc]
      refine hK _ _ ?_; clear hK K
      refine aw_f (by (first | (simp [eval_tmp, put_at, hlt2]; done) | (simp [eval_tmp, put_at, hlt2]; omega))) (by kernel_rfl) ?_
      refine aw_skip ?_
      (refine aw_ops (by kernel_rfl) (fun K hK => ?_); simp (disch := first | omega | (simp only [lnS]; try omega; done)) [-getElem?_pos, -getElem?_neg, q3]; refine hK _ _ ?_; clear hK K)
      refine ⟨c - 1, by omega, i + 1, by omega, by omega, by (first | (simp [put_at, put_none, fr0_at, q1]; done) | rfl), by (first | (simp [put_at, put_none, fr0_at]; done) | rfl), rfl, fun k hk => ?_⟩
      by_cases e : k = i - 1
      · subst e
        rw [hA, hnx]
        exact e1.1 hlt2
      · exact hpre k (by omega)
    · simp (disch := first | omega | (simp only [lnS]; try omega; done)) [-getElem?_pos, -getElem?_neg, hlt2, PL_nil, plainB_lit, PL_cons, PLc_val, PLc_new, stepP_t, stepP_f, stepPC_n, stepPC_s, stepPX_s, stepPX_n, stepPV_n, stepPV_s, stepPA_t, stepPA_c, stepPA_l, stepPN_s, allocOp, reloc_sl, reloc_ptr, List.map_cons, List.map_nil, List.nil_append, List.append_assoc, List.cons_append, Nat.add_assoc]
      refine hK _ _ ?_; clear hK K
      refine aw_t (by (first | (simp [eval_tmp, put_at, hlt2]; done) | (simp [eval_tmp, put_at, hlt2]; omega))) (by kernel_rfl) ?_
      refine aw_seq ?_
      (refine aw_ops (by kernel_rfl) (fun K hK => ?_); simp (disch := first | omega | (simp only [lnS]; try omega; done)) [-getElem?_pos, -getElem?_neg]; refine hK _ _ ?_; clear hK K)
      (refine aw_ret ?_; simp (disch := first | omega | (simp only [lnS]; try omega; done)) [-getElem?_pos, -getElem?_neg, thenQ_ret, scopeQ_ret, inBlockQ_ret, RQ, resL, resV])
      rw [hrf]
      have : risesK o.parents = false := by
        unfold risesK
        refine range_false (i := i - 1) (by omega) ?_
        rw [hA, hnx, decide_eq_false_iff_not]
        exact fun hh => hlt2 (e1.2 hh)
      rw [this]; rfl
  (refine aw_ops (by kernel_rfl) (fun K hK => ?_); simp (disch := first | omega | (simp only [lnS]; try omega; done)) [-getElem?_pos, -getElem?_neg, q1, q3, hb, hul, c2, -notTuple, p1, p2, nt_intG, nt_ptrG, -xlen, p3, hi]; refine hK _ _ ?_; clear hK K)
  refine aw_f (by (first | (simp [eval_tmp, put_at, hi]; done) | (simp [eval_tmp, put_at, hi]; omega))) (by kernel_rfl) ?_
  refine aw_exit ?_
  have hrK : risesK o.parents = true := by
    unfold risesK
    exact range_true fun k hk => by
      rw [decide_eq_true_eq]
      exact hpre k (by omega)
  rw [hrK, Bool.true_and] at hrf
  -- who
  refine aw_seq ?_
  (refine aw_ops (by kernel_rfl) (fun K hK => ?_); simp (disch := first | omega | (simp only [lnS]; try omega; done)) [-getElem?_pos, -getElem?_neg]; refine hK _ _ ?_; clear hK K)
  refine aw_seq ?_
  refine aw_seq ?_
  (refine aw_ops (by kernel_rfl) (fun K hK => ?_); simp (disch := first | omega | (simp only [lnS]; try omega; done)) [-getElem?_pos, -getElem?_neg]; refine hK _ _ ?_; clear hK K)
  refine aw_block ?_
  refine aw_loop (fun c α G2 => ∃ i : Nat, i + c = o.who.length ∧ α 1 = .pointer (some ⟨n, 0, none⟩) ∧ α 4 = .bool (decide (o.author ∈ o.who.take i)) ∧ α 5 = .int .i64 (i : Nat) ∧ G2 = G ∧ (∀ k z, k < i → o.who[k]? = some z → memI z = true) ∧ ∀ k, k + 1 < i → o.who.getD k 0 < o.who.getD (k + 1) 0) o.who.length ?_ ?_
  · exact ⟨0, by omega, by (first | (simp [put_at, put_none, fr0_at, q1]; done) | rfl), by simp [put_at], by (first | (simp [put_at, put_none, fr0_at]; done) | rfl), rfl, fun k z hk => by omega, fun k hk => by omega⟩
  clear q1 q3
  rintro c α G3 ⟨i, hic, q1, q4, q5, rfl, hmem, hrise⟩
  refine aw_seq ?_
  refine aw_seq ?_
  by_cases hi : i < o.who.length
  case pos =>
    obtain ⟨x1, y1, s1, s2, s3, s4, s5⟩ := hwacc.at_ i hi
    subst s4
    have s5 := s5 G3 (Low.refl (Nat.le_refl _))
    obtain ⟨z, hz⟩ : ∃ z, o.who[i]? = some z := ⟨_, List.getElem?_eq_getElem hi⟩
    have hzd : o.who.getD i 0 = z := getD_of hz
    have hzb := hw.who z (List.mem_of_getElem? hz)
    have htk : o.who.take (i + 1) = o.who.take i ++ [z] := by rw [List.take_add_one, hz]; rfl
    rw [hzd] at s5 s3
    (refine aw_ops (by kernel_rfl) (fun K hK => ?_); simp (disch := first | omega | (simp only [lnS]; try omega; done)) [-getElem?_pos, -getElem?_neg, q1, q5, hb, hul, c4, -notTuple, w1, w2, nt_intG, nt_ptrG, -xlen, w3, hi]; refine hK _ _ ?_; clear hK K)
    refine aw_t (by (first | (simp [eval_tmp, put_at, hi]; done) | (simp [eval_tmp, put_at, hi]; omega))) (by kernel_rfl) ?_
    refine aw_skip ?_
    refine aw_seq ?_
    refine aw_block ?_
    refine aw_seq ?_
    refine aw_cut (fun α G2 => α 1 = .pointer (some ⟨n, 0, none⟩) ∧ α 4 = .bool (decide (o.author ∈ o.who.take i)) ∧ α 5 = .int .i64 (i : Nat) ∧ G2 = G3 ∧ memI z = true ∧ (0 < i → o.who.getD (i - 1) 0 < z)) ?_ ?_
    · refine aw_seq ?_
      (refine aw_plan [] [] [0, 1, 2, 3, 4, 5, 6, 7, 8, 9, 10, 11, 12, 13, 14, 15, 16, 17, 18, 19, 20, 21, 22, 23, 24] 25 0 (by kernel_rfl) (by kernel_rfl) (by kernel_rfl) (fun K hK => ?_)); simp only [sel, List.getElem?_cons_succ, List.getElem?_cons_zero, List.drop_succ_cons, List.drop_zero]; simp (disch := first | omega | (simp only [lnS]; try omega; done)) [-getElem?_pos, -getElem?_neg, q1, q5, hb, hul, c4, -notTuple, w1, w2, s1, s3, nt_intG, nt_ptrG, -xindexAddr, s2, -xload, hx4, s5, PL_nil, plainB_lit, PL_cons, PLc_val, PLc_new, stepP_t, stepP_f, stepPC_n, stepPC_s, stepPX_s, stepPX_n, stepPV_n, stepPV_s, stepPA_t, stepPA_c, stepPA_l, stepPN_s, allocOp, reloc_sl, reloc_ptr, List.map_cons, List.map_nil, List.nil_append, List.append_assoc, List.cons_append, Nat.add_assoc]
      refine PLc_call (v := .bool (memI z)) (by kernel_rfl) (fun L hL => ac_of_vc (by simp [pv_iv, pv_int, pv_bool, pv_string, pv_tup2, pv_tup3, iv_plain, p2_int, p2_bool, p2_string]) (member_vc z) rfl) (by simp [pv_iv, pv_int, pv_bool, pv_string, pv_tup2, pv_tup3, iv_plain, p2_int, p2_bool, p2_string]) ?_
      have hbadW : (o.who.all memI && risesI o.who) = false → (risesK o.parents && ((o.who.all memI && risesI o.who) && (boxesB o && kindB o (decide (o.author ∈ o.who))))) = false := fun hh => by rw [hh]; simp
      cases hmz : memI z with
      | false =>
        simp (disch := first | omega | (simp only [lnS]; try omega; done)) [-getElem?_pos, -getElem?_neg, PL_nil, plainB_lit, PL_cons, PLc_val, PLc_new, stepP_t, stepP_f, stepPC_n, stepPC_s, stepPX_s, stepPX_n, stepPV_n, stepPV_s, stepPA_t, stepPA_c, stepPA_l, stepPN_s, allocOp, reloc_sl, reloc_ptr, List.map_cons, List.map_nil, List.nil_append, List.append_assoc, List.cons_append, Nat.add_assoc]
        refine hK _ _ ?_; clear hK K
        refine aw_t (by (first | (simp [eval_tmp, put_at]; done) | (simp [eval_tmp, put_at]; omega))) (by kernel_rfl) ?_
        refine aw_seq ?_
        (refine aw_ops (by kernel_rfl) (fun K hK => ?_); simp (disch := first | omega | (simp only [lnS]; try omega; done)) [-getElem?_pos, -getElem?_neg]; refine hK _ _ ?_; clear hK K)
        (refine aw_ret ?_; simp (disch := first | omega | (simp only [lnS]; try omega; done)) [-getElem?_pos, -getElem?_neg, thenQ_ret, scopeQ_ret, inBlockQ_ret, RQ, resL, resV])
        rw [hrf, all_false hz hmz]; simp
      | true =>
      by_cases hi0 : 0 < i
      case neg =>
        simp (disch := first | omega | (simp only [lnS]; try omega; done)) [-getElem?_pos, -getElem?_neg, q1, q5, hb, hul, c4, -notTuple, w1, w2, s1, s3, nt_intG, nt_ptrG, -xindexAddr, s2, -xload, hx4, s5, hi0, PL_nil, plainB_lit, PL_cons, PLc_val, PLc_new, stepP_t, stepP_f, stepPC_n, stepPC_s, stepPX_s, stepPX_n, stepPV_n, stepPV_s, stepPA_t, stepPA_c, stepPA_l, stepPN_s, allocOp, reloc_sl, reloc_ptr, List.map_cons, List.map_nil, List.nil_append, List.append_assoc, List.cons_append, Nat.add_assoc]
        refine hK _ _ ?_; clear hK K
        refine aw_f (by (first | (simp [eval_tmp, put_at]; done) | (simp [eval_tmp, put_at]; omega))) (by kernel_rfl) ?_
        refine aw_skip ?_
        exact ⟨by (first | (simp [put_at, put_none, fr0_at, q1]; done) | rfl), by (first | (simp [put_at, put_none, fr0_at, q4]; done) | rfl), by (first | (simp [put_at, put_none, fr0_at, q5]; done) | rfl), rfl, hmz, fun hh => absurd hh hi0⟩
      obtain ⟨x0, y0, r1, r2, r3, r4, r5⟩ := hwacc.at_ (i - 1) (by omega)
      subst r4
      have r5 := r5 G3 (Low.refl (Nat.le_refl _))
      have hsub : (i : Int) - 1 = ((i - 1 : Nat) : Int) := by omega
      obtain ⟨y, hy⟩ : ∃ y, o.who[i - 1]? = some y := ⟨_, List.getElem?_eq_getElem (by omega)⟩
      have hyd : o.who.getD (i - 1) 0 = y := getD_of hy
      rw [hyd] at r5 r3
      by_cases hyz : y < z
      · have hyz2 : ¬ z ≤ y := by omega
        simp (disch := first | omega | (simp only [lnS]; try omega; done)) [-getElem?_pos, -getElem?_neg, q1, q5, hb, hul, c4, -notTuple, w1, w2, s1, s3, nt_intG, nt_ptrG, -xindexAddr, s2, -xload, hx4, s5, hi0, hsub, r1, r3, r2, r5, hyz2, PL_nil, plainB_lit, PL_cons, PLc_val, PLc_new, stepP_t, stepP_f, stepPC_n, stepPC_s, stepPX_s, stepPX_n, stepPV_n, stepPV_s, stepPA_t, stepPA_c, stepPA_l, stepPN_s, allocOp, reloc_sl, reloc_ptr, List.map_cons, List.map_nil, List.nil_append, List.append_assoc, List.cons_append, Nat.add_assoc]
        refine hK _ _ ?_; clear hK K
        refine aw_f (by (first | (simp [eval_tmp, put_at, hyz2]; done) | (simp [eval_tmp, put_at, hyz2]; omega))) (by kernel_rfl) ?_
        refine aw_skip ?_
        exact ⟨by (first | (simp [put_at, put_none, fr0_at, q1]; done) | rfl), by (first | (simp [put_at, put_none, fr0_at, q4]; done) | rfl), by (first | (simp [put_at, put_none, fr0_at, q5]; done) | rfl), rfl, hmz, fun _ => by rw [hyd]; exact hyz⟩
      · have hyz2 : z ≤ y := by omega
        simp (disch := first | omega | (simp only [lnS]; try omega; done)) [-getElem?_pos, -getElem?_neg, q1, q5, hb, hul, c4, -notTuple, w1, w2, s1, s3, nt_intG, nt_ptrG, -xindexAddr, s2, -xload, hx4, s5, hi0, hsub, r1, r3, r2, r5, hyz2, PL_nil, plainB_lit, PL_cons, PLc_val, PLc_new, stepP_t, stepP_f, stepPC_n, stepPC_s, stepPX_s, stepPX_n, stepPV_n, stepPV_s, stepPA_t, stepPA_c, stepPA_l, stepPN_s, allocOp, reloc_sl, reloc_ptr, List.map_cons, List.map_nil, List.nil_append, List.append_assoc, List.cons_append, Nat.add_assoc]
        refine hK _ _ ?_; clear hK K
        refine aw_t (by (first | (simp [eval_tmp, put_at, hyz2]; done) | (simp [eval_tmp, put_at, hyz2]; omega))) (by kernel_rfl) ?_
        refine aw_seq ?_
        (refine aw_ops (by kernel_rfl) (fun K hK => ?_); simp (disch := first | omega | (simp only [lnS]; try omega; done)) [-getElem?_pos, -getElem?_neg]; refine hK _ _ ?_; clear hK K)
        (refine aw_ret ?_; simp (disch := first | omega | (simp only [lnS]; try omega; done)) [-getElem?_pos, -getElem?_neg, thenQ_ret, scopeQ_ret, inBlockQ_ret, RQ, resL, resV])
        have : risesI o.who = false := by
          unfold risesI
          refine range_false (i := i - 1) (by omega) ?_
          rw [decide_eq_false_iff_not, show i - 1 + 1 = i by omega, hyd, hzd, cmpI_lt]
          omega
        rw [hrf, this]; simp
    clear q1 q4 q5
    rintro α G4 ⟨q1, q4, q5, rfl, hmz, hrz⟩
    have hau : decide (o.author ∈ o.who.take (i + 1)) = (decide (o.author ∈ o.who.take i) || decide (z = o.author)) := by
      rw [htk, Bool.eq_iff_iff, Bool.or_eq_true, decide_eq_true_eq, decide_eq_true_eq, decide_eq_true_eq, List.mem_append, List.mem_singleton, eq_comm (a := o.author) (b := z)]
    have hm2 : ∀ k z, k < i + 1 → o.who[k]? = some z → memI z = true := fun k z' hk hz' => by
      by_cases e : k = i
      · subst e
        rw [hz] at hz'
        cases hz'
        exact hmz
      · exact hmem k z' (by omega) hz'
    have hr2 : ∀ k, k + 1 < i + 1 → o.who.getD k 0 < o.who.getD (k + 1) 0 := fun k hk => by
      by_cases e : k + 1 = i
      · rw [e, hzd, show k = i - 1 by omega]
        exact hrz (by omega)
      · exact hrise k (by omega)
    cases hd : decide (o.author ∈ o.who.take i) with
    | true =>
      rw [hd] at q4 hau
      (refine aw_plan [] [] [0, 1, 2, 3, 4, 5, 6, 7, 8, 9, 10, 11] 12 0 (by kernel_rfl) (by kernel_rfl) (by kernel_rfl) (fun K hK => ?_)); simp only [sel, List.getElem?_cons_succ, List.getElem?_cons_zero, List.drop_succ_cons, List.drop_zero]; simp (disch := first | omega | (simp only [lnS]; try omega; done)) [-getElem?_pos, -getElem?_neg, q1, q4, q5, hb, hul, PL_nil, plainB_lit, PL_cons, PLc_val, PLc_new, stepP_t, stepP_f, stepPC_n, stepPC_s, stepPX_s, stepPX_n, stepPV_n, stepPV_s, stepPA_t, stepPA_c, stepPA_l, stepPN_s, allocOp, reloc_sl, reloc_ptr, List.map_cons, List.map_nil, List.nil_append, List.append_assoc, List.cons_append, Nat.add_assoc]
      refine hK _ _ ?_; clear hK K
      (refine aw_ops (by kernel_rfl) (fun K hK => ?_); simp (disch := first | omega | (simp only [lnS]; try omega; done)) [-getElem?_pos, -getElem?_neg, q5]; refine hK _ _ ?_; clear hK K)
      refine ⟨c - 1, by omega, i + 1, by omega, by (first | (simp [put_at, put_none, fr0_at, q1]; done) | rfl), by rw [hau]; (first | (simp [put_at, put_none, fr0_at]; done) | rfl), by (first | (simp [put_at, put_none, fr0_at]; done) | rfl), rfl, hm2, hr2⟩
    | false =>
      rw [hd] at q4 hau
      have hx0 : xload Try.prog 3 (.pointer (some ⟨n, 0, none⟩)) G4 = some (.int .i64 o.author) := by simp [xload, hb, c0]
      by_cases hza : z = o.author
      · have hzab : (z == o.author) = true := by simp [hza]
        (refine aw_plan [] [] [0, 1, 2, 3, 4, 5, 6, 7, 8, 9, 10, 11] 12 0 (by kernel_rfl) (by kernel_rfl) (by kernel_rfl) (fun K hK => ?_)); simp only [sel, List.getElem?_cons_succ, List.getElem?_cons_zero, List.drop_succ_cons, List.drop_zero]; simp (disch := first | omega | (simp only [lnS]; try omega; done)) [-getElem?_pos, -getElem?_neg, q1, q4, q5, hb, hul, -notTuple, w1, w2, s1, s3, nt_intG, nt_ptrG, -xindexAddr, s2, -xload, hx4, hx0, s5, hza, hzab, PL_nil, plainB_lit, PL_cons, PLc_val, PLc_new, stepP_t, stepP_f, stepPC_n, stepPC_s, stepPX_s, stepPX_n, stepPV_n, stepPV_s, stepPA_t, stepPA_c, stepPA_l, stepPN_s, allocOp, reloc_sl, reloc_ptr, List.map_cons, List.map_nil, List.nil_append, List.append_assoc, List.cons_append, Nat.add_assoc]
        refine hK _ _ ?_; clear hK K
        (refine aw_ops (by kernel_rfl) (fun K hK => ?_); simp (disch := first | omega | (simp only [lnS]; try omega; done)) [-getElem?_pos, -getElem?_neg, q5]; refine hK _ _ ?_; clear hK K)
        refine ⟨c - 1, by omega, i + 1, by omega, by (first | (simp [put_at, put_none, fr0_at, q1]; done) | rfl), by rw [hau]; simp [put_at, hza], by (first | (simp [put_at, put_none, fr0_at]; done) | rfl), rfl, hm2, hr2⟩
      · have hzab : (z == o.author) = false := by simp [hza]
        (refine aw_plan [] [] [0, 1, 2, 3, 4, 5, 6, 7, 8, 9, 10, 11] 12 0 (by kernel_rfl) (by kernel_rfl) (by kernel_rfl) (fun K hK => ?_)); simp only [sel, List.getElem?_cons_succ, List.getElem?_cons_zero, List.drop_succ_cons, List.drop_zero]; simp (disch := first | omega | (simp only [lnS]; try omega; done)) [-getElem?_pos, -getElem?_neg, q1, q4, q5, hb, hul, -notTuple, w1, w2, s1, s3, nt_intG, nt_ptrG, -xindexAddr, s2, -xload, hx4, hx0, s5, hza, hzab, PL_nil, plainB_lit, PL_cons, PLc_val, PLc_new, stepP_t, stepP_f, stepPC_n, stepPC_s, stepPX_s, stepPX_n, stepPV_n, stepPV_s, stepPA_t, stepPA_c, stepPA_l, stepPN_s, allocOp, reloc_sl, reloc_ptr, List.map_cons, List.map_nil, List.nil_append, List.append_assoc, List.cons_append, Nat.add_assoc]
        refine hK _ _ ?_; clear hK K
        (refine aw_ops (by kernel_rfl) (fun K hK => ?_); simp (disch := first | omega | (simp only [lnS]; try omega; done)) [-getElem?_pos, -getElem?_neg, q5]; refine hK _ _ ?_; clear hK K)
        refine ⟨c - 1, by omega, i + 1, by omega, by (first | (simp [put_at, put_none, fr0_at, q1]; done) | rfl), by rw [hau]; simp [put_at, hza], by (first | (simp [put_at, put_none, fr0_at]; done) | rfl), rfl, hm2, hr2⟩
  (refine aw_ops (by kernel_rfl) (fun K hK => ?_); simp (disch := first | omega | (simp only [lnS]; try omega; done)) [-getElem?_pos, -getElem?_neg, q1, q5, hb, hul, c4, -notTuple, w1, w2, nt_intG, nt_ptrG, -xlen, w3, hi]; refine hK _ _ ?_; clear hK K)
  refine aw_f (by (first | (simp [eval_tmp, put_at, hi]; done) | (simp [eval_tmp, put_at, hi]; omega))) (by kernel_rfl) ?_
  refine aw_exit ?_
  obtain rfl : i = o.who.length := by omega
  rw [List.take_length] at q4
  have hW : (o.who.all memI && risesI o.who) = true := by
    rw [all_take (fun k z hz => hmem k z (List.getElem?_eq_some_iff.1 hz).1 hz), Bool.true_and]
    unfold risesI
    exact range_true fun k hk => by
      rw [decide_eq_true_eq, cmpI_lt]
      exact hrise k (by omega)
  rw [hW, Bool.true_and] at hrf
  -- boxes
  refine aw_seq ?_
  refine aw_seq ?_
  (refine aw_ops (by kernel_rfl) (fun K hK => ?_); simp (disch := first | omega | (simp only [lnS]; try omega; done)) [-getElem?_pos, -getElem?_neg]; refine hK _ _ ?_; clear hK K)
  refine aw_block ?_
  refine aw_loop (fun c α G2 => ∃ i : Nat, i + c = o.boxes.length ∧ α 1 = .pointer (some ⟨n, 0, none⟩) ∧ α 4 = .bool (decide (o.author ∈ o.who)) ∧ α 6 = .int .i64 (i : Nat) ∧ Low G3.length G3 G2 ∧ (∀ k z, k < i → o.boxes[k]? = some z → boxB o.author z = true) ∧ ∀ k, k + 1 < i → (o.boxes.map BoxD.to).getD k 0 < (o.boxes.map BoxD.to).getD (k + 1) 0) o.boxes.length ?_ ?_
  · exact ⟨0, by omega, by (first | (simp [put_at, put_none, fr0_at, q1]; done) | rfl), by (first | (simp [put_at, put_none, fr0_at, q4]; done) | rfl), by (first | (simp [put_at, put_none, fr0_at]; done) | rfl), Low.refl (Nat.le_refl _), fun k z hk => by omega, fun k hk => by omega⟩
  clear q1 q4 q5
  rintro c α G4 ⟨i, hic, q1, q4, q6, low4, hbox, hrise2⟩
  have hb4 := (low4.1 n (hget_lt hb)).trans hb
  have hle4 := low4.2
  have hlG3 := hget_lt hb
  refine aw_seq ?_
  refine aw_seq ?_
  by_cases hi : i < o.boxes.length
  case neg =>
    (refine aw_ops (by kernel_rfl) (fun K hK => ?_); simp (disch := first | omega | (simp only [lnS]; try omega; done)) [-getElem?_pos, -getElem?_neg, q1, q6, hb4, hul, c70, -notTuple, b1, b2, nt_intG, nt_ptrG, -xlen, hblen, hi]; refine hK _ _ ?_; clear hK K)
    refine aw_f (by (first | (simp [eval_tmp, put_at, hi]; done) | (simp [eval_tmp, put_at, hi]; omega))) (by kernel_rfl) ?_
    refine aw_exit ?_
    obtain rfl : i = o.boxes.length := by omega
    have hB : boxesB o = true := by
      unfold boxesB risesX
      rw [all_take (fun k z hz => hbox k z (List.getElem?_eq_some_iff.1 hz).1 hz), Bool.true_and]
      exact range_true fun k hk => by
        rw [decide_eq_true_eq, cmpI_lt]
        exact hrise2 k (by omega)
    rw [hB, Bool.true_and] at hrf
    have hO4 : OpC G4 us o pv wv bv := hG.low low4.1
    have hkd := rkind_rc (γ := γ) hO4 hw (decide (o.author ∈ o.who))
    refine aw_seq ?_
    refine aw_ops (by kernel_rfl) (fun K hK => ?_)
    simp (disch := first | omega | (simp only [lnS]; try omega; done)) [-getElem?_pos, -getElem?_neg, q1, q4, hb4, hul, htu, nt_aggG]
    refine ⟨by kernel_rfl, ac_of_rc hkd (by simp [pv_iv, pv_int, pv_bool, pv_string, pv_tup2, pv_tup3, iv_plain, p2_int, p2_bool, p2_string]) ?_⟩
    try simp (disch := first | omega | (simp only [lnS]; try omega; done)) [-getElem?_pos, -getElem?_neg]
    refine hK _ _ ?_; clear hK K
    (refine aw_ret ?_; simp (disch := first | omega | (simp only [lnS]; try omega; done)) [-getElem?_pos, -getElem?_neg, thenQ_ret, scopeQ_ret, inBlockQ_ret, RQ, resL, resV])
    rw [hrf]
  obtain ⟨z, hz⟩ : ∃ z, o.boxes[i]? = some z := ⟨_, List.getElem?_eq_getElem hi⟩
  obtain ⟨j, q, bb, ws, hxa, hbb, hq, hws, hcl, hC⟩ := hbx.row_at hw.boxes hz
  have hbb4 := (low4.1 j (hget_lt hbb)).trans hbb
  have hwl := hC.len
  have d0 := hC.c0
  have d35 := hC.c35
  have hws' := hws.symm
  clear hws
  have hset2 : ∀ Z : List Value, Z.length = 36 → setR Z 0 ws = ws := fun Z hZ => setR_all _ _ (by omega)
  have hzw := hw.boxes z (List.mem_of_getElem? hz)
  have hzb := hzw.body
  have hzt := hzw.to
  have htd : (o.boxes.map BoxD.to).getD i 0 = z.to := getD_of (by rw [List.getElem?_map, hz]; rfl)
  have hnG : n ≤ G4.length := by omega
  (refine aw_ops (by kernel_rfl) (fun K hK => ?_); simp (disch := first | omega | (simp only [lnS]; try omega; done)) [-getElem?_pos, -getElem?_neg, q1, q6, hb4, hul, c70, -notTuple, b1, b2, nt_intG, nt_ptrG, -xlen, hblen, hi]; refine hK _ _ ?_; clear hK K)
  refine aw_t (by (first | (simp [eval_tmp, put_at, hi]; done) | (simp [eval_tmp, put_at, hi]; omega))) (by kernel_rfl) ?_
  refine aw_skip ?_
  refine aw_seq ?_
  refine aw_block ?_
  refine aw_seq ?_
  (refine aw_ops (by kernel_rfl) (fun K hK => ?_); simp (disch := first | omega | (simp only [lnS]; try omega; done)) [-getElem?_pos, -getElem?_neg, q1, q6, hb4, hul, c70, -notTuple, b1, b2, nt_intG, nt_ptrG, nt_aggG, -xindexAddr, hxa, hbb4, hws', hwl, hq, hnG, all_zl, hset2]; refine hK _ _ ?_; clear hK K)
  obtain ⟨low5, hbg⟩ := boxed (H := G4) ws 107
  obtain ⟨g, hg⟩ : ∃ g, g = G4.length := ⟨_, rfl⟩
  rw [← hg] at hbg ⊢
  generalize G4 ++ [some ⟨ws, 107, none⟩] = G5 at *
  have hb5 := (low5.1 n (by omega)).trans hb4
  have hxA : xload Try.prog 3 (.pointer (some ⟨n, 0, none⟩)) G5 = some (.int .i64 o.author) := by simp [xload, hb5, c0]
  have hxT : xload Try.prog 3 (.pointer (some ⟨g, 0, none⟩)) G5 = some (.int .i64 z.to) := by simp [xload, hbg, d0]
  have hxB : xload Try.prog 9 (.pointer (some ⟨g, 35, none⟩)) G5 = some (.string z.body) := by simp [xload, hbg, d35]
  have hx70 : xload Try.prog 39 (.pointer (some ⟨n, 70, none⟩)) G5 = some bv := by simp [xload, hb5, c70]
  have hxt : xlen Try.prog 9 (.string z.body) = some (.int .i64 z.body.size) := by simp [xlen]
  have hzb2 : z.body.size ≤ 9223372036854775807 := by simp only [maxLen] at hzb; omega
  have low45 : Low G3.length G3 G5 := ⟨fun j hj => (low5.1 j (by omega)).trans (low4.1 j hj), by have := low5.2; omega⟩
  have q6' := q6
  have hbadB : boxB o.author z = false → boxesB o = false := fun hh => by unfold boxesB; rw [all_false hz hh]; rfl
  refine aw_seq ?_
  have hnextI : ∀ w : Int, (o.boxes.map BoxD.to).getD (i - 1) 0 = w → True := fun _ _ => trivial
  refine aw_cut (fun α G2 => α 152 = .bool (!(boxB o.author z && (decide (i = 0) || decide ((o.boxes.map BoxD.to).getD (i - 1) 0 < z.to)))) ∧ α 1 = .pointer (some ⟨n, 0, none⟩) ∧ α 4 = .bool (decide (o.author ∈ o.who)) ∧ α 6 = .int .i64 (i : Nat) ∧ G2 = G5) ?_ ?_
  · (refine aw_plan [] [] [0, 1, 2, 3, 4, 5, 6, 7, 8, 9, 10, 11, 12, 13, 14, 15, 16, 17, 18, 19, 20, 21, 22, 23, 24, 25, 26, 27, 28, 29, 30, 31, 32] 33 0 (by kernel_rfl) (by kernel_rfl) (by kernel_rfl) (fun K hK => ?_)); simp only [sel, List.getElem?_cons_succ, List.getElem?_cons_zero, List.drop_succ_cons, List.drop_zero]; simp (disch := first | omega | (simp only [lnS]; try omega; done)) [-getElem?_pos, -getElem?_neg, q1, q6, hb, hul, c70, hbg, hwl, d0, d35, -notTuple, b1, b2, nt_intG, nt_ptrG, nt_strG, -xlen, hxt, -xload, hxA, hxT, hxB, hx70, PL_nil, plainB_lit, PL_cons, PLc_val, PLc_new, stepP_t, stepP_f, stepPC_n, stepPC_s, stepPX_s, stepPX_n, stepPV_n, stepPV_s, stepPA_t, stepPA_c, stepPA_l, stepPN_s, allocOp, reloc_sl, reloc_ptr, List.map_cons, List.map_nil, List.nil_append, List.append_assoc, List.cons_append, Nat.add_assoc]
    refine PLc_call (v := .bool (memI z.to)) (by kernel_rfl) (fun L hL => ac_of_vc (by simp [pv_iv, pv_int, pv_bool, pv_string, pv_tup2, pv_tup3, iv_plain, p2_int, p2_bool, p2_string]) (member_vc z.to) rfl) (by simp [pv_iv, pv_int, pv_bool, pv_string, pv_tup2, pv_tup3, iv_plain, p2_int, p2_bool, p2_string]) ?_
    cases k1 : memI z.to with
    | false =>
      simp (disch := first | omega | (simp only [lnS]; try omega; done)) [-getElem?_pos, -getElem?_neg, PL_nil, plainB_lit, PL_cons, PLc_val, PLc_new, stepP_t, stepP_f, stepPC_n, stepPC_s, stepPX_s, stepPX_n, stepPV_n, stepPV_s, stepPA_t, stepPA_c, stepPA_l, stepPN_s, allocOp, reloc_sl, reloc_ptr, List.map_cons, List.map_nil, List.nil_append, List.append_assoc, List.cons_append, Nat.add_assoc]
      refine hK _ _ ?_; clear hK K
      exact ⟨by simp [boxB, k1, put_at], by (first | (simp [put_at, put_none, fr0_at, q1]; done) | rfl), by (first | (simp [put_at, put_none, fr0_at, q4]; done) | rfl), by (first | (simp [put_at, put_none, fr0_at, q6]; done) | rfl), rfl⟩
    | true =>
    by_cases k2 : z.to = o.author
    · have k2b : (z.to == o.author) = true := by simp [k2]
      simp (disch := first | omega | (simp only [lnS]; try omega; done)) [-getElem?_pos, -getElem?_neg, q1, q6, hb, hul, c70, hbg, hwl, d0, d35, -notTuple, b1, b2, nt_intG, nt_ptrG, nt_strG, -xlen, hxt, -xload, hxA, hxT, hxB, hx70, k2, k2b, PL_nil, plainB_lit, PL_cons, PLc_val, PLc_new, stepP_t, stepP_f, stepPC_n, stepPC_s, stepPX_s, stepPX_n, stepPV_n, stepPV_s, stepPA_t, stepPA_c, stepPA_l, stepPN_s, allocOp, reloc_sl, reloc_ptr, List.map_cons, List.map_nil, List.nil_append, List.append_assoc, List.cons_append, Nat.add_assoc]
      refine hK _ _ ?_; clear hK K
      exact ⟨by simp [boxB, k1, k2, put_at], by (first | (simp [put_at, put_none, fr0_at, q1]; done) | rfl), by (first | (simp [put_at, put_none, fr0_at, q4]; done) | rfl), by (first | (simp [put_at, put_none, fr0_at, q6]; done) | rfl), rfl⟩
    have k2b : (z.to == o.author) = false := by simp [k2]
    by_cases k3 : z.body.size ≤ 256
    case neg =>
      have k3b : 256 < z.body.size := by omega
      simp (disch := first | omega | (simp only [lnS]; try omega; done)) [-getElem?_pos, -getElem?_neg, q1, q6, hb, hul, c70, hbg, hwl, d0, d35, -notTuple, b1, b2, nt_intG, nt_ptrG, nt_strG, -xlen, hxt, -xload, hxA, hxT, hxB, hx70, k2, k2b, k3b, PL_nil, plainB_lit, PL_cons, PLc_val, PLc_new, stepP_t, stepP_f, stepPC_n, stepPC_s, stepPX_s, stepPX_n, stepPV_n, stepPV_s, stepPA_t, stepPA_c, stepPA_l, stepPN_s, allocOp, reloc_sl, reloc_ptr, List.map_cons, List.map_nil, List.nil_append, List.append_assoc, List.cons_append, Nat.add_assoc]
      refine hK _ _ ?_; clear hK K
      exact ⟨by simp [boxB, k1, k2, k3, put_at], by (first | (simp [put_at, put_none, fr0_at, q1]; done) | rfl), by (first | (simp [put_at, put_none, fr0_at, q4]; done) | rfl), by (first | (simp [put_at, put_none, fr0_at, q6]; done) | rfl), rfl⟩
    have k3b : ¬ 256 < z.body.size := by omega
    by_cases hi0 : 0 < i
    case neg =>
      have hi0e : i = 0 := by omega
      simp (disch := first | omega | (simp only [lnS]; try omega; done)) [-getElem?_pos, -getElem?_neg, q1, q6, hb, hul, c70, hbg, hwl, d0, d35, -notTuple, b1, b2, nt_intG, nt_ptrG, nt_strG, -xlen, hxt, -xload, hxA, hxT, hxB, hx70, k2, k2b, k3b, hi0, PL_nil, plainB_lit, PL_cons, PLc_val, PLc_new, stepP_t, stepP_f, stepPC_n, stepPC_s, stepPX_s, stepPX_n, stepPV_n, stepPV_s, stepPA_t, stepPA_c, stepPA_l, stepPN_s, allocOp, reloc_sl, reloc_ptr, List.map_cons, List.map_nil, List.nil_append, List.append_assoc, List.cons_append, Nat.add_assoc]
      refine hK _ _ ?_; clear hK K
      exact ⟨by simp [boxB, k1, k2, k3, hi0e, put_at], by (first | (simp [put_at, put_none, fr0_at, q1]; done) | rfl), by (first | (simp [put_at, put_none, fr0_at, q4]; done) | rfl), by (first | (simp [put_at, put_none, fr0_at, q6]; done) | rfl), rfl⟩
    have hi0n : ¬ i = 0 := by omega
    obtain ⟨y, hy⟩ : ∃ y, o.boxes[i - 1]? = some y := ⟨_, List.getElem?_eq_getElem (by omega)⟩
    obtain ⟨j', q', bb', ws', hxa', hbb', hq', hws2, hcl', hC'⟩ := hbx.row_at hw.boxes hy
    have hbb5 := (low45.1 j' (hget_lt hbb')).trans hbb'
    have htd' : (o.boxes.map BoxD.to).getD (i - 1) 0 = y.to := getD_of (by rw [List.getElem?_map, hy]; rfl)
    have e0 := (hcl' 0 (by omega)).trans hC'.c0
    have hxY : xload Try.prog 3 (.pointer (some ⟨j', q', none⟩)) G5 = some (.int .i64 y.to) := by simp [xload, hbb5]; simpa using e0
    have hsub : (i : Int) - 1 = ((i - 1 : Nat) : Int) := by omega
    by_cases k4 : y.to < z.to
    · have k4b : ¬ z.to ≤ y.to := by omega
      simp (disch := first | omega | (simp only [lnS]; try omega; done)) [-getElem?_pos, -getElem?_neg, q1, q6, hb, hul, c70, hbg, hwl, d0, d35, -notTuple, b1, b2, nt_intG, nt_ptrG, nt_strG, -xlen, hxt, -xload, hxA, hxT, hxB, hx70, k2, k2b, k3b, hi0, hsub, -xindexAddr, hxa', hxY, k4b, PL_nil, plainB_lit, PL_cons, PLc_val, PLc_new, stepP_t, stepP_f, stepPC_n, stepPC_s, stepPX_s, stepPX_n, stepPV_n, stepPV_s, stepPA_t, stepPA_c, stepPA_l, stepPN_s, allocOp, reloc_sl, reloc_ptr, List.map_cons, List.map_nil, List.nil_append, List.append_assoc, List.cons_append, Nat.add_assoc]
      refine hK _ _ ?_; clear hK K
      exact ⟨by simp only [htd']; simp [boxB, k1, k2, k3, hi0n, k4, put_at], by (first | (simp [put_at, put_none, fr0_at, q1]; done) | rfl), by (first | (simp [put_at, put_none, fr0_at, q4]; done) | rfl), by (first | (simp [put_at, put_none, fr0_at, q6]; done) | rfl), rfl⟩
    · have k4b : z.to ≤ y.to := by omega
      simp (disch := first | omega | (simp only [lnS]; try omega; done)) [-getElem?_pos, -getElem?_neg, q1, q6, hb, hul, c70, hbg, hwl, d0, d35, -notTuple, b1, b2, nt_intG, nt_ptrG, nt_strG, -xlen, hxt, -xload, hxA, hxT, hxB, hx70, k2, k2b, k3b, hi0, hsub, -xindexAddr, hxa', hxY, k4b, PL_nil, plainB_lit, PL_cons, PLc_val, PLc_new, stepP_t, stepP_f, stepPC_n, stepPC_s, stepPX_s, stepPX_n, stepPV_n, stepPV_s, stepPA_t, stepPA_c, stepPA_l, stepPN_s, allocOp, reloc_sl, reloc_ptr, List.map_cons, List.map_nil, List.nil_append, List.append_assoc, List.cons_append, Nat.add_assoc]
      refine hK _ _ ?_; clear hK K
      exact ⟨by simp only [htd']; simp [boxB, k1, k2, k3, hi0n, k4, put_at], by (first | (simp [put_at, put_none, fr0_at, q1]; done) | rfl), by (first | (simp [put_at, put_none, fr0_at, q4]; done) | rfl), by (first | (simp [put_at, put_none, fr0_at, q6]; done) | rfl), rfl⟩
  clear q1 q4 q6 q6'
  rintro α G6 ⟨q152, q1, q4, q6, rfl⟩
  cases hgood : (boxB o.author z && (decide (i = 0) || decide ((o.boxes.map BoxD.to).getD (i - 1) 0 < z.to))) with
  | false =>
    rw [hgood] at q152
    refine aw_t (by (first | (simp [eval_tmp, put_at, q152]; done) | (simp [eval_tmp, put_at, q152]; omega))) (by kernel_rfl) ?_
    refine aw_seq ?_
    (refine aw_ops (by kernel_rfl) (fun K hK => ?_); simp (disch := first | omega | (simp only [lnS]; try omega; done)) [-getElem?_pos, -getElem?_neg]; refine hK _ _ ?_; clear hK K)
    (refine aw_ret ?_; simp (disch := first | omega | (simp only [lnS]; try omega; done)) [-getElem?_pos, -getElem?_neg, thenQ_ret, scopeQ_ret, inBlockQ_ret, RQ, resL, resV])
    have hBf : boxesB o = false := by
      rw [Bool.and_eq_false_iff] at hgood
      rcases hgood with hh | hh
      · exact hbadB hh
      · rw [Bool.or_eq_false_iff, decide_eq_false_iff_not, decide_eq_false_iff_not] at hh
        unfold boxesB
        have : risesX o.boxes = false := by
          unfold risesX
          refine range_false (i := i - 1) (by omega) ?_
          rw [decide_eq_false_iff_not, show i - 1 + 1 = i by omega, htd, cmpI_lt]
          exact hh.2
        rw [this, Bool.and_false]
    rw [hrf, hBf]; rfl
  | true =>
    rw [hgood] at q152
    refine aw_f (by (first | (simp [eval_tmp, put_at, q152]; done) | (simp [eval_tmp, put_at, q152]; omega))) (by kernel_rfl) ?_
    refine aw_skip ?_
    rw [Bool.and_eq_true, Bool.or_eq_true, decide_eq_true_eq, decide_eq_true_eq] at hgood
    (refine aw_ops (by kernel_rfl) (fun K hK => ?_); simp (disch := first | omega | (simp only [lnS]; try omega; done)) [-getElem?_pos, -getElem?_neg, q6]; refine hK _ _ ?_; clear hK K)
    refine ⟨c - 1, by omega, i + 1, by omega, by (first | (simp [put_at, put_none, fr0_at, q1]; done) | rfl), by (first | (simp [put_at, put_none, fr0_at, q4]; done) | rfl), by (first | (simp [put_at, put_none, fr0_at]; done) | rfl), low45, fun k z' hk hz' => ?_, fun k hk => ?_⟩
    · by_cases e : k = i
      · subst e
        rw [hz] at hz'
        cases hz'
        exact hgood.1
      · exact hbox k z' (by omega) hz'
    · by_cases e : k + 1 = i
      · rw [e, htd, show k = i - 1 by omega]
        rcases hgood.2 with hh | hh
        · omega
        · exact hh
      · exact hrise2 k (by omega)
end
section
theorem take_nd {l : List NodeD} {i : Nat} : ∀ a, a < i → nd (l.take i) a = nd l a := fun a ha => nd_take ha
theorem take_len {l : List NodeD} {i : Nat} (hi : i < l.length) : (l.take i).length = i := by rw [List.length_take]; omega
theorem step_false {l : List NodeD} {i : Nat} (h : ¬ ((nd l i).op.parents.all (fun p => (findN l i p).isSome) = true ∧ rightO (nd l i).op = true ∧ findN l i (nd l i).id = none ∧ (nd l i).past = pastL l i (nd l i).op.parents ∧ turnB l i (nd l i).op (nd l i).past = true)) : stepB l i = false := by
  cases hs : stepB l i with
  | false => rfl
  | true => exact absurd (step_iff.1 hs) h
attribute [local simp] wb_bool wb_undef with_lit XL_nil XL_cons XLc_val XLc_call step1_eq stepW_t stepW_f stepC_n stepC_s stepX_s stepX_n stepN_s calleeX oneV xop_eq xopR_s xopR_n wantedA_eq wantedG_n wantedG_s plain1_int plain1_bool plain1_string bits_i64 bits_u64 bits_u32 bits_u16 bits_u8 xeqA xagg xcmp xarr allK_iv num_iv calleeOf xread xeff xbin xint xnil xun xstr xload xconv xpart xfield xfieldAddr xindexAddr xindex bnd asInt? xslice xlen xmin xmax xbuild xfill xappend xapp2 xappstr xappmk xcap xcopy xcells eval_tmp eval_const put_at put_none fr0_at cells_agg cells_int cells_bool cells_string cells_ptr cells_slice notTuple tab iv_all hget_app hget_app0 hget_cons0 hget_cons set_app set_app0 setR setR_one QL_nil QL_cons QLc_val stepQ_t stepQ_f stepQC_n stepQC_s stepQX_s SL_nil SL_cons SLc_val stepS_t stepS_f ltT ltF leT leF eqT eqF ltTn ltFn leTn leFn eqTn eqFn beqT beqF bneT bneF wi64 wu64 wu32 wu16 wu8 tmodP tdivP hgetL hgetNe hgetEq setL nums_def nums_len Nat.succ_le_of_lt List.getElem?_cons_zero List.getElem?_cons_succ Option.getD_some Int.toNat_add Int.toNat_mul agM okM agB agI agS agP agL agA okB okI okS okP okSl okA
theorem rRightG_rc {γ : Nat → Option Nat} {H : AH} {nv : Value} {l : List NodeD} (hV : NdV H nv l) (hw : ∀ x ∈ l, x.Wf) (hm : l.length ≤ maxLen) : AC Try.prog H.length γ 20 #[nv] H (fun v' _ => v' = .bool (rightG l)) := by
  have hN := hV.nda hw
  have hnt := hN.nt
  have hvc := hN.cs
  have hxl := hN.len
  have hm63 : l.length ≤ 9223372036854775807 := by simp only [maxLen] at hm; omega
  obtain ⟨n, hn⟩ : ∃ n, n = H.length := ⟨_, rfl⟩
  rw [← hn]
  refine ac_of_aw Try.func20 rfl Try.ntmps20 Try.results20 (by simp) ?_
  refine aw_seq ?_
  (refine aw_ops (by kernel_rfl) (fun K hK => ?_); simp (disch := first | omega | (simp only [lnS]; try omega; done)) [-getElem?_pos, -getElem?_neg]; refine hK _ _ ?_; clear hK K)
  refine aw_seq ?_
  refine aw_seq ?_
  by_cases hl : 96 < l.length
  · (refine aw_ops (by kernel_rfl) (fun K hK => ?_); simp (disch := first | omega | (simp only [lnS]; try omega; done)) [-getElem?_pos, -getElem?_neg, -notTuple, hnt, hvc, nt_intG, -xlen, hxl, hl]; refine hK _ _ ?_; clear hK K)
    refine aw_t (by (first | (simp [eval_tmp, put_at, hl]; done) | (simp [eval_tmp, put_at, hl]; omega))) (by kernel_rfl) ?_
    refine aw_seq ?_
    (refine aw_ops (by kernel_rfl) (fun K hK => ?_); simp (disch := first | omega | (simp only [lnS]; try omega; done)) [-getElem?_pos, -getElem?_neg]; refine hK _ _ ?_; clear hK K)
    (refine aw_ret ?_; simp (disch := first | omega | (simp only [lnS]; try omega; done)) [-getElem?_pos, -getElem?_neg, thenQ_ret, scopeQ_ret, inBlockQ_ret, RQ, resL, resV])
    have : ¬ l.length ≤ 96 := by omega
    simp [rightG, this]
  (refine aw_ops (by kernel_rfl) (fun K hK => ?_); simp (disch := first | omega | (simp only [lnS]; try omega; done)) [-getElem?_pos, -getElem?_neg, -notTuple, hnt, hvc, nt_intG, -xlen, hxl, hl]; refine hK _ _ ?_; clear hK K)
  refine aw_f (by (first | (simp [eval_tmp, put_at, hl]; done) | (simp [eval_tmp, put_at, hl]; omega))) (by kernel_rfl) ?_
  refine aw_skip ?_
  refine aw_seq ?_
  refine aw_seq ?_
  (refine aw_ops (by kernel_rfl) (fun K hK => ?_); simp (disch := first | omega | (simp only [lnS]; try omega; done)) [-getElem?_pos, -getElem?_neg]; refine hK _ _ ?_; clear hK K)
  refine aw_block ?_
  refine aw_loop (fun c α G => ∃ i : Nat, i + c = l.length ∧ α 0 = nv ∧ α 3 = .int .i64 (i : Nat) ∧ Low n H G ∧ ∀ k, k < i → stepB l k = true) l.length ?_ ?_
  · exact ⟨0, by omega, by (first | (simp [put_at, put_none, fr0_at]; done) | rfl), by (first | (simp [put_at, put_none, fr0_at]; done) | rfl), by rw [hn]; exact Low.refl (Nat.le_refl _), fun k hk => by omega⟩
  rintro c α G ⟨i, hic, q0, q3, hlow, hpre⟩
  refine aw_seq ?_
  refine aw_seq ?_
  by_cases hi : i < l.length
  case neg =>
    (refine aw_ops (by kernel_rfl) (fun K hK => ?_); simp (disch := first | omega | (simp only [lnS]; try omega; done)) [-getElem?_pos, -getElem?_neg, q0, q3, -notTuple, hnt, hvc, nt_intG, -xlen, hxl, hi]; refine hK _ _ ?_; clear hK K)
    refine aw_f (by (first | (simp [eval_tmp, put_at, hi]; done) | (simp [eval_tmp, put_at, hi]; omega))) (by kernel_rfl) ?_
    refine aw_exit ?_
    refine aw_seq ?_
    (refine aw_ops (by kernel_rfl) (fun K hK => ?_); simp (disch := first | omega | (simp only [lnS]; try omega; done)) [-getElem?_pos, -getElem?_neg]; refine hK _ _ ?_; clear hK K)
    (refine aw_ret ?_; simp (disch := first | omega | (simp only [lnS]; try omega; done)) [-getElem?_pos, -getElem?_neg, thenQ_ret, scopeQ_ret, inBlockQ_ret, RQ, resL, resV])
    unfold rightG
    rw [range_true (fun k hk => hpre k (by omega)), Bool.and_true]
    simp; omega
  obtain ⟨tv, hT, hsl⟩ := hV.take hw hi
  have htl := take_len hi
  have hTG := hT.lowG (hn ▸ hlow)
  have t1 := hTG.nt
  have t2 := hTG.cs
  obtain ⟨j, q, bb, us, pv, wv', bv, qv, hx, hbb, hq, hcell, hus, hC⟩ := (hN.lowG (hn ▸ hlow)).at_ i _ (nd_get hi)
  have hxw := hw _ (List.mem_of_getElem? (nd_get hi))
  have hP := hC.op.parents
  have p12 := val_nt hP
  have cp : bb.cells[q + 34]? = some pv := by
    have := hC.op.c2
    rw [List.getElem?_take_of_lt (by omega), List.getElem?_drop] at this
    exact (hcell 34 (by omega)).trans this
  have cq : bb.cells[q + 103]? = some qv := (hcell 103 (by omega)).trans hC.c103
  have co : (bb.cells.drop (q + 32)).take 71 = (us.drop 32).take 71 := by rw [op_cut, ← hus]
  have ci : (bb.cells.drop q).take 32 = iv .u8 (nd l i).id := by
    have := hC.id
    rw [hus, List.take_take] at this
    simpa using this
  have hpk : ∀ k ∈ (nd l i).op.parents, k.length = 32 := fun k hk => (hxw.op.parents k hk).1
  have hrp := (rPast_rc (γ := γ) hTG (by omega) hP hpk hxw.op.plen).thaw (nro := n) (fun v G' h => ⟨h.1.2, h.1.1⟩)
  unfold RPastQ at hrp
  rw [htl, pastL_congr take_nd] at hrp
  have hfc : (fun p => (findN (l.take i) i p).isSome) = fun p => (findN l i p).isSome := by
    funext p
    rw [find_congr take_nd]
  rw [hfc] at hrp
  have hbad : stepB l i = false → rightG l = false := rightG_bad hi
  (refine aw_ops (by kernel_rfl) (fun K hK => ?_); simp (disch := first | omega | (simp only [lnS]; try omega; done)) [-getElem?_pos, -getElem?_neg, q0, q3, -notTuple, hnt, hvc, nt_intG, -xlen, hxl, hi]; refine hK _ _ ?_; clear hK K)
  refine aw_t (by (first | (simp [eval_tmp, put_at, hi]; done) | (simp [eval_tmp, put_at, hi]; omega))) (by kernel_rfl) ?_
  refine aw_skip ?_
  refine aw_seq ?_
  refine aw_block ?_
  refine aw_seq ?_
  refine aw_cut (fun α2 G2 => α2 0 = nv ∧ α2 3 = .int .i64 (i : Nat) ∧ Low n H G2 ∧ Low G.length G G2 ∧ ∃ sv ok, α2 4 = sv ∧ α2 5 = .bool ok ∧ notTuple sv = true ∧ sv.cells = #[sv] ∧ ok = (nd l i).op.parents.all (fun p => (findN l i p).isSome) ∧ (ok = true → ∃ F, OwnF G2 sv 3 1 (iv .i64 (pastL l i (nd l i).op.parents)) F)) ?_ ?_
  (refine aw_ptree [0, 1, 3, 4, 5, 6, 7] 8 [[2, 8, 9, 10, 11, 12, 13, 14], [2, 8, 9, 10, 11, 13, 12, 14], [2, 8, 9, 10, 12, 11, 13, 14], [8, 2, 9, 10, 11, 12, 13, 14], [8, 2, 9, 10, 11, 13, 12, 14], [8, 2, 9, 10, 12, 11, 13, 14]] (by kernel_rfl) (by kernel_rfl) (by kernel_rfl) (fun K hK => ?_)); simp only [sel, List.getElem?_cons_succ, List.getElem?_cons_zero]; simp (disch := first | omega | (simp only [lnS]; try omega; done)) [-getElem?_pos, -getElem?_neg, q0, q3, hsl, -xslice, -xindexAddr, hx, hbb, cp, -notTuple, hnt, hvc, t1, t2, p12.1, p12.2, nt_intG, nt_ptrG, XO_s, XO_z, XLk_val, XLk_call, headsO, behind, List.length_cons, List.length_nil, List.mem_cons, List.not_mem_nil, or_false, forall_eq_or_imp, forall_eq, List.contains_cons, List.contains_nil]
  · have hG1 : ∀ G1 : AH, Low G.length G G1 → Low n H G1 := fun G1 h => ⟨fun j hj => (h.1 j (by have := hlow.2; omega)).trans (hlow.1 j hj), by have := h.2; have := hlow.2; omega⟩
    refine ⟨⟨by kernel_rfl, AC.mono hrp ?_⟩, by kernel_rfl, AC.mono hrp ?_⟩
    all_goals rintro v G1 ⟨low1, ⟨hall, sv, F, rfl, ho, hF⟩ | ⟨hall, rfl⟩⟩
    · obtain ⟨s1, s2⟩ := own_nt ho
      simp (disch := first | omega | (simp only [lnS]; try omega; done)) [-getElem?_pos, -getElem?_neg, -notTuple, s1, s2, nt_boolG, XO_s, XO_z, XLk_val, XLk_call, headsO, behind, List.length_cons, List.length_nil, List.mem_cons, List.not_mem_nil, or_false, forall_eq_or_imp, forall_eq, List.contains_cons, List.contains_nil]
      refine ⟨⟨hK _ _ ?_, hK _ _ ?_⟩, hK _ _ ?_⟩
      · exact ⟨by (first | (simp [put_at, put_none, fr0_at, q0]; done) | rfl), by (first | (simp [put_at, put_none, fr0_at, q3]; done) | rfl), hG1 _ low1, low1, sv, true, by (first | (simp [put_at, put_none, fr0_at]; done) | rfl), by (first | (simp [put_at, put_none, fr0_at]; done) | rfl), s1, s2, hall.symm, fun _ => ⟨F, ho⟩⟩
      · exact ⟨by (first | (simp [put_at, put_none, fr0_at, q0]; done) | rfl), by (first | (simp [put_at, put_none, fr0_at, q3]; done) | rfl), hG1 _ low1, low1, sv, true, by (first | (simp [put_at, put_none, fr0_at]; done) | rfl), by (first | (simp [put_at, put_none, fr0_at]; done) | rfl), s1, s2, hall.symm, fun _ => ⟨F, ho⟩⟩
      · exact ⟨by (first | (simp [put_at, put_none, fr0_at, q0]; done) | rfl), by (first | (simp [put_at, put_none, fr0_at, q3]; done) | rfl), hG1 _ low1, low1, sv, true, by (first | (simp [put_at, put_none, fr0_at]; done) | rfl), by (first | (simp [put_at, put_none, fr0_at]; done) | rfl), s1, s2, hall.symm, fun _ => ⟨F, ho⟩⟩
    · simp (disch := first | omega | (simp only [lnS]; try omega; done)) [-getElem?_pos, -getElem?_neg, XO_s, XO_z, XLk_val, XLk_call, headsO, behind, List.length_cons, List.length_nil, List.mem_cons, List.not_mem_nil, or_false, forall_eq_or_imp, forall_eq, List.contains_cons, List.contains_nil]
      refine ⟨⟨hK _ _ ?_, hK _ _ ?_⟩, hK _ _ ?_⟩
      · exact ⟨by (first | (simp [put_at, put_none, fr0_at, q0]; done) | rfl), by (first | (simp [put_at, put_none, fr0_at, q3]; done) | rfl), hG1 _ low1, low1, .slice none 0 0, false, by (first | (simp [put_at, put_none, fr0_at]; done) | rfl), by (first | (simp [put_at, put_none, fr0_at]; done) | rfl), rfl, rfl, hall.symm, fun h => (by cases h)⟩
      · exact ⟨by (first | (simp [put_at, put_none, fr0_at, q0]; done) | rfl), by (first | (simp [put_at, put_none, fr0_at, q3]; done) | rfl), hG1 _ low1, low1, .slice none 0 0, false, by (first | (simp [put_at, put_none, fr0_at]; done) | rfl), by (first | (simp [put_at, put_none, fr0_at]; done) | rfl), rfl, rfl, hall.symm, fun h => (by cases h)⟩
      · exact ⟨by (first | (simp [put_at, put_none, fr0_at, q0]; done) | rfl), by (first | (simp [put_at, put_none, fr0_at, q3]; done) | rfl), hG1 _ low1, low1, .slice none 0 0, false, by (first | (simp [put_at, put_none, fr0_at]; done) | rfl), by (first | (simp [put_at, put_none, fr0_at]; done) | rfl), rfl, rfl, hall.symm, fun h => (by cases h)⟩
    · obtain ⟨s1, s2⟩ := own_nt ho
      simp (disch := first | omega | (simp only [lnS]; try omega; done)) [-getElem?_pos, -getElem?_neg, -notTuple, s1, s2, nt_boolG, XO_s, XO_z, XLk_val, XLk_call, headsO, behind, List.length_cons, List.length_nil, List.mem_cons, List.not_mem_nil, or_false, forall_eq_or_imp, forall_eq, List.contains_cons, List.contains_nil]
      refine ⟨⟨hK _ _ ?_, hK _ _ ?_⟩, hK _ _ ?_⟩
      · exact ⟨by (first | (simp [put_at, put_none, fr0_at, q0]; done) | rfl), by (first | (simp [put_at, put_none, fr0_at, q3]; done) | rfl), hG1 _ low1, low1, sv, true, by (first | (simp [put_at, put_none, fr0_at]; done) | rfl), by (first | (simp [put_at, put_none, fr0_at]; done) | rfl), s1, s2, hall.symm, fun _ => ⟨F, ho⟩⟩
      · exact ⟨by (first | (simp [put_at, put_none, fr0_at, q0]; done) | rfl), by (first | (simp [put_at, put_none, fr0_at, q3]; done) | rfl), hG1 _ low1, low1, sv, true, by (first | (simp [put_at, put_none, fr0_at]; done) | rfl), by (first | (simp [put_at, put_none, fr0_at]; done) | rfl), s1, s2, hall.symm, fun _ => ⟨F, ho⟩⟩
      · exact ⟨by (first | (simp [put_at, put_none, fr0_at, q0]; done) | rfl), by (first | (simp [put_at, put_none, fr0_at, q3]; done) | rfl), hG1 _ low1, low1, sv, true, by (first | (simp [put_at, put_none, fr0_at]; done) | rfl), by (first | (simp [put_at, put_none, fr0_at]; done) | rfl), s1, s2, hall.symm, fun _ => ⟨F, ho⟩⟩
    · simp (disch := first | omega | (simp only [lnS]; try omega; done)) [-getElem?_pos, -getElem?_neg, XO_s, XO_z, XLk_val, XLk_call, headsO, behind, List.length_cons, List.length_nil, List.mem_cons, List.not_mem_nil, or_false, forall_eq_or_imp, forall_eq, List.contains_cons, List.contains_nil]
      refine ⟨⟨hK _ _ ?_, hK _ _ ?_⟩, hK _ _ ?_⟩
      · exact ⟨by (first | (simp [put_at, put_none, fr0_at, q0]; done) | rfl), by (first | (simp [put_at, put_none, fr0_at, q3]; done) | rfl), hG1 _ low1, low1, .slice none 0 0, false, by (first | (simp [put_at, put_none, fr0_at]; done) | rfl), by (first | (simp [put_at, put_none, fr0_at]; done) | rfl), rfl, rfl, hall.symm, fun h => (by cases h)⟩
      · exact ⟨by (first | (simp [put_at, put_none, fr0_at, q0]; done) | rfl), by (first | (simp [put_at, put_none, fr0_at, q3]; done) | rfl), hG1 _ low1, low1, .slice none 0 0, false, by (first | (simp [put_at, put_none, fr0_at]; done) | rfl), by (first | (simp [put_at, put_none, fr0_at]; done) | rfl), rfl, rfl, hall.symm, fun h => (by cases h)⟩
      · exact ⟨by (first | (simp [put_at, put_none, fr0_at, q0]; done) | rfl), by (first | (simp [put_at, put_none, fr0_at, q3]; done) | rfl), hG1 _ low1, low1, .slice none 0 0, false, by (first | (simp [put_at, put_none, fr0_at]; done) | rfl), by (first | (simp [put_at, put_none, fr0_at]; done) | rfl), rfl, rfl, hall.symm, fun h => (by cases h)⟩
  clear q0 q3
  rintro α G2 ⟨q0, q3, hlow2, lowG2, sv, ok, q4, q5, s1, s2, hok, hown⟩
  have hTG2 := hTG.lowG lowG2
  have hNG2 := hN.lowG (hn ▸ hlow2)
  have hbb2 := (lowG2.1 j (hget_lt hbb)).trans hbb
  have hC2 : NodeC G2 us (nd l i) pv wv' bv qv := hC.low lowG2.1
  refine aw_seq ?_
  refine aw_cut (fun α G3 => α 73 = .bool (!stepB l i) ∧ α 0 = nv ∧ α 3 = .int .i64 (i : Nat) ∧ G3 = G2) ?_ ?_
  · have hrr := rRight_rc (γ := γ) hC2.op hxw.op
    cases ok with
    | false =>
      have hsf : stepB l i = false := step_false (fun h => by rw [← hok] at h; cases h.1)
      (refine aw_plan [] [] [0, 1, 2, 3, 4, 5, 6, 7, 8, 9, 10, 11, 12, 13, 14, 15, 16, 17, 18, 19, 20, 21, 22, 23, 24, 25, 26, 27, 28, 29, 30, 31, 32, 33, 34, 35, 36, 37, 38, 39, 40, 41, 42, 43, 44, 45] 46 0 (by kernel_rfl) (by kernel_rfl) (by kernel_rfl) (fun K hK => ?_)); simp only [sel, List.getElem?_cons_succ, List.getElem?_cons_zero, List.drop_succ_cons, List.drop_zero]; simp (disch := first | omega | (simp only [lnS]; try omega; done)) [-getElem?_pos, -getElem?_neg, q0, q3, q5, PL_nil, plainB_lit, PL_cons, PLc_val, PLc_new, stepP_t, stepP_f, stepPC_n, stepPC_s, stepPX_s, stepPX_n, stepPV_n, stepPV_s, stepPA_t, stepPA_c, stepPA_l, stepPN_s, allocOp, reloc_sl, reloc_ptr, List.map_cons, List.map_nil, List.nil_append, List.append_assoc, List.cons_append, Nat.add_assoc]
      refine hK _ _ ?_; clear hK K
      exact ⟨by rw [hsf]; (first | (simp [put_at, put_none, fr0_at]; done) | rfl), by (first | (simp [put_at, put_none, fr0_at, q0]; done) | rfl), by (first | (simp [put_at, put_none, fr0_at, q3]; done) | rfl), rfl⟩
    | true =>
    obtain ⟨F, ho⟩ := hown rfl
    have hnx : stepB l i = (rightO (nd l i).op && ((findN l i (nd l i).id).isNone && (decide ((nd l i).past = pastL l i (nd l i).op.parents) && turnB l i (nd l i).op (nd l i).past))) := by
      unfold stepB
      rw [← hok, Bool.true_and]
    (refine aw_plan [] [] [0, 1, 2, 3, 4, 5, 6, 7, 8, 9, 10, 11, 12, 13, 14, 15, 16, 17, 18, 19, 20, 21, 22, 23, 24, 25, 26, 27, 28, 29, 30, 31, 32, 33, 34, 35, 36, 37, 38, 39, 40, 41, 42, 43, 44, 45] 46 0 (by kernel_rfl) (by kernel_rfl) (by kernel_rfl) (fun K hK => ?_)); simp only [sel, List.getElem?_cons_succ, List.getElem?_cons_zero, List.drop_succ_cons, List.drop_zero]; simp (disch := first | omega | (simp only [lnS]; try omega; done)) [-getElem?_pos, -getElem?_neg, q0, q3, q4, q5, hsl, -xslice, -xindexAddr, hx, hbb2, co, ci, cq, -notTuple, hnt, hvc, t1, t2, s1, s2, nt_intG, nt_ptrG, nt_aggG, PL_nil, plainB_lit, PL_cons, PLc_val, PLc_new, stepP_t, stepP_f, stepPC_n, stepPC_s, stepPX_s, stepPX_n, stepPV_n, stepPV_s, stepPA_t, stepPA_c, stepPA_l, stepPN_s, allocOp, reloc_sl, reloc_ptr, List.map_cons, List.map_nil, List.nil_append, List.append_assoc, List.cons_append, Nat.add_assoc]
    refine PLc_call (v := .bool (refO (nd l i).op)) (by kernel_rfl) (fun L hL => rRight_rc (hC2.op.low (fun j hj => hget_left hj)) hxw.op) (by simp [pv_iv, pv_int, pv_bool, pv_string, pv_tup2, pv_tup3, iv_plain, p2_int, p2_bool, p2_string]) ?_
    have hri : (iv .u8 (nd l i).id).length = 32 := by rw [iv_length, hxw.id.1]
    have hqn := val_nt hC2.past
    rw [refO_eq]
    cases k1 : rightO (nd l i).op with
    | false =>
      simp (disch := first | omega | (simp only [lnS]; try omega; done)) [-getElem?_pos, -getElem?_neg, PL_nil, plainB_lit, PL_cons, PLc_val, PLc_new, stepP_t, stepP_f, stepPC_n, stepPC_s, stepPX_s, stepPX_n, stepPV_n, stepPV_s, stepPA_t, stepPA_c, stepPA_l, stepPN_s, allocOp, reloc_sl, reloc_ptr, List.map_cons, List.map_nil, List.nil_append, List.append_assoc, List.cons_append, Nat.add_assoc]
      refine hK _ _ ?_; clear hK K
      exact ⟨by rw [hnx]; simp [k1, put_at], by (first | (simp [put_at, put_none, fr0_at, q0]; done) | rfl), by (first | (simp [put_at, put_none, fr0_at, q3]; done) | rfl), rfl⟩
    | true =>
    simp (disch := first | omega | (simp only [lnS]; try omega; done)) [-getElem?_pos, -getElem?_neg, q0, q3, q4, q5, hsl, -xslice, -xindexAddr, hx, hbb2, co, ci, cq, -notTuple, hnt, hvc, t1, t2, s1, s2, nt_intG, nt_ptrG, nt_aggG, hri, PL_nil, plainB_lit, PL_cons, PLc_val, PLc_new, stepP_t, stepP_f, stepPC_n, stepPC_s, stepPX_s, stepPX_n, stepPV_n, stepPV_s, stepPA_t, stepPA_c, stepPA_l, stepPN_s, allocOp, reloc_sl, reloc_ptr, List.map_cons, List.map_nil, List.nil_append, List.append_assoc, List.cons_append, Nat.add_assoc]
    have hfi : ∀ L : AH, AC Try.prog (G2 ++ L).length γ 67 #[tv, .agg (iv .u8 (nd l i).id).toArray] (G2 ++ L) (fun v' _ => v' = .int .i64 (findI l i (nd l i).id)) := fun L => by
      have := rFind_rc (γ := γ) (hTG2.lowG (Low.push (Nat.le_refl _) L)) (by rw [htl]; simp only [maxLen]; omega) hxw.id.1
      rw [htl] at this
      unfold findI at this ⊢
      rwa [find_congr take_nd] at this
    refine PLc_call (v := .int .i64 (findI l i (nd l i).id)) (by kernel_rfl) (fun L hL => hfi L) (by simp [pv_iv, pv_int, pv_bool, pv_string, pv_tup2, pv_tup3, iv_plain, p2_int, p2_bool, p2_string]) ?_
    unfold findI
    cases k2 : findN l i (nd l i).id with
    | some a =>
      have ha := findN_lt k2
      simp (disch := first | omega | (simp only [lnS]; try omega; done)) [-getElem?_pos, -getElem?_neg, q0, q3, q4, q5, hsl, -xslice, -xindexAddr, hx, hbb2, co, ci, cq, -notTuple, hnt, hvc, t1, t2, s1, s2, nt_intG, nt_ptrG, nt_aggG, hri, PL_nil, plainB_lit, PL_cons, PLc_val, PLc_new, stepP_t, stepP_f, stepPC_n, stepPC_s, stepPX_s, stepPX_n, stepPV_n, stepPV_s, stepPA_t, stepPA_c, stepPA_l, stepPN_s, allocOp, reloc_sl, reloc_ptr, List.map_cons, List.map_nil, List.nil_append, List.append_assoc, List.cons_append, Nat.add_assoc]
      refine hK _ _ ?_; clear hK K
      exact ⟨by rw [hnx]; simp [k1, k2, put_at], by (first | (simp [put_at, put_none, fr0_at, q0]; done) | rfl), by (first | (simp [put_at, put_none, fr0_at, q3]; done) | rfl), rfl⟩
    | none =>
    simp (disch := first | omega | (simp only [lnS]; try omega; done)) [-getElem?_pos, -getElem?_neg, q0, q3, q4, q5, hsl, -xslice, -xindexAddr, hx, hbb2, co, ci, cq, -notTuple, hnt, hvc, t1, t2, s1, s2, nt_intG, nt_ptrG, nt_aggG, hri, hqn.1, hqn.2, PL_nil, plainB_lit, PL_cons, PLc_val, PLc_new, stepP_t, stepP_f, stepPC_n, stepPC_s, stepPX_s, stepPX_n, stepPV_n, stepPV_s, stepPA_t, stepPA_c, stepPA_l, stepPN_s, allocOp, reloc_sl, reloc_ptr, List.map_cons, List.map_nil, List.nil_append, List.append_assoc, List.cons_append, Nat.add_assoc]
    have hIP := own_inv ho
    have hpl := pastL_length l i (nd l i).op.parents
    refine PLc_call (v := .bool (decide (pastL l i (nd l i).op.parents = (nd l i).past))) (by kernel_rfl) (fun L hL => sameInts_rc (hIP.lowG (Low.push (Nat.le_refl _) L)) (hC2.past.lowG (Low.push (Nat.le_refl _) L)) (by simp only [maxLen]; omega)) (by simp [pv_iv, pv_int, pv_bool, pv_string, pv_tup2, pv_tup3, iv_plain, p2_int, p2_bool, p2_string]) ?_
    by_cases k3 : pastL l i (nd l i).op.parents = (nd l i).past
    case neg =>
      have k3' : ¬ (nd l i).past = pastL l i (nd l i).op.parents := fun e => k3 e.symm
      simp (disch := first | omega | (simp only [lnS]; try omega; done)) [-getElem?_pos, -getElem?_neg, q0, q3, q4, q5, hsl, -xslice, -xindexAddr, hx, hbb2, co, ci, cq, -notTuple, hnt, hvc, t1, t2, s1, s2, nt_intG, nt_ptrG, nt_aggG, hri, hqn.1, hqn.2, k3, PL_nil, plainB_lit, PL_cons, PLc_val, PLc_new, stepP_t, stepP_f, stepPC_n, stepPC_s, stepPX_s, stepPX_n, stepPV_n, stepPV_s, stepPA_t, stepPA_c, stepPA_l, stepPN_s, allocOp, reloc_sl, reloc_ptr, List.map_cons, List.map_nil, List.nil_append, List.append_assoc, List.cons_append, Nat.add_assoc]
      refine hK _ _ ?_; clear hK K
      exact ⟨by rw [hnx]; simp [k1, k2, k3', put_at], by (first | (simp [put_at, put_none, fr0_at, q0]; done) | rfl), by (first | (simp [put_at, put_none, fr0_at, q3]; done) | rfl), rfl⟩
    have k3' : (nd l i).past = pastL l i (nd l i).op.parents := k3.symm
    simp (disch := first | omega | (simp only [lnS]; try omega; done)) [-getElem?_pos, -getElem?_neg, q0, q3, q4, q5, hsl, -xslice, -xindexAddr, hx, hbb2, co, ci, cq, -notTuple, hnt, hvc, t1, t2, s1, s2, nt_intG, nt_ptrG, nt_aggG, hri, hqn.1, hqn.2, k3, PL_nil, plainB_lit, PL_cons, PLc_val, PLc_new, stepP_t, stepP_f, stepPC_n, stepPC_s, stepPX_s, stepPX_n, stepPV_n, stepPV_s, stepPA_t, stepPA_c, stepPA_l, stepPN_s, allocOp, reloc_sl, reloc_ptr, List.map_cons, List.map_nil, List.nil_append, List.append_assoc, List.cons_append, Nat.add_assoc]
    have htu : ∀ L : AH, AC Try.prog (G2 ++ L).length γ 68 #[tv, .agg ((us.drop 32).take 71).toArray, sv] (G2 ++ L) (fun v' _ => v' = .bool (turnB l i (nd l i).op (pastL l i (nd l i).op.parents))) := fun L => by
      have := turn_rc (γ := γ) (hTG2.lowG (Low.push (Nat.le_refl _) L)) (by omega) (hC2.op.low (fun j hj => hget_left hj)) hxw.op (hIP.lowG (Low.push (Nat.le_refl _) L)) (by simp only [maxLen]; omega)
      rw [htl] at this
      rwa [turnB_congr take_nd] at this
    refine PLc_call (v := .bool (turnB l i (nd l i).op (pastL l i (nd l i).op.parents))) (by kernel_rfl) (fun L hL => htu L) (by simp [pv_iv, pv_int, pv_bool, pv_string, pv_tup2, pv_tup3, iv_plain, p2_int, p2_bool, p2_string]) ?_
    rw [← k3']
    cases k4 : turnB l i (nd l i).op (nd l i).past with
    | false =>
      simp (disch := first | omega | (simp only [lnS]; try omega; done)) [-getElem?_pos, -getElem?_neg, PL_nil, plainB_lit, PL_cons, PLc_val, PLc_new, stepP_t, stepP_f, stepPC_n, stepPC_s, stepPX_s, stepPX_n, stepPV_n, stepPV_s, stepPA_t, stepPA_c, stepPA_l, stepPN_s, allocOp, reloc_sl, reloc_ptr, List.map_cons, List.map_nil, List.nil_append, List.append_assoc, List.cons_append, Nat.add_assoc]
      refine hK _ _ ?_; clear hK K
      exact ⟨by rw [hnx]; simp [k1, k2, ← k3', k4, put_at], by (first | (simp [put_at, put_none, fr0_at, q0]; done) | rfl), by (first | (simp [put_at, put_none, fr0_at, q3]; done) | rfl), rfl⟩
    | true =>
      simp (disch := first | omega | (simp only [lnS]; try omega; done)) [-getElem?_pos, -getElem?_neg, PL_nil, plainB_lit, PL_cons, PLc_val, PLc_new, stepP_t, stepP_f, stepPC_n, stepPC_s, stepPX_s, stepPX_n, stepPV_n, stepPV_s, stepPA_t, stepPA_c, stepPA_l, stepPN_s, allocOp, reloc_sl, reloc_ptr, List.map_cons, List.map_nil, List.nil_append, List.append_assoc, List.cons_append, Nat.add_assoc]
      refine hK _ _ ?_; clear hK K
      exact ⟨by rw [hnx]; simp [k1, k2, ← k3', k4, put_at], by (first | (simp [put_at, put_none, fr0_at, q0]; done) | rfl), by (first | (simp [put_at, put_none, fr0_at, q3]; done) | rfl), rfl⟩
  clear q0 q3 q4 q5
  rintro α G3 ⟨q73, q0, q3, rfl⟩
  cases hst : stepB l i with
  | false =>
    rw [hst] at q73
    refine aw_t (by (first | (simp [eval_tmp, put_at, q73]; done) | (simp [eval_tmp, put_at, q73]; omega))) (by kernel_rfl) ?_
    refine aw_seq ?_
    (refine aw_ops (by kernel_rfl) (fun K hK => ?_); simp (disch := first | omega | (simp only [lnS]; try omega; done)) [-getElem?_pos, -getElem?_neg]; refine hK _ _ ?_; clear hK K)
    (refine aw_ret ?_; simp (disch := first | omega | (simp only [lnS]; try omega; done)) [-getElem?_pos, -getElem?_neg, thenQ_ret, scopeQ_ret, inBlockQ_ret, RQ, resL, resV])
    rw [hbad hst]
  | true =>
    rw [hst] at q73
    refine aw_f (by (first | (simp [eval_tmp, put_at, q73]; done) | (simp [eval_tmp, put_at, q73]; omega))) (by kernel_rfl) ?_
    refine aw_skip ?_
    (refine aw_ops (by kernel_rfl) (fun K hK => ?_); simp (disch := first | omega | (simp only [lnS]; try omega; done)) [-getElem?_pos, -getElem?_neg, q3]; refine hK _ _ ?_; clear hK K)
    refine ⟨c - 1, by omega, i + 1, by omega, by (first | (simp [put_at, put_none, fr0_at, q0]; done) | rfl), by (first | (simp [put_at, put_none, fr0_at]; done) | rfl), hlow2, fun k hk => ?_⟩
    by_cases e : k = i
    · subst e; exact hst
    · exact hpre k (by omega)
end
section
/-- Keys as cells. -/
def kr (l : List (List Int)) : List Value := (l.map (iv .u8)).flatten
attribute [local simp] wb_bool wb_undef with_lit XL_nil XL_cons XLc_val XLc_call step1_eq stepW_t stepW_f stepC_n stepC_s stepX_s stepX_n stepN_s calleeX oneV xop_eq xopR_s xopR_n wantedA_eq wantedG_n wantedG_s plain1_int plain1_bool plain1_string bits_i64 bits_u64 bits_u32 bits_u16 bits_u8 xeqA xagg xcmp xarr allK_iv num_iv calleeOf xread xeff xbin xint xnil xun xstr xload xconv xpart xfield xfieldAddr xindexAddr xindex bnd asInt? xslice xlen xmin xmax xbuild xfill xappend xapp2 xappstr xappmk xcap xcopy xcells eval_tmp eval_const put_at put_none fr0_at cells_agg cells_int cells_bool cells_string cells_ptr cells_slice notTuple tab iv_all hget_app hget_app0 hget_cons0 hget_cons set_app set_app0 setR setR_one QL_nil QL_cons QLc_val stepQ_t stepQ_f stepQC_n stepQC_s stepQX_s SL_nil SL_cons SLc_val stepS_t stepS_f ltT ltF leT leF eqT eqF ltTn ltFn leTn leFn eqTn eqFn beqT beqF bneT bneF wi64 wu64 wu32 wu16 wu8 tmodP tdivP hgetL hgetNe hgetEq setL nums_def nums_len Nat.succ_le_of_lt List.getElem?_cons_zero List.getElem?_cons_succ Option.getD_some Int.toNat_add Int.toNat_mul agM okM agB agI agS agP agL agA okB okI okS okP okSl okA
/-- Others than one block are as they were. -/
def Oth (b : Nat) (H G : AH) : Prop := H.length ≤ G.length ∧ ∀ j, j < H.length → j ≠ b → hget G j = hget H j
end
section
theorem Oth.low {n b : Nat} {H G K : AH} (hn : n ≤ b) (hl : Low n H G) (h : Oth b G K) : Low n H K := ⟨fun j hj => (h.2 j (by have := hl.2; omega) (by omega)).trans (hl.1 j hj), by have := hl.2; have := h.1; omega⟩
attribute [local simp] wb_bool wb_undef with_lit XL_nil XL_cons XLc_val XLc_call step1_eq stepW_t stepW_f stepC_n stepC_s stepX_s stepX_n stepN_s calleeX oneV xop_eq xopR_s xopR_n wantedA_eq wantedG_n wantedG_s plain1_int plain1_bool plain1_string bits_i64 bits_u64 bits_u32 bits_u16 bits_u8 xeqA xagg xcmp xarr allK_iv num_iv calleeOf xread xeff xbin xint xnil xun xstr xload xconv xpart xfield xfieldAddr xindexAddr xindex bnd asInt? xslice xlen xmin xmax xbuild xfill xappend xapp2 xappstr xappmk xcap xcopy xcells eval_tmp eval_const put_at put_none fr0_at cells_agg cells_int cells_bool cells_string cells_ptr cells_slice notTuple tab iv_all hget_app hget_app0 hget_cons0 hget_cons set_app set_app0 setR setR_one QL_nil QL_cons QLc_val stepQ_t stepQ_f stepQC_n stepQC_s stepQX_s SL_nil SL_cons SLc_val stepS_t stepS_f ltT ltF leT leF eqT eqF ltTn ltFn leTn leFn eqTn eqFn beqT beqF bneT bneF wi64 wu64 wu32 wu16 wu8 tmodP tdivP hgetL hgetNe hgetEq setL nums_def nums_len Nat.succ_le_of_lt List.getElem?_cons_zero List.getElem?_cons_succ Option.getD_some Int.toNat_add Int.toNat_mul agM okM agB agI agS agP agL agA okB okI okS okP okSl okA
end
section
/-- How many of a past are an author's. -/
def aheadL (l : List NodeD) (P : List Int) (x : Int) : Nat := (P.filter fun z => (nd l z.toNat).op.author == x).length
/-- May it be put behind? -/
def seqOk (l : List NodeD) (o : OpD) : Bool := !(decide (o.kind = 1) && decide (0 < l.length)) && (decide (o.seq = 1 + (aheadL l (pastL l l.length o.parents) o.author : Nat)) && decide (aheadL l (pastL l l.length o.parents) o.author = autN l l.length o.author))
def addE (l : List NodeD) (id : List Int) (o : OpD) : Int :=
  if rightG l = false then 1 else if rightO o = false then 1 else if (findN l l.length id).isSome = true then 13 else if l.length = 96 then 8 else if o.parents.all (fun p => (findN l l.length p).isSome) = false then 14 else if seqOk l o = false then 15 else 0
def addD (l : List NodeD) (id : List Int) (o : OpD) : NodeD := ⟨id, o, pastL l l.length o.parents⟩
/-- New memory that shows nodes. -/
def NewG (n : Nat) (H : AH) (v : Value) (l : List NodeD) : Prop := ∀ G, KeepN n H G → NdV G v l
def AddQ (l : List NodeD) (id : List Int) (o : OpD) (H : AH) (v' : Value) (H' : AH) : Prop :=
  Low H.length H H' ∧ ∃ sv, v' = .tuple #[sv, .int .i64 (addE l id o)] ∧ ((addE l id o = 0 ∧ NewG H.length H' sv (l ++ [addD l id o])) ∨ (addE l id o ≠ 0 ∧ sv = .slice none 0 0))
theorem AddQ.bad {l : List NodeD} {id : List Int} {o : OpD} {H H' : AH} {z : Int} (hl : Low H.length H H') (h : addE l id o = z) (hz : z ≠ 0) : AddQ l id o H (.tuple #[.slice none 0 0, .int .i64 z]) H' :=
  ⟨hl, _, by rw [h], .inr ⟨by rw [h]; exact hz, rfl⟩⟩
attribute [local simp] wb_bool wb_undef with_lit XL_nil XL_cons XLc_val XLc_call step1_eq stepW_t stepW_f stepC_n stepC_s stepX_s stepX_n stepN_s calleeX oneV xop_eq xopR_s xopR_n wantedA_eq wantedG_n wantedG_s plain1_int plain1_bool plain1_string bits_i64 bits_u64 bits_u32 bits_u16 bits_u8 xeqA xagg xcmp xarr allK_iv num_iv calleeOf xread xeff xbin xint xnil xun xstr xload xconv xpart xfield xfieldAddr xindexAddr xindex bnd asInt? xslice xlen xmin xmax xbuild xfill xappend xapp2 xappstr xappmk xcap xcopy xcells eval_tmp eval_const put_at put_none fr0_at cells_agg cells_int cells_bool cells_string cells_ptr cells_slice notTuple tab iv_all hget_app hget_app0 hget_cons0 hget_cons set_app set_app0 setR setR_one QL_nil QL_cons QLc_val stepQ_t stepQ_f stepQC_n stepQC_s stepQX_s SL_nil SL_cons SLc_val stepS_t stepS_f ltT ltF leT leF eqT eqF ltTn ltFn leTn leFn eqTn eqFn beqT beqF bneT bneF wi64 wu64 wu32 wu16 wu8 tmodP tdivP hgetL hgetNe hgetEq setL nums_def nums_len Nat.succ_le_of_lt List.getElem?_cons_zero List.getElem?_cons_succ Option.getD_some Int.toNat_add Int.toNat_mul agM okM agB agI agS agP agL agA okB okI okS okP okSl okA
end
section
attribute [local simp] wb_bool wb_undef with_lit XL_nil XL_cons XLc_val XLc_call step1_eq stepW_t stepW_f stepC_n stepC_s stepX_s stepX_n stepN_s calleeX oneV xop_eq xopR_s xopR_n wantedA_eq wantedG_n wantedG_s plain1_int plain1_bool plain1_string bits_i64 bits_u64 bits_u32 bits_u16 bits_u8 xeqA xagg xcmp xarr allK_iv num_iv calleeOf xread xeff xbin xint xnil xun xstr xload xconv xpart xfield xfieldAddr xindexAddr xindex bnd asInt? xslice xlen xmin xmax xbuild xfill xappend xapp2 xappstr xappmk xcap xcopy xcells eval_tmp eval_const put_at put_none fr0_at cells_agg cells_int cells_bool cells_string cells_ptr cells_slice notTuple tab iv_all hget_app hget_app0 hget_cons0 hget_cons set_app set_app0 setR setR_one QL_nil QL_cons QLc_val stepQ_t stepQ_f stepQC_n stepQC_s stepQX_s SL_nil SL_cons SLc_val stepS_t stepS_f ltT ltF leT leF eqT eqF ltTn ltFn leTn leFn eqTn eqFn beqT beqF bneT bneF wi64 wu64 wu32 wu16 wu8 tmodP tdivP hgetL hgetNe hgetEq setL nums_def nums_len Nat.succ_le_of_lt List.getElem?_cons_zero List.getElem?_cons_succ Option.getD_some Int.toNat_add Int.toNat_mul agM okM agB agI agS agP agL agA okB okI okS okP okSl okA
/-- Nodes of new memory, by their addresses. -/
theorem NewG.nda {n : Nat} {H G : AH} {v : Value} {l : List NodeD} (h : NewG n H v l) (hw : ∀ x ∈ l, x.Wf) (hk : KeepN n H G) : NdA G v l := (h G hk).nda hw
theorem AddQ.zero {l : List NodeD} {id : List Int} {o : OpD} {H : AH} {v' : Value} {H' : AH} {L : List NodeD} (h : AddQ l id o H v' H') (hz : addE l id o = 0 ∧ l ++ [addD l id o] = L) : Low H.length H H' ∧ ∃ sv, v' = .tuple #[sv, .int .i64 0] ∧ NewG H.length H' sv L := by
  obtain ⟨h1, sv, h2, h3⟩ := h
  rw [hz.1] at h2
  refine ⟨h1, sv, h2, ?_⟩
  rcases h3 with ⟨_, h3⟩ | ⟨h3, _⟩
  · rw [← hz.2]; exact h3
  · exact absurd hz.1 h3
end
section
/-- What comes in: a graph; an operation. -/
theorem nodes_in {H : AH} {ds : List CD} {u : Value} (ho : OkL [.sl nodeK] ds) (hv : ValL H ds [u]) : ∃ l, NdV H u l ∧ (∀ x ∈ l, x.Wf) ∧ l.length ≤ maxLen := by
  obtain ⟨d, r, rfl, h1, h2⟩ := ho.cons
  obtain rfl := h2.nil
  obtain ⟨l, rfl, h3, h4⟩ := nodes_of h1
  obtain ⟨u', r', e, h5, h6⟩ := hv.cons
  cases e
  exact ⟨l, h5, h3, h4⟩
section
variable {l : List NodeD}
end
attribute [local simp] wb_bool wb_undef with_lit XL_nil XL_cons XLc_val XLc_call step1_eq stepW_t stepW_f stepC_n stepC_s stepX_s stepX_n stepN_s calleeX oneV xop_eq xopR_s xopR_n wantedA_eq wantedG_n wantedG_s plain1_int plain1_bool plain1_string bits_i64 bits_u64 bits_u32 bits_u16 bits_u8 xeqA xagg xcmp xarr allK_iv num_iv calleeOf xread xeff xbin xint xnil xun xstr xload xconv xpart xfield xfieldAddr xindexAddr xindex bnd asInt? xslice xlen xmin xmax xbuild xfill xappend xapp2 xappstr xappmk xcap xcopy xcells eval_tmp eval_const put_at put_none fr0_at cells_agg cells_int cells_bool cells_string cells_ptr cells_slice notTuple tab iv_all hget_app hget_app0 hget_cons0 hget_cons set_app set_app0 setR setR_one QL_nil QL_cons QLc_val stepQ_t stepQ_f stepQC_n stepQC_s stepQX_s SL_nil SL_cons SLc_val stepS_t stepS_f ltT ltF leT leF eqT eqF ltTn ltFn leTn leFn eqTn eqFn beqT beqF bneT bneF wi64 wu64 wu32 wu16 wu8 tmodP tdivP hgetL hgetNe hgetEq setL nums_def nums_len Nat.succ_le_of_lt List.getElem?_cons_zero List.getElem?_cons_succ Option.getD_some Int.toNat_add Int.toNat_mul agM okM agB agI agS agP agL agA okB okI okS okP okSl okA
end
section
theorem clk_len8 (l : List NodeD) (z : Int) : (ofC l z).length = 8 ∧ (allC l).length = 8 := by
  unfold ofC allC
  constructor
  · split
    · exact clkV_len _
    · rfl
  · split
    · exact clkV_len _
    · rfl
theorem great_len {l : List NodeD} (h : greatG l = false) : l.length ≤ maxLen := by
  unfold greatG at h
  rw [Bool.or_eq_false_iff, decide_eq_false_iff_not] at h
  simp only [maxLen]; omega
attribute [local simp] wb_bool wb_undef with_lit XL_nil XL_cons XLc_val XLc_call step1_eq stepW_t stepW_f stepC_n stepC_s stepX_s stepX_n stepN_s calleeX oneV xop_eq xopR_s xopR_n wantedA_eq wantedG_n wantedG_s plain1_int plain1_bool plain1_string bits_i64 bits_u64 bits_u32 bits_u16 bits_u8 xeqA xagg xcmp xarr allK_iv num_iv calleeOf xread xeff xbin xint xnil xun xstr xload xconv xpart xfield xfieldAddr xindexAddr xindex bnd asInt? xslice xlen xmin xmax xbuild xfill xappend xapp2 xappstr xappmk xcap xcopy xcells eval_tmp eval_const put_at put_none fr0_at cells_agg cells_int cells_bool cells_string cells_ptr cells_slice notTuple tab iv_all hget_app hget_app0 hget_cons0 hget_cons set_app set_app0 setR setR_one QL_nil QL_cons QLc_val stepQ_t stepQ_f stepQC_n stepQC_s stepQX_s SL_nil SL_cons SLc_val stepS_t stepS_f ltT ltF leT leF eqT eqF ltTn ltFn leTn leFn eqTn eqFn beqT beqF bneT bneF wi64 wu64 wu32 wu16 wu8 tmodP tdivP hgetL hgetNe hgetEq setL nums_def nums_len Nat.succ_le_of_lt List.getElem?_cons_zero List.getElem?_cons_succ Option.getD_some Int.toNat_add Int.toNat_mul agM okM agB agI agS agP agL agA okB okI okS okP okSl okA
theorem tells_law {γ : Nat → Option Nat} {H : AH} {ds : List CD} {u : Value} (ho : OkL [.sl nodeK] ds) (hv : ValL H ds [u]) (z : Int) : AC Try.prog H.length γ 13 #[u, .int .i64 z] H (fun v' _ => v' = .bool true) := by
  obtain ⟨l, hV, hw, hm⟩ := nodes_in ho hv
  have hN := hV.nda hw
  obtain ⟨v1, v2⟩ := val_nt hV
  have zc : ∀ (c : List Int), c.length = 8 → setR (iv .u32 (zl 8)) 0 (iv .u32 c) = iv .u32 c := fun c hc => setR_all _ _ (by rw [iv_length, iv_length, hc, zl_length])
  have tz : ∀ (c : List Int), c.length = 8 → (iv .u32 c).take 8 = iv .u32 c := fun c hc => List.take_of_length_le (by rw [iv_length, hc]; omega)
  have gr := greatG_rc (γ := γ) hN
  have c1 := clkOf_rc (γ := γ) hN z
  have c2 := clkAll_rc (γ := γ) hN
  obtain ⟨l1, l2⟩ := clk_len8 l z
  have t1 := tz _ l1
  have t2 := tz _ l2
  have s1 := zc _ l1
  have s2 := zc _ l2
  have hxl := hN.len
  refine ac_of_aw Try.func13 rfl Try.ntmps13 Try.results13 (by simp) ?_
  refine aw_seq ?_
  (refine aw_ops (by kernel_rfl) (fun K hK => ?_); simp (disch := first | omega | (simp only [lnS]; try omega; done)) [-getElem?_pos, -getElem?_neg]; refine hK _ _ ?_; clear hK K)
  refine aw_seq ?_
  refine aw_seq ?_
  refine aw_ops (by kernel_rfl) (fun K hK => ?_)
  simp (disch := first | omega | (simp only [lnS]; try omega; done)) [-getElem?_pos, -getElem?_neg]
  refine ⟨by kernel_rfl, ac_of_vc (by simp [pv_iv, pv_int, pv_bool, pv_string, pv_tup2, pv_tup3, iv_plain, p2_int, p2_bool, p2_string]) calive_vc ?_⟩
  try simp (disch := first | omega | (simp only [lnS]; try omega; done)) [-getElem?_pos, -getElem?_neg]
  refine hK _ _ ?_; clear hK K
  refine aw_f (by (first | (simp [eval_tmp, put_at]; done) | (simp [eval_tmp, put_at]; omega))) (by kernel_rfl) ?_
  refine aw_skip ?_
  refine aw_seq ?_
  refine aw_seq ?_
  refine aw_ops (by kernel_rfl) (fun K hK => ?_)
  simp (disch := first | omega | (simp only [lnS]; try omega; done)) [-getElem?_pos, -getElem?_neg, -notTuple, v1, v2, nt_intG]
  refine ⟨by kernel_rfl, ac_of_rc gr (by simp [pv_iv, pv_int, pv_bool, pv_string, pv_tup2, pv_tup3, iv_plain, p2_int, p2_bool, p2_string]) ?_⟩
  cases hg : greatG l with
  | true =>
    try simp (disch := first | omega | (simp only [lnS]; try omega; done)) [-getElem?_pos, -getElem?_neg]
    refine hK _ _ ?_; clear hK K
    refine aw_t (by (first | (simp [eval_tmp, put_at]; done) | (simp [eval_tmp, put_at]; omega))) (by kernel_rfl) ?_
    refine aw_seq ?_
    refine aw_ops (by kernel_rfl) (fun K hK => ?_)
    simp (disch := first | omega | (simp only [lnS]; try omega; done)) [-getElem?_pos, -getElem?_neg]
    refine ⟨by kernel_rfl, ac_of_vc (by simp [pv_iv, pv_int, pv_bool, pv_string, pv_tup2, pv_tup3, iv_plain, p2_int, p2_bool, p2_string]) calive_vc ?_⟩
    try simp (disch := first | omega | (simp only [lnS]; try omega; done)) [-getElem?_pos, -getElem?_neg]
    refine hK _ _ ?_; clear hK K
    (refine aw_ret ?_; simp (disch := first | omega | (simp only [lnS]; try omega; done)) [-getElem?_pos, -getElem?_neg, thenQ_ret, scopeQ_ret, inBlockQ_ret, RQ, resL, resV])
  | false =>
  try simp (disch := first | omega | (simp only [lnS]; try omega; done)) [-getElem?_pos, -getElem?_neg]
  refine hK _ _ ?_; clear hK K
  refine aw_f (by (first | (simp [eval_tmp, put_at]; done) | (simp [eval_tmp, put_at]; omega))) (by kernel_rfl) ?_
  refine aw_skip ?_
  have hml := great_len hg
  refine aw_seq ?_
  refine aw_ops (by kernel_rfl) (fun K hK => ?_)
  simp (disch := first | omega | (simp only [lnS]; try omega; done)) [-getElem?_pos, -getElem?_neg, -notTuple, v1, v2, nt_intG]
  refine ⟨by kernel_rfl, ac_of_rc c1 (by simp [pv_iv, pv_int, pv_bool, pv_string, pv_tup2, pv_tup3, iv_plain, p2_int, p2_bool, p2_string]) ?_⟩
  try simp (disch := first | omega | (simp only [lnS]; try omega; done)) [-getElem?_pos, -getElem?_neg, s1, l1]
  refine hK _ _ ?_; clear hK K
  refine aw_seq ?_
  obtain ⟨n, hn⟩ : ∃ n, n = H.length := ⟨_, rfl⟩
  obtain ⟨lw, b5⟩ := boxed (H := H) (iv .u32 (ofC l z)) 79
  generalize H ++ [some ⟨iv .u32 (ofC l z), 79, none⟩] = G at *
  have c2 := clkAll_rc (γ := γ) (hN.lowG lw)
  have hle0 := lw.2
  refine aw_ops (by kernel_rfl) (fun K hK => ?_)
  simp (disch := first | omega | (simp only [lnS]; try omega; done)) [-getElem?_pos, -getElem?_neg, -notTuple, v1, v2, nt_intG]
  refine ⟨by kernel_rfl, ac_of_rc c2 (by simp [pv_iv, pv_int, pv_bool, pv_string, pv_tup2, pv_tup3, iv_plain, p2_int, p2_bool, p2_string]) ?_⟩
  try simp (disch := first | omega | (simp only [lnS]; try omega; done)) [-getElem?_pos, -getElem?_neg, s2, l2]
  refine hK _ _ ?_; clear hK K
  obtain ⟨lw2, b7⟩ := boxed (H := G) (iv .u32 (allC l)) 79
  obtain ⟨m, hm'⟩ : ∃ m, m = G.length := ⟨_, rfl⟩
  have g5 := hget_lt b5
  have b5 := (lw2.1 _ g5).trans b5
  have lw3 : Low H.length H (G ++ [some ⟨iv .u32 (allC l), 79, none⟩]) := ⟨fun j hj => (lw2.1 j (by omega)).trans (lw.1 j hj), by have := lw2.2; have := lw.2; omega⟩
  rw [← hm'] at b7 g5 ⊢
  generalize G ++ [some ⟨iv .u32 (allC l), 79, none⟩] = G2 at *
  have hNG := hN.lowG lw3
  have hVG : NdV G2 u l := CD.Val.low (fun j hj => lw3.1 j hj) hV
  have rr := rRightG_rc (γ := γ) hVG hw hml
  rw [← hn] at b5 g5 ⊢
  have g5' := hget_lt b5
  have g7' := hget_lt b7
  refine aw_seq ?_
  refine aw_seq ?_
  refine aw_ops (by kernel_rfl) (fun K hK => ?_)
  simp (disch := first | omega | (simp only [lnS]; try omega; done)) [-getElem?_pos, -getElem?_neg, -notTuple, v1, v2, nt_intG]
  refine ⟨by kernel_rfl, ac_of_rc rr (by simp [pv_iv, pv_int, pv_bool, pv_string, pv_tup2, pv_tup3, iv_plain, p2_int, p2_bool, p2_string]) ?_⟩
  cases h3 : rightG l with
  | false =>
    have e1 : ofC l z = zl 8 := by simp [ofC, h3]
    have e2 : allC l = zl 8 := by simp [allC, h3]
    have e3 : ofE l z = 1 := by simp [ofE, h3]
    rw [e1] at b5
    rw [e2] at b7
    have tz0 := tz (zl 8) rfl
    try simp (disch := first | omega | (simp only [lnS]; try omega; done)) [-getElem?_pos, -getElem?_neg]
    refine hK _ _ ?_; clear hK K
    refine aw_t (by (first | (simp [eval_tmp, put_at]; done) | (simp [eval_tmp, put_at]; omega))) (by kernel_rfl) ?_
    refine aw_seq ?_
    refine aw_ops (by kernel_rfl) (fun K hK => ?_)
    simp (disch := first | omega | (simp only [lnS]; try omega; done)) [-getElem?_pos, -getElem?_neg]
    refine ⟨by kernel_rfl, ac_of_vc (by simp [pv_iv, pv_int, pv_bool, pv_string, pv_tup2, pv_tup3, iv_plain, p2_int, p2_bool, p2_string]) calive_vc ?_⟩
    simp (disch := first | omega | (simp only [lnS]; try omega; done)) [-getElem?_pos, -getElem?_neg, e3, h3, b5, b7, tz0]
    refine hK _ _ ?_; clear hK K
    (refine aw_ret ?_; simp (disch := first | omega | (simp only [lnS]; try omega; done)) [-getElem?_pos, -getElem?_neg, thenQ_ret, scopeQ_ret, inBlockQ_ret, RQ, resL, resV])
  | true =>
  try simp (disch := first | omega | (simp only [lnS]; try omega; done)) [-getElem?_pos, -getElem?_neg, h3]
  refine hK _ _ ?_; clear hK K
  refine aw_f (by (first | (simp [eval_tmp, put_at]; done) | (simp [eval_tmp, put_at]; omega))) (by kernel_rfl) ?_
  refine aw_skip ?_
  have e2 : allC l = clkV l (List.range l.length) := by simp [allC, h3]
  rw [e2] at b7 l2 s2 t2 ⊢
  obtain ⟨A, hA⟩ : ∃ A, A = clkV l (List.range l.length) := ⟨_, rfl⟩
  rw [← hA] at b7 l2 s2 t2 ⊢
  refine aw_seq ?_
  refine aw_seq ?_
  refine aw_cut (fun α G => α 54 = .bool false ∧ α 0 = u ∧ α 1 = .int .i64 z ∧ α 5 = .pointer (some ⟨n, 0, none⟩) ∧ α 6 = .int .i64 (ofE l z) ∧ G = G2) ?_ ?_
  · (refine aw_plan [] [] [0, 1, 2, 3, 4, 5, 6, 7] 8 0 (by kernel_rfl) (by kernel_rfl) (by kernel_rfl) (fun K hK => ?_)); simp only [sel, List.getElem?_cons_succ, List.getElem?_cons_zero, List.drop_succ_cons, List.drop_zero]; simp (disch := first | omega | (simp only [lnS]; try omega; done)) [-getElem?_pos, -getElem?_neg, b7, t2, l2, -notTuple, v1, v2, nt_intG, nt_ptrG, nt_aggG, PL_nil, plainB_lit, PL_cons, PLc_val, PLc_new, stepP_t, stepP_f, stepPC_n, stepPC_s, stepPX_s, stepPX_n, stepPV_n, stepPV_s, stepPA_t, stepPA_c, stepPA_l, stepPN_s, allocOp, reloc_sl, reloc_ptr, List.map_cons, List.map_nil, List.nil_append, List.append_assoc, List.cons_append, Nat.add_assoc]
    refine PLc_call (v := .agg (iv .u32 A).toArray) (by kernel_rfl) (fun L hL => by rw [hA]; exact rAll_rc (hNG.lowG (Low.push (Nat.le_refl _) L)) h3) (by simp [pv_iv, pv_int, pv_bool, pv_string, pv_tup2, pv_tup3, iv_plain, p2_int, p2_bool, p2_string]) ?_
    try simp (disch := first | omega | (simp only [lnS]; try omega; done)) [-getElem?_pos, -getElem?_neg, b7, t2, l2, -notTuple, v1, v2, nt_intG, nt_ptrG, nt_aggG, PL_nil, plainB_lit, PL_cons, PLc_val, PLc_new, stepP_t, stepP_f, stepPC_n, stepPC_s, stepPX_s, stepPX_n, stepPV_n, stepPV_s, stepPA_t, stepPA_c, stepPA_l, stepPN_s, allocOp, reloc_sl, reloc_ptr, List.map_cons, List.map_nil, List.nil_append, List.append_assoc, List.cons_append, Nat.add_assoc]
    refine hK _ _ ?_; clear hK K
    exact ⟨by (first | (simp [put_at, put_none, fr0_at]; done) | rfl), by (first | (simp [put_at, put_none, fr0_at]; done) | rfl), by (first | (simp [put_at, put_none, fr0_at]; done) | rfl), by (first | (simp [put_at, put_none, fr0_at]; done) | rfl), by (first | (simp [put_at, put_none, fr0_at]; done) | rfl), rfl⟩
  rintro α G ⟨q54, q0, q1, q5, q6, rfl⟩
  refine aw_f (by (first | (simp [eval_tmp, put_at, q54]; done) | (simp [eval_tmp, put_at, q54]; omega))) (by kernel_rfl) ?_
  refine aw_skip ?_
  refine aw_seq ?_
  refine aw_seq ?_
  refine aw_cut (fun α G2 => α 62 = .bool (!isP l z) ∧ α 0 = u ∧ α 1 = .int .i64 z ∧ α 5 = .pointer (some ⟨n, 0, none⟩) ∧ α 6 = .int .i64 (ofE l z) ∧ G2 = G) ?_ ?_
  · by_cases h0 : z < 0
    · have ep : isP l z = false := by unfold isP; simp; omega
      (refine aw_ops (by kernel_rfl) (fun K hK => ?_); simp (disch := first | omega | (simp only [lnS]; try omega; done)) [-getElem?_pos, -getElem?_neg, q0, q1, -notTuple, v1, v2, nt_intG, -xlen, hxl, h0]; refine hK _ _ ?_; clear hK K)
      exact ⟨by rw [ep]; (first | (simp [put_at, put_none, fr0_at]; done) | rfl), by (first | (simp [put_at, put_none, fr0_at, q0]; done) | rfl), by (first | (simp [put_at, put_none, fr0_at, q1]; done) | rfl), by (first | (simp [put_at, put_none, fr0_at, q5]; done) | rfl), by (first | (simp [put_at, put_none, fr0_at, q6]; done) | rfl), rfl⟩
    · by_cases h1 : (l.length : Int) ≤ z
      · have ep : isP l z = false := by unfold isP; simp; omega
        (refine aw_ops (by kernel_rfl) (fun K hK => ?_); simp (disch := first | omega | (simp only [lnS]; try omega; done)) [-getElem?_pos, -getElem?_neg, q0, q1, -notTuple, v1, v2, nt_intG, -xlen, hxl, h0, h1]; refine hK _ _ ?_; clear hK K)
        exact ⟨by rw [ep]; (first | (simp [put_at, put_none, fr0_at]; done) | rfl), by (first | (simp [put_at, put_none, fr0_at, q0]; done) | rfl), by (first | (simp [put_at, put_none, fr0_at, q1]; done) | rfl), by (first | (simp [put_at, put_none, fr0_at, q5]; done) | rfl), by (first | (simp [put_at, put_none, fr0_at, q6]; done) | rfl), rfl⟩
      · have ep : isP l z = true := by unfold isP; simp; omega
        (refine aw_ops (by kernel_rfl) (fun K hK => ?_); simp (disch := first | omega | (simp only [lnS]; try omega; done)) [-getElem?_pos, -getElem?_neg, q0, q1, -notTuple, v1, v2, nt_intG, -xlen, hxl, h0, h1]; refine hK _ _ ?_; clear hK K)
        exact ⟨by rw [ep]; (first | (simp [put_at, put_none, fr0_at]; done) | rfl), by (first | (simp [put_at, put_none, fr0_at, q0]; done) | rfl), by (first | (simp [put_at, put_none, fr0_at, q1]; done) | rfl), by (first | (simp [put_at, put_none, fr0_at, q5]; done) | rfl), by (first | (simp [put_at, put_none, fr0_at, q6]; done) | rfl), rfl⟩
  clear q0 q1 q5 q6 q54
  rintro α G2 ⟨q62, q0, q1, q5, q6, rfl⟩
  cases hp : isP l z with
  | false =>
    rw [hp] at q62
    have e1 : ofC l z = zl 8 := by simp [ofC, h3, hp]
    have e3 : ofE l z = 22 := by simp [ofE, h3, hp]
    rw [e1] at b5
    rw [e3] at q6
    have tz0 := tz (zl 8) rfl
    refine aw_t (by (first | (simp [eval_tmp, put_at, q62]; done) | (simp [eval_tmp, put_at, q62]; omega))) (by kernel_rfl) ?_
    refine aw_seq ?_
    refine aw_ops (by kernel_rfl) (fun K hK => ?_)
    simp (disch := first | omega | (simp only [lnS]; try omega; done)) [-getElem?_pos, -getElem?_neg]
    refine ⟨by kernel_rfl, ac_of_vc (by simp [pv_iv, pv_int, pv_bool, pv_string, pv_tup2, pv_tup3, iv_plain, p2_int, p2_bool, p2_string]) calive_vc ?_⟩
    simp (disch := first | omega | (simp only [lnS]; try omega; done)) [-getElem?_pos, -getElem?_neg, q5, q6, b5, tz0]
    refine hK _ _ ?_; clear hK K
    (refine aw_ret ?_; simp (disch := first | omega | (simp only [lnS]; try omega; done)) [-getElem?_pos, -getElem?_neg, thenQ_ret, scopeQ_ret, inBlockQ_ret, RQ, resL, resV])
  | true =>
  rw [hp] at q62
  refine aw_f (by (first | (simp [eval_tmp, put_at, q62]; done) | (simp [eval_tmp, put_at, q62]; omega))) (by kernel_rfl) ?_
  refine aw_skip ?_
  obtain ⟨i, rfl, hi⟩ := isP_nat hp
  have e1 : ofC l i = clkV l (ofS l i) := by simp [ofC, h3, hp]
  have e3 : ofE l i = 0 := by simp [ofE, h3, hp]
  rw [e1] at b5 t1 l1
  rw [e3] at q6
  obtain ⟨B, hB⟩ : ∃ B, B = clkV l (ofS l i) := ⟨_, rfl⟩
  rw [← hB] at b5 t1 l1
  refine aw_seq ?_
  refine aw_cut (fun α G => α 4 = .bool true ∧ True) ?_ ?_
  · (refine aw_plan [] [] [0, 1, 2, 3, 4, 5, 6, 7, 8, 9, 10, 11, 12] 13 0 (by kernel_rfl) (by kernel_rfl) (by kernel_rfl) (fun K hK => ?_)); simp only [sel, List.getElem?_cons_succ, List.getElem?_cons_zero, List.drop_succ_cons, List.drop_zero]; simp (disch := first | omega | (simp only [lnS]; try omega; done)) [-getElem?_pos, -getElem?_neg, q0, q1, q5, q6, b5, t1, l1, -notTuple, v1, v2, nt_intG, nt_ptrG, nt_aggG, PL_nil, plainB_lit, PL_cons, PLc_val, PLc_new, stepP_t, stepP_f, stepPC_n, stepPC_s, stepPX_s, stepPX_n, stepPV_n, stepPV_s, stepPA_t, stepPA_c, stepPA_l, stepPN_s, allocOp, reloc_sl, reloc_ptr, List.map_cons, List.map_nil, List.nil_append, List.append_assoc, List.cons_append, Nat.add_assoc]
    refine PLc_call (v := .bool true) (by kernel_rfl) (fun L hL => ac_of_vc (by simp [pv_iv, pv_int, pv_bool, pv_string, pv_tup2, pv_tup3, iv_plain, p2_int, p2_bool, p2_string]) calive_vc rfl) (by simp [pv_iv, pv_int, pv_bool, pv_string, pv_tup2, pv_tup3, iv_plain, p2_int, p2_bool, p2_string]) ?_
    simp (disch := first | omega | (simp only [lnS]; try omega; done)) [-getElem?_pos, -getElem?_neg, q0, q1, q5, q6, b5, t1, l1, -notTuple, v1, v2, nt_intG, nt_ptrG, nt_aggG, PL_nil, plainB_lit, PL_cons, PLc_val, PLc_new, stepP_t, stepP_f, stepPC_n, stepPC_s, stepPX_s, stepPX_n, stepPV_n, stepPV_s, stepPA_t, stepPA_c, stepPA_l, stepPN_s, allocOp, reloc_sl, reloc_ptr, List.map_cons, List.map_nil, List.nil_append, List.append_assoc, List.cons_append, Nat.add_assoc]
    refine PLc_call (v := .agg (iv .u32 B).toArray) (by kernel_rfl) (fun L hL => by rw [hB]; exact rOf_rc (hNG.lowG (Low.push (Nat.le_refl _) L)) h3 hi) (by simp [pv_iv, pv_int, pv_bool, pv_string, pv_tup2, pv_tup3, iv_plain, p2_int, p2_bool, p2_string]) ?_
    try simp (disch := first | omega | (simp only [lnS]; try omega; done)) [-getElem?_pos, -getElem?_neg, q0, q1, q5, q6, b5, t1, l1, -notTuple, v1, v2, nt_intG, nt_ptrG, nt_aggG, PL_nil, plainB_lit, PL_cons, PLc_val, PLc_new, stepP_t, stepP_f, stepPC_n, stepPC_s, stepPX_s, stepPX_n, stepPV_n, stepPV_s, stepPA_t, stepPA_c, stepPA_l, stepPN_s, allocOp, reloc_sl, reloc_ptr, List.map_cons, List.map_nil, List.nil_append, List.append_assoc, List.cons_append, Nat.add_assoc]
    refine hK _ _ ?_; clear hK K
    exact ⟨by (first | (simp [put_at, put_none, fr0_at]; done) | rfl), trivial⟩
  rintro α G3 ⟨q4, _⟩
  (refine aw_ret ?_; simp (disch := first | omega | (simp only [lnS]; try omega; done)) [-getElem?_pos, -getElem?_neg, thenQ_ret, scopeQ_ret, inBlockQ_ret, RQ, resL, resV, q4])
theorem fnC_at {l : List NodeD} (S : List Nat) {w : Nat} (hw : w < 8) : fnC (clkV l S) w = (cntL l S w : Int) := clkV_getD S hw
/-- How two nodes' clocks stand. -/
theorem order_eq {l : List NodeD} (h : rightG l = true) {a b : Nat} (ha : a < l.length) (hb : b < l.length) :
    Ck.orderOf (fnC (clkV l (ofS l a))) (fnC (clkV l (ofS l b))) = if a = b then 0 else if (a : Int) ∈ (nd l b).past then -1 else if (b : Int) ∈ (nd l a).past then 1 else 2 := by
  have nn : ∀ S, Ck.U32' (fnC (clkV l S)) := fun S j => by
    unfold fnC
    rw [List.getD_eq_getElem?_getD]
    cases hq : (clkV l S)[j]? with
    | none => simp
    | some x =>
      have := List.mem_of_getElem? hq
      unfold clkV at this
      obtain ⟨w, _, rfl⟩ := List.mem_map.1 this
      simp
  have le : ∀ x y, x < l.length → y < l.length → ((∀ j, j < 8 → fnC (clkV l (ofS l x)) j ≤ fnC (clkV l (ofS l y)) j) ↔ ((x : Int) ∈ (nd l y).past ∨ x = y)) := fun x y hx hy => by
    constructor
    · intro h2
      exact le_ahead h hx hy fun w hw => by
        have := h2 w hw
        rw [fnC_at _ hw, fnC_at _ hw] at this
        omega
    · intro h2 w hw
      rw [fnC_at _ hw, fnC_at _ hw]
      have := ahead_le h hx hy h2 w
      omega
  have e1 : (Ck.fl (Ck.join2 (fnC (clkV l (ofS l a))) (fnC (clkV l (ofS l b)))) == Ck.fl (fnC (clkV l (ofS l a)))) = true ↔ ((b : Int) ∈ (nd l a).past ∨ b = a) := by
    rw [beq_iff_eq, Ck.fl_eq, ← le b a hb ha]
    exact forall_congr' fun j => forall_congr' fun _ => by rw [Ck.join2_at _ _ (nn _)]; omega
  have e2 : (Ck.fl (Ck.join2 (fnC (clkV l (ofS l a))) (fnC (clkV l (ofS l b)))) == Ck.fl (fnC (clkV l (ofS l b)))) = true ↔ ((a : Int) ∈ (nd l b).past ∨ a = b) := by
    rw [beq_iff_eq, Ck.fl_eq, ← le a b ha hb]
    exact forall_congr' fun j => forall_congr' fun _ => by rw [Ck.join2_at _ _ (nn _)]; omega
  have e3 : (Ck.fl (fnC (clkV l (ofS l a))) == Ck.fl (fnC (clkV l (ofS l b)))) = true ↔ a = b := by
    rw [beq_iff_eq, Ck.fl_eq]
    constructor
    · intro h2
      have p1 := (le a b ha hb).1 fun j hj => by have := h2 j hj; omega
      have p2 := (le b a hb ha).1 fun j hj => by have := h2 j hj; omega
      rcases p1 with p1 | p1
      · have q1 := past_asym h ha hb p1
        rcases p2 with p2 | p2
        · have q2 := past_asym h hb ha p2
          omega
        · omega
      · exact p1
    · rintro rfl j _
      rfl
  unfold Ck.orderOf
  by_cases eab : a = b
  · rw [if_pos (e1.2 (.inr eab.symm)), if_pos (e3.2 eab), if_pos eab]
  · rw [if_neg eab]
    by_cases p1 : (a : Int) ∈ (nd l b).past
    · rw [if_pos p1, if_neg (fun hh => by
        rcases e1.1 hh with h2 | h2
        · have q1 := past_asym h ha hb p1
          have q2 := past_asym h hb ha h2
          omega
        · omega), if_pos (e2.2 (.inl p1))]
    · rw [if_neg p1]
      by_cases p2 : (b : Int) ∈ (nd l a).past
      · rw [if_pos p2, if_pos (e1.2 (.inl p2)), if_neg (fun hh => eab (e3.1 hh))]
      · rw [if_neg p2, if_neg (fun hh => by
          rcases e1.1 hh with h2 | h2
          · exact p2 h2
          · omega), if_neg (fun hh => by
          rcases e2.1 hh with h2 | h2
          · exact p1 h2
          · exact eab h2)]
theorem cahead_law {γ : Nat → Option Nat} {H : AH} {ds : List CD} {u : Value} (ho : OkL [.sl nodeK] ds) (hv : ValL H ds [u]) (a b : Int) : AC Try.prog H.length γ 14 #[u, .int .i64 a, .int .i64 b] H (fun v' _ => v' = .bool true) := by
  obtain ⟨l, hV, hw, hm⟩ := nodes_in ho hv
  have hN := hV.nda hw
  obtain ⟨v1, v2⟩ := val_nt hV
  have zc : ∀ (c : List Int), c.length = 8 → setR (iv .u32 (zl 8)) 0 (iv .u32 c) = iv .u32 c := fun c hc => setR_all _ _ (by rw [iv_length, iv_length, hc, zl_length])
  have tz : ∀ (c : List Int), c.length = 8 → (iv .u32 c).take 8 = iv .u32 c := fun c hc => List.take_of_length_le (by rw [iv_length, hc]; omega)
  have gr := greatG_rc (γ := γ) hN
  have rg := graph_right_rc (γ := γ) hN
  have hxl := hN.len
  refine ac_of_aw Try.func14 rfl Try.ntmps14 Try.results14 (by simp) ?_
  refine aw_seq ?_
  (refine aw_ops (by kernel_rfl) (fun K hK => ?_); simp (disch := first | omega | (simp only [lnS]; try omega; done)) [-getElem?_pos, -getElem?_neg]; refine hK _ _ ?_; clear hK K)
  refine aw_seq ?_
  refine aw_seq ?_
  refine aw_ops (by kernel_rfl) (fun K hK => ?_)
  simp (disch := first | omega | (simp only [lnS]; try omega; done)) [-getElem?_pos, -getElem?_neg]
  refine ⟨by kernel_rfl, ac_of_vc (by simp [pv_iv, pv_int, pv_bool, pv_string, pv_tup2, pv_tup3, iv_plain, p2_int, p2_bool, p2_string]) calive_vc ?_⟩
  try simp (disch := first | omega | (simp only [lnS]; try omega; done)) [-getElem?_pos, -getElem?_neg]
  refine hK _ _ ?_; clear hK K
  refine aw_f (by (first | (simp [eval_tmp, put_at]; done) | (simp [eval_tmp, put_at]; omega))) (by kernel_rfl) ?_
  refine aw_skip ?_
  refine aw_seq ?_
  refine aw_seq ?_
  refine aw_cut (fun α G => α 40 = .bool (greatG l || (!rightG l || (!isP l a || !isP l b))) ∧ α 0 = u ∧ α 1 = .int .i64 a ∧ α 2 = .int .i64 b ∧ G = H) ?_ ?_
  · refine aw_ops (by kernel_rfl) (fun K hK => ?_)
    simp (disch := first | omega | (simp only [lnS]; try omega; done)) [-getElem?_pos, -getElem?_neg, -notTuple, v1, v2, nt_intG]
    refine ⟨by kernel_rfl, ac_of_rc gr (by simp [pv_iv, pv_int, pv_bool, pv_string, pv_tup2, pv_tup3, iv_plain, p2_int, p2_bool, p2_string]) ?_⟩
    cases hg : greatG l with
    | true =>
      simp (disch := first | omega | (simp only [lnS]; try omega; done)) [-getElem?_pos, -getElem?_neg, hg]
      refine hK _ _ ?_; clear hK K
      exact ⟨by (first | (simp [put_at, put_none, fr0_at, hg]; done) | rfl), by (first | (simp [put_at, put_none, fr0_at]; done) | rfl), by (first | (simp [put_at, put_none, fr0_at]; done) | rfl), by (first | (simp [put_at, put_none, fr0_at]; done) | rfl), rfl⟩
    | false =>
      simp (disch := first | omega | (simp only [lnS]; try omega; done)) [-getElem?_pos, -getElem?_neg, -notTuple, v1, v2, nt_intG, hg]
      refine ⟨by kernel_rfl, ac_of_rc rg (by simp [pv_iv, pv_int, pv_bool, pv_string, pv_tup2, pv_tup3, iv_plain, p2_int, p2_bool, p2_string]) ?_⟩
      cases h3 : rightG l with
      | false =>
        simp (disch := first | omega | (simp only [lnS]; try omega; done)) [-getElem?_pos, -getElem?_neg, h3]
        refine hK _ _ ?_; clear hK K
        exact ⟨by (first | (simp [put_at, put_none, fr0_at, hg, h3]; done) | rfl), by (first | (simp [put_at, put_none, fr0_at]; done) | rfl), by (first | (simp [put_at, put_none, fr0_at]; done) | rfl), by (first | (simp [put_at, put_none, fr0_at]; done) | rfl), rfl⟩
      | true =>
        by_cases a0 : a < 0
        · have ep : isP l a = false := by unfold isP; simp; omega
          simp (disch := first | omega | (simp only [lnS]; try omega; done)) [-getElem?_pos, -getElem?_neg, h3, -notTuple, v1, v2, nt_intG, -xlen, hxl, a0]
          refine hK _ _ ?_; clear hK K
          exact ⟨by (first | (simp [put_at, put_none, fr0_at, hg, h3, ep]; done) | rfl), by (first | (simp [put_at, put_none, fr0_at]; done) | rfl), by (first | (simp [put_at, put_none, fr0_at]; done) | rfl), by (first | (simp [put_at, put_none, fr0_at]; done) | rfl), rfl⟩
        by_cases b0 : b < 0
        · have ep : isP l b = false := by unfold isP; simp; omega
          simp (disch := first | omega | (simp only [lnS]; try omega; done)) [-getElem?_pos, -getElem?_neg, h3, -notTuple, v1, v2, nt_intG, -xlen, hxl, a0, b0]
          refine hK _ _ ?_; clear hK K
          exact ⟨by (first | (simp [put_at, put_none, fr0_at, hg, h3, ep]; done) | rfl), by (first | (simp [put_at, put_none, fr0_at]; done) | rfl), by (first | (simp [put_at, put_none, fr0_at]; done) | rfl), by (first | (simp [put_at, put_none, fr0_at]; done) | rfl), rfl⟩
        by_cases a1 : (l.length : Int) ≤ a
        · have ep : isP l a = false := by unfold isP; simp; omega
          simp (disch := first | omega | (simp only [lnS]; try omega; done)) [-getElem?_pos, -getElem?_neg, h3, -notTuple, v1, v2, nt_intG, -xlen, hxl, a0, b0, a1]
          refine hK _ _ ?_; clear hK K
          exact ⟨by (first | (simp [put_at, put_none, fr0_at, hg, h3, ep]; done) | rfl), by (first | (simp [put_at, put_none, fr0_at]; done) | rfl), by (first | (simp [put_at, put_none, fr0_at]; done) | rfl), by (first | (simp [put_at, put_none, fr0_at]; done) | rfl), rfl⟩
        by_cases b1 : (l.length : Int) ≤ b
        · have ep : isP l b = false := by unfold isP; simp; omega
          simp (disch := first | omega | (simp only [lnS]; try omega; done)) [-getElem?_pos, -getElem?_neg, h3, -notTuple, v1, v2, nt_intG, -xlen, hxl, a0, b0, a1, b1]
          refine hK _ _ ?_; clear hK K
          exact ⟨by (first | (simp [put_at, put_none, fr0_at, hg, h3, ep]; done) | rfl), by (first | (simp [put_at, put_none, fr0_at]; done) | rfl), by (first | (simp [put_at, put_none, fr0_at]; done) | rfl), by (first | (simp [put_at, put_none, fr0_at]; done) | rfl), rfl⟩
        have ep : isP l a = true := by unfold isP; simp; omega
        have ep2 : isP l b = true := by unfold isP; simp; omega
        simp (disch := first | omega | (simp only [lnS]; try omega; done)) [-getElem?_pos, -getElem?_neg, h3, -notTuple, v1, v2, nt_intG, -xlen, hxl, a0, b0, a1, b1]
        refine hK _ _ ?_; clear hK K
        exact ⟨by (first | (simp [put_at, put_none, fr0_at, hg, h3, ep, ep2]; done) | rfl), by (first | (simp [put_at, put_none, fr0_at]; done) | rfl), by (first | (simp [put_at, put_none, fr0_at]; done) | rfl), by (first | (simp [put_at, put_none, fr0_at]; done) | rfl), rfl⟩
  rintro α G ⟨q40, q0, q1, q2, rfl⟩
  cases hb : (greatG l || (!rightG l || (!isP l a || !isP l b))) with
  | true =>
    rw [hb] at q40
    refine aw_t (by (first | (simp [eval_tmp, put_at, q40]; done) | (simp [eval_tmp, put_at, q40]; omega))) (by kernel_rfl) ?_
    refine aw_seq ?_
    refine aw_ops (by kernel_rfl) (fun K hK => ?_)
    simp (disch := first | omega | (simp only [lnS]; try omega; done)) [-getElem?_pos, -getElem?_neg]
    refine ⟨by kernel_rfl, ac_of_vc (by simp [pv_iv, pv_int, pv_bool, pv_string, pv_tup2, pv_tup3, iv_plain, p2_int, p2_bool, p2_string]) calive_vc ?_⟩
    try simp (disch := first | omega | (simp only [lnS]; try omega; done)) [-getElem?_pos, -getElem?_neg]
    refine hK _ _ ?_; clear hK K
    (refine aw_ret ?_; simp (disch := first | omega | (simp only [lnS]; try omega; done)) [-getElem?_pos, -getElem?_neg, thenQ_ret, scopeQ_ret, inBlockQ_ret, RQ, resL, resV])
  | false =>
  rw [hb] at q40
  refine aw_f (by (first | (simp [eval_tmp, put_at, q40]; done) | (simp [eval_tmp, put_at, q40]; omega))) (by kernel_rfl) ?_
  refine aw_skip ?_
  simp only [Bool.or_eq_false_iff, Bool.not_eq_false'] at hb
  obtain ⟨hg, h3, hpa, hpb⟩ := hb
  obtain ⟨i, rfl, hi⟩ := isP_nat hpa
  obtain ⟨j, rfl, hj⟩ := isP_nat hpb
  have oe := order_eq h3 hi hj
  have lA := clkV_len (l := l) (ofS l i)
  have lB := clkV_len (l := l) (ofS l j)
  have ea : ofC l i = clkV l (ofS l i) := by simp [ofC, h3, hpa]
  have eb : ofC l j = clkV l (ofS l j) := by simp [ofC, h3, hpb]
  have e3 : ofE l i = 0 := by simp [ofE, h3, hpa]
  have e4 : ofE l j = 0 := by simp [ofE, h3, hpb]
  obtain ⟨A, hA⟩ : ∃ A, A = clkV l (ofS l i) := ⟨_, rfl⟩
  obtain ⟨B, hB⟩ : ∃ B, B = clkV l (ofS l j) := ⟨_, rfl⟩
  rw [← hA] at ea lA oe
  rw [← hB] at eb lB oe
  have ov := order_vc lA lB
  rw [oe] at ov
  have sA := zc A lA
  have sB := zc B lB
  have tA := tz A lA
  have tB := tz B lB
  have c1 := clkOf_rc (γ := γ) hN (i : Int)
  rw [ea, e3] at c1
  refine aw_seq ?_
  refine aw_ops (by kernel_rfl) (fun K hK => ?_)
  simp (disch := first | omega | (simp only [lnS]; try omega; done)) [-getElem?_pos, -getElem?_neg, q0, q1, -notTuple, v1, v2, nt_intG]
  refine ⟨by kernel_rfl, ac_of_rc c1 (by simp [pv_iv, pv_int, pv_bool, pv_string, pv_tup2, pv_tup3, iv_plain, p2_int, p2_bool, p2_string]) ?_⟩
  try simp (disch := first | omega | (simp only [lnS]; try omega; done)) [-getElem?_pos, -getElem?_neg, sA, lA]
  refine hK _ _ ?_; clear hK K
  obtain ⟨n, hn⟩ : ∃ n, n = G.length := ⟨_, rfl⟩
  obtain ⟨lw, b7⟩ := boxed (H := G) (iv .u32 A) 79
  generalize G ++ [some ⟨iv .u32 A, 79, none⟩] = G1 at *
  have c2 := clkOf_rc (γ := γ) (hN.lowG lw) (j : Int)
  rw [eb, e4] at c2
  have hle0 := lw.2
  refine aw_seq ?_
  refine aw_ops (by kernel_rfl) (fun K hK => ?_)
  simp (disch := first | omega | (simp only [lnS]; try omega; done)) [-getElem?_pos, -getElem?_neg, q0, q2, -notTuple, v1, v2, nt_intG]
  refine ⟨by kernel_rfl, ac_of_rc c2 (by simp [pv_iv, pv_int, pv_bool, pv_string, pv_tup2, pv_tup3, iv_plain, p2_int, p2_bool, p2_string]) ?_⟩
  try simp (disch := first | omega | (simp only [lnS]; try omega; done)) [-getElem?_pos, -getElem?_neg, sB, lB]
  refine hK _ _ ?_; clear hK K
  obtain ⟨lw2, b9⟩ := boxed (H := G1) (iv .u32 B) 79
  obtain ⟨m, hm'⟩ : ∃ m, m = G1.length := ⟨_, rfl⟩
  have g7 := hget_lt b7
  have b7 := (lw2.1 _ g7).trans b7
  have lw3 : Low G.length G (G1 ++ [some ⟨iv .u32 B, 79, none⟩]) := ⟨fun j hj => (lw2.1 j (by omega)).trans (lw.1 j hj), by have := lw2.2; have := lw.2; omega⟩
  rw [← hm'] at b9 g7 ⊢
  generalize G1 ++ [some ⟨iv .u32 B, 79, none⟩] = G2 at *
  have hNG := hN.lowG lw3
  rw [← hn] at b7 g7 ⊢
  have g7' := hget_lt b7
  have g9' := hget_lt b9
  refine aw_seq ?_
  refine aw_ops (by kernel_rfl) (fun K hK => ?_)
  simp (disch := first | omega | (simp only [lnS]; try omega; done)) [-getElem?_pos, -getElem?_neg, b7, b9, tA, tB, lA, lB, nt_aggG]
  refine ⟨by kernel_rfl, ac_of_vc (by simp [pv_iv, pv_int, pv_bool, pv_string, pv_tup2, pv_tup3, iv_plain, p2_int, p2_bool, p2_string]) ov ?_⟩
  try simp (disch := first | omega | (simp only [lnS]; try omega; done)) [-getElem?_pos, -getElem?_neg]
  refine hK _ _ ?_; clear hK K
  have ra := ahead_rc (γ := γ) hNG (i : Int) (j : Int)
  have rb := ahead_rc (γ := γ) hNG (j : Int) (i : Int)
  have rp := apart_rc (γ := γ) hNG (i : Int) (j : Int)
  have ea2 : aheadB l i j = decide ((i : Int) ∈ (nd l j).past) := by
    unfold aheadB pastAt
    rw [h3, hpa, hpb]
    simp
  have eb2 : aheadB l j i = decide ((j : Int) ∈ (nd l i).past) := by
    unfold aheadB pastAt
    rw [h3, hpa, hpb]
    simp
  have ep2 : apartB l i j = (!decide ((i : Int) ∈ (nd l j).past) && (!decide ((j : Int) ∈ (nd l i).past) && !decide (i = j))) := by
    unfold apartB pastAt
    rw [h3, hpa, hpb, Int.toNat_natCast, Int.toNat_natCast]
    have : decide ((i : Int) = (j : Int)) = decide (i = j) := by simp [Int.natCast_inj]
    rw [this]
    cases decide (i = j) <;> cases decide ((i : Int) ∈ (nd l j).past) <;> cases decide ((j : Int) ∈ (nd l i).past) <;> rfl
  rw [ea2] at ra
  rw [eb2] at rb
  rw [ep2] at rp
  have hno : (i : Int) ∈ (nd l j).past → ¬ i = j ∧ ¬ (j : Int) ∈ (nd l i).past := fun hp => by
    have q1 := past_asym h3 hi hj hp
    exact ⟨by omega, fun h2 => by have q2 := past_asym h3 hj hi h2; omega⟩
  have hno2 : (j : Int) ∈ (nd l i).past → ¬ i = j := fun hp => by
    have q1 := past_asym h3 hj hi hp
    omega
  clear oe ov hA hB hV hN hNG c1 c2 gr rg ea2 eb2 ep2
  refine aw_seq ?_
  refine aw_cut (fun α G => α 6 = .bool true ∧ True) ?_ ?_
  · have hcase : (i = j ∧ (i : Int) ∉ (nd l j).past ∧ (j : Int) ∉ (nd l i).past) ∨ (i ≠ j ∧ (i : Int) ∈ (nd l j).past ∧ (j : Int) ∉ (nd l i).past) ∨ (i ≠ j ∧ (i : Int) ∉ (nd l j).past ∧ (j : Int) ∈ (nd l i).past) ∨ (i ≠ j ∧ (i : Int) ∉ (nd l j).past ∧ (j : Int) ∉ (nd l i).past) := by
      by_cases hP : (i : Int) ∈ (nd l j).past
      · exact .inr (.inl ⟨(hno hP).1, hP, (hno hP).2⟩)
      · by_cases hQ : (j : Int) ∈ (nd l i).past
        · exact .inr (.inr (.inl ⟨hno2 hQ, hP, hQ⟩))
        · by_cases he : i = j
          · exact .inl ⟨he, hP, hQ⟩
          · exact .inr (.inr (.inr ⟨he, hP, hQ⟩))
    have hne : i ≠ j → ((i : Int) == (j : Int)) = false := fun h => by simp; omega
    have heq : i = j → ((i : Int) == (j : Int)) = true := fun h => by simp; omega
    have hne2 : i ≠ j → ((i : Int) = (j : Int)) = False := fun h => eq_false (by omega)
    have heq2 : i = j → ((i : Int) = (j : Int)) = True := fun h => eq_true (by omega)
    rcases hcase with ⟨k0, k1, k2⟩ | ⟨k0, k1, k2⟩ | ⟨k0, k1, k2⟩ | ⟨k0, k1, k2⟩
    · subst k0
      clear hne heq hne2 heq2 hno hno2
      rw [decide_eq_false k1] at ra rp
      rw [decide_eq_false k2] at rb
      rw [decide_eq_true rfl] at rp
      generalize (nd l i).past = J at *
      refine aw_ops (by kernel_rfl) (fun K hK => ?_)
      simp (disch := first | omega | (simp only [lnS]; try omega; done)) [-getElem?_pos, -getElem?_neg]
      refine ⟨by kernel_rfl, ac_of_vc (by simp [pv_iv, pv_int, pv_bool, pv_string, pv_tup2, pv_tup3, iv_plain, p2_int, p2_bool, p2_string]) calive_vc ?_⟩
      simp (disch := first | omega | (simp only [lnS]; try omega; done)) [-getElem?_pos, -getElem?_neg, q0, q1, q2, -notTuple, v1, v2, nt_intG]
      refine ⟨by kernel_rfl, ac_of_rc ra (by simp [pv_iv, pv_int, pv_bool, pv_string, pv_tup2, pv_tup3, iv_plain, p2_int, p2_bool, p2_string]) ?_⟩
      simp (disch := first | omega | (simp only [lnS]; try omega; done)) [-getElem?_pos, -getElem?_neg, q0, q1, q2, -notTuple, v1, v2, nt_intG, k1, k2]
      refine ⟨by kernel_rfl, ac_of_rc rb (by simp [pv_iv, pv_int, pv_bool, pv_string, pv_tup2, pv_tup3, iv_plain, p2_int, p2_bool, p2_string]) ?_⟩
      simp (disch := first | omega | (simp only [lnS]; try omega; done)) [-getElem?_pos, -getElem?_neg, q0, q1, q2, -notTuple, v1, v2, nt_intG, k1, k2]
      refine ⟨by kernel_rfl, ac_of_rc rp (by simp [pv_iv, pv_int, pv_bool, pv_string, pv_tup2, pv_tup3, iv_plain, p2_int, p2_bool, p2_string]) ?_⟩
      simp (disch := first | omega | (simp only [lnS]; try omega; done)) [-getElem?_pos, -getElem?_neg, q0, q1, q2, -notTuple, v1, v2, nt_intG, k1, k2]
      refine hK _ _ ?_; clear hK K
      exact ⟨by (first | (simp [put_at, put_none, fr0_at]; done) | rfl), trivial⟩
    · have k3 := hne k0
      have k4 := hne2 k0
      clear hne heq hne2 heq2 hno hno2
      rw [decide_eq_true k1] at ra rp
      rw [decide_eq_false k2] at rb rp
      rw [decide_eq_false k0] at rp
      generalize (nd l j).past = J at *
      generalize (nd l i).past = I at *
      refine aw_ops (by kernel_rfl) (fun K hK => ?_)
      simp (disch := first | omega | (simp only [lnS]; try omega; done)) [-getElem?_pos, -getElem?_neg]
      refine ⟨by kernel_rfl, ac_of_vc (by simp [pv_iv, pv_int, pv_bool, pv_string, pv_tup2, pv_tup3, iv_plain, p2_int, p2_bool, p2_string]) calive_vc ?_⟩
      simp (disch := first | omega | (simp only [lnS]; try omega; done)) [-getElem?_pos, -getElem?_neg, q0, q1, q2, -notTuple, v1, v2, nt_intG]
      refine ⟨by kernel_rfl, ac_of_rc ra (by simp [pv_iv, pv_int, pv_bool, pv_string, pv_tup2, pv_tup3, iv_plain, p2_int, p2_bool, p2_string]) ?_⟩
      simp (disch := first | omega | (simp only [lnS]; try omega; done)) [-getElem?_pos, -getElem?_neg, q0, q1, q2, -notTuple, v1, v2, nt_intG, k0, k1, k2, k3, k4]
      refine ⟨by kernel_rfl, ac_of_rc rb (by simp [pv_iv, pv_int, pv_bool, pv_string, pv_tup2, pv_tup3, iv_plain, p2_int, p2_bool, p2_string]) ?_⟩
      simp (disch := first | omega | (simp only [lnS]; try omega; done)) [-getElem?_pos, -getElem?_neg, q0, q1, q2, -notTuple, v1, v2, nt_intG, k0, k1, k2, k3, k4]
      refine ⟨by kernel_rfl, ac_of_rc rp (by simp [pv_iv, pv_int, pv_bool, pv_string, pv_tup2, pv_tup3, iv_plain, p2_int, p2_bool, p2_string]) ?_⟩
      simp (disch := first | omega | (simp only [lnS]; try omega; done)) [-getElem?_pos, -getElem?_neg, q0, q1, q2, -notTuple, v1, v2, nt_intG, k0, k1, k2, k3, k4]
      refine hK _ _ ?_; clear hK K
      exact ⟨by (first | (simp [put_at, put_none, fr0_at]; done) | rfl), trivial⟩
    · have k3 := hne k0
      have k4 := hne2 k0
      clear hne heq hne2 heq2 hno hno2
      rw [decide_eq_false k1] at ra rp
      rw [decide_eq_true k2] at rb rp
      rw [decide_eq_false k0] at rp
      generalize (nd l j).past = J at *
      generalize (nd l i).past = I at *
      refine aw_ops (by kernel_rfl) (fun K hK => ?_)
      simp (disch := first | omega | (simp only [lnS]; try omega; done)) [-getElem?_pos, -getElem?_neg]
      refine ⟨by kernel_rfl, ac_of_vc (by simp [pv_iv, pv_int, pv_bool, pv_string, pv_tup2, pv_tup3, iv_plain, p2_int, p2_bool, p2_string]) calive_vc ?_⟩
      simp (disch := first | omega | (simp only [lnS]; try omega; done)) [-getElem?_pos, -getElem?_neg, q0, q1, q2, -notTuple, v1, v2, nt_intG]
      refine ⟨by kernel_rfl, ac_of_rc ra (by simp [pv_iv, pv_int, pv_bool, pv_string, pv_tup2, pv_tup3, iv_plain, p2_int, p2_bool, p2_string]) ?_⟩
      simp (disch := first | omega | (simp only [lnS]; try omega; done)) [-getElem?_pos, -getElem?_neg, q0, q1, q2, -notTuple, v1, v2, nt_intG, k0, k1, k2, k3, k4]
      refine ⟨by kernel_rfl, ac_of_rc rb (by simp [pv_iv, pv_int, pv_bool, pv_string, pv_tup2, pv_tup3, iv_plain, p2_int, p2_bool, p2_string]) ?_⟩
      simp (disch := first | omega | (simp only [lnS]; try omega; done)) [-getElem?_pos, -getElem?_neg, q0, q1, q2, -notTuple, v1, v2, nt_intG, k0, k1, k2, k3, k4]
      refine ⟨by kernel_rfl, ac_of_rc rp (by simp [pv_iv, pv_int, pv_bool, pv_string, pv_tup2, pv_tup3, iv_plain, p2_int, p2_bool, p2_string]) ?_⟩
      simp (disch := first | omega | (simp only [lnS]; try omega; done)) [-getElem?_pos, -getElem?_neg, q0, q1, q2, -notTuple, v1, v2, nt_intG, k0, k1, k2, k3, k4]
      refine hK _ _ ?_; clear hK K
      exact ⟨by (first | (simp [put_at, put_none, fr0_at]; done) | rfl), trivial⟩
    · have k3 := hne k0
      have k4 := hne2 k0
      clear hne heq hne2 heq2 hno hno2
      rw [decide_eq_false k1] at ra rp
      rw [decide_eq_false k2] at rb rp
      rw [decide_eq_false k0] at rp
      generalize (nd l j).past = J at *
      generalize (nd l i).past = I at *
      refine aw_ops (by kernel_rfl) (fun K hK => ?_)
      simp (disch := first | omega | (simp only [lnS]; try omega; done)) [-getElem?_pos, -getElem?_neg]
      refine ⟨by kernel_rfl, ac_of_vc (by simp [pv_iv, pv_int, pv_bool, pv_string, pv_tup2, pv_tup3, iv_plain, p2_int, p2_bool, p2_string]) calive_vc ?_⟩
      simp (disch := first | omega | (simp only [lnS]; try omega; done)) [-getElem?_pos, -getElem?_neg, q0, q1, q2, -notTuple, v1, v2, nt_intG]
      refine ⟨by kernel_rfl, ac_of_rc ra (by simp [pv_iv, pv_int, pv_bool, pv_string, pv_tup2, pv_tup3, iv_plain, p2_int, p2_bool, p2_string]) ?_⟩
      simp (disch := first | omega | (simp only [lnS]; try omega; done)) [-getElem?_pos, -getElem?_neg, q0, q1, q2, -notTuple, v1, v2, nt_intG, k0, k1, k2, k3, k4]
      refine ⟨by kernel_rfl, ac_of_rc rb (by simp [pv_iv, pv_int, pv_bool, pv_string, pv_tup2, pv_tup3, iv_plain, p2_int, p2_bool, p2_string]) ?_⟩
      simp (disch := first | omega | (simp only [lnS]; try omega; done)) [-getElem?_pos, -getElem?_neg, q0, q1, q2, -notTuple, v1, v2, nt_intG, k0, k1, k2, k3, k4]
      refine ⟨by kernel_rfl, ac_of_rc rp (by simp [pv_iv, pv_int, pv_bool, pv_string, pv_tup2, pv_tup3, iv_plain, p2_int, p2_bool, p2_string]) ?_⟩
      simp (disch := first | omega | (simp only [lnS]; try omega; done)) [-getElem?_pos, -getElem?_neg, q0, q1, q2, -notTuple, v1, v2, nt_intG, k0, k1, k2, k3, k4]
      refine hK _ _ ?_; clear hK K
      exact ⟨by (first | (simp [put_at, put_none, fr0_at]; done) | rfl), trivial⟩
  rintro α G3 ⟨q6, _⟩
  (refine aw_ret ?_; simp (disch := first | omega | (simp only [lnS]; try omega; done)) [-getElem?_pos, -getElem?_neg, thenQ_ret, scopeQ_ret, inBlockQ_ret, RQ, resL, resV, q6])
end
section
def lkJ (a b : List Int) (k : Nat) : List Nat := (List.range k).filter fun j => decide (a.getD j 0 < b.getD j 0)
def spR (a b : List Int) (j : Nat) : List Value := [.int .i64 (j : Nat), .int .u32 (a.getD j 0 + 1), .int .u32 (b.getD j 0)]
def spC (a b : List Int) (J : List Nat) : List Value := (J.map (spR a b)).flatten
theorem lkJ_succ (a b : List Int) (k : Nat) : lkJ a b (k + 1) = if a.getD k 0 < b.getD k 0 then lkJ a b k ++ [k] else lkJ a b k := by
  unfold lkJ
  rw [List.range_succ, List.filter_append, List.filter_cons]
  by_cases h : a.getD k 0 < b.getD k 0
  · rw [if_pos h, decide_eq_true h]; rfl
  · rw [if_neg h, decide_eq_false h]; simp
theorem lkJ_le (a b : List Int) (k : Nat) : (lkJ a b k).length ≤ k := by
  unfold lkJ
  exact Nat.le_trans (List.length_filter_le _ _) (by simp)
theorem spC_len (a b : List Int) (J : List Nat) : (spC a b J).length = J.length * 3 := by
  unfold spC
  rw [fl_len (n := 3) (fun r hr => by
    obtain ⟨j, _, rfl⟩ := List.mem_map.1 hr
    rfl), List.length_map]
theorem spC_app (a b : List Int) (J : List Nat) (j : Nat) : spC a b (J ++ [j]) = spC a b J ++ spR a b j := by simp [spC]
theorem spC_get (a b : List Int) {J : List Nat} {k j c : Nat} (h : J[k]? = some j) (hc : c < 3) : (spC a b J)[k * 3 + c]? = (spR a b j)[c]? := by
  have := fl_get (L := J.map (spR a b)) (n := 3) (fun r hr => by
    obtain ⟨j, _, rfl⟩ := List.mem_map.1 hr
    rfl) (k := k) (r := spR a b j) (by rw [List.getElem?_map, h]; rfl)
  unfold spC
  rw [← this, List.getElem?_take_of_lt hc, List.getElem?_drop]
/-- The sum of what is lacking. -/
def lkS (a b : List Int) (J : List Nat) : Int := (J.map fun j => b.getD j 0 - a.getD j 0).sum
theorem lkS_all (a b : List Int) : ∀ k, (∀ j, j < k → a.getD j 0 ≤ b.getD j 0) → lkS a b (lkJ a b k) = ((List.range k).map fun j => b.getD j 0 - a.getD j 0).sum := by
  intro k
  induction k with
  | zero => intro _; rfl
  | succ k ih =>
    intro h
    have ih := ih fun j hj => h j (by omega)
    rw [lkJ_succ, List.range_succ, List.map_append, List.sum_append, ← ih]
    have hk := h k (by omega)
    by_cases hlt : a.getD k 0 < b.getD k 0
    · rw [if_pos hlt]
      unfold lkS
      rw [List.map_append, List.sum_append]
    · rw [if_neg hlt]
      simp only [List.map_cons, List.map_nil, List.sum_cons, List.sum_nil]
      omega
attribute [local simp] wb_bool wb_undef with_lit XL_nil XL_cons XLc_val XLc_call step1_eq stepW_t stepW_f stepC_n stepC_s stepX_s stepX_n stepN_s calleeX oneV xop_eq xopR_s xopR_n wantedA_eq wantedG_n wantedG_s plain1_int plain1_bool plain1_string bits_i64 bits_u64 bits_u32 bits_u16 bits_u8 xeqA xagg xcmp xarr allK_iv num_iv calleeOf xread xeff xbin xint xnil xun xstr xload xconv xpart xfield xfieldAddr xindexAddr xindex bnd asInt? xslice xlen xmin xmax xbuild xfill xappend xapp2 xappstr xappmk xcap xcopy xcells eval_tmp eval_const put_at put_none fr0_at cells_agg cells_int cells_bool cells_string cells_ptr cells_slice notTuple tab iv_all hget_app hget_app0 hget_cons0 hget_cons set_app set_app0 setR setR_one QL_nil QL_cons QLc_val stepQ_t stepQ_f stepQC_n stepQC_s stepQX_s SL_nil SL_cons SLc_val stepS_t stepS_f ltT ltF leT leF eqT eqF ltTn ltFn leTn leFn eqTn eqFn beqT beqF bneT bneF wi64 wu64 wu32 wu16 wu8 tmodP tdivP hgetL hgetNe hgetEq setL nums_def nums_len Nat.succ_le_of_lt List.getElem?_cons_zero List.getElem?_cons_succ Option.getD_some Int.toNat_add Int.toNat_mul agM okM agB agI agS agP agL agA okB okI okS okP okSl okA
theorem lacks_rc {γ : Nat → Option Nat} {nro : Nat} {H : AH} {a b : List Int} (ha : a.length = 8) (hb : b.length = 8) (ua : ∀ x ∈ a, 0 ≤ x ∧ x ≤ 4294967295) (ub : ∀ x ∈ b, 0 ≤ x ∧ x ≤ 4294967295) (hnro : nro ≤ H.length) : AC Try.prog nro γ 59 #[.agg (iv .u32 a).toArray, .agg (iv .u32 b).toArray] H (fun v' H' => Low H.length H H' ∧ ∃ F, OwnF H' v' 89 3 (spC a b (lkJ a b 8)) F ∧ ∀ j ∈ F, H.length ≤ j) := by
  have la : (iv .u32 a).length = 8 := by rw [iv_length, ha]
  have lb : (iv .u32 b).length = 8 := by rw [iv_length, hb]
  have tb : (iv .u32 b).take 8 = iv .u32 b := List.take_of_length_le (by omega)
  refine ac_of_aw Try.func59 rfl Try.ntmps59 Try.results59 (by simp) ?_
  refine aw_seq ?_
  (refine aw_ops (by kernel_rfl) (fun K hK => ?_); simp (disch := first | omega | (simp only [lnS]; try omega; done)) [-getElem?_pos, -getElem?_neg, la, lb]; refine hK _ _ ?_; clear hK K)
  obtain ⟨n, hn⟩ : ∃ n, n = H.length := ⟨_, rfl⟩
  obtain ⟨G, hG⟩ : ∃ G : AH, G = H ++ [some ⟨iv .u32 a, 79, none⟩, some ⟨iv .u32 b, 79, none⟩] := ⟨_, rfl⟩
  have b2 : hget G n = some ⟨iv .u32 a, 79, none⟩ := by rw [hG, hn, hget_app0]; rfl
  have b3 : hget G (n + 1) = some ⟨iv .u32 b, 79, none⟩ := by rw [hG, hn, hget_app]; rfl
  have lw : Low H.length H G := by rw [hG]; exact Low.push (Nat.le_refl _) _
  have gl : n + 2 = G.length := by rw [hG, hn]; simp
  rw [← hG, ← hn]
  rw [← hn] at lw
  clear hG
  refine aw_seq ?_
  (refine aw_ops (by kernel_rfl) (fun K hK => ?_); simp (disch := first | omega | (simp only [lnS]; try omega; done)) [-getElem?_pos, -getElem?_neg]; refine hK _ _ ?_; clear hK K)
  refine aw_seq ?_
  refine aw_seq ?_
  (refine aw_ops (by kernel_rfl) (fun K hK => ?_); simp (disch := first | omega | (simp only [lnS]; try omega; done)) [-getElem?_pos, -getElem?_neg, b3, lb, tb]; refine hK _ _ ?_; clear hK K)
  refine aw_block ?_
  refine aw_loop (fun c α G' => ∃ (k : Nat) (v : Value) (F : List Nat), k + c = 8 ∧ Low (n + 2) G G' ∧ α 2 = .pointer (some ⟨n, 0, none⟩) ∧ α 5 = v ∧ α 8 = .agg (iv .u32 b).toArray ∧ α 9 = .int .i64 (k : Nat) ∧ OwnF G' v 89 3 (spC a b (lkJ a b k)) F ∧ ∀ j ∈ F, n + 2 ≤ j) 8 ?_ ?_
  · exact ⟨0, .slice none 0 0, [], by omega, Low.refl (by omega), by (first | (simp [put_at, put_none, fr0_at]; done) | rfl), by (first | (simp [put_at, put_none, fr0_at]; done) | rfl), by (first | (simp [put_at, put_none, fr0_at]; done) | rfl), by (first | (simp [put_at, put_none, fr0_at]; done) | rfl), .inl ⟨rfl, rfl, rfl⟩, fun j hj => by cases hj⟩
  rintro c α G' ⟨k, v, F, hkc, lw', q2, q5, q8, q9, hF, hFl⟩
  obtain ⟨v1, v2⟩ := own_nt hF
  have b2' := (lw'.1 n (by omega)).trans b2
  have gl' := lw'.2
  refine aw_seq ?_
  by_cases hk : k < 8
  case neg =>
    (refine aw_ops (by kernel_rfl) (fun K hK => ?_); simp (disch := first | omega | (simp only [lnS]; try omega; done)) [-getElem?_pos, -getElem?_neg, q9, hk]; refine hK _ _ ?_; clear hK K)
    refine aw_seq ?_
    refine aw_f (by (first | (simp [eval_tmp, put_at, hk]; done) | (simp [eval_tmp, put_at, hk]; omega))) (by kernel_rfl) ?_
    refine aw_exit ?_
    obtain rfl : k = 8 := by omega
    refine aw_seq ?_
    (refine aw_ops (by kernel_rfl) (fun K hK => ?_); simp (disch := first | omega | (simp only [lnS]; try omega; done)) [-getElem?_pos, -getElem?_neg, q5, -notTuple, v1, v2]; refine hK _ _ ?_; clear hK K)
    (refine aw_ret ?_; simp (disch := first | omega | (simp only [lnS]; try omega; done)) [-getElem?_pos, -getElem?_neg, thenQ_ret, scopeQ_ret, inBlockQ_ret, RQ, resL, resV])
    refine ⟨⟨fun j hj => (lw'.1 j (by omega)).trans (lw.1 j (by omega)), by have := lw.2; omega⟩, F, hF, fun j hj => by have := hFl j hj; omega⟩
  have xa : (iv .u32 a)[k]? = some (.int .u32 (a.getD k 0)) := iv_get _ _ _ (by omega)
  have xb : (iv .u32 b)[k]? = some (.int .u32 (b.getD k 0)) := iv_get _ _ _ (by omega)
  have hy : 0 ≤ b.getD k 0 ∧ b.getD k 0 ≤ 4294967295 := ub _ (by rw [List.getD_eq_getElem?_getD, List.getElem?_eq_getElem (by omega)]; exact List.getElem_mem _)
  have hx : 0 ≤ a.getD k 0 ∧ a.getD k 0 ≤ 4294967295 := ua _ (by rw [List.getD_eq_getElem?_getD, List.getElem?_eq_getElem (by omega)]; exact List.getElem_mem _)
  have hsu := lkJ_succ a b k
  have hcl := spC_len a b (lkJ a b k)
  have hlc := lkJ_le a b k
  have hsp : spR a b k = [.int .i64 (k : Nat), .int .u32 (a.getD k 0 + 1), .int .u32 (b.getD k 0)] := rfl
  obtain ⟨x, hxe⟩ : ∃ x, x = a.getD k 0 := ⟨_, rfl⟩
  obtain ⟨y, hye⟩ : ∃ y, y = b.getD k 0 := ⟨_, rfl⟩
  rw [← hxe] at xa hx hsu hsp
  rw [← hye] at xb hy hsu hsp
  clear hxe hye
  (refine aw_ops (by kernel_rfl) (fun K hK => ?_); simp (disch := first | omega | (simp only [lnS]; try omega; done)) [-getElem?_pos, -getElem?_neg, q9, hk]; refine hK _ _ ?_; clear hK K)
  refine aw_seq ?_
  refine aw_t (by (first | (simp [eval_tmp, put_at, hk]; done) | (simp [eval_tmp, put_at, hk]; omega))) (by kernel_rfl) ?_
  refine aw_skip ?_
  refine aw_seq ?_
  refine aw_block ?_
  refine aw_seq ?_
  (refine aw_ops (by kernel_rfl) (fun K hK => ?_); simp (disch := first | omega | (simp only [lnS]; try omega; done)) [-getElem?_pos, -getElem?_neg, q8, q9, xb]; refine hK _ _ ?_; clear hK K)
  refine aw_seq ?_
  have hxa := clk_addr (m := n) hk
  by_cases hlt : x < y
  · rw [if_pos hlt] at hsu
    (refine aw_ops (by kernel_rfl) (fun K hK => ?_); simp (disch := first | omega | (simp only [lnS]; try omega; done)) [-getElem?_pos, -getElem?_neg, q2, hxa, b2', xa, hlt]; refine hK _ _ ?_; clear hK K)
    refine aw_t (by (first | (simp [eval_tmp, put_at]; done) | (simp [eval_tmp, put_at]; omega))) (by kernel_rfl) ?_
    have hxc : xcells 3 (.slice (some ⟨G'.length, 0, none⟩) 1 1) (G' ++ [some ⟨[.int .i64 (k : Nat), .int .u32 (x + 1), .int .u32 y], 89, some 3⟩]) = some [.int .i64 (k : Nat), .int .u32 (x + 1), .int .u32 y] := by simp [xcells, hget_app0]
    obtain ⟨v', G5, hap, ho3, hl3, hk3⟩ := ownF_append (P := Try.prog) (nro := nro) (t := 86) (e := 89) (H := G' ++ [some ⟨[.int .i64 (k : Nat), .int .u32 (x + 1), .int .u32 y], 89, some 3⟩]) (v := v) (x := .slice (some ⟨G'.length, 0, none⟩) 1 1) (sz := 3) (cells := spC a b (lkJ a b k)) (news := [.int .i64 (k : Nat), .int .u32 (x + 1), .int .u32 y]) (F := F) (by simp) (by simp) (by omega) (by kernel_rfl) (hF.low fun j hj => hget_left (hF.lt j hj))
      (fun j hj => by have := hFl j hj; omega) (fun s e => by cases e) hxc (by simp) (by simp) (by rw [hcl]; simp; omega) (by rw [hcl]; simp [maxLen]; omega)
    have r3 : List.range 3 = [0, 1, 2] := rfl
    (refine aw_ops (by kernel_rfl) (fun K hK => ?_); simp (disch := first | omega | (simp only [lnS]; try omega; done)) [-getElem?_pos, -getElem?_neg, q2, q5, q9, hxa, b2', xa, -notTuple, v1, v2, nt_slG, nt_aggG, nt_intG, r3, -xappend, hap]; refine hK _ _ ?_; clear hK K)
    (refine aw_ops (by kernel_rfl) (fun K hK => ?_); simp (disch := first | omega | (simp only [lnS]; try omega; done)) [-getElem?_pos, -getElem?_neg, q9]; refine hK _ _ ?_; clear hK K)
    refine ⟨c - 1, by omega, k + 1, v', _, by omega, ⟨fun j hj => (hk3 j (by simp; omega) (fun h => by have := hFl _ h; omega)).trans ((hget_left (by omega)).trans (lw'.1 j hj)), by rw [hl3]; simp; omega⟩, by (first | (simp [put_at, put_none, fr0_at, q2]; done) | rfl), by (first | (simp [put_at, put_none, fr0_at]; done) | rfl), by (first | (simp [put_at, put_none, fr0_at, q8]; done) | rfl), by (first | (simp [put_at, put_none, fr0_at]; done) | rfl), by rw [hsu, spC_app, hsp]; exact ho3, fun j hj => ?_⟩
    rw [List.mem_singleton] at hj
    rw [hj]
    simp; omega
  · rw [if_neg hlt] at hsu
    (refine aw_ops (by kernel_rfl) (fun K hK => ?_); simp (disch := first | omega | (simp only [lnS]; try omega; done)) [-getElem?_pos, -getElem?_neg, q2, hxa, b2', xa, hlt]; refine hK _ _ ?_; clear hK K)
    refine aw_f (by (first | (simp [eval_tmp, put_at]; done) | (simp [eval_tmp, put_at]; omega))) (by kernel_rfl) ?_
    refine aw_skip ?_
    (refine aw_ops (by kernel_rfl) (fun K hK => ?_); simp (disch := first | omega | (simp only [lnS]; try omega; done)) [-getElem?_pos, -getElem?_neg, q9]; refine hK _ _ ?_; clear hK K)
    exact ⟨c - 1, by omega, k + 1, v, F, by omega, lw', by (first | (simp [put_at, put_none, fr0_at, q2]; done) | rfl), by (first | (simp [put_at, put_none, fr0_at, q5]; done) | rfl), by (first | (simp [put_at, put_none, fr0_at, q8]; done) | rfl), by (first | (simp [put_at, put_none, fr0_at]; done) | rfl), by rw [hsu]; exact hF, hFl⟩
end
section
theorem u64_nn (x : Int) : 0 ≤ IntKind.u64.wrap x := by simp only [IntKind.wrap, IntKind.bits, IntKind.signed]; simp; omega
/-- When an operation is due behind the first nodes. -/
theorem due_eq {l : List NodeD} (h : rightG l = true) {k i w : Nat} (hi : i < l.length) (hk : k ≤ l.length) (hw : (nd l i).op.author = (w : Int)) (h8 : w < 8) :
    Ck.dueB (fnC (clkV (l.take k) (List.range k))) (fnC (clkV l (ofS l i))) (w : Int) = (decide (k ≤ i) && (nd l i).past.all fun z => decide (z < (k : Int))) := by
  have nn : ∀ (L : List NodeD) S, Ck.U32' (fnC (clkV L S)) := fun L S j => by
    unfold fnC
    rw [List.getD_eq_getElem?_getD]
    cases hq : (clkV L S)[j]? with
    | none => simp
    | some x =>
      have := List.mem_of_getElem? hq
      unfold clkV at this
      obtain ⟨w, _, rfl⟩ := List.mem_map.1 this
      simp
  have fh : ∀ v, v < 8 → fnC (clkV (l.take k) (List.range k)) v = (cntL l (List.range k) v : Int) := fun v hv => by rw [fnC_at _ hv, cnt_take k hk]
  have fc : ∀ v, v < 8 → fnC (clkV l (ofS l i)) v = (cntL l (ofS l i) v : Int) := fun v hv => fnC_at _ hv
  have key := due_iff h hi hk hw h8
  have hpast : ((nd l i).past.all fun z => decide (z < (k : Int))) = true ↔ ∀ x ∈ pN l i, x < k := by
    rw [past_pN h hi, List.all_map, List.all_eq_true]
    refine forall_congr' fun x => imp_congr_right fun _ => ?_
    simp
  have h1 : cntL l (ofS l i) w ≥ 1 := by
    unfold ofS
    have := cntL_app (l := l) [i] (pN l i) w
    rw [cntL_one, if_pos hw] at this
    simp only [List.cons_append, List.nil_append] at this
    omega
  rw [Bool.eq_iff_iff, Bool.and_eq_true, decide_eq_true_eq, hpast, ← key]
  unfold Ck.dueB
  rw [if_neg (by omega), Int.toNat_natCast]
  unfold Ck.dueOf
  rw [fc w h8, if_neg (by omega), Bool.and_eq_true, beq_iff_eq, beq_iff_eq, Ck.fl_eq, fh w h8]
  have hd : ∀ j, Ck.dec (fnC (clkV l (ofS l i))) w j = if j = w then fnC (clkV l (ofS l i)) w - 1 else fnC (clkV l (ofS l i)) j := fun j => rfl
  constructor
  · rintro ⟨e1, e2⟩
    refine ⟨by omega, fun v hv hne => ?_⟩
    have := e2 v hv
    rw [Ck.join2_at _ _ (nn _ _), hd v, if_neg hne, fh v hv, fc v hv] at this
    omega
  · rintro ⟨e1, e2⟩
    refine ⟨by omega, fun v hv => ?_⟩
    rw [Ck.join2_at _ _ (nn _ _), hd v, fh v hv]
    by_cases hne : v = w
    · subst hne
      rw [if_pos rfl, fc v hv]
      omega
    · rw [if_neg hne, fc v hv]
      have := e2 v hv hne
      omega
theorem all_lk {l : List NodeD} (h : rightG l = true) {k : Nat} (hk : k ≤ l.length) :
    lkS (clkV (l.take k) (List.range k)) (clkV l (List.range l.length)) (lkJ (clkV (l.take k) (List.range k)) (clkV l (List.range l.length)) 8) = (l.length : Int) - k := by
  have fh : ∀ v, v < 8 → (clkV (l.take k) (List.range k)).getD v 0 = (cntL l (List.range k) v : Int) := fun v hv => by rw [clkV_getD _ hv, cnt_take k hk]
  have fa : ∀ v, v < 8 → (clkV l (List.range l.length)).getD v 0 = (cntL l (List.range l.length) v : Int) := fun v hv => clkV_getD _ hv
  rw [lkS_all _ _ 8 (fun j hj => by
    rw [fh j hj, fa j hj]
    have : cntL l (List.range k) j ≤ cntL l (List.range l.length) j := cntL_sub List.nodup_range j fun x hx _ => by
      rw [List.mem_range] at hx ⊢
      omega
    omega)]
  have s1 := sum_cnt h hk
  have s2 := sum_cnt h (Nat.le_refl l.length)
  have e8 : List.range 8 = [0, 1, 2, 3, 4, 5, 6, 7] := by decide
  rw [e8] at s1 s2 ⊢
  simp only [List.map_cons, List.map_nil, List.sum_cons, List.sum_nil] at s1 s2 ⊢
  rw [fh 0 (by omega), fh 1 (by omega), fh 2 (by omega), fh 3 (by omega), fh 4 (by omega), fh 5 (by omega), fh 6 (by omega), fh 7 (by omega), fa 0 (by omega), fa 1 (by omega), fa 2 (by omega), fa 3 (by omega), fa 4 (by omega), fa 5 (by omega), fa 6 (by omega), fa 7 (by omega)]
  omega
theorem lkS_succ (a b : List Int) {J : List Nat} {t j : Nat} (h : J[t]? = some j) : lkS a b (J.take (t + 1)) = lkS a b (J.take t) + (b.getD j 0 - a.getD j 0) := by
  rw [List.take_add_one, h]
  unfold lkS
  rw [List.map_append, List.sum_append]
  simp
theorem lkJ_mem {a b : List Int} {k j : Nat} (h : j ∈ lkJ a b k) : j < k ∧ a.getD j 0 < b.getD j 0 := by
  unfold lkJ at h
  rw [List.mem_filter, List.mem_range, decide_eq_true_eq] at h
  exact h
theorem u32_at {a : List Int} (ua : ∀ x ∈ a, 0 ≤ x ∧ x ≤ 4294967295) (j : Nat) : 0 ≤ a.getD j 0 ∧ a.getD j 0 ≤ 4294967295 := by
  rw [List.getD_eq_getElem?_getD]
  cases hq : a[j]? with
  | none => simp
  | some x => simpa using ua x (List.mem_of_getElem? hq)
theorem lkS_bd {a b : List Int} (ua : ∀ x ∈ a, 0 ≤ x ∧ x ≤ 4294967295) (ub : ∀ x ∈ b, 0 ≤ x ∧ x ≤ 4294967295) : ∀ J : List Nat, (∀ j ∈ J, a.getD j 0 < b.getD j 0) → 0 ≤ lkS a b J ∧ lkS a b J ≤ 4294967295 * (J.length : Nat) := by
  intro J
  induction J with
  | nil => intro _; simp [lkS]
  | cons x J ih =>
    intro h
    have h1 := h x (by simp)
    have h2 := ih fun j hj => h j (by simp [hj])
    have h3 := u32_at ua x
    have h4 := u32_at ub x
    have e : lkS a b (x :: J) = (b.getD x 0 - a.getD x 0) + lkS a b J := rfl
    rw [e, List.length_cons]
    omega
attribute [local simp] wb_bool wb_undef with_lit XL_nil XL_cons XLc_val XLc_call step1_eq stepW_t stepW_f stepC_n stepC_s stepX_s stepX_n stepN_s calleeX oneV xop_eq xopR_s xopR_n wantedA_eq wantedG_n wantedG_s plain1_int plain1_bool plain1_string bits_i64 bits_u64 bits_u32 bits_u16 bits_u8 xeqA xagg xcmp xarr allK_iv num_iv calleeOf xread xeff xbin xint xnil xun xstr xload xconv xpart xfield xfieldAddr xindexAddr xindex bnd asInt? xslice xlen xmin xmax xbuild xfill xappend xapp2 xappstr xappmk xcap xcopy xcells eval_tmp eval_const put_at put_none fr0_at cells_agg cells_int cells_bool cells_string cells_ptr cells_slice notTuple tab iv_all hget_app hget_app0 hget_cons0 hget_cons set_app set_app0 setR setR_one QL_nil QL_cons QLc_val stepQ_t stepQ_f stepQC_n stepQC_s stepQX_s SL_nil SL_cons SLc_val stepS_t stepS_f ltT ltF leT leF eqT eqF ltTn ltFn leTn leFn eqTn eqFn beqT beqF bneT bneF wi64 wu64 wu32 wu16 wu8 tmodP tdivP hgetL hgetNe hgetEq setL nums_def nums_len Nat.succ_le_of_lt List.getElem?_cons_zero List.getElem?_cons_succ Option.getD_some Int.toNat_add Int.toNat_mul agM okM agB agI agS agP agL agA okB okI okS okP okSl okA
theorem NdV.take_le {H : AH} {v : Value} {l : List NodeD} (h : NdV H v l) (hl : ∀ x ∈ l, x.Wf) (h0 : 0 < l.length) {i : Nat} (hi : i ≤ l.length) : ∃ v', NdA H v' (l.take i) ∧ ∀ G : AH, xslice Try.prog 22 v none (some (.int .i64 (i : Nat))) G = some v' := by
  rcases Nat.lt_or_ge i l.length with hlt | hge
  · exact h.take hl hlt
  obtain rfl : i = l.length := by omega
  rw [List.take_length]
  refine ⟨v, h.nda hl, fun G => ?_⟩
  have hrow : ∀ row ∈ l.map NodeD.row, row.length = 104 := fun row hr => by
    obtain ⟨y, hy, rfl⟩ := List.mem_map.1 hr
    have h1 := (hl y hy).id.1
    have h2 := (hl y hy).op.of.1
    have h3 := (hl y hy).op.check.1
    simp [NodeD.row, OpD.row, kd, h1, h2, h3]
  obtain ⟨j, b, us, hv, hb, hle, hx, hus, hul, hle2, hc, hval⟩ := val_at (P := Try.prog) (t := 22) (e := 50) (sz := 104) h (by simp) (by simp) (by omega) hrow (i := 0) (row := (nd l 0).row) (by rw [List.getElem?_map, nd_get h0]; rfl)
  rw [List.length_map] at hv
  rw [hv]
  unfold xslice
  simp [bnd]
theorem cdue_law {γ : Nat → Option Nat} {H : AH} {ds : List CD} {u : Value} (ho : OkL [.sl nodeK] ds) (hv : ValL H ds [u]) (n at_ : Int) : AC Try.prog H.length γ 15 #[u, .int .i64 n, .int .i64 at_] H (fun v' _ => v' = .bool true) := by
  obtain ⟨l, hV, hw, hm⟩ := nodes_in ho hv
  have hN := hV.nda hw
  obtain ⟨v1, v2⟩ := val_nt hV
  have zc : ∀ (c : List Int), c.length = 8 → setR (iv .u32 (zl 8)) 0 (iv .u32 c) = iv .u32 c := fun c hc => setR_all _ _ (by rw [iv_length, iv_length, hc, zl_length])
  have tz : ∀ (c : List Int), c.length = 8 → (iv .u32 c).take 8 = iv .u32 c := fun c hc => List.take_of_length_le (by rw [iv_length, hc]; omega)
  have gr := greatG_rc (γ := γ) hN
  have rg := graph_right_rc (γ := γ) hN
  have hxl := hN.len
  refine ac_of_aw Try.func15 rfl Try.ntmps15 Try.results15 (by simp) ?_
  refine aw_seq ?_
  (refine aw_ops (by kernel_rfl) (fun K hK => ?_); simp (disch := first | omega | (simp only [lnS]; try omega; done)) [-getElem?_pos, -getElem?_neg]; refine hK _ _ ?_; clear hK K)
  refine aw_seq ?_
  refine aw_seq ?_
  refine aw_ops (by kernel_rfl) (fun K hK => ?_)
  simp (disch := first | omega | (simp only [lnS]; try omega; done)) [-getElem?_pos, -getElem?_neg]
  refine ⟨by kernel_rfl, ac_of_vc (by simp [pv_iv, pv_int, pv_bool, pv_string, pv_tup2, pv_tup3, iv_plain, p2_int, p2_bool, p2_string]) calive_vc ?_⟩
  try simp (disch := first | omega | (simp only [lnS]; try omega; done)) [-getElem?_pos, -getElem?_neg]
  refine hK _ _ ?_; clear hK K
  refine aw_f (by (first | (simp [eval_tmp, put_at]; done) | (simp [eval_tmp, put_at]; omega))) (by kernel_rfl) ?_
  refine aw_skip ?_
  refine aw_seq ?_
  refine aw_seq ?_
  refine aw_cut (fun α G => α 37 = .bool (greatG l || (!rightG l || !isP l at_)) ∧ α 0 = u ∧ α 1 = .int .i64 n ∧ α 2 = .int .i64 at_ ∧ G = H) ?_ ?_
  · refine aw_ops (by kernel_rfl) (fun K hK => ?_)
    simp (disch := first | omega | (simp only [lnS]; try omega; done)) [-getElem?_pos, -getElem?_neg, -notTuple, v1, v2, nt_intG]
    refine ⟨by kernel_rfl, ac_of_rc gr (by simp [pv_iv, pv_int, pv_bool, pv_string, pv_tup2, pv_tup3, iv_plain, p2_int, p2_bool, p2_string]) ?_⟩
    cases hg : greatG l with
    | true =>
      simp (disch := first | omega | (simp only [lnS]; try omega; done)) [-getElem?_pos, -getElem?_neg, hg]
      refine hK _ _ ?_; clear hK K
      exact ⟨by (first | (simp [put_at, put_none, fr0_at, hg]; done) | rfl), by (first | (simp [put_at, put_none, fr0_at]; done) | rfl), by (first | (simp [put_at, put_none, fr0_at]; done) | rfl), by (first | (simp [put_at, put_none, fr0_at]; done) | rfl), rfl⟩
    | false =>
      simp (disch := first | omega | (simp only [lnS]; try omega; done)) [-getElem?_pos, -getElem?_neg, -notTuple, v1, v2, nt_intG, hg]
      refine ⟨by kernel_rfl, ac_of_rc rg (by simp [pv_iv, pv_int, pv_bool, pv_string, pv_tup2, pv_tup3, iv_plain, p2_int, p2_bool, p2_string]) ?_⟩
      cases h3 : rightG l with
      | false =>
        simp (disch := first | omega | (simp only [lnS]; try omega; done)) [-getElem?_pos, -getElem?_neg, h3]
        refine hK _ _ ?_; clear hK K
        exact ⟨by (first | (simp [put_at, put_none, fr0_at, hg, h3]; done) | rfl), by (first | (simp [put_at, put_none, fr0_at]; done) | rfl), by (first | (simp [put_at, put_none, fr0_at]; done) | rfl), by (first | (simp [put_at, put_none, fr0_at]; done) | rfl), rfl⟩
      | true =>
        by_cases b0 : at_ < 0
        · have ep : isP l at_ = false := by unfold isP; simp; omega
          simp (disch := first | omega | (simp only [lnS]; try omega; done)) [-getElem?_pos, -getElem?_neg, h3, -notTuple, v1, v2, nt_intG, -xlen, hxl, b0]
          refine hK _ _ ?_; clear hK K
          exact ⟨by (first | (simp [put_at, put_none, fr0_at, hg, h3, ep]; done) | rfl), by (first | (simp [put_at, put_none, fr0_at]; done) | rfl), by (first | (simp [put_at, put_none, fr0_at]; done) | rfl), by (first | (simp [put_at, put_none, fr0_at]; done) | rfl), rfl⟩
        by_cases b1 : (l.length : Int) ≤ at_
        · have ep : isP l at_ = false := by unfold isP; simp; omega
          simp (disch := first | omega | (simp only [lnS]; try omega; done)) [-getElem?_pos, -getElem?_neg, h3, -notTuple, v1, v2, nt_intG, -xlen, hxl, b0, b1]
          refine hK _ _ ?_; clear hK K
          exact ⟨by (first | (simp [put_at, put_none, fr0_at, hg, h3, ep]; done) | rfl), by (first | (simp [put_at, put_none, fr0_at]; done) | rfl), by (first | (simp [put_at, put_none, fr0_at]; done) | rfl), by (first | (simp [put_at, put_none, fr0_at]; done) | rfl), rfl⟩
        have ep2 : isP l at_ = true := by unfold isP; simp; omega
        simp (disch := first | omega | (simp only [lnS]; try omega; done)) [-getElem?_pos, -getElem?_neg, h3, -notTuple, v1, v2, nt_intG, -xlen, hxl, b0, b1]
        refine hK _ _ ?_; clear hK K
        exact ⟨by (first | (simp [put_at, put_none, fr0_at, hg, h3, ep2]; done) | rfl), by (first | (simp [put_at, put_none, fr0_at]; done) | rfl), by (first | (simp [put_at, put_none, fr0_at]; done) | rfl), by (first | (simp [put_at, put_none, fr0_at]; done) | rfl), rfl⟩
  rintro α G ⟨q37, q0, q1, q2, rfl⟩
  cases hb : (greatG l || (!rightG l || !isP l at_)) with
  | true =>
    rw [hb] at q37
    refine aw_t (by (first | (simp [eval_tmp, put_at, q37]; done) | (simp [eval_tmp, put_at, q37]; omega))) (by kernel_rfl) ?_
    refine aw_seq ?_
    refine aw_ops (by kernel_rfl) (fun K hK => ?_)
    simp (disch := first | omega | (simp only [lnS]; try omega; done)) [-getElem?_pos, -getElem?_neg]
    refine ⟨by kernel_rfl, ac_of_vc (by simp [pv_iv, pv_int, pv_bool, pv_string, pv_tup2, pv_tup3, iv_plain, p2_int, p2_bool, p2_string]) calive_vc ?_⟩
    try simp (disch := first | omega | (simp only [lnS]; try omega; done)) [-getElem?_pos, -getElem?_neg]
    refine hK _ _ ?_; clear hK K
    (refine aw_ret ?_; simp (disch := first | omega | (simp only [lnS]; try omega; done)) [-getElem?_pos, -getElem?_neg, thenQ_ret, scopeQ_ret, inBlockQ_ret, RQ, resL, resV])
  | false =>
  rw [hb] at q37
  refine aw_f (by (first | (simp [eval_tmp, put_at, q37]; done) | (simp [eval_tmp, put_at, q37]; omega))) (by kernel_rfl) ?_
  refine aw_skip ?_
  simp only [Bool.or_eq_false_iff, Bool.not_eq_false'] at hb
  obtain ⟨hg, h3, hpa⟩ := hb
  obtain ⟨i, rfl, hi⟩ := isP_nat hpa
  have hl96 := rightG_len h3
  obtain ⟨U, hU⟩ : ∃ U, IntKind.u64.wrap n = U := ⟨_, rfl⟩
  have hU0 : 0 ≤ U := hU ▸ u64_nn n
  obtain ⟨k, hk⟩ : ∃ k : Nat, U % ((l.length : Int) + 1) = (k : Int) := ⟨(U % ((l.length : Int) + 1)).toNat, by have := Int.emod_nonneg U (b := (l.length : Int) + 1) (by omega); omega⟩
  have hkl : k ≤ l.length := by have := Int.emod_lt_of_pos U (b := (l.length : Int) + 1) (by omega); omega
  refine aw_seq ?_
  (refine aw_ops (by kernel_rfl) (fun K hK => ?_); simp (disch := first | omega | (simp only [lnS]; try omega; done)) [-getElem?_pos, -getElem?_neg, q0, q1, -notTuple, v1, v2, nt_intG, -xlen, hxl, hU, hk]; refine hK _ _ ?_; clear hK K)
  obtain ⟨u2, hN2, hsl⟩ := hV.take_le hw (by omega) hkl
  have hsl := fun G => hsl G
  obtain ⟨w1, w2⟩ : notTuple u2 = true ∧ u2.cells = #[u2] := ⟨hN2.nt, hN2.cs⟩
  have hrk := rightG_take h3 k
  have hlt : (l.take k).length = k := by rw [List.length_take]; omega
  have ea : allC (l.take k) = clkV (l.take k) (List.range k) := by simp [allC, hrk, hlt]
  have ec : allC l = clkV l (List.range l.length) := by simp [allC, h3]
  have eb : ofC l i = clkV l (ofS l i) := by simp [ofC, h3, hpa]
  have e4 : ofE l i = 0 := by simp [ofE, h3, hpa]
  have lA := clkV_len (l := l.take k) (List.range k)
  have lB := clkV_len (l := l) (ofS l i)
  have lC := clkV_len (l := l) (List.range l.length)
  have uA := clk_u32 (l := l.take k) (S := List.range k) (by rw [List.length_range]; omega)
  have uB := clk_u32 (l := l) (S := ofS l i) (by have := ofS_length (l := l) i; omega)
  have uC := clk_u32 (l := l) (S := List.range l.length) (by rw [List.length_range]; omega)
  obtain ⟨w, hw', h8⟩ := author_nat h3 hi
  have de := due_eq h3 hi hkl hw' h8
  have lk := all_lk h3 hkl
  obtain ⟨A, hA⟩ : ∃ A, A = clkV (l.take k) (List.range k) := ⟨_, rfl⟩
  obtain ⟨B, hB⟩ : ∃ B, B = clkV l (ofS l i) := ⟨_, rfl⟩
  obtain ⟨C, hC⟩ : ∃ C, C = clkV l (List.range l.length) := ⟨_, rfl⟩
  rw [← hA] at ea lA uA de lk
  rw [← hB] at eb lB uB de
  rw [← hC] at ec lC uC lk
  clear hA hB hC
  have dv := due_vc lA lB uB (w : Int)
  rw [de] at dv
  have sA := zc A lA
  have sB := zc B lB
  have sC := zc C lC
  have tA := tz A lA
  have tB := tz B lB
  have tC := tz C lC
  have c1 := clkAll_rc (γ := γ) hN2
  rw [ea, hrk, if_pos rfl] at c1
  refine aw_seq ?_
  refine aw_ops (by kernel_rfl) (fun K hK => ?_)
  simp (disch := first | omega | (simp only [lnS]; try omega; done)) [-getElem?_pos, -getElem?_neg, q0, -notTuple, v1, v2, w1, w2, nt_intG, -xslice, hsl]
  refine ⟨by kernel_rfl, ac_of_rc c1 (by simp [pv_iv, pv_int, pv_bool, pv_string, pv_tup2, pv_tup3, iv_plain, p2_int, p2_bool, p2_string]) ?_⟩
  try simp (disch := first | omega | (simp only [lnS]; try omega; done)) [-getElem?_pos, -getElem?_neg, sA, lA]
  refine hK _ _ ?_; clear hK K
  obtain ⟨n0, hn⟩ : ∃ n0, n0 = G.length := ⟨_, rfl⟩
  obtain ⟨lw, b8⟩ := boxed (H := G) (iv .u32 A) 79
  generalize G ++ [some ⟨iv .u32 A, 79, none⟩] = G1 at *
  have c2 := clkOf_rc (γ := γ) (hN.lowG lw) (i : Int)
  rw [eb, e4] at c2
  have hle0 := lw.2
  refine aw_seq ?_
  refine aw_ops (by kernel_rfl) (fun K hK => ?_)
  simp (disch := first | omega | (simp only [lnS]; try omega; done)) [-getElem?_pos, -getElem?_neg, q0, q2, -notTuple, v1, v2, nt_intG]
  refine ⟨by kernel_rfl, ac_of_rc c2 (by simp [pv_iv, pv_int, pv_bool, pv_string, pv_tup2, pv_tup3, iv_plain, p2_int, p2_bool, p2_string]) ?_⟩
  try simp (disch := first | omega | (simp only [lnS]; try omega; done)) [-getElem?_pos, -getElem?_neg, sB, lB]
  refine hK _ _ ?_; clear hK K
  obtain ⟨lw2, b10⟩ := boxed (H := G1) (iv .u32 B) 79
  obtain ⟨m, hm'⟩ : ∃ m, m = G1.length := ⟨_, rfl⟩
  have g8 := hget_lt b8
  have b8 := (lw2.1 _ g8).trans b8
  have lw3 : Low G.length G (G1 ++ [some ⟨iv .u32 B, 79, none⟩]) := ⟨fun j hj => (lw2.1 j (by omega)).trans (lw.1 j hj), by have := lw2.2; have := lw.2; omega⟩
  rw [← hm'] at b10 g8 ⊢
  generalize G1 ++ [some ⟨iv .u32 B, 79, none⟩] = G2 at *
  have c3 := clkAll_rc (γ := γ) (hN.lowG lw3)
  rw [ec, h3, if_pos rfl] at c3
  have hle1 := lw3.2
  refine aw_seq ?_
  refine aw_ops (by kernel_rfl) (fun K hK => ?_)
  simp (disch := first | omega | (simp only [lnS]; try omega; done)) [-getElem?_pos, -getElem?_neg, q0, -notTuple, v1, v2, nt_intG]
  refine ⟨by kernel_rfl, ac_of_rc c3 (by simp [pv_iv, pv_int, pv_bool, pv_string, pv_tup2, pv_tup3, iv_plain, p2_int, p2_bool, p2_string]) ?_⟩
  try simp (disch := first | omega | (simp only [lnS]; try omega; done)) [-getElem?_pos, -getElem?_neg, sC, lC]
  refine hK _ _ ?_; clear hK K
  obtain ⟨lw4, b12⟩ := boxed (H := G2) (iv .u32 C) 79
  obtain ⟨m2, hm2⟩ : ∃ m2, m2 = G2.length := ⟨_, rfl⟩
  have g8 := hget_lt b8
  have g10 := hget_lt b10
  have b8 := (lw4.1 _ g8).trans b8
  have b10 := (lw4.1 _ g10).trans b10
  have lw5 : Low G.length G (G2 ++ [some ⟨iv .u32 C, 79, none⟩]) := ⟨fun j hj => (lw4.1 j (by omega)).trans (lw3.1 j hj), by have := lw4.2; have := lw3.2; omega⟩
  rw [← hm2] at b12 ⊢
  generalize G2 ++ [some ⟨iv .u32 C, 79, none⟩] = G3 at *
  rw [← hn] at b8 lw5 ⊢
  have g8 := hget_lt b8
  have g10 := hget_lt b10
  have g12 := hget_lt b12
  have hNG := hN.lowG (hn ▸ lw5)
  clear lw lw2 lw3 lw4 c1 c2 c3 gr rg hle0 hle1
  refine aw_seq ?_
  refine aw_cut (fun α G => α 14 = .bool (decide (k ≤ i)) ∧ (α 0 = u ∧ α 2 = .int .i64 (i : Nat) ∧ α 7 = .int .i64 (k : Nat) ∧ α 8 = .pointer (some ⟨n0, 0, none⟩) ∧ α 9 = .int .i64 0 ∧ α 10 = .pointer (some ⟨m, 0, none⟩) ∧ α 11 = .int .i64 0 ∧ α 12 = .pointer (some ⟨m2, 0, none⟩) ∧ α 13 = .int .i64 0) ∧ G3 = G) ?_ ?_
  · by_cases hki : k ≤ i
    · (refine aw_ops (by kernel_rfl) (fun K hK => ?_); simp (disch := first | omega | (simp only [lnS]; try omega; done)) [-getElem?_pos, -getElem?_neg, q2, hki]; refine hK _ _ ?_; clear hK K)
      exact ⟨by (first | (simp [put_at, put_none, fr0_at, hki]; done) | rfl), ⟨by (first | (simp [put_at, put_none, fr0_at, q0]; done) | rfl), by (first | (simp [put_at, put_none, fr0_at, q2]; done) | rfl), by (first | (simp [put_at, put_none, fr0_at]; done) | rfl), by (first | (simp [put_at, put_none, fr0_at]; done) | rfl), by (first | (simp [put_at, put_none, fr0_at]; done) | rfl), by (first | (simp [put_at, put_none, fr0_at]; done) | rfl), by (first | (simp [put_at, put_none, fr0_at]; done) | rfl), by (first | (simp [put_at, put_none, fr0_at]; done) | rfl), by (first | (simp [put_at, put_none, fr0_at]; done) | rfl)⟩, rfl⟩
    · (refine aw_ops (by kernel_rfl) (fun K hK => ?_); simp (disch := first | omega | (simp only [lnS]; try omega; done)) [-getElem?_pos, -getElem?_neg, q2, hki]; refine hK _ _ ?_; clear hK K)
      exact ⟨by (first | (simp [put_at, put_none, fr0_at, hki]; done) | rfl), ⟨by (first | (simp [put_at, put_none, fr0_at, q0]; done) | rfl), by (first | (simp [put_at, put_none, fr0_at, q2]; done) | rfl), by (first | (simp [put_at, put_none, fr0_at]; done) | rfl), by (first | (simp [put_at, put_none, fr0_at]; done) | rfl), by (first | (simp [put_at, put_none, fr0_at]; done) | rfl), by (first | (simp [put_at, put_none, fr0_at]; done) | rfl), by (first | (simp [put_at, put_none, fr0_at]; done) | rfl), by (first | (simp [put_at, put_none, fr0_at]; done) | rfl), by (first | (simp [put_at, put_none, fr0_at]; done) | rfl)⟩, rfl⟩
  clear q0 q1 q2 q37
  rintro α _ ⟨q14, ⟨q0, q2, q7, q8, q9, q10, q11, q12, q13⟩, rfl⟩
  obtain ⟨j', q', bb', pq, px, pb, pc, pI, pml, p1, p2⟩ := hN.past_at (hn ▸ lw5) hi
  have pacc := pI.acc
  have pxl := pacc.len
  have hpl := past_len h3 hi
  refine aw_seq ?_
  refine aw_seq ?_
  (refine aw_ops (by kernel_rfl) (fun K hK => ?_); simp (disch := first | omega | (simp only [lnS]; try omega; done)) [-getElem?_pos, -getElem?_neg]; refine hK _ _ ?_; clear hK K)
  refine aw_block ?_
  refine aw_loop (fun c α G' => ∃ t : Nat, t + c = (nd l i).past.length ∧ α 14 = .bool (decide (k ≤ i) && ((nd l i).past.take t).all fun z => decide (z < (k : Int))) ∧ α 15 = .int .i64 (t : Nat) ∧ (α 0 = u ∧ α 2 = .int .i64 (i : Nat) ∧ α 7 = .int .i64 (k : Nat) ∧ α 8 = .pointer (some ⟨n0, 0, none⟩) ∧ α 9 = .int .i64 0 ∧ α 10 = .pointer (some ⟨m, 0, none⟩) ∧ α 11 = .int .i64 0 ∧ α 12 = .pointer (some ⟨m2, 0, none⟩) ∧ α 13 = .int .i64 0) ∧ G3 = G') (nd l i).past.length ?_ ?_
  · exact ⟨0, by omega, by (first | (simp [put_at, put_none, fr0_at, q14]; done) | rfl), by (first | (simp [put_at, put_none, fr0_at]; done) | rfl), ⟨by (first | (simp [put_at, put_none, fr0_at, q0]; done) | rfl), by (first | (simp [put_at, put_none, fr0_at, q2]; done) | rfl), by (first | (simp [put_at, put_none, fr0_at, q7]; done) | rfl), by (first | (simp [put_at, put_none, fr0_at, q8]; done) | rfl), by (first | (simp [put_at, put_none, fr0_at, q9]; done) | rfl), by (first | (simp [put_at, put_none, fr0_at, q10]; done) | rfl), by (first | (simp [put_at, put_none, fr0_at, q11]; done) | rfl), by (first | (simp [put_at, put_none, fr0_at, q12]; done) | rfl), by (first | (simp [put_at, put_none, fr0_at, q13]; done) | rfl)⟩, rfl⟩
  clear q0 q2 q7 q8 q9 q10 q11 q12 q13 q14
  rintro c α _ ⟨t, htc, q14, q15, ⟨q0, q2, q7, q8, q9, q10, q11, q12, q13⟩, rfl⟩
  refine aw_seq ?_
  refine aw_seq ?_
  by_cases ht : t < (nd l i).past.length
  case pos =>
    obtain ⟨p, x, r1, r2, r3, r4, r5⟩ := pacc.at_ t ht
    have r5 := r5 G3 (hn ▸ lw5)
    subst r4
    obtain ⟨z, hz⟩ : ∃ z, z = (nd l i).past.getD t 0 := ⟨_, rfl⟩
    have hzt : (nd l i).past[t]? = some z := by rw [hz, List.getD_eq_getElem?_getD, List.getElem?_eq_getElem ht]; rfl
    have hta : ((nd l i).past.take (t + 1)).all (fun z => decide (z < (k : Int))) = (((nd l i).past.take t).all (fun z => decide (z < (k : Int))) && decide (z < (k : Int))) := by
      rw [List.take_add_one, hzt, List.all_append]
      simp
    rw [← hz] at r5 r3
    have xl1 : xload Try.prog 23 (.pointer (some ⟨j', q' + 103, none⟩)) G3 = some pq := by simp [xload, pb, pc]
    (refine aw_ops (by kernel_rfl) (fun K hK => ?_); simp (disch := first | omega | (simp only [lnS]; try omega; done)) [-getElem?_pos, -getElem?_neg, q0, q2, q15, -notTuple, v1, v2, nt_intG, -xindexAddr, px, pb, pc, p1, p2, -xlen, pxl, ht]; refine hK _ _ ?_; clear hK K)
    refine aw_t (by (first | (simp [eval_tmp, put_at, ht]; done) | (simp [eval_tmp, put_at, ht]; omega))) (by kernel_rfl) ?_
    refine aw_skip ?_
    refine aw_seq ?_
    refine aw_block ?_
    cases hcur : (decide (k ≤ i) && ((nd l i).past.take t).all fun z => decide (z < (k : Int))) with
    | false =>
      rw [hcur] at q14
      (refine aw_ops (by kernel_rfl) (fun K hK => ?_); simp (disch := first | omega | (simp only [lnS]; try omega; done)) [-getElem?_pos, -getElem?_neg, q14]; refine hK _ _ ?_; clear hK K)
      (refine aw_ops (by kernel_rfl) (fun K hK => ?_); simp (disch := first | omega | (simp only [lnS]; try omega; done)) [-getElem?_pos, -getElem?_neg, q15]; refine hK _ _ ?_; clear hK K)
      exact ⟨c - 1, by omega, t + 1, by omega, by rw [hta, ← Bool.and_assoc, hcur]; (first | (simp [put_at, put_none, fr0_at]; done) | rfl), by (first | (simp [put_at, put_none, fr0_at]; done) | rfl), ⟨by (first | (simp [put_at, put_none, fr0_at, q0]; done) | rfl), by (first | (simp [put_at, put_none, fr0_at, q2]; done) | rfl), by (first | (simp [put_at, put_none, fr0_at, q7]; done) | rfl), by (first | (simp [put_at, put_none, fr0_at, q8]; done) | rfl), by (first | (simp [put_at, put_none, fr0_at, q9]; done) | rfl), by (first | (simp [put_at, put_none, fr0_at, q10]; done) | rfl), by (first | (simp [put_at, put_none, fr0_at, q11]; done) | rfl), by (first | (simp [put_at, put_none, fr0_at, q12]; done) | rfl), by (first | (simp [put_at, put_none, fr0_at, q13]; done) | rfl)⟩, rfl⟩
    | true =>
      rw [hcur] at q14
      by_cases hzk : z < (k : Int)
      · (refine aw_ops (by kernel_rfl) (fun K hK => ?_); simp (disch := first | omega | (simp only [lnS]; try omega; done)) [-getElem?_pos, -getElem?_neg, q0, q2, q7, q14, q15, -notTuple, v1, v2, nt_intG, -xindexAddr, px, r2, -xload, xl1, r5, p1, p2, r1, hzk]; refine hK _ _ ?_; clear hK K)
        (refine aw_ops (by kernel_rfl) (fun K hK => ?_); simp (disch := first | omega | (simp only [lnS]; try omega; done)) [-getElem?_pos, -getElem?_neg, q15]; refine hK _ _ ?_; clear hK K)
        exact ⟨c - 1, by omega, t + 1, by omega, by rw [hta, ← Bool.and_assoc, hcur, decide_eq_true hzk]; (first | (simp [put_at, put_none, fr0_at]; done) | rfl), by (first | (simp [put_at, put_none, fr0_at]; done) | rfl), ⟨by (first | (simp [put_at, put_none, fr0_at, q0]; done) | rfl), by (first | (simp [put_at, put_none, fr0_at, q2]; done) | rfl), by (first | (simp [put_at, put_none, fr0_at, q7]; done) | rfl), by (first | (simp [put_at, put_none, fr0_at, q8]; done) | rfl), by (first | (simp [put_at, put_none, fr0_at, q9]; done) | rfl), by (first | (simp [put_at, put_none, fr0_at, q10]; done) | rfl), by (first | (simp [put_at, put_none, fr0_at, q11]; done) | rfl), by (first | (simp [put_at, put_none, fr0_at, q12]; done) | rfl), by (first | (simp [put_at, put_none, fr0_at, q13]; done) | rfl)⟩, rfl⟩
      · (refine aw_ops (by kernel_rfl) (fun K hK => ?_); simp (disch := first | omega | (simp only [lnS]; try omega; done)) [-getElem?_pos, -getElem?_neg, q0, q2, q7, q14, q15, -notTuple, v1, v2, nt_intG, -xindexAddr, px, r2, -xload, xl1, r5, p1, p2, r1, hzk]; refine hK _ _ ?_; clear hK K)
        (refine aw_ops (by kernel_rfl) (fun K hK => ?_); simp (disch := first | omega | (simp only [lnS]; try omega; done)) [-getElem?_pos, -getElem?_neg, q15]; refine hK _ _ ?_; clear hK K)
        exact ⟨c - 1, by omega, t + 1, by omega, by rw [hta, ← Bool.and_assoc, hcur, decide_eq_false hzk]; (first | (simp [put_at, put_none, fr0_at]; done) | rfl), by (first | (simp [put_at, put_none, fr0_at]; done) | rfl), ⟨by (first | (simp [put_at, put_none, fr0_at, q0]; done) | rfl), by (first | (simp [put_at, put_none, fr0_at, q2]; done) | rfl), by (first | (simp [put_at, put_none, fr0_at, q7]; done) | rfl), by (first | (simp [put_at, put_none, fr0_at, q8]; done) | rfl), by (first | (simp [put_at, put_none, fr0_at, q9]; done) | rfl), by (first | (simp [put_at, put_none, fr0_at, q10]; done) | rfl), by (first | (simp [put_at, put_none, fr0_at, q11]; done) | rfl), by (first | (simp [put_at, put_none, fr0_at, q12]; done) | rfl), by (first | (simp [put_at, put_none, fr0_at, q13]; done) | rfl)⟩, rfl⟩
  case neg =>
    obtain rfl : t = (nd l i).past.length := by omega
    rw [List.take_length] at q14
    obtain ⟨B0, hB0⟩ : ∃ B0, B0 = (decide (k ≤ i) && (nd l i).past.all fun z => decide (z < (k : Int))) := ⟨_, rfl⟩
    rw [← hB0] at q14 dv
    (refine aw_ops (by kernel_rfl) (fun K hK => ?_); simp (disch := first | omega | (simp only [lnS]; try omega; done)) [-getElem?_pos, -getElem?_neg, q0, q2, q15, -notTuple, v1, v2, nt_intG, -xindexAddr, px, pb, pc, p1, p2, -xlen, pxl, ht]; refine hK _ _ ?_; clear hK K)
    refine aw_f (by (first | (simp [eval_tmp, put_at, ht]; done) | (simp [eval_tmp, put_at, ht]; omega))) (by kernel_rfl) ?_
    refine aw_exit ?_
    refine aw_seq ?_
    (refine aw_ops (by kernel_rfl) (fun K hK => ?_); simp (disch := first | omega | (simp only [lnS]; try omega; done)) [-getElem?_pos, -getElem?_neg]; refine hK _ _ ?_; clear hK K)
    have hle5 := lw5.2
    have lac := lacks_rc (γ := γ) (nro := n0) (H := G3) lA lC uA uC (by omega)
    refine aw_seq ?_
    refine aw_ops (by kernel_rfl) (fun K hK => ?_)
    simp (disch := first | omega | (simp only [lnS]; try omega; done)) [-getElem?_pos, -getElem?_neg, q8, q12, b8, b12, tA, tC, lA, lC, nt_aggG]
    refine ⟨by kernel_rfl, lac.mono ?_⟩
    rintro sv G4 ⟨lw6, F, hF, hFl⟩
    obtain ⟨s1, s2⟩ := own_nt hF
    try simp (disch := first | omega | (simp only [lnS]; try omega; done)) [-getElem?_pos, -getElem?_neg, -notTuple, s1, s2]
    refine hK _ _ ?_; clear hK K
    have hJm : ∀ j ∈ lkJ A C 8, A.getD j 0 < C.getD j 0 := fun j hj => (lkJ_mem hj).2
    have hJl := lkJ_le A C 8
    have hcl := spC_len A C (lkJ A C 8)
    obtain ⟨J, hJ⟩ : ∃ J, J = lkJ A C 8 := ⟨_, rfl⟩
    rw [← hJ] at hF hJm hJl hcl lk
    have sxl := hF.len (P := Try.prog) (t := 86) (by simp) (n := J.length) hcl (by omega)
    have b8' := (lw6.1 n0 (by omega)).trans b8
    have b10' := (lw6.1 m (by omega)).trans b10
    have hNG4 := hNG.lowG lw6
    have hG4 := lw6.2
    refine aw_seq ?_
    refine aw_seq ?_
    (refine aw_ops (by kernel_rfl) (fun K hK => ?_); simp (disch := first | omega | (simp only [lnS]; try omega; done)) [-getElem?_pos, -getElem?_neg]; refine hK _ _ ?_; clear hK K)
    refine aw_block ?_
    refine aw_loop (fun c α G' => ∃ t : Nat, t + c = J.length ∧ α 14 = .bool B0 ∧ α 16 = .int .i64 (lkS A C (J.take t)) ∧ α 17 = sv ∧ α 18 = .int .i64 (t : Nat) ∧ (α 0 = u ∧ α 2 = .int .i64 (i : Nat) ∧ α 7 = .int .i64 (k : Nat) ∧ α 8 = .pointer (some ⟨n0, 0, none⟩) ∧ α 9 = .int .i64 0 ∧ α 10 = .pointer (some ⟨m, 0, none⟩) ∧ α 11 = .int .i64 0 ∧ α 13 = .int .i64 0) ∧ G4 = G') J.length ?_ ?_
    · exact ⟨0, by omega, by (first | (simp [put_at, put_none, fr0_at, q14]; done) | rfl), by show _ = Value.int .i64 0; (first | (simp [put_at, put_none, fr0_at]; done) | rfl), by (first | (simp [put_at, put_none, fr0_at]; done) | rfl), by (first | (simp [put_at, put_none, fr0_at]; done) | rfl), ⟨by (first | (simp [put_at, put_none, fr0_at, q0]; done) | rfl), by (first | (simp [put_at, put_none, fr0_at, q2]; done) | rfl), by (first | (simp [put_at, put_none, fr0_at, q7]; done) | rfl), by (first | (simp [put_at, put_none, fr0_at, q8]; done) | rfl), by (first | (simp [put_at, put_none, fr0_at, q9]; done) | rfl), by (first | (simp [put_at, put_none, fr0_at, q10]; done) | rfl), by (first | (simp [put_at, put_none, fr0_at, q11]; done) | rfl), by (first | (simp [put_at, put_none, fr0_at, q13]; done) | rfl)⟩, rfl⟩
    clear q0 q2 q7 q8 q9 q10 q11 q12 q13 q14 q15
    rintro c α _ ⟨t, htc, q14, q16, q17, q18, ⟨q0, q2, q7, q8, q9, q10, q11, q13⟩, rfl⟩
    refine aw_seq ?_
    refine aw_seq ?_
    by_cases ht : t < J.length
    case pos =>
      obtain ⟨j, hj⟩ : ∃ j, J[t]? = some j := ⟨_, List.getElem?_eq_getElem ht⟩
      have hjm := hJm j (List.mem_of_getElem? hj)
      have c1 := spC_get A C hj (c := 1) (by omega)
      have c2 := spC_get A C hj (c := 2) (by omega)
      have d1 : (spR A C j)[1]? = some (.int .u32 (A.getD j 0 + 1)) := rfl
      have d2 : (spR A C j)[2]? = some (.int .u32 (C.getD j 0)) := rfl
      rw [d1] at c1
      rw [d2] at c2
      have u1 := u32_at uA j
      have u2' := u32_at uC j
      have hsu := lkS_succ A C hj
      have hbd := lkS_bd uA uC (J.take t) (fun j hj => hJm j (List.mem_of_mem_take hj))
      have htl : (J.take t).length ≤ 8 := by rw [List.length_take]; omega
      obtain ⟨S, hS⟩ : ∃ S, S = lkS A C (J.take t) := ⟨_, rfl⟩
      rw [← hS] at q16 hsu hbd
      obtain ⟨x, hx⟩ : ∃ x, x = A.getD j 0 := ⟨_, rfl⟩
      obtain ⟨y, hy⟩ : ∃ y, y = C.getD j 0 := ⟨_, rfl⟩
      rw [← hx] at c1 hsu hjm u1
      rw [← hy] at c2 hsu hjm u2'
      rcases hF with ⟨_, hn0, _⟩ | ⟨jb, len, rfl, hb, hbl, rfl⟩
      · rw [hn0] at hcl
        simp at hcl
        omega
      obtain rfl : len = J.length := by omega
      obtain ⟨cells, hce⟩ : ∃ cells, cells = spC A C J := ⟨_, rfl⟩
      rw [← hce] at c1 c2 hb hcl
      (refine aw_ops (by kernel_rfl) (fun K hK => ?_); simp (disch := first | omega | (simp only [lnS]; try omega; done)) [-getElem?_pos, -getElem?_neg, q17, q18, ht]; refine hK _ _ ?_; clear hK K)
      refine aw_t (by (first | (simp [eval_tmp, put_at, ht]; done) | (simp [eval_tmp, put_at, ht]; omega))) (by kernel_rfl) ?_
      refine aw_skip ?_
      refine aw_seq ?_
      refine aw_block ?_
      (refine aw_plan [] [] [0, 1, 2, 3, 4, 5, 6, 7, 8, 9, 10, 11, 12, 13, 14, 15] 16 0 (by kernel_rfl) (by kernel_rfl) (by kernel_rfl) (fun K hK => ?_)); simp only [sel, List.getElem?_cons_succ, List.getElem?_cons_zero, List.drop_succ_cons, List.drop_zero]; simp (disch := first | omega | (simp only [lnS]; try omega; done)) [-getElem?_pos, -getElem?_neg, q16, q17, q18, ht, hb, c1, c2, hcl, nt_slG, nt_intG, nt_ptrG, PL_nil, plainB_lit, PL_cons, PLc_val, PLc_new, stepP_t, stepP_f, stepPC_n, stepPC_s, stepPX_s, stepPX_n, stepPV_n, stepPV_s, stepPA_t, stepPA_c, stepPA_l, stepPN_s, allocOp, reloc_sl, reloc_ptr, List.map_cons, List.map_nil, List.nil_append, List.append_assoc, List.cons_append, Nat.add_assoc]
      refine hK _ _ ?_; clear hK K
      (refine aw_ops (by kernel_rfl) (fun K hK => ?_); simp (disch := first | omega | (simp only [lnS]; try omega; done)) [-getElem?_pos, -getElem?_neg, q18]; refine hK _ _ ?_; clear hK K)
      exact ⟨c - 1, by omega, t + 1, by omega, by (first | (simp [put_at, put_none, fr0_at, q14]; done) | rfl), by rw [hsu]; simp [put_at, put_none]; omega, by (first | (simp [put_at, put_none, fr0_at, q17]; done) | rfl), by (first | (simp [put_at, put_none, fr0_at]; done) | rfl), ⟨by (first | (simp [put_at, put_none, fr0_at, q0]; done) | rfl), by (first | (simp [put_at, put_none, fr0_at, q2]; done) | rfl), by (first | (simp [put_at, put_none, fr0_at, q7]; done) | rfl), by (first | (simp [put_at, put_none, fr0_at, q8]; done) | rfl), by (first | (simp [put_at, put_none, fr0_at, q9]; done) | rfl), by (first | (simp [put_at, put_none, fr0_at, q10]; done) | rfl), by (first | (simp [put_at, put_none, fr0_at, q11]; done) | rfl), by (first | (simp [put_at, put_none, fr0_at, q13]; done) | rfl)⟩, rfl⟩
    case neg =>
      obtain rfl : t = J.length := by omega
      rw [List.take_length, lk] at q16
      (refine aw_ops (by kernel_rfl) (fun K hK => ?_); simp (disch := first | omega | (simp only [lnS]; try omega; done)) [-getElem?_pos, -getElem?_neg, q17, q18, ht, -notTuple, s1, s2, -xlen, sxl, nt_intG]; refine hK _ _ ?_; clear hK K)
      refine aw_f (by (first | (simp [eval_tmp, put_at, ht]; done) | (simp [eval_tmp, put_at, ht]; omega))) (by kernel_rfl) ?_
      refine aw_exit ?_
      refine aw_seq ?_
      have hao := hNG4.author_at (Low.refl (Nat.le_refl _)) hi
      obtain ⟨ja, qa, ba, ax, ajl, abG, aq, a32⟩ := hao
      rw [hw'] at a32
      have xl1 : xload Try.prog 3 (.pointer (some ⟨ja, qa + 32, none⟩)) G4 = some (.int .i64 (w : Nat)) := by simp [xload, abG, a32]
      have xl2 : xload Try.prog 79 (.pointer (some ⟨n0, 0, none⟩)) G4 = some (.agg (iv .u32 A).toArray) := by simp [xload, b8', lA, tA]
      have xl3 : xload Try.prog 79 (.pointer (some ⟨m, 0, none⟩)) G4 = some (.agg (iv .u32 B).toArray) := by simp [xload, b10', lB, tB]
      have hBB : (B0 == B0) = true := by simp
      refine aw_cut (fun α G => α 6 = .bool true ∧ True) ?_ ?_
      · (refine aw_plan [] [] [0, 1, 2, 3, 4, 5, 6, 7, 8, 9, 10, 11, 12, 13, 14, 15, 16, 17, 18, 19, 20, 21, 22, 23, 24, 25, 26, 27, 28, 29, 30, 31, 32, 33, 34] 35 0 (by kernel_rfl) (by kernel_rfl) (by kernel_rfl) (fun K hK => ?_)); simp only [sel, List.getElem?_cons_succ, List.getElem?_cons_zero, List.drop_succ_cons, List.drop_zero]; simp (disch := first | omega | (simp only [lnS]; try omega; done)) [-getElem?_pos, -getElem?_neg, q0, q2, q7, q8, q9, q10, q11, q13, q14, q16, -notTuple, v1, v2, nt_intG, nt_aggG, -xindexAddr, ax, -xload, xl1, xl2, xl3, -xlen, hxl, PL_nil, plainB_lit, PL_cons, PLc_val, PLc_new, stepP_t, stepP_f, stepPC_n, stepPC_s, stepPX_s, stepPX_n, stepPV_n, stepPV_s, stepPA_t, stepPA_c, stepPA_l, stepPN_s, allocOp, reloc_sl, reloc_ptr, List.map_cons, List.map_nil, List.nil_append, List.append_assoc, List.cons_append, Nat.add_assoc]
        refine PLc_call (v := .bool true) (by kernel_rfl) (fun L hL => ac_of_vc (by simp [pv_iv, pv_int, pv_bool, pv_string, pv_tup2, pv_tup3, iv_plain, p2_int, p2_bool, p2_string]) calive_vc rfl) (by simp [pv_iv, pv_int, pv_bool, pv_string, pv_tup2, pv_tup3, iv_plain, p2_int, p2_bool, p2_string]) ?_
        simp (disch := first | omega | (simp only [lnS]; try omega; done)) [-getElem?_pos, -getElem?_neg, q0, q2, q7, q8, q9, q10, q11, q13, q14, q16, -notTuple, v1, v2, nt_intG, nt_aggG, -xindexAddr, ax, -xload, xl1, xl2, xl3, -xlen, hxl, PL_nil, plainB_lit, PL_cons, PLc_val, PLc_new, stepP_t, stepP_f, stepPC_n, stepPC_s, stepPX_s, stepPX_n, stepPV_n, stepPV_s, stepPA_t, stepPA_c, stepPA_l, stepPN_s, allocOp, reloc_sl, reloc_ptr, List.map_cons, List.map_nil, List.nil_append, List.append_assoc, List.cons_append, Nat.add_assoc]
        refine PLc_call (v := .bool B0) (by kernel_rfl) (fun L hL => ac_of_vc (by simp [pv_iv, pv_int, pv_bool, pv_string, pv_tup2, pv_tup3, iv_plain, p2_int, p2_bool, p2_string]) dv rfl) (by simp [pv_iv, pv_int, pv_bool, pv_string, pv_tup2, pv_tup3, iv_plain, p2_int, p2_bool, p2_string]) ?_
        simp (disch := first | omega | (simp only [lnS]; try omega; done)) [-getElem?_pos, -getElem?_neg, q0, q2, q7, q8, q9, q10, q11, q13, q14, q16, -notTuple, v1, v2, nt_intG, nt_aggG, -xindexAddr, ax, -xload, xl1, xl2, xl3, -xlen, hxl, hBB, PL_nil, plainB_lit, PL_cons, PLc_val, PLc_new, stepP_t, stepP_f, stepPC_n, stepPC_s, stepPX_s, stepPX_n, stepPV_n, stepPV_s, stepPA_t, stepPA_c, stepPA_l, stepPN_s, allocOp, reloc_sl, reloc_ptr, List.map_cons, List.map_nil, List.nil_append, List.append_assoc, List.cons_append, Nat.add_assoc]
        refine hK _ _ ?_; clear hK K
        exact ⟨by (first | (simp [put_at, put_none, fr0_at]; done) | rfl), trivial⟩
      rintro α G ⟨q6, _⟩
      (refine aw_ret ?_; simp (disch := first | omega | (simp only [lnS]; try omega; done)) [-getElem?_pos, -getElem?_neg, thenQ_ret, scopeQ_ret, inBlockQ_ret, RQ, resL, resV, q6])
end
end Go.Proofs.Ytdeccbjdhcifiaa
