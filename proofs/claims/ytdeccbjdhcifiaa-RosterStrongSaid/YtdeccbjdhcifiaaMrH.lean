/-
  RosterTells: the law, walked.
  RosterStrong: the law, walked.
-/
import Derived.Test.YtdeccbjdhcifiaaMrG
namespace Go.Proofs.Ytdeccbjdhcifiaa
open Go Go.RowKit
set_option linter.unusedSimpArgs false
set_option linter.unusedVariables false
set_option maxRecDepth 100000
set_option maxHeartbeats 4000000
section
theorem ints_in {H : AH} {ds : List CD} {u : Value} (ho : OkL [.sl [.int .i64]] ds) (hv : ValL H ds [u]) : ∃ S, InV H u S ∧ S.length ≤ maxLen := by
  obtain ⟨d, r, rfl, h1, h2⟩ := ho.cons
  obtain rfl := h2.nil
  obtain ⟨S, rfl, _, h4⟩ := ok_ints h1
  obtain ⟨u', r', e, h5, h6⟩ := hv.cons
  cases e
  exact ⟨S, h5, h4⟩
theorem great_len2 {l : List NodeD} (h : greatG l = false) : l.length ≤ 110 := by
  unfold greatG at h
  rw [Bool.or_eq_false_iff, decide_eq_false_iff_not] at h
  omega
attribute [local simp] wb_bool wb_undef with_lit XL_nil XL_cons XLc_val XLc_call step1_eq stepW_t stepW_f stepC_n stepC_s stepX_s stepX_n stepN_s calleeX oneV xop_eq xopR_s xopR_n wantedA_eq wantedG_n wantedG_s plain1_int plain1_bool plain1_string bits_i64 bits_u64 bits_u32 bits_u16 bits_u8 xeqA xagg xcmp xarr allK_iv num_iv calleeOf xread xeff xbin xint xnil xun xstr xload xconv xpart xfield xfieldAddr xindexAddr xindex bnd asInt? xslice xlen xmin xmax xbuild xfill xappend xapp2 xappstr xappmk xcap xcopy xcells eval_tmp eval_const put_at put_none fr0_at cells_agg cells_int cells_bool cells_string cells_ptr cells_slice notTuple tab iv_all hget_app hget_app0 hget_cons0 hget_cons set_app set_app0 setR setR_one QL_nil QL_cons QLc_val stepQ_t stepQ_f stepQC_n stepQC_s stepQX_s SL_nil SL_cons SLc_val stepS_t stepS_f ltT ltF leT leF eqT eqF ltTn ltFn leTn leFn eqTn eqFn beqT beqF bneT bneF wi64 wu64 wu32 wu16 wu8 tmodP tdivP hgetL hgetNe hgetEq setL nums_def nums_len Nat.succ_le_of_lt List.getElem?_cons_zero List.getElem?_cons_succ Option.getD_some Int.toNat_add Int.toNat_mul agM okM agB agI agS agP agL agA okB okI okS okP okSl okA
theorem rtells_law {γ : Nat → Option Nat} {H : AH} {ds dt : List CD} {u sv : Value} (ho : OkL [.sl nodeK] ds) (hv : ValL H ds [u]) (ho2 : OkL [.sl [.int .i64]] dt) (hv2 : ValL H dt [sv]) : AC Try.prog H.length γ 3 #[u, sv] H (fun v' _ => v' = .bool true) := by
  obtain ⟨l, hV, hw, hm⟩ := nodes_in ho hv
  obtain ⟨S, hS, hSl⟩ := ints_in ho2 hv2
  have hN := hV.nda hw
  obtain ⟨v1, v2⟩ := val_nt hV
  have s1 := hS.acc.nt
  have s2 := hS.acc.cs
  have sxl := hS.acc.len
  have gr := greatG_rc (γ := γ) hN
  have al := ralive_rc (γ := γ) (H := H)
  obtain ⟨n, hn⟩ : ∃ n, n = H.length := ⟨_, rfl⟩
  refine ac_of_aw Try.func3 rfl Try.ntmps3 Try.results3 (by simp) ?_
  refine aw_seq ?_
  (refine aw_ops (by kernel_rfl) (fun K hK => ?_); simp (disch := first | omega | (simp only [lnS]; try omega; done)) [-getElem?_pos, -getElem?_neg]; refine hK _ _ ?_; clear hK K)
  refine aw_seq ?_
  refine aw_seq ?_
  refine aw_ops (by kernel_rfl) (fun K hK => ?_)
  simp (disch := first | omega | (simp only [lnS]; try omega; done)) [-getElem?_pos, -getElem?_neg]
  refine ⟨by kernel_rfl, ac_of_rc al (by simp [pv_iv, pv_int, pv_bool, pv_string, pv_tup2, pv_tup3, iv_plain, p2_int, p2_bool, p2_string]) ?_⟩
  try simp (disch := first | omega | (simp only [lnS]; try omega; done)) [-getElem?_pos, -getElem?_neg]
  refine hK _ _ ?_; clear hK K
  refine aw_f (by (first | (simp [eval_tmp, put_at]; done) | (simp [eval_tmp, put_at]; omega))) (by kernel_rfl) ?_
  refine aw_skip ?_
  refine aw_seq ?_
  refine aw_seq ?_
  refine aw_cut (fun α G => α 16 = .bool (greatG l || decide (120 < S.length)) ∧ α 0 = u ∧ α 1 = sv ∧ H = G) ?_ ?_
  · refine aw_ops (by kernel_rfl) (fun K hK => ?_)
    simp (disch := first | omega | (simp only [lnS]; try omega; done)) [-getElem?_pos, -getElem?_neg, -notTuple, v1, v2, nt_intG]
    refine ⟨by kernel_rfl, ac_of_rc gr (by simp [pv_iv, pv_int, pv_bool, pv_string, pv_tup2, pv_tup3, iv_plain, p2_int, p2_bool, p2_string]) ?_⟩
    cases hg : greatG l with
    | true =>
      try simp (disch := first | omega | (simp only [lnS]; try omega; done)) [-getElem?_pos, -getElem?_neg]
      refine hK _ _ ?_; clear hK K
      exact ⟨by (first | (simp [put_at, put_none, fr0_at, hg]; done) | rfl), by (first | (simp [put_at, put_none, fr0_at]; done) | rfl), by (first | (simp [put_at, put_none, fr0_at]; done) | rfl), rfl⟩
    | false =>
      by_cases hs : 120 < S.length
      · simp (disch := first | omega | (simp only [lnS]; try omega; done)) [-getElem?_pos, -getElem?_neg, -notTuple, s1, s2, nt_intG, -xlen, sxl, hs]
        refine hK _ _ ?_; clear hK K
        exact ⟨by (first | (simp [put_at, put_none, fr0_at, hg, hs]; done) | rfl), by (first | (simp [put_at, put_none, fr0_at]; done) | rfl), by (first | (simp [put_at, put_none, fr0_at]; done) | rfl), rfl⟩
      · simp (disch := first | omega | (simp only [lnS]; try omega; done)) [-getElem?_pos, -getElem?_neg, -notTuple, s1, s2, nt_intG, -xlen, sxl, hs]
        refine hK _ _ ?_; clear hK K
        exact ⟨by (first | (simp [put_at, put_none, fr0_at, hg, hs]; done) | rfl), by (first | (simp [put_at, put_none, fr0_at]; done) | rfl), by (first | (simp [put_at, put_none, fr0_at]; done) | rfl), rfl⟩
  rintro α _ ⟨q16, q0, q1, rfl⟩
  cases hb : (greatG l || decide (120 < S.length)) with
  | true =>
    rw [hb] at q16
    refine aw_t (by (first | (simp [eval_tmp, put_at, q16]; done) | (simp [eval_tmp, put_at, q16]; omega))) (by kernel_rfl) ?_
    refine aw_seq ?_
    refine aw_ops (by kernel_rfl) (fun K hK => ?_)
    simp (disch := first | omega | (simp only [lnS]; try omega; done)) [-getElem?_pos, -getElem?_neg]
    refine ⟨by kernel_rfl, ac_of_rc al (by simp [pv_iv, pv_int, pv_bool, pv_string, pv_tup2, pv_tup3, iv_plain, p2_int, p2_bool, p2_string]) ?_⟩
    try simp (disch := first | omega | (simp only [lnS]; try omega; done)) [-getElem?_pos, -getElem?_neg]
    refine hK _ _ ?_; clear hK K
    (refine aw_ret ?_; simp (disch := first | omega | (simp only [lnS]; try omega; done)) [-getElem?_pos, -getElem?_neg, thenQ_ret, scopeQ_ret, inBlockQ_ret, RQ, resL, resV])
  | false =>
  rw [hb] at q16
  refine aw_f (by (first | (simp [eval_tmp, put_at, q16]; done) | (simp [eval_tmp, put_at, q16]; omega))) (by kernel_rfl) ?_
  refine aw_skip ?_
  rw [Bool.or_eq_false_iff, decide_eq_false_iff_not] at hb
  obtain ⟨hg, hs⟩ := hb
  have hl110 := great_len2 hg
  have hml : l.length ≤ maxLen := by simp only [maxLen]; omega
  refine aw_seq ?_
  refine aw_ops (by kernel_rfl) (fun K hK => ?_)
  simp (disch := first | omega | (simp only [lnS]; try omega; done)) [-getElem?_pos, -getElem?_neg, q0, q1, -notTuple, v1, v2, s1, s2, nt_intG]
  refine ⟨by kernel_rfl, (rosOf_ac (γ := γ) (nro := H.length) hN hS hSl (Nat.le_refl _)).mono ?_⟩
  rintro v' G1 ⟨lw1, ov, F1, hF1, hFl1, rfl⟩
  obtain ⟨o1, o2⟩ := own_nt hF1
  try simp (disch := first | omega | (simp only [lnS]; try omega; done)) [-getElem?_pos, -getElem?_neg, -notTuple, o1, o2, nt_intG]
  refine hK _ _ ?_; clear hK K
  have hle1 := lw1.2
  refine aw_seq ?_
  refine aw_ops (by kernel_rfl) (fun K hK => ?_)
  simp (disch := first | omega | (simp only [lnS]; try omega; done)) [-getElem?_pos, -getElem?_neg, q0, -notTuple, v1, v2, nt_intG]
  refine ⟨by kernel_rfl, (rosAll_ac (γ := γ) (nro := H.length) (hN.lowG lw1) (by omega) (by omega)).mono ?_⟩
  rintro av G2 ⟨lw2, F2, hF2, hFl2⟩
  obtain ⟨a1, a2⟩ := own_nt hF2
  try simp (disch := first | omega | (simp only [lnS]; try omega; done)) [-getElem?_pos, -getElem?_neg, -notTuple, a1, a2, nt_intG]
  refine hK _ _ ?_; clear hK K
  have lw12 := lw1.both lw2
  have hle2 := lw12.2
  have hF1 := hF1.low (H' := G2) (fun j hj => lw2.1 j (hF1.lt j hj))
  have hN2 := hN.lowG lw12
  have hV2 : NdV G2 u l := CD.Val.low (fun j hj => lw12.1 j hj) hV
  have hS2 := hS.lowG lw12
  have rr := rRightG_rc (γ := γ) hV2 hw hml
  have al2 := ralive_rc (γ := γ) (H := G2)
  refine aw_seq ?_
  refine aw_seq ?_
  refine aw_ops (by kernel_rfl) (fun K hK => ?_)
  simp (disch := first | omega | (simp only [lnS]; try omega; done)) [-getElem?_pos, -getElem?_neg, q0, -notTuple, v1, v2, nt_intG]
  refine ⟨by kernel_rfl, ac_of_rc rr (by simp [pv_iv, pv_int, pv_bool, pv_string, pv_tup2, pv_tup3, iv_plain, p2_int, p2_bool, p2_string]) ?_⟩
  cases h3 : rightG l with
  | false =>
    rw [h3] at hF1
    have e2 : allR l = [] := by unfold allR; rw [h3]; rfl
    rw [e2] at hF2
    have x1 := hF1.len (P := Try.prog) (t := 23) (by simp) (n := 0) rfl (by omega)
    have x2 := hF2.len (P := Try.prog) (t := 23) (by simp) (n := 0) rfl (by omega)
    try simp (disch := first | omega | (simp only [lnS]; try omega; done)) [-getElem?_pos, -getElem?_neg]
    refine hK _ _ ?_; clear hK K
    refine aw_t (by (first | (simp [eval_tmp, put_at]; done) | (simp [eval_tmp, put_at]; omega))) (by kernel_rfl) ?_
    refine aw_seq ?_
    refine aw_ops (by kernel_rfl) (fun K hK => ?_)
    simp (disch := first | omega | (simp only [lnS]; try omega; done)) [-getElem?_pos, -getElem?_neg]
    refine ⟨by kernel_rfl, ac_of_rc al2 (by simp [pv_iv, pv_int, pv_bool, pv_string, pv_tup2, pv_tup3, iv_plain, p2_int, p2_bool, p2_string]) ?_⟩
    simp (disch := first | omega | (simp only [lnS]; try omega; done)) [-getElem?_pos, -getElem?_neg, -notTuple, o1, o2, a1, a2, nt_intG, -xlen, x1, x2, h3]
    refine hK _ _ ?_; clear hK K
    (refine aw_ret ?_; simp (disch := first | omega | (simp only [lnS]; try omega; done)) [-getElem?_pos, -getElem?_neg, thenQ_ret, scopeQ_ret, inBlockQ_ret, RQ, resL, resV])
  | true =>
  rw [h3, Bool.true_and] at hF1
  try simp (disch := first | omega | (simp only [lnS]; try omega; done)) [-getElem?_pos, -getElem?_neg]
  refine hK _ _ ?_; clear hK K
  refine aw_f (by (first | (simp [eval_tmp, put_at]; done) | (simp [eval_tmp, put_at]; omega))) (by kernel_rfl) ?_
  refine aw_skip ?_
  have hml8 : (allR l).length ≤ maxLen := by
    unfold allR
    rw [h3, if_pos rfl]
    have := membL_le (rosB l (cntsB l) (rgZ l.length)) 8
    simp only [maxLen]; omega
  refine aw_seq ?_
  refine aw_seq ?_
  refine aw_cut (fun α G => α 52 = .bool false ∧ α 0 = u ∧ α 1 = sv ∧ α 5 = ov ∧ α 6 = .int .i64 (if setB l S then 0 else 1) ∧ Low G2.length G2 G) ?_ ?_
  · refine aw_ops (by kernel_rfl) (fun K hK => ?_)
    simp (disch := first | omega | (simp only [lnS]; try omega; done)) [-getElem?_pos, -getElem?_neg, q0, -notTuple, a1, a2, v1, v2, nt_intG]
    refine ⟨by kernel_rfl, ac_of_rc al2 (by simp [pv_iv, pv_int, pv_bool, pv_string, pv_tup2, pv_tup3, iv_plain, p2_int, p2_bool, p2_string]) ?_⟩
    simp (disch := first | omega | (simp only [lnS]; try omega; done)) [-getElem?_pos, -getElem?_neg, q0, -notTuple, a1, a2, v1, v2, nt_intG]
    refine ⟨by kernel_rfl, (rRosAll_ac (γ := γ) (nro := H.length) hN2 h3 (by omega)).mono ?_⟩
    rintro rv G3 ⟨lw3, F3, hF3, hFl3⟩
    obtain ⟨b1, b2⟩ := own_nt hF3
    have hF2' := hF2.low (H' := G3) (fun j hj => lw3.1 j (hF2.lt j hj))
    have si := sameInts_rc (γ := γ) (own_inv hF2') (own_inv hF3) hml8
    rw [decide_eq_true rfl] at si
    try simp (disch := first | omega | (simp only [lnS]; try omega; done)) [-getElem?_pos, -getElem?_neg, q0, -notTuple, a1, a2, b1, b2, v1, v2, nt_intG]
    refine ⟨by kernel_rfl, ac_of_rc si (by simp [pv_iv, pv_int, pv_bool, pv_string, pv_tup2, pv_tup3, iv_plain, p2_int, p2_bool, p2_string]) ?_⟩
    try simp (disch := first | omega | (simp only [lnS]; try omega; done)) [-getElem?_pos, -getElem?_neg]
    refine hK _ _ ?_; clear hK K
    exact ⟨by (first | (simp [put_at, put_none, fr0_at]; done) | rfl), by (first | (simp [put_at, put_none, fr0_at, q0]; done) | rfl), by (first | (simp [put_at, put_none, fr0_at, q1]; done) | rfl), by (first | (simp [put_at, put_none, fr0_at]; done) | rfl), by (first | (simp [put_at, put_none, fr0_at, h3]; done) | rfl), lw3⟩
  clear q0 q1 q16
  rintro α G3 ⟨q52, q0, q1, q5, q6, lw3⟩
  refine aw_f (by (first | (simp [eval_tmp, put_at, q52]; done) | (simp [eval_tmp, put_at, q52]; omega))) (by kernel_rfl) ?_
  refine aw_skip ?_
  have hF1 := hF1.low (H' := G3) (fun j hj => lw3.1 j (hF1.lt j hj))
  have hN3 := hN2.lowG lw3
  have hS3 := hS2.lowG lw3
  have hle3 := lw3.2
  have rs := rSet_rc (γ := γ) hN3 hS3 hSl h3
  refine aw_seq ?_
  refine aw_seq ?_
  refine aw_ops (by kernel_rfl) (fun K hK => ?_)
  simp (disch := first | omega | (simp only [lnS]; try omega; done)) [-getElem?_pos, -getElem?_neg, q0, q1, -notTuple, v1, v2, s1, s2, nt_intG]
  refine ⟨by kernel_rfl, ac_of_rc rs (by simp [pv_iv, pv_int, pv_bool, pv_string, pv_tup2, pv_tup3, iv_plain, p2_int, p2_bool, p2_string]) ?_⟩
  cases hsb : setB l S with
  | false =>
    rw [hsb] at hF1 q6
    have x1 := hF1.len (P := Try.prog) (t := 23) (by simp) (n := 0) rfl (by omega)
    try simp (disch := first | omega | (simp only [lnS]; try omega; done)) [-getElem?_pos, -getElem?_neg]
    refine hK _ _ ?_; clear hK K
    refine aw_t (by (first | (simp [eval_tmp, put_at]; done) | (simp [eval_tmp, put_at]; omega))) (by kernel_rfl) ?_
    refine aw_seq ?_
    (refine aw_ops (by kernel_rfl) (fun K hK => ?_); simp (disch := first | omega | (simp only [lnS]; try omega; done)) [-getElem?_pos, -getElem?_neg, q5, q6, -notTuple, o1, o2, nt_intG, -xlen, x1]; refine hK _ _ ?_; clear hK K)
    (refine aw_ret ?_; simp (disch := first | omega | (simp only [lnS]; try omega; done)) [-getElem?_pos, -getElem?_neg, thenQ_ret, scopeQ_ret, inBlockQ_ret, RQ, resL, resV])
  | true =>
  rw [hsb, if_pos rfl] at hF1 q6
  try simp (disch := first | omega | (simp only [lnS]; try omega; done)) [-getElem?_pos, -getElem?_neg]
  refine hK _ _ ?_; clear hK K
  refine aw_f (by (first | (simp [eval_tmp, put_at]; done) | (simp [eval_tmp, put_at]; omega))) (by kernel_rfl) ?_
  refine aw_skip ?_
  have hset := setB_iff.1 hsb
  refine aw_seq ?_
  refine aw_ops (by kernel_rfl) (fun K hK => ?_)
  simp (disch := first | omega | (simp only [lnS]; try omega; done)) [-getElem?_pos, -getElem?_neg, q0, q1, q5, q6, -notTuple, v1, v2, s1, s2, o1, o2, nt_intG]
  refine ⟨by kernel_rfl, (rCounts_ac (γ := γ) (nro := H.length) hN3 h3 (by omega)).mono ?_⟩
  rintro cv G4 ⟨lw4, F4, hF4, hFl4⟩
  obtain ⟨w1, w2⟩ := own_nt hF4
  have hle4 := lw4.2
  try simp (disch := first | omega | (simp only [lnS]; try omega; done)) [-getElem?_pos, -getElem?_neg, q0, q1, -notTuple, v1, v2, s1, s2, w1, w2, o1, o2, nt_intG]
  refine ⟨by kernel_rfl, (rRoster_ac (γ := γ) (nro := H.length) (hN3.lowG lw4) (own_cta hF4) h3 (by rw [cnts_len]; exact Nat.le_refl _) (hS3.lowG lw4) hSl (fun z hz => by
    obtain ⟨k, e, hk⟩ := hset.1.plc z hz
    exact ⟨k, e, by rw [cnts_len]; exact hk⟩) (by omega)).mono ?_⟩
  rintro rv G5 ⟨_, _, lw5, F5, hF5, hFl5⟩
  obtain ⟨b1, b2⟩ := own_nt hF5
  have hF1' := hF1.low (H' := G5) (fun j hj => (lw4.both lw5).1 j (hF1.lt j hj))
  have si := sameInts_rc (γ := γ) (own_inv hF1') (own_inv hF5) (by have := membL_le (rosB l (cntsB l) S) 8; simp only [maxLen]; omega)
  rw [decide_eq_true rfl] at si
  try simp (disch := first | omega | (simp only [lnS]; try omega; done)) [-getElem?_pos, -getElem?_neg, q5, -notTuple, o1, o2, b1, b2, nt_intG]
  refine ⟨by kernel_rfl, ac_of_rc si (by simp [pv_iv, pv_int, pv_bool, pv_string, pv_tup2, pv_tup3, iv_plain, p2_int, p2_bool, p2_string]) ?_⟩
  try simp (disch := first | omega | (simp only [lnS]; try omega; done)) [-getElem?_pos, -getElem?_neg]
  refine hK _ _ ?_; clear hK K
  (refine aw_ret ?_; simp (disch := first | omega | (simp only [lnS]; try omega; done)) [-getElem?_pos, -getElem?_neg, thenQ_ret, scopeQ_ret, inBlockQ_ret, RQ, resL, resV])
end
section
section
variable {l : List NodeD}
theorem cntP_pre (i : Nat) : ∀ n, i ≤ n → ∀ r, r < i → (cntP l n).getD r false = (cntP l i).getD r false := by
  intro n
  induction n with
  | zero =>
    intro h r hr
    omega
  | succ n ih =>
    intro h r hr
    rcases Nat.eq_or_lt_of_le h with rfl | hlt
    · rfl
    · rw [← ih (by omega) r hr]
      have e : cntP l (n + 1) = cntP l n ++ [decide ((nd l n).op.kind = 1) || rosB l (cntP l n) (nd l n).past (nd l n).op.author] := rfl
      rw [e, List.getD_eq_getElem?_getD, List.getElem?_append_left (by rw [cntP_len]; omega), ← List.getD_eq_getElem?_getD]
/-- The roster hangs on what counts in the set alone. -/
theorem ros_cong {c d : List Bool} {S : List Int} (h : ∀ z ∈ S, c.getD z.toNat false = d.getD z.toNat false) (w : Int) : rosB l c S w = rosB l d S w := by
  have h1 : ∀ z ∈ S, ∀ v, remB l c z.toNat v = remB l d z.toNat v := fun z hz v => by unfold remB; rw [h z hz]
  have h2 : ∀ a, besB l c S a = besB l d S a := fun a => by
    unfold besB
    rw [Bool.eq_iff_iff, List.any_eq_true, List.any_eq_true]
    exact exists_congr fun r => and_congr_right fun hr => by rw [h1 r hr]
  unfold rosB
  rw [Bool.eq_iff_iff, List.any_eq_true, List.any_eq_true]
  refine exists_congr fun a => and_congr_right fun ha => ?_
  have h3 : (S.any fun r => remB l c r.toNat w && !ahB l r.toNat a.toNat) = S.any fun r => remB l d r.toNat w && !ahB l r.toNat a.toNat := by
    rw [Bool.eq_iff_iff, List.any_eq_true, List.any_eq_true]
    exact exists_congr fun r => and_congr_right fun hr => by rw [h1 r hr]
  unfold admB
  rw [h3, h a ha, h2]
theorem cnts_at (h3 : rightG l = true) {i : Nat} (hi : i < l.length) : (cntsB l).getD i false = (decide ((nd l i).op.kind = 1) || rosB l (cntsB l) (nd l i).past (nd l i).op.author) := by
  unfold cntsB
  rw [cntP_pre (i + 1) l.length (by omega) i (by omega)]
  have e : cntP l (i + 1) = cntP l i ++ [decide ((nd l i).op.kind = 1) || rosB l (cntP l i) (nd l i).past (nd l i).op.author] := rfl
  rw [e, List.getD_eq_getElem?_getD, List.getElem?_append_right (by rw [cntP_len]; exact Nat.le_refl _), cntP_len, Nat.sub_self]
  refine congrArg (fun b => decide ((nd l i).op.kind = 1) || b) ?_
  refine ros_cong (fun z hz => ?_) _
  obtain ⟨k, rfl, hk⟩ := past_bd h3 hi hz
  rw [Int.toNat_natCast]
  exact (cntP_pre i l.length (by omega) k hk).symm
theorem setB_past (h3 : rightG l = true) {i : Nat} (hi : i < l.length) : setB l (nd l i).past = true := by
  refine setB_iff.2 ⟨fun z hz => ?_, past_inc h3 hi, fun a ha z hz => ?_⟩
  · obtain ⟨k, rfl, hk⟩ := past_bd h3 hi hz
    omega
  · obtain ⟨k, rfl, hk⟩ := past_bd h3 hi ha
    rw [Int.toNat_natCast] at hz
    obtain ⟨m, rfl, hm⟩ := past_bd h3 (by omega) hz
    exact past_trans h3 i hi m k hz ha
theorem mem_membL {P : Int → Bool} {k : Nat} {z : Int} : z ∈ membL P k ↔ (0 ≤ z ∧ z < k) ∧ P z = true := by
  unfold membL
  rw [List.mem_filter]
  have := mem_rgZ (n := k) (z := z)
  unfold rgZ at this
  rw [this]
theorem kind1_iff (h3 : rightG l = true) {i : Nat} (hi : i < l.length) : (nd l i).op.kind = 1 ↔ i = 0 := by
  have := right_turn h3 hi
  unfold turnB at this
  simp only [Bool.and_eq_true] at this
  have := this.1
  rw [beq_iff_eq] at this
  by_cases h : i = 0
  · rw [decide_eq_true h, decide_eq_true_eq] at this
    simp [h, this]
    rw [← h]; exact this
  · rw [decide_eq_false h, decide_eq_false_iff_not] at this
    simp [h, this]
/-- Does an operation that lets somebody in stand behind a node, among the first ones? -/
def agB' (l : List NodeD) (i : Nat) (w : Int) (k : Nat) : Bool := ahB l i k && (decide ((nd l k).op.kind = 2) && decide ((nd l k).op.who.getD 0 0 = w))
theorem strong (h3 : rightG l = true) {i : Nat} {w : Int} (hi : i < l.length) (hk : (nd l i).op.kind = 3) (hw : (nd l i).op.who = [w]) (hin : (nd l i).op.author ∈ membL (rosB l (cntsB l) (nd l i).past) 8) (hag : (List.range l.length).any (agB' l i w) = false) : w ∉ allR l := by
  intro hm
  unfold allR at hm
  rw [if_pos h3, mem_membL] at hm
  have hros := hm.2
  have hc : (cntsB l).getD i false = true := by
    rw [cnts_at h3 hi, (mem_membL.1 hin).2, Bool.or_true]
  unfold rosB at hros
  rw [List.any_eq_true] at hros
  obtain ⟨a, ha, hros⟩ := hros
  rw [Bool.and_eq_true, Bool.not_eq_true', List.any_eq_false] at hros
  obtain ⟨hadm, hno⟩ := hros
  have hai := mem_rgZ.1 ha
  have hri := hno i (mem_rgZ.2 ⟨by omega, by omega⟩)
  rw [Int.toNat_natCast] at hri
  have hrm : remB l (cntsB l) i w = true := by
    unfold remB
    rw [hk, hc, hw]
    simp
  rw [hrm, Bool.true_and, Bool.not_eq_true', ← Bool.not_eq_true, Classical.not_not] at hri
  obtain ⟨k, hka⟩ : ∃ k : Nat, a = k := ⟨a.toNat, by omega⟩
  subst hka
  rw [Int.toNat_natCast] at hri hadm
  have hkl : k < l.length := by omega
  unfold admB at hadm
  simp only [Bool.and_eq_true, Bool.or_eq_true, decide_eq_true_eq] at hadm
  obtain ⟨_, hwk, hkk⟩ := hadm
  rw [List.any_eq_false] at hag
  have hag := hag k (List.mem_range.2 hkl)
  rcases hkk with hk1 | ⟨hk2, _⟩
  · have h0 := (kind1_iff h3 hkl).1 hk1
    subst h0
    unfold ahB at hri
    rw [decide_eq_true_eq] at hri
    obtain ⟨m, _, hm'⟩ := past_bd h3 hkl hri
    omega
  · obtain ⟨x, hx⟩ := rightO_who1 (right_op h3 hkl) (.inl hk2)
    rw [hx, List.mem_singleton] at hwk
    subst hwk
    apply hag
    unfold agB'
    rw [hri, hk2, hx]
    simp
end
attribute [local simp] wb_bool wb_undef with_lit XL_nil XL_cons XLc_val XLc_call step1_eq stepW_t stepW_f stepC_n stepC_s stepX_s stepX_n stepN_s calleeX oneV xop_eq xopR_s xopR_n wantedA_eq wantedG_n wantedG_s plain1_int plain1_bool plain1_string bits_i64 bits_u64 bits_u32 bits_u16 bits_u8 xeqA xagg xcmp xarr allK_iv num_iv calleeOf xread xeff xbin xint xnil xun xstr xload xconv xpart xfield xfieldAddr xindexAddr xindex bnd asInt? xslice xlen xmin xmax xbuild xfill xappend xapp2 xappstr xappmk xcap xcopy xcells eval_tmp eval_const put_at put_none fr0_at cells_agg cells_int cells_bool cells_string cells_ptr cells_slice notTuple tab iv_all hget_app hget_app0 hget_cons0 hget_cons set_app set_app0 setR setR_one QL_nil QL_cons QLc_val stepQ_t stepQ_f stepQC_n stepQC_s stepQX_s SL_nil SL_cons SLc_val stepS_t stepS_f ltT ltF leT leF eqT eqF ltTn ltFn leTn leFn eqTn eqFn beqT beqF bneT bneF wi64 wu64 wu32 wu16 wu8 tmodP tdivP hgetL hgetNe hgetEq setL nums_def nums_len Nat.succ_le_of_lt List.getElem?_cons_zero List.getElem?_cons_succ Option.getD_some Int.toNat_add Int.toNat_mul agM okM agB agI agS agP agL agA okB okI okS okP okSl okA
theorem strong_law {γ : Nat → Option Nat} {H : AH} {ds : List CD} {u : Value} (ho : OkL [.sl nodeK] ds) (hv : ValL H ds [u]) : AC Try.prog H.length γ 6 #[u] H (fun v' _ => v' = .bool true) := by
  obtain ⟨l, hV, hw, hm⟩ := nodes_in ho hv
  have hN := hV.nda hw
  obtain ⟨v1, v2⟩ := val_nt hV
  have hxl := hN.len
  have gr := greatG_rc (γ := γ) hN
  have rg := graph_right_rc (γ := γ) hN
  have al := ralive_rc (γ := γ) (H := H)
  refine ac_of_aw Try.func6 rfl Try.ntmps6 Try.results6 (by simp) ?_
  refine aw_seq ?_
  (refine aw_ops (by kernel_rfl) (fun K hK => ?_); simp (disch := first | omega | (simp only [lnS]; try omega; done)) [-getElem?_pos, -getElem?_neg]; refine hK _ _ ?_; clear hK K)
  refine aw_seq ?_
  refine aw_seq ?_
  refine aw_ops (by kernel_rfl) (fun K hK => ?_)
  simp (disch := first | omega | (simp only [lnS]; try omega; done)) [-getElem?_pos, -getElem?_neg]
  refine ⟨by kernel_rfl, ac_of_rc al (by simp [pv_iv, pv_int, pv_bool, pv_string, pv_tup2, pv_tup3, iv_plain, p2_int, p2_bool, p2_string]) ?_⟩
  try simp (disch := first | omega | (simp only [lnS]; try omega; done)) [-getElem?_pos, -getElem?_neg]
  refine hK _ _ ?_; clear hK K
  refine aw_f (by (first | (simp [eval_tmp, put_at]; done) | (simp [eval_tmp, put_at]; omega))) (by kernel_rfl) ?_
  refine aw_skip ?_
  refine aw_seq ?_
  refine aw_seq ?_
  refine aw_cut (fun α G => α 18 = .bool (greatG l || !rightG l) ∧ α 0 = u ∧ H = G) ?_ ?_
  · refine aw_ops (by kernel_rfl) (fun K hK => ?_)
    simp (disch := first | omega | (simp only [lnS]; try omega; done)) [-getElem?_pos, -getElem?_neg, -notTuple, v1, v2, nt_intG]
    refine ⟨by kernel_rfl, ac_of_rc gr (by simp [pv_iv, pv_int, pv_bool, pv_string, pv_tup2, pv_tup3, iv_plain, p2_int, p2_bool, p2_string]) ?_⟩
    cases hg : greatG l with
    | true =>
      try simp (disch := first | omega | (simp only [lnS]; try omega; done)) [-getElem?_pos, -getElem?_neg]
      refine hK _ _ ?_; clear hK K
      exact ⟨by (first | (simp [put_at, put_none, fr0_at, hg]; done) | rfl), by (first | (simp [put_at, put_none, fr0_at]; done) | rfl), rfl⟩
    | false =>
      simp (disch := first | omega | (simp only [lnS]; try omega; done)) [-getElem?_pos, -getElem?_neg, -notTuple, v1, v2, nt_intG]
      refine ⟨by kernel_rfl, ac_of_rc rg (by simp [pv_iv, pv_int, pv_bool, pv_string, pv_tup2, pv_tup3, iv_plain, p2_int, p2_bool, p2_string]) ?_⟩
      try simp (disch := first | omega | (simp only [lnS]; try omega; done)) [-getElem?_pos, -getElem?_neg]
      refine hK _ _ ?_; clear hK K
      exact ⟨by (first | (simp [put_at, put_none, fr0_at, hg]; done) | rfl), by (first | (simp [put_at, put_none, fr0_at]; done) | rfl), rfl⟩
  rintro α _ ⟨q18, q0, rfl⟩
  cases hb : (greatG l || !rightG l) with
  | true =>
    rw [hb] at q18
    refine aw_t (by (first | (simp [eval_tmp, put_at, q18]; done) | (simp [eval_tmp, put_at, q18]; omega))) (by kernel_rfl) ?_
    refine aw_seq ?_
    refine aw_ops (by kernel_rfl) (fun K hK => ?_)
    simp (disch := first | omega | (simp only [lnS]; try omega; done)) [-getElem?_pos, -getElem?_neg]
    refine ⟨by kernel_rfl, ac_of_rc al (by simp [pv_iv, pv_int, pv_bool, pv_string, pv_tup2, pv_tup3, iv_plain, p2_int, p2_bool, p2_string]) ?_⟩
    try simp (disch := first | omega | (simp only [lnS]; try omega; done)) [-getElem?_pos, -getElem?_neg]
    refine hK _ _ ?_; clear hK K
    (refine aw_ret ?_; simp (disch := first | omega | (simp only [lnS]; try omega; done)) [-getElem?_pos, -getElem?_neg, thenQ_ret, scopeQ_ret, inBlockQ_ret, RQ, resL, resV])
  | false =>
  rw [hb] at q18
  refine aw_f (by (first | (simp [eval_tmp, put_at, q18]; done) | (simp [eval_tmp, put_at, q18]; omega))) (by kernel_rfl) ?_
  refine aw_skip ?_
  rw [Bool.or_eq_false_iff, Bool.not_eq_false'] at hb
  obtain ⟨hg, h3⟩ := hb
  have hl110 := great_len2 hg
  have hal8 : (allR l).length ≤ maxLen := by
    unfold allR
    rw [h3, if_pos rfl]
    have := membL_le (rosB l (cntsB l) (rgZ l.length)) 8
    simp only [maxLen]; omega
  refine aw_seq ?_
  refine aw_ops (by kernel_rfl) (fun K hK => ?_)
  simp (disch := first | omega | (simp only [lnS]; try omega; done)) [-getElem?_pos, -getElem?_neg, q0, -notTuple, v1, v2, nt_intG]
  refine ⟨by kernel_rfl, (rosAll_ac (γ := γ) (nro := H.length) hN (by omega) (Nat.le_refl _)).mono ?_⟩
  rintro av G1 ⟨lw1, FA, hFA, hFAl⟩
  obtain ⟨a1, a2⟩ := own_nt hFA
  try simp (disch := first | omega | (simp only [lnS]; try omega; done)) [-getElem?_pos, -getElem?_neg, -notTuple, a1, a2, nt_intG]
  refine hK _ _ ?_; clear hK K
  refine aw_seq ?_
  refine aw_seq ?_
  (refine aw_ops (by kernel_rfl) (fun K hK => ?_); simp (disch := first | omega | (simp only [lnS]; try omega; done)) [-getElem?_pos, -getElem?_neg]; refine hK _ _ ?_; clear hK K)
  refine aw_block ?_
  refine aw_loop (fun c α G => ∃ i : Nat, i + c = l.length ∧ Low G1.length G1 G ∧ α 0 = u ∧ α 3 = av ∧ α 4 = .int .i64 (i : Nat)) l.length ?_ ?_
  · exact ⟨0, by omega, Low.refl (Nat.le_refl _), by (first | (simp [put_at, put_none, fr0_at, q0]; done) | rfl), by (first | (simp [put_at, put_none, fr0_at]; done) | rfl), by (first | (simp [put_at, put_none, fr0_at]; done) | rfl)⟩
  clear q0 q18
  rintro c α G ⟨i, hic, lw, q0, q3, q4⟩
  have lwH := lw1.both lw
  have hleH := lwH.2
  have hNG := hN.lowG lwH
  refine aw_seq ?_
  refine aw_seq ?_
  by_cases hi : i < l.length
  case neg =>
    (refine aw_ops (by kernel_rfl) (fun K hK => ?_); simp (disch := first | omega | (simp only [lnS]; try omega; done)) [-getElem?_pos, -getElem?_neg, q0, q4, -notTuple, v1, v2, nt_intG, -xlen, hxl, hi]; refine hK _ _ ?_; clear hK K)
    refine aw_f (by (first | (simp [eval_tmp, put_at, hi]; done) | (simp [eval_tmp, put_at, hi]; omega))) (by kernel_rfl) ?_
    refine aw_exit ?_
    refine aw_seq ?_
    have al2 := ralive_rc (γ := γ) (H := G)
    refine aw_ops (by kernel_rfl) (fun K hK => ?_)
    simp (disch := first | omega | (simp only [lnS]; try omega; done)) [-getElem?_pos, -getElem?_neg]
    refine ⟨by kernel_rfl, ac_of_rc al2 (by simp [pv_iv, pv_int, pv_bool, pv_string, pv_tup2, pv_tup3, iv_plain, p2_int, p2_bool, p2_string]) ?_⟩
    try simp (disch := first | omega | (simp only [lnS]; try omega; done)) [-getElem?_pos, -getElem?_neg]
    refine hK _ _ ?_; clear hK K
    (refine aw_ret ?_; simp (disch := first | omega | (simp only [lnS]; try omega; done)) [-getElem?_pos, -getElem?_neg, thenQ_ret, scopeQ_ret, inBlockQ_ret, RQ, resL, resV])
  obtain ⟨j, q, bb, us, pv, wv, bvv, qv, hx, hbb, hq, hcell, hus, hC⟩ := hN.at_ i _ (nd_get hi)
  have c0 : bb.cells[q + 32]? = some (.int .i64 (nd l i).op.author) := by
    rw [hcell 32 (by omega)]
    have := hC.op.c0
    rwa [List.getElem?_take_of_lt (by omega), List.getElem?_drop] at this
  have c3 : bb.cells[q + 35]? = some (.int .i64 (nd l i).op.kind) := by
    rw [hcell 35 (by omega)]
    have := hC.op.c3
    rwa [List.getElem?_take_of_lt (by omega), List.getElem?_drop] at this
  have c4 : bb.cells[q + 36]? = some wv := by
    rw [hcell 36 (by omega)]
    have := hC.op.c4
    rwa [List.getElem?_take_of_lt (by omega), List.getElem?_drop] at this
  have cq : bb.cells[q + 103]? = some qv := by rw [hcell 103 (by omega)]; exact hC.c103
  have hjH := hget_lt hbb
  have hbG : ∀ A : AH, Low H.length H A → hget A j = some bb := fun A hA => (hA.1 j hjH).trans hbb
  have hp1 := hC.past.acc.nt
  have hp2 := hC.past.acc.cs
  have hw1 := hC.op.who.acc.nt
  have hw2 := hC.op.who.acc.cs
  have xl0 : ∀ A : AH, Low H.length H A → xload Try.prog 3 (.pointer (some ⟨j, q + 32, none⟩)) A = some (.int .i64 (nd l i).op.author) := fun A hA => by simp [xload, hbG A hA, c0]
  have xl3 : ∀ A : AH, Low H.length H A → xload Try.prog 3 (.pointer (some ⟨j, q + 35, none⟩)) A = some (.int .i64 (nd l i).op.kind) := fun A hA => by simp [xload, hbG A hA, c3]
  have xl4 : ∀ A : AH, Low H.length H A → xload Try.prog 23 (.pointer (some ⟨j, q + 36, none⟩)) A = some wv := fun A hA => by simp [xload, hbG A hA, c4]
  have xlq : ∀ A : AH, Low H.length H A → xload Try.prog 23 (.pointer (some ⟨j, q + 103, none⟩)) A = some qv := fun A hA => by simp [xload, hbG A hA, cq]
  have hpl := past_len h3 hi
  (refine aw_ops (by kernel_rfl) (fun K hK => ?_); simp (disch := first | omega | (simp only [lnS]; try omega; done)) [-getElem?_pos, -getElem?_neg, q0, q4, -notTuple, v1, v2, nt_intG, -xlen, hxl, hi]; refine hK _ _ ?_; clear hK K)
  refine aw_t (by (first | (simp [eval_tmp, put_at, hi]; done) | (simp [eval_tmp, put_at, hi]; omega))) (by kernel_rfl) ?_
  refine aw_skip ?_
  refine aw_seq ?_
  refine aw_block ?_
  refine aw_seq ?_
  refine aw_seq ?_
  have xl3G := xl3 G lwH
  by_cases hk : (nd l i).op.kind = 3
  case neg =>
    have hkb : ((nd l i).op.kind == 3) = false := by simp [hk]
    (refine aw_ops (by kernel_rfl) (fun K hK => ?_); simp (disch := first | omega | (simp only [lnS]; try omega; done)) [-getElem?_pos, -getElem?_neg, q0, q4, -notTuple, v1, v2, nt_intG, -xindexAddr, hx, -xload, xl3G, hk, hkb]; refine hK _ _ ?_; clear hK K)
    refine aw_t (by (first | (simp [eval_tmp, put_at]; done) | (simp [eval_tmp, put_at]; omega))) (by kernel_rfl) ?_
    refine aw_exit ?_
    (refine aw_ops (by kernel_rfl) (fun K hK => ?_); simp (disch := first | omega | (simp only [lnS]; try omega; done)) [-getElem?_pos, -getElem?_neg, q4]; refine hK _ _ ?_; clear hK K)
    exact ⟨c - 1, by omega, i + 1, by omega, lw, by (first | (simp [put_at, put_none, fr0_at, q0]; done) | rfl), by (first | (simp [put_at, put_none, fr0_at, q3]; done) | rfl), by (first | (simp [put_at, put_none, fr0_at]; done) | rfl)⟩
  have hkb : ((nd l i).op.kind == 3) = true := by simp [hk]
  (refine aw_ops (by kernel_rfl) (fun K hK => ?_); simp (disch := first | omega | (simp only [lnS]; try omega; done)) [-getElem?_pos, -getElem?_neg, q0, q4, -notTuple, v1, v2, nt_intG, -xindexAddr, hx, -xload, xl3G, hk, hkb]; refine hK _ _ ?_; clear hK K)
  refine aw_f (by (first | (simp [eval_tmp, put_at]; done) | (simp [eval_tmp, put_at]; omega))) (by kernel_rfl) ?_
  refine aw_skip ?_
  obtain ⟨w, hwe⟩ := rightO_who1 (right_op h3 hi) (.inr hk)
  have xlqG := xlq G lwH
  have hsp := setB_past h3 hi
  refine aw_seq ?_
  refine aw_ops (by kernel_rfl) (fun K hK => ?_)
  simp (disch := first | omega | (simp only [lnS]; try omega; done)) [-getElem?_pos, -getElem?_neg, q0, q4, -notTuple, v1, v2, hp1, hp2, nt_intG, -xindexAddr, hx, -xload, xlqG]
  refine ⟨by kernel_rfl, (rosOf_ac (γ := γ) (nro := H.length) hNG (hC.past.lowG lwH) (by simp only [maxLen]; omega) (by omega)).mono ?_⟩
  rintro v' G2 ⟨lw2, ov, F1, hF1, hFl1, rfl⟩
  rw [h3, hsp] at hF1 ⊢
  simp only [Bool.true_and, if_true] at hF1 ⊢
  obtain ⟨o1, o2⟩ := own_nt hF1
  have hwho := hC.op.who
  rw [hwe] at hwho
  have lwG2 := lw.both lw2
  have lwH2 := lwH.both lw2
  have hNG2 := hNG.lowG lw2
  try simp (disch := first | omega | (simp only [lnS]; try omega; done)) [-getElem?_pos, -getElem?_neg, -notTuple, o1, o2, nt_intG]
  refine hK _ _ ?_; clear hK K
  refine aw_seq ?_
  refine aw_seq ?_
  (refine aw_ops (by kernel_rfl) (fun K hK => ?_); simp (disch := first | omega | (simp only [lnS]; try omega; done)) [-getElem?_pos, -getElem?_neg]; refine hK _ _ ?_; clear hK K)
  refine aw_f (by (first | (simp [eval_tmp, put_at]; done) | (simp [eval_tmp, put_at]; omega))) (by kernel_rfl) ?_
  refine aw_skip ?_
  obtain ⟨p', x', u1, u2, u3, u4, u5⟩ := hwho.acc.at_ 0 (by simp)
  have u5 := u5 G2 lwH2
  subst u4
  have u5 : xload Try.prog 3 p' G2 = some (.int .i64 w) := u5
  have u2 : xindexAddr Try.prog 23 wv (.int .i64 0) = some p' := u2
  have xl4G := xl4 G2 lwH2
  have xl0G := xl0 G2 lwH2
  refine aw_seq ?_
  (refine aw_ops (by kernel_rfl) (fun K hK => ?_); simp (disch := first | omega | (simp only [lnS]; try omega; done)) [-getElem?_pos, -getElem?_neg, q0, q4, -notTuple, v1, v2, hw1, hw2, u1, nt_intG, -xindexAddr, hx, u2, -xload, xl4G, u5]; refine hK _ _ ?_; clear hK K)
  have in1 := rIn_rc (γ := γ) (own_inv hF1) (by have := membL_le (rosB l (cntsB l) (nd l i).past) 8; simp only [maxLen]; omega) (nd l i).op.author
  refine aw_seq ?_
  refine aw_seq ?_
  refine aw_ops (by kernel_rfl) (fun K hK => ?_)
  simp (disch := first | omega | (simp only [lnS]; try omega; done)) [-getElem?_pos, -getElem?_neg, q0, q4, -notTuple, v1, v2, o1, o2, nt_intG, -xindexAddr, hx, -xload, xl0G]
  refine ⟨by kernel_rfl, ac_of_rc in1 (by simp [pv_iv, pv_int, pv_bool, pv_string, pv_tup2, pv_tup3, iv_plain, p2_int, p2_bool, p2_string]) ?_⟩
  by_cases hin : (nd l i).op.author ∈ membL (rosB l (cntsB l) (nd l i).past) 8
  case neg =>
    rw [decide_eq_false hin]
    try simp (disch := first | omega | (simp only [lnS]; try omega; done)) [-getElem?_pos, -getElem?_neg]
    refine hK _ _ ?_; clear hK K
    refine aw_t (by (first | (simp [eval_tmp, put_at]; done) | (simp [eval_tmp, put_at]; omega))) (by kernel_rfl) ?_
    refine aw_exit ?_
    (refine aw_ops (by kernel_rfl) (fun K hK => ?_); simp (disch := first | omega | (simp only [lnS]; try omega; done)) [-getElem?_pos, -getElem?_neg, q4]; refine hK _ _ ?_; clear hK K)
    exact ⟨c - 1, by omega, i + 1, by omega, lwG2, by (first | (simp [put_at, put_none, fr0_at, q0]; done) | rfl), by (first | (simp [put_at, put_none, fr0_at, q3]; done) | rfl), by (first | (simp [put_at, put_none, fr0_at]; done) | rfl)⟩
  rw [decide_eq_true hin]
  try simp (disch := first | omega | (simp only [lnS]; try omega; done)) [-getElem?_pos, -getElem?_neg]
  refine hK _ _ ?_; clear hK K
  refine aw_f (by (first | (simp [eval_tmp, put_at]; done) | (simp [eval_tmp, put_at]; omega))) (by kernel_rfl) ?_
  refine aw_skip ?_
  have hst := strong h3 hi hk hwe hin
  clear hF1 hFl1 in1 hin
  refine aw_seq ?_
  (refine aw_ops (by kernel_rfl) (fun K hK => ?_); simp (disch := first | omega | (simp only [lnS]; try omega; done)) [-getElem?_pos, -getElem?_neg]; refine hK _ _ ?_; clear hK K)
  refine aw_seq ?_
  refine aw_seq ?_
  (refine aw_ops (by kernel_rfl) (fun K hK => ?_); simp (disch := first | omega | (simp only [lnS]; try omega; done)) [-getElem?_pos, -getElem?_neg]; refine hK _ _ ?_; clear hK K)
  refine aw_block ?_
  refine aw_loop (fun c2 α G3 => ∃ t : Nat, t + c2 = l.length ∧ G2 = G3 ∧ α 0 = u ∧ α 3 = av ∧ α 4 = .int .i64 (i : Nat) ∧ α 7 = .int .i64 w ∧ α 8 = .bool ((List.range t).any (agB' l i w)) ∧ α 9 = .int .i64 (t : Nat)) l.length ?_ ?_
  · exact ⟨0, by omega, rfl, by (first | (simp [put_at, put_none, fr0_at, q0]; done) | rfl), by (first | (simp [put_at, put_none, fr0_at, q3]; done) | rfl), by (first | (simp [put_at, put_none, fr0_at, q4]; done) | rfl), by (first | (simp [put_at, put_none, fr0_at]; done) | rfl), by show _ = Value.bool false; (first | (simp [put_at, put_none, fr0_at]; done) | rfl), by (first | (simp [put_at, put_none, fr0_at]; done) | rfl)⟩
  clear q0 q3 q4
  rintro c2 α _ ⟨t, htc, rfl, q0, q3, q4, q7, q8, q9⟩
  refine aw_seq ?_
  refine aw_seq ?_
  by_cases ht : t < l.length
  case neg =>
    obtain rfl : t = l.length := by omega
    (refine aw_ops (by kernel_rfl) (fun K hK => ?_); simp (disch := first | omega | (simp only [lnS]; try omega; done)) [-getElem?_pos, -getElem?_neg, q0, q9, -notTuple, v1, v2, nt_intG, -xlen, hxl, ht]; refine hK _ _ ?_; clear hK K)
    refine aw_f (by (first | (simp [eval_tmp, put_at, ht]; done) | (simp [eval_tmp, put_at, ht]; omega))) (by kernel_rfl) ?_
    refine aw_exit ?_
    refine aw_seq ?_
    have hFA2 := hFA.low (H' := G2) (fun j hj => lwG2.1 j (hFA.lt j hj))
    have in2 := rIn_rc (γ := γ) (own_inv hFA2) hal8 w
    cases hag : (List.range l.length).any (agB' l i w) with
    | true =>
      rw [hag] at q8
      (refine aw_ops (by kernel_rfl) (fun K hK => ?_); simp (disch := first | omega | (simp only [lnS]; try omega; done)) [-getElem?_pos, -getElem?_neg, q8]; refine hK _ _ ?_; clear hK K)
      refine aw_f (by (first | (simp [eval_tmp, put_at]; done) | (simp [eval_tmp, put_at]; omega))) (by kernel_rfl) ?_
      refine aw_skip ?_
      (refine aw_ops (by kernel_rfl) (fun K hK => ?_); simp (disch := first | omega | (simp only [lnS]; try omega; done)) [-getElem?_pos, -getElem?_neg, q4]; refine hK _ _ ?_; clear hK K)
      exact ⟨c - 1, by omega, i + 1, by omega, lwG2, by (first | (simp [put_at, put_none, fr0_at, q0]; done) | rfl), by (first | (simp [put_at, put_none, fr0_at, q3]; done) | rfl), by (first | (simp [put_at, put_none, fr0_at]; done) | rfl)⟩
    | false =>
      rw [hag] at q8
      rw [decide_eq_false (hst hag)] at in2
      refine aw_ops (by kernel_rfl) (fun K hK => ?_)
      simp (disch := first | omega | (simp only [lnS]; try omega; done)) [-getElem?_pos, -getElem?_neg, q3, q7, q8, -notTuple, a1, a2, nt_intG]
      refine ⟨by kernel_rfl, ac_of_rc in2 (by simp [pv_iv, pv_int, pv_bool, pv_string, pv_tup2, pv_tup3, iv_plain, p2_int, p2_bool, p2_string]) ?_⟩
      try simp (disch := first | omega | (simp only [lnS]; try omega; done)) [-getElem?_pos, -getElem?_neg]
      refine hK _ _ ?_; clear hK K
      refine aw_f (by (first | (simp [eval_tmp, put_at]; done) | (simp [eval_tmp, put_at]; omega))) (by kernel_rfl) ?_
      refine aw_skip ?_
      (refine aw_ops (by kernel_rfl) (fun K hK => ?_); simp (disch := first | omega | (simp only [lnS]; try omega; done)) [-getElem?_pos, -getElem?_neg, q4]; refine hK _ _ ?_; clear hK K)
      exact ⟨c - 1, by omega, i + 1, by omega, lwG2, by (first | (simp [put_at, put_none, fr0_at, q0]; done) | rfl), by (first | (simp [put_at, put_none, fr0_at, q3]; done) | rfl), by (first | (simp [put_at, put_none, fr0_at]; done) | rfl)⟩
  clear hst
  have hsu : (List.range (t + 1)).any (agB' l i w) = ((List.range t).any (agB' l i w) || agB' l i w t) := orTo_succ (agB' l i w) t
  have hag : agB' l i w t = (ahB l i t && (decide ((nd l t).op.kind = 2) && decide ((nd l t).op.who.getD 0 0 = w))) := rfl
  obtain ⟨j', q', bb', us', pv', wv', bvv', qv', hx', hbb', hq', hcell', hus', hC'⟩ := hN.at_ t _ (nd_get ht)
  have hbG' : hget G2 j' = some bb' := (lwH2.1 j' (hget_lt hbb')).trans hbb'
  have c3' : bb'.cells[q' + 35]? = some (.int .i64 (nd l t).op.kind) := by
    rw [hcell' 35 (by omega)]
    have := hC'.op.c3
    rwa [List.getElem?_take_of_lt (by omega), List.getElem?_drop] at this
  have c4' : bb'.cells[q' + 36]? = some wv' := by
    rw [hcell' 36 (by omega)]
    have := hC'.op.c4
    rwa [List.getElem?_take_of_lt (by omega), List.getElem?_drop] at this
  have xl3' : xload Try.prog 3 (.pointer (some ⟨j', q' + 35, none⟩)) G2 = some (.int .i64 (nd l t).op.kind) := by simp [xload, hbG', c3']
  have xl4' : xload Try.prog 23 (.pointer (some ⟨j', q' + 36, none⟩)) G2 = some wv' := by simp [xload, hbG', c4']
  have hw1' := hC'.op.who.acc.nt
  have hw2' := hC'.op.who.acc.cs
  have rah := ahead_rc (γ := γ) hNG2 (i : Int) (t : Int)
  have eah : aheadB l i t = ahB l i t := by
    unfold aheadB ahB pastAt
    have p1 : isP l (i : Int) = true := by unfold isP; simp [hi]
    have p2 : isP l (t : Int) = true := by unfold isP; simp [ht]
    rw [h3, p1, p2]
    simp
  rw [eah] at rah
  (refine aw_ops (by kernel_rfl) (fun K hK => ?_); simp (disch := first | omega | (simp only [lnS]; try omega; done)) [-getElem?_pos, -getElem?_neg, q0, q9, -notTuple, v1, v2, nt_intG, -xlen, hxl, ht]; refine hK _ _ ?_; clear hK K)
  refine aw_t (by (first | (simp [eval_tmp, put_at, ht]; done) | (simp [eval_tmp, put_at, ht]; omega))) (by kernel_rfl) ?_
  refine aw_skip ?_
  refine aw_seq ?_
  refine aw_block ?_
  cases hcur : (List.range t).any (agB' l i w) with
  | true =>
    rw [hcur] at q8
    (refine aw_ops (by kernel_rfl) (fun K hK => ?_); simp (disch := first | omega | (simp only [lnS]; try omega; done)) [-getElem?_pos, -getElem?_neg, q8]; refine hK _ _ ?_; clear hK K)
    (refine aw_ops (by kernel_rfl) (fun K hK => ?_); simp (disch := first | omega | (simp only [lnS]; try omega; done)) [-getElem?_pos, -getElem?_neg, q9]; refine hK _ _ ?_; clear hK K)
    exact ⟨c2 - 1, by omega, t + 1, by omega, rfl, by (first | (simp [put_at, put_none, fr0_at, q0]; done) | rfl), by (first | (simp [put_at, put_none, fr0_at, q3]; done) | rfl), by (first | (simp [put_at, put_none, fr0_at, q4]; done) | rfl), by (first | (simp [put_at, put_none, fr0_at, q7]; done) | rfl), by rw [hsu, hcur]; (first | (simp [put_at, put_none, fr0_at]; done) | rfl), by (first | (simp [put_at, put_none, fr0_at]; done) | rfl)⟩
  | false =>
  rw [hcur] at q8
  rw [hcur, Bool.false_or, hag] at hsu
  refine aw_ops (by kernel_rfl) (fun K hK => ?_)
  simp (disch := first | omega | (simp only [lnS]; try omega; done)) [-getElem?_pos, -getElem?_neg, q0, q4, q8, q9, -notTuple, v1, v2, nt_intG]
  refine ⟨by kernel_rfl, ac_of_rc rah (by simp [pv_iv, pv_int, pv_bool, pv_string, pv_tup2, pv_tup3, iv_plain, p2_int, p2_bool, p2_string]) ?_⟩
  cases hA : ahB l i t with
  | false =>
    rw [hA, Bool.false_and] at hsu
    try simp (disch := first | omega | (simp only [lnS]; try omega; done)) [-getElem?_pos, -getElem?_neg]
    refine hK _ _ ?_; clear hK K
    (refine aw_ops (by kernel_rfl) (fun K hK => ?_); simp (disch := first | omega | (simp only [lnS]; try omega; done)) [-getElem?_pos, -getElem?_neg, q9]; refine hK _ _ ?_; clear hK K)
    exact ⟨c2 - 1, by omega, t + 1, by omega, rfl, by (first | (simp [put_at, put_none, fr0_at, q0]; done) | rfl), by (first | (simp [put_at, put_none, fr0_at, q3]; done) | rfl), by (first | (simp [put_at, put_none, fr0_at, q4]; done) | rfl), by (first | (simp [put_at, put_none, fr0_at, q7]; done) | rfl), by rw [hsu]; (first | (simp [put_at, put_none, fr0_at]; done) | rfl), by (first | (simp [put_at, put_none, fr0_at]; done) | rfl)⟩
  | true =>
  rw [hA, Bool.true_and] at hsu
  by_cases hk2 : (nd l t).op.kind = 2
  case neg =>
    rw [decide_eq_false hk2, Bool.false_and] at hsu
    have hkb2 : ((nd l t).op.kind == 2) = false := by simp [hk2]
    simp (disch := first | omega | (simp only [lnS]; try omega; done)) [-getElem?_pos, -getElem?_neg, q0, q4, q8, q9, -notTuple, v1, v2, nt_intG, -xindexAddr, hx', -xload, xl3', hk2, hkb2]
    refine hK _ _ ?_; clear hK K
    (refine aw_ops (by kernel_rfl) (fun K hK => ?_); simp (disch := first | omega | (simp only [lnS]; try omega; done)) [-getElem?_pos, -getElem?_neg, q9]; refine hK _ _ ?_; clear hK K)
    exact ⟨c2 - 1, by omega, t + 1, by omega, rfl, by (first | (simp [put_at, put_none, fr0_at, q0]; done) | rfl), by (first | (simp [put_at, put_none, fr0_at, q3]; done) | rfl), by (first | (simp [put_at, put_none, fr0_at, q4]; done) | rfl), by (first | (simp [put_at, put_none, fr0_at, q7]; done) | rfl), by rw [hsu]; (first | (simp [put_at, put_none, fr0_at]; done) | rfl), by (first | (simp [put_at, put_none, fr0_at]; done) | rfl)⟩
  rw [decide_eq_true hk2, Bool.true_and] at hsu
  have hkb2 : ((nd l t).op.kind == 2) = true := by simp [hk2]
  obtain ⟨y, hye⟩ := rightO_who1 (right_op h3 ht) (.inl hk2)
  have hwho' := hC'.op.who
  rw [hye] at hwho' hsu
  obtain ⟨p2', x2', y1, y2, y3, y4, y5⟩ := hwho'.acc.at_ 0 (by simp)
  have y5 := y5 G2 lwH2
  subst y4
  have y5 : xload Try.prog 3 p2' G2 = some (.int .i64 y) := y5
  have y2 : xindexAddr Try.prog 23 wv' (.int .i64 0) = some p2' := y2
  have hsu : (List.range (t + 1)).any (agB' l i w) = decide (y = w) := hsu
  by_cases hyw : y = w
  · have hb2 : (y == w) = true := by simp [hyw]
    rw [decide_eq_true hyw] at hsu
    simp (disch := first | omega | (simp only [lnS]; try omega; done)) [-getElem?_pos, -getElem?_neg, q0, q4, q7, q8, q9, -notTuple, v1, v2, hw1', hw2', y1, nt_intG, -xindexAddr, hx', y2, -xload, xl3', xl4', y5, hk2, hkb2, hyw, hb2]
    refine hK _ _ ?_; clear hK K
    (refine aw_ops (by kernel_rfl) (fun K hK => ?_); simp (disch := first | omega | (simp only [lnS]; try omega; done)) [-getElem?_pos, -getElem?_neg, q9]; refine hK _ _ ?_; clear hK K)
    exact ⟨c2 - 1, by omega, t + 1, by omega, rfl, by (first | (simp [put_at, put_none, fr0_at, q0]; done) | rfl), by (first | (simp [put_at, put_none, fr0_at, q3]; done) | rfl), by (first | (simp [put_at, put_none, fr0_at, q4]; done) | rfl), by (first | (simp [put_at, put_none, fr0_at, q7]; done) | rfl), by rw [hsu]; (first | (simp [put_at, put_none, fr0_at]; done) | rfl), by (first | (simp [put_at, put_none, fr0_at]; done) | rfl)⟩
  · have hb2 : (y == w) = false := by simp [hyw]
    rw [decide_eq_false hyw] at hsu
    simp (disch := first | omega | (simp only [lnS]; try omega; done)) [-getElem?_pos, -getElem?_neg, q0, q4, q7, q8, q9, -notTuple, v1, v2, hw1', hw2', y1, nt_intG, -xindexAddr, hx', y2, -xload, xl3', xl4', y5, hk2, hkb2, hyw, hb2]
    refine hK _ _ ?_; clear hK K
    (refine aw_ops (by kernel_rfl) (fun K hK => ?_); simp (disch := first | omega | (simp only [lnS]; try omega; done)) [-getElem?_pos, -getElem?_neg, q9]; refine hK _ _ ?_; clear hK K)
    exact ⟨c2 - 1, by omega, t + 1, by omega, rfl, by (first | (simp [put_at, put_none, fr0_at, q0]; done) | rfl), by (first | (simp [put_at, put_none, fr0_at, q3]; done) | rfl), by (first | (simp [put_at, put_none, fr0_at, q4]; done) | rfl), by (first | (simp [put_at, put_none, fr0_at, q7]; done) | rfl), by rw [hsu]; (first | (simp [put_at, put_none, fr0_at]; done) | rfl), by (first | (simp [put_at, put_none, fr0_at]; done) | rfl)⟩
end
end Go.Proofs.Ytdeccbjdhcifiaa
