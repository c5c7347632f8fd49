/-
  The law RelayApart, walked.
-/
import Derived.Test.YteldoimjachbbaaRk
namespace Go.Proofs.Yteldoimjachbbaa
open Go Go.RowKit
set_option linter.unusedVariables false
set_option linter.unusedSimpArgs false
set_option maxRecDepth 100000
set_option maxHeartbeats 8000000
attribute [local simp] wb_bool wb_undef XL_nil XL_cons XLc_val XLc_call step1_eq stepW_t stepW_f stepC_n stepC_s stepX_s xop_eq xopR_s xopR_n wantedA_eq wantedG_n wantedG_s plain1_int plain1_bool plain1_string bits_i64 bits_u64 bits_u32 bits_u16 bits_u8 xeqA xarr allK_iv num_iv calleeOf xread xeff xbin xint xnil xun xstr xload xconv xpart xfield xfieldAddr xindexAddr xindex bnd asInt? xslice xlen xmin xmax xbuild xfill xappend xappmk xcap xcopy xcells eval_tmp eval_const put_at put_none fr0_at cells_agg cells_int cells_bool cells_string cells_ptr cells_slice notTuple tab iv_all hget_app hget_app0 hget_cons0 hget_cons set_app set_app0 setR setR_one QL_nil QL_cons QLc_val stepQ_t stepQ_f stepQC_n stepQC_s stepQX_s SL_nil SL_cons SLc_val stepS_t stepS_f ltT ltF leT leF eqT eqF ltTn ltFn leTn leFn eqTn eqFn beqT beqF bneT bneF wi64 wu64 wu32 wu16 wu8 tmodP tdivP hgetL hgetNe hgetEq setL nums_def nums_len Nat.succ_le_of_lt List.getElem?_cons_zero List.getElem?_cons_succ Option.getD_some Int.toNat_add Int.toNat_mul agB agI agS agP agL agA okB okI okS okP okSl okA
theorem apart_law {H : AH} {γ : Nat → Option Nat} {v : Value} {rows : List (List FD)} (hv : SlR 5 H v rows) (hok : RowsOk rows) (hlen : rows.length ≤ maxLen) (to : Int) :
    AC Try.prog H.length γ 4 #[v, .int .i64 to] H (fun v' _ => v' = .bool true) := by
  simp only [maxLen] at hlen
  have hno : notTuple v = true := by rcases hv with ⟨a, rfl, _⟩ | ⟨j, k, rfl, _⟩ <;> rfl
  refine ac_of_aw Try.func4 rfl Try.ntmps4 Try.results4 (by simp) ?_
  refine aw_seq ?_
  (refine aw_ops (by kernel_rfl) (fun K hK => ?_); simp (disch := first | omega | (simp only [List.length_set, List.length_append, List.length_cons, List.length_nil, iv_length, zl_length]; try omega; done)) [-getElem?_pos, -getElem?_neg]; refine hK _ _ ?_; clear hK K)
  refine aw_seq ?_
  refine aw_seq ?_
  refine aw_ops (by kernel_rfl) (fun K hK => ?_)
  simp (disch := first | omega | (simp only [List.length_set, List.length_append, List.length_cons, List.length_nil, iv_length, zl_length]; try omega; done)) [-getElem?_pos, -getElem?_neg]
  refine ⟨by kernel_rfl, ac_of_vc (by simp [pv_iv, pv_int, pv_bool, pv_string, pv_tup2, pv_tup3, iv_plain, p2_int, p2_bool, p2_string]) alive_vc ?_⟩
  simp (disch := first | omega | (simp only [List.length_set, List.length_append, List.length_cons, List.length_nil, iv_length, zl_length]; try omega; done)) [-getElem?_pos, -getElem?_neg]
  refine hK _ _ ?_; clear hK K
  refine aw_f (by (first | (simp [eval_tmp, put_at]; done) | (simp [eval_tmp, put_at]; omega))) (by kernel_rfl) ?_
  refine aw_skip ?_
  refine aw_seq ?_
  (refine aw_ops (by kernel_rfl) (fun K hK => ?_); simp (disch := first | omega | (simp only [List.length_set, List.length_append, List.length_cons, List.length_nil, iv_length, zl_length]; try omega; done)) [-getElem?_pos, -getElem?_neg]; refine hK _ _ ?_; clear hK K)
  have hp0 := Pr.start (T1 := 28) (T2 := 28) (H := H) rfl rfl
  refine aw_seq ?_
  refine aw_seq ?_
  (refine aw_ops (by kernel_rfl) (fun K hK => ?_); simp (disch := first | omega | (simp only [List.length_set, List.length_append, List.length_cons, List.length_nil, iv_length, zl_length]; try omega; done)) [-getElem?_pos, -getElem?_neg]; refine hK _ _ ?_; clear hK K)
  have hxl := hv.len (P := Try.prog) (t := 22) (e := 33) (by simp)
  obtain ⟨p, hp⟩ : ∃ p, p = H.length := ⟨_, rfl⟩
  obtain ⟨q, hq⟩ : ∃ q, q = H.length + 1 := ⟨_, rfl⟩
  refine aw_cut (fun α G' => α 1 = .int .i64 to ∧ α 5 = .pointer (some ⟨p, 0, none⟩) ∧ α 6 = .pointer (some ⟨q, 0, none⟩) ∧
    ∃ L M, LB L ∧ LB M ∧ Near L M to ∧ Pr (fun j => j < H.length) H H.length p q 28 28 G' L M) ?_ ?_
  · refine aw_block ?_
    refine aw_loop (fun c α G' => ∃ i : Nat, i + c = rows.length ∧ i ≤ 100 ∧ α 7 = .int .i64 (i : Nat) ∧ α 0 = v ∧ α 1 = .int .i64 to ∧ α 5 = .pointer (some ⟨p, 0, none⟩) ∧ α 6 = .pointer (some ⟨q, 0, none⟩) ∧
      ∃ L M, LB L ∧ LB M ∧ Near L M to ∧ Pr (fun j => j < H.length) H H.length p q 28 28 G' L M) rows.length ?_ ?_
    · refine ⟨0, by omega, by omega, by (first | (simp [put_at, put_none, fr0_at]; done) | rfl), by (first | (simp [put_at, put_none, fr0_at]; done) | rfl), by (first | (simp [put_at, put_none, fr0_at]; done) | rfl), by simp [put_at, hp], by simp [put_at, hq], eL, eL, eL_b, eL_b, fun _ => rfl, ?_⟩
      rw [hp, hq]
      exact hp0
    clear hp0
    rintro c α G' ⟨i, hic, hi100, h7, h0, h1, h5, h6, L, M, hb, hbm, hnear, hpr⟩
    refine aw_seq ?_
    refine aw_seq ?_
    by_cases hi : i < rows.length
    case neg =>
      (refine aw_ops (by kernel_rfl) (fun K hK => ?_); simp (disch := first | omega | (simp only [List.length_set, List.length_append, List.length_cons, List.length_nil, iv_length, zl_length]; try omega; done)) [-getElem?_pos, -getElem?_neg, h7, h0, -xlen, hxl, hi]; refine hK _ _ ?_; clear hK K)
      refine aw_f (by (first | (simp [eval_tmp, put_at, hi]; done) | (simp [eval_tmp, put_at, hi]; omega))) (by kernel_rfl) ?_
      refine aw_exit ?_
      exact ⟨by (first | (simp [put_at, put_none, fr0_at, h1]; done) | rfl), by (first | (simp [put_at, put_none, fr0_at, h5]; done) | rfl), by (first | (simp [put_at, put_none, fr0_at, h6]; done) | rfl), L, M, hb, hbm, hnear, hpr⟩
    by_cases hi8 : i < 100
    case neg =>
      (refine aw_ops (by kernel_rfl) (fun K hK => ?_); simp (disch := first | omega | (simp only [List.length_set, List.length_append, List.length_cons, List.length_nil, iv_length, zl_length]; try omega; done)) [-getElem?_pos, -getElem?_neg, h7, h0, -xlen, hxl, hi, hi8]; refine hK _ _ ?_; clear hK K)
      refine aw_f (by (first | (simp [eval_tmp, put_at, hi8]; done) | (simp [eval_tmp, put_at, hi8]; omega))) (by kernel_rfl) ?_
      refine aw_exit ?_
      exact ⟨by (first | (simp [put_at, put_none, fr0_at, h1]; done) | rfl), by (first | (simp [put_at, put_none, fr0_at, h5]; done) | rfl), by (first | (simp [put_at, put_none, fr0_at, h6]; done) | rfl), L, M, hb, hbm, hnear, hpr⟩
    (refine aw_ops (by kernel_rfl) (fun K hK => ?_); simp (disch := first | omega | (simp only [List.length_set, List.length_append, List.length_cons, List.length_nil, iv_length, zl_length]; try omega; done)) [-getElem?_pos, -getElem?_neg, h7, h0, -xlen, hxl, hi, hi8]; refine hK _ _ ?_; clear hK K)
    refine aw_t (by (first | (simp [eval_tmp, put_at, hi8]; done) | (simp [eval_tmp, put_at, hi8]; omega))) (by kernel_rfl) ?_
    refine aw_skip ?_
    refine aw_seq ?_
    refine aw_block ?_
    have hlow : ∀ j, j < H.length → hget G' j = hget H j := fun j hj => (hpr.st j hj).2.2.2
    obtain ⟨jv, kb, rfl, hjl, hkb, hkl, hrow, hc1, hc4⟩ := act_at hv hok hi
    have hgk : hget G' jv = some kb := (hlow jv hjl).trans hkb
    generalize aKind rows i = kd at *
    generalize aTo rows i = t at *
    generalize aI rows i = ai at *
    generalize aK rows i = ak at *
    generalize aTx rows i = s at *
    have hgl : H.length ≤ G'.length := hpr.len
    refine aw_seq ?_
    refine aw_seq ?_
    by_cases hlong : 1000 < s.size
    · (refine aw_ops (by kernel_rfl) (fun K hK => ?_); simp (disch := first | omega | (simp only [List.length_set, List.length_append, List.length_cons, List.length_nil, iv_length, zl_length]; try omega; done)) [-getElem?_pos, -getElem?_neg, h7, h0, hgk, hc4, hi, hlong]; refine hK _ _ ?_; clear hK K)
      refine aw_t (by (first | (simp [eval_tmp, put_at, hlong]; done) | (simp [eval_tmp, put_at, hlong]; omega))) (by kernel_rfl) ?_
      refine aw_exit ?_
      (refine aw_ops (by kernel_rfl) (fun K hK => ?_); simp (disch := first | omega | (simp only [List.length_set, List.length_append, List.length_cons, List.length_nil, iv_length, zl_length]; try omega; done)) [-getElem?_pos, -getElem?_neg, h7]; refine hK _ _ ?_; clear hK K)
      exact ⟨c - 1, by omega, i + 1, by omega, by omega, by (first | (simp [put_at, put_none, fr0_at]; done) | rfl), by (first | (simp [put_at, put_none, fr0_at, h0]; done) | rfl), by (first | (simp [put_at, put_none, fr0_at, h1]; done) | rfl), by (first | (simp [put_at, put_none, fr0_at, h5]; done) | rfl), by (first | (simp [put_at, put_none, fr0_at, h6]; done) | rfl), L, M, hb, hbm, hnear, hpr⟩
    (refine aw_ops (by kernel_rfl) (fun K hK => ?_); simp (disch := first | omega | (simp only [List.length_set, List.length_append, List.length_cons, List.length_nil, iv_length, zl_length]; try omega; done)) [-getElem?_pos, -getElem?_neg, h7, h0, hgk, hc4, hi, hlong]; refine hK _ _ ?_; clear hK K)
    refine aw_f (by (first | (simp [eval_tmp, put_at, hlong]; done) | (simp [eval_tmp, put_at, hlong]; omega))) (by kernel_rfl) ?_
    refine aw_skip ?_
    have hlo1 := hpr.lo1
    have hlo2 := hpr.lo2
    refine aw_seq ?_
    refine aw_ops (by kernel_rfl) (fun K hK => ?_)
    simp (disch := first | omega | (simp only [List.length_set, List.length_append, List.length_cons, List.length_nil, iv_length, zl_length]; try omega; done)) [-getElem?_pos, -getElem?_neg, h7, h0, h5, hgk, hrow, hi]
    refine ⟨by kernel_rfl, (do_ac hpr.a hb hlo1 hpr.len hpr.hX).mono ?_⟩
    rintro _ G2 ⟨rfl, h2r, hf2⟩
    try simp (disch := first | omega | (simp only [List.length_set, List.length_append, List.length_cons, List.length_nil, iv_length, zl_length]; try omega; done)) [-getElem?_pos, -getElem?_neg]
    refine hK _ _ ?_; clear hK K
    have hm2 := hpr.l h2r hf2
    have hgk2 : hget G2 jv = some kb := ((hm2.st jv hjl).2.2.2).trans hkb
    refine aw_seq ?_
    refine aw_seq ?_
    by_cases hto : t = to
    case neg =>
      (refine aw_ops (by kernel_rfl) (fun K hK => ?_); simp (disch := first | omega | (simp only [List.length_set, List.length_append, List.length_cons, List.length_nil, iv_length, zl_length]; try omega; done)) [-getElem?_pos, -getElem?_neg, h7, h0, h1, hgk2, hc1, hi, hto]; refine hK _ _ ?_; clear hK K)
      refine aw_t (by (first | (simp [eval_tmp, put_at, hto]; done) | (simp [eval_tmp, put_at, hto]; omega))) (by kernel_rfl) ?_
      refine aw_exit ?_
      (refine aw_ops (by kernel_rfl) (fun K hK => ?_); simp (disch := first | omega | (simp only [List.length_set, List.length_append, List.length_cons, List.length_nil, iv_length, zl_length]; try omega; done)) [-getElem?_pos, -getElem?_neg, h7]; refine hK _ _ ?_; clear hK K)
      exact ⟨c - 1, by omega, i + 1, by omega, by omega, by (first | (simp [put_at, put_none, fr0_at]; done) | rfl), by (first | (simp [put_at, put_none, fr0_at, h0]; done) | rfl), by (first | (simp [put_at, put_none, fr0_at, h1]; done) | rfl), by (first | (simp [put_at, put_none, fr0_at, h5]; done) | rfl), by (first | (simp [put_at, put_none, fr0_at, h6]; done) | rfl), _, M, doL_b hb, hbm, fun hm => (do_far hm hto).trans (hnear hm), hm2⟩
    subst hto
    (refine aw_ops (by kernel_rfl) (fun K hK => ?_); simp (disch := first | omega | (simp only [List.length_set, List.length_append, List.length_cons, List.length_nil, iv_length, zl_length]; try omega; done)) [-getElem?_pos, -getElem?_neg, h7, h0, h1, hgk2, hc1, hi, bne_self_eq_false]; refine hK _ _ ?_; clear hK K)
    refine aw_f (by (first | (simp [eval_tmp, put_at]; done) | (simp [eval_tmp, put_at]; omega))) (by kernel_rfl) ?_
    refine aw_skip ?_
    refine aw_seq ?_
    refine aw_ops (by kernel_rfl) (fun K hK => ?_)
    simp (disch := first | omega | (simp only [List.length_set, List.length_append, List.length_cons, List.length_nil, iv_length, zl_length]; try omega; done)) [-getElem?_pos, -getElem?_neg, h7, h0, h6, hgk2, hrow, hi]
    refine ⟨by kernel_rfl, (do_ac hm2.b hbm hlo2 hm2.len hm2.hX).mono ?_⟩
    rintro _ G3 ⟨rfl, h3r, hf3⟩
    try simp (disch := first | omega | (simp only [List.length_set, List.length_append, List.length_cons, List.length_nil, iv_length, zl_length]; try omega; done)) [-getElem?_pos, -getElem?_neg]
    refine hK _ _ ?_; clear hK K
    have hm3 := hm2.r h3r hf3
    obtain ⟨e1, e2, hn3⟩ := do_near (kd := kd.tmod 5) (i := ai) (k := ak) (s := s) hnear
    rw [← e1, ← e2]
    refine aw_seq ?_
    (refine aw_ops (by kernel_rfl) (fun K hK => ?_); simp (disch := first | omega | (simp only [List.length_set, List.length_append, List.length_cons, List.length_nil, iv_length, zl_length]; try omega; done)) [-getElem?_pos, -getElem?_neg, bne_self_eq_false]; refine hK _ _ ?_; clear hK K)
    refine aw_f (by (first | (simp [eval_tmp, put_at]; done) | (simp [eval_tmp, put_at]; omega))) (by kernel_rfl) ?_
    refine aw_skip ?_
    (refine aw_ops (by kernel_rfl) (fun K hK => ?_); simp (disch := first | omega | (simp only [List.length_set, List.length_append, List.length_cons, List.length_nil, iv_length, zl_length]; try omega; done)) [-getElem?_pos, -getElem?_neg, h7]; refine hK _ _ ?_; clear hK K)
    exact ⟨c - 1, by omega, i + 1, by omega, by omega, by (first | (simp [put_at, put_none, fr0_at]; done) | rfl), by (first | (simp [put_at, put_none, fr0_at, h0]; done) | rfl), by (first | (simp [put_at, put_none, fr0_at, h1]; done) | rfl), by (first | (simp [put_at, put_none, fr0_at, h5]; done) | rfl), by (first | (simp [put_at, put_none, fr0_at, h6]; done) | rfl), _, _, doL_b hb, doL_b hbm, hn3, hm3⟩
  · rintro α G' ⟨h1, h5, h6, L, M, hb, hbm, hnear, hpr⟩
    have hlM : (mailL M to).length ≤ 1000 := by
      unfold mailL
      split
      · rename_i hm
        have := memB_iff.1 hm
        have := hbm to.toNat (by omega)
        omega
      · simp
    refine aw_seq ?_
    refine aw_ops (by kernel_rfl) (fun K hK => ?_)
    simp (disch := first | omega | (simp only [List.length_set, List.length_append, List.length_cons, List.length_nil, iv_length, zl_length]; try omega; done)) [-getElem?_pos, -getElem?_neg]
    refine ⟨by kernel_rfl, ac_of_vc (by simp [pv_iv, pv_int, pv_bool, pv_string, pv_tup2, pv_tup3, iv_plain, p2_int, p2_bool, p2_string]) alive_vc ?_⟩
    try simp (disch := first | omega | (simp only [List.length_set, List.length_append, List.length_cons, List.length_nil, iv_length, zl_length]; try omega; done)) [-getElem?_pos, -getElem?_neg, h1, h5, h6]
    refine ⟨by kernel_rfl, (mail_ac hpr.a hb hpr.len).mono ?_⟩
    rintro v1 G1 ⟨g1, g2, g3⟩
    have hnt1 := g1.nt
    have hp1 := hpr.ext g2 g3
    try simp (disch := first | omega | (simp only [List.length_set, List.length_append, List.length_cons, List.length_nil, iv_length, zl_length]; try omega; done)) [-getElem?_pos, -getElem?_neg, h1, h5, h6]
    refine ⟨by kernel_rfl, (mail_ac hp1.b hbm hp1.len).mono ?_⟩
    rintro v2 G2 ⟨g4, g5, g6⟩
    have hnt2 := g4.nt
    try simp (disch := first | omega | (simp only [List.length_set, List.length_append, List.length_cons, List.length_nil, iv_length, zl_length]; try omega; done)) [-getElem?_pos, -getElem?_neg, h1, h5, h6]
    rw [mail_near hnear] at g1
    refine ⟨by kernel_rfl, (same_ac (g1.keep g5 g6) g4 hlM).mono ?_⟩
    rintro v3 G3 ⟨rfl, rfl⟩
    try simp (disch := first | omega | (simp only [List.length_set, List.length_append, List.length_cons, List.length_nil, iv_length, zl_length]; try omega; done)) [-getElem?_pos, -getElem?_neg, h1, h5, h6]
    refine hK _ _ ?_; clear hK K
    (refine aw_ret ?_; simp (disch := first | omega | (simp only [List.length_set, List.length_append, List.length_cons, List.length_nil, iv_length, zl_length]; try omega; done)) [-getElem?_pos, -getElem?_neg, thenQ_ret, inBlockQ_ret, RQ, resL, resV])
end Go.Proofs.Yteldoimjachbbaa
