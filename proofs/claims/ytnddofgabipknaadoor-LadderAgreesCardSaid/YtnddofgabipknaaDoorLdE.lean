/-
  The reference: sums, differences and products as bytes; bit, walked.
  The reference's ladder, walked.
  LadderPublic and LadderAgrees, walked.
-/
import Derived.Test.YtnddofgabipknaaDoorLdD
namespace Go.Proofs.YtnddofgabipknaaDoor
section
open Go Go.RowKit
set_option linter.unusedVariables false
set_option linter.unusedSimpArgs false
set_option maxRecDepth 100000
set_option maxHeartbeats 4000000

theorem rp_l (H : AH) (γ : Nat → Option Nat) {X Y : Int} (hX : El X) (hY : El Y) : AC Tryd.prog H.length γ 17 #[.agg (iv .u8 (bytesM X)).toArray, .agg (iv .u8 (bytesM Y)).toArray] H (fun v' _ => v' = .agg (iv .u8 (bytesM (addM X Y))).toArray) := by
  have h := rplus_rc (H := H) (γ := γ) (bytesM_by X) (bytesM_by Y) (bytesM_len X) (bytesM_len Y)
  rw [add_dig _ hX (bytesM_by Y) (bytesM_len Y), from_bytes hY] at h
  exact h
theorem rm_l (H : AH) (γ : Nat → Option Nat) {X Y : Int} (hX : El X) (hY : El Y) : AC Tryd.prog H.length γ 18 #[.agg (iv .u8 (bytesM X)).toArray, .agg (iv .u8 (bytesM Y)).toArray] H (fun v' _ => v' = .agg (iv .u8 (bytesM (subM X Y))).toArray) := by
  have h := rminus_rc (H := H) (γ := γ) (bytesM_by X) (bytesM_by Y) (bytesM_len X) (bytesM_len Y)
  rw [sub_dig _ hX (bytesM_by Y) (bytesM_len Y), from_bytes hY] at h
  exact h
theorem rt_l (H : AH) (γ : Nat → Option Nat) {X Y : Int} (hX : El X) (hY : El Y) : AC Tryd.prog H.length γ 19 #[.agg (iv .u8 (bytesM X)).toArray, .agg (iv .u8 (bytesM Y)).toArray] H (fun v' _ => v' = .agg (iv .u8 (bytesM (mulM X Y))).toArray) := by
  have h := rtimes_rc (H := H) (γ := γ) (bytesM_by X) (bytesM_by Y) (bytesM_len X) (bytesM_len Y)
  rw [mul_dig _ hX (bytesM_by Y) (bytesM_len Y), from_bytes hY] at h
  exact h
theorem bytes_1 : bytesM 1 = 1 :: zl 31 := by decide +kernel
theorem setR_bytes (X Y : Int) : setR (iv .u8 (bytesM X)) 0 (iv .u8 (bytesM Y)) = iv .u8 (bytesM Y) := setR_all _ _ (by simp [bytesM_len])
theorem setR_bz (Y : Int) : setR (iv .u8 (zl 32)) 0 (iv .u8 (bytesM Y)) = iv .u8 (bytesM Y) := setR_all _ _ (by simp [bytesM_len])
theorem take_bytes (X : Int) : (iv .u8 (bytesM X)).take 32 = iv .u8 (bytesM X) := List.take_of_length_le (by simp [bytesM_len])
theorem one_bytes : setR (iv .u8 (zl 32)) 0 [.int .u8 1] = iv .u8 (bytesM 1) := by rw [bytes_1]; rfl
theorem one_bytes' : (iv .u8 (zl 32)).set 0 (.int .u8 1) = iv .u8 (bytesM 1) := by rw [bytes_1]; rfl
attribute [local irreducible] wl addM subM mulM pM climbM fromM bytesM lad agrL agrB puL pwX pN eI invM sb
attribute [local simp] wb_bool wb_undef XL_nil XL_cons XLc_val XLc_call step1_eq stepW_t stepW_f stepC_n stepC_s stepX_s xop_eq xopR_s xopR_n wantedA_eq wantedG_n wantedG_s plain1_int plain1_bool plain1_string bits_i64 bits_u64 bits_u32 bits_u16 bits_u8 xeqA xarr allK_iv num_iv calleeOf xread xeff xbin xint xnil xun xstr xload xconv xpart xfield xfieldAddr xindexAddr xindex bnd asInt? xslice xlen xmin xmax xbuild xfill xappend xcopy xcells eval_tmp eval_const put_at put_none fr0_at cells_agg cells_int cells_bool cells_string cells_ptr cells_slice notTuple tab iv_all hget_app hget_app0 hget_cons0 hget_cons set_app set_app0 setR setR_one QL_nil QL_cons QLc_val stepQ_t stepQ_f stepQC_n stepQC_s stepQX_s SL_nil SL_cons SLc_val stepS_t stepS_f ltT ltF leT leF eqT eqF ltTn ltFn leTn leFn eqTn eqFn beqT beqF bneT bneF wi64 wu64 wu32 wu16 wu8 tmodP tdivP hgetL hgetNe hgetEq setL nums_def nums_len Nat.succ_le_of_lt List.getElem?_cons_zero List.getElem?_cons_succ Option.getD_some Int.toNat_add Int.toNat_mul agB agI agS agP agL agA okB okI okS okP okSl okA
theorem bit_vc {k : List Int} (hk : k.length = 32) (hb : By k) {t : Nat} (ht : t ≤ 254) : VC Tryd.prog 16 #[.agg (iv .u8 k).toArray, .int .i64 t] (.bool (sb k t)) := by
  refine vc_of_ac (by simp [pv_iv, pv_int, pv_bool, pv_string, pv_tup2, pv_tup3, iv_plain, p2_int, p2_bool, p2_string]) (by simp [pv_iv, pv_int, pv_bool, pv_string, pv_tup2, pv_tup3, iv_plain, p2_int, p2_bool, p2_string]) ?_
  have htk : (iv .u8 k).take 32 = iv .u8 k := List.take_of_length_le (by simp [hk])
  have hsb : sb k t = if t < 3 then false else if t = 254 then true else decide (k.getD (t / 8) 0 / 2 ^ (t % 8) % 2 = 1) := by unfold sb; rfl
  rw [hsb]
  clear hsb
  refine ac_of_aw Tryd.func16 rfl Tryd.ntmps16 Tryd.results16 (by simp) ?_
  refine aw_seq ?_
  (refine aw_ops (by kernel_rfl) (fun K hK => ?_); simp (disch := first | omega | (simp only [List.length_set, List.length_append, List.length_cons, List.length_nil, iv_length, zl_length]; try omega; done)) [-getElem?_pos, -getElem?_neg]; refine hK _ _ ?_; clear hK K)
  refine aw_seq ?_
  refine aw_seq ?_
  by_cases c1 : t < 3
  · rw [if_pos c1]
    have c1' : (t : Int) < 3 := by omega
    (refine aw_ops (by kernel_rfl) (fun K hK => ?_); simp (disch := first | omega | (simp only [List.length_set, List.length_append, List.length_cons, List.length_nil, iv_length, zl_length]; try omega; done)) [-getElem?_pos, -getElem?_neg]; refine hK _ _ ?_; clear hK K)
    refine aw_t (by (first | (simp [eval_tmp, put_at]; done) | (simp [eval_tmp, put_at]; omega))) (by kernel_rfl) ?_
    refine aw_seq ?_
    (refine aw_ops (by kernel_rfl) (fun K hK => ?_); simp (disch := first | omega | (simp only [List.length_set, List.length_append, List.length_cons, List.length_nil, iv_length, zl_length]; try omega; done)) [-getElem?_pos, -getElem?_neg]; refine hK _ _ ?_; clear hK K)
    (refine aw_ret ?_; simp (disch := first | omega | (simp only [List.length_set, List.length_append, List.length_cons, List.length_nil, iv_length, zl_length]; try omega; done)) [-getElem?_pos, -getElem?_neg, thenQ_ret, inBlockQ_ret, RQ, resL, resV])
  · rw [if_neg c1]
    have c1' : ¬ (t : Int) < 3 := by omega
    (refine aw_ops (by kernel_rfl) (fun K hK => ?_); simp (disch := first | omega | (simp only [List.length_set, List.length_append, List.length_cons, List.length_nil, iv_length, zl_length]; try omega; done)) [-getElem?_pos, -getElem?_neg]; refine hK _ _ ?_; clear hK K)
    refine aw_f (by (first | (simp [eval_tmp, put_at]; done) | (simp [eval_tmp, put_at]; omega))) (by kernel_rfl) ?_
    refine aw_skip ?_
    refine aw_seq ?_
    refine aw_seq ?_
    by_cases c2 : t = 254
    · rw [if_pos c2]
      have c2' : (t : Int) = 254 := by omega
      (refine aw_ops (by kernel_rfl) (fun K hK => ?_); simp (disch := first | omega | (simp only [List.length_set, List.length_append, List.length_cons, List.length_nil, iv_length, zl_length]; try omega; done)) [-getElem?_pos, -getElem?_neg]; refine hK _ _ ?_; clear hK K)
      refine aw_t (by (first | (simp [eval_tmp, put_at]; done) | (simp [eval_tmp, put_at]; omega))) (by kernel_rfl) ?_
      refine aw_seq ?_
      (refine aw_ops (by kernel_rfl) (fun K hK => ?_); simp (disch := first | omega | (simp only [List.length_set, List.length_append, List.length_cons, List.length_nil, iv_length, zl_length]; try omega; done)) [-getElem?_pos, -getElem?_neg]; refine hK _ _ ?_; clear hK K)
      (refine aw_ret ?_; simp (disch := first | omega | (simp only [List.length_set, List.length_append, List.length_cons, List.length_nil, iv_length, zl_length]; try omega; done)) [-getElem?_pos, -getElem?_neg, thenQ_ret, inBlockQ_ret, RQ, resL, resV])
    · rw [if_neg c2]
      have c2' : ¬ (t : Int) = 254 := by omega
      (refine aw_ops (by kernel_rfl) (fun K hK => ?_); simp (disch := first | omega | (simp only [List.length_set, List.length_append, List.length_cons, List.length_nil, iv_length, zl_length]; try omega; done)) [-getElem?_pos, -getElem?_neg]; refine hK _ _ ?_; clear hK K)
      refine aw_f (by (first | (simp [eval_tmp, put_at]; done) | (simp [eval_tmp, put_at]; omega))) (by kernel_rfl) ?_
      refine aw_skip ?_
      refine aw_seq ?_
      obtain ⟨q8, hq8⟩ : ∃ q8, q8 = t / 8 := ⟨_, rfl⟩
      obtain ⟨e8, he8⟩ : ∃ e8, e8 = t % 8 := ⟨_, rfl⟩
      have hq8' : (t : Int) / 8 = (q8 : Int) := by omega
      have he8' : (t : Int) % 8 = (e8 : Int) := by omega
      rw [← hq8, ← he8]
      have hg : (iv .u8 k)[q8]? = some (.int .u8 (k.getD q8 0)) := iv_getN _ _ _ (by omega)
      have hd := hb.get q8
      generalize k.getD q8 0 = d at *
      have hp2 : (0 : Int) < 2 ^ e8 := Int.pow_pos (by omega)
      obtain ⟨y, hy⟩ : ∃ y, y = d / 2 ^ e8 := ⟨_, rfl⟩
      have hf : d.fdiv (2 ^ e8) = y := by rw [hy]; exact Int.fdiv_eq_ediv_of_nonneg _ (Int.le_of_lt hp2)
      have hyb : 0 ≤ y ∧ y ≤ 255 := by
        rw [hy]
        exact ⟨Int.ediv_nonneg hd.1 (Int.le_of_lt hp2), Int.le_trans (Int.ediv_le_self _ hd.1) hd.2⟩
      rw [← hy]
      clear hy
      by_cases hy2 : y % 2 = 1
      · rw [decide_eq_true hy2]
        (refine aw_ops (by kernel_rfl) (fun K hK => ?_); simp (disch := first | omega | (simp only [List.length_set, List.length_append, List.length_cons, List.length_nil, iv_length, zl_length]; try omega; done)) [-getElem?_pos, -getElem?_neg, hq8', he8', hg, hk, hf, hy2]; refine hK _ _ ?_; clear hK K)
        (refine aw_ret ?_; simp (disch := first | omega | (simp only [List.length_set, List.length_append, List.length_cons, List.length_nil, iv_length, zl_length]; try omega; done)) [-getElem?_pos, -getElem?_neg, thenQ_ret, inBlockQ_ret, RQ, resL, resV])
      · rw [decide_eq_false hy2]
        (refine aw_ops (by kernel_rfl) (fun K hK => ?_); simp (disch := first | omega | (simp only [List.length_set, List.length_append, List.length_cons, List.length_nil, iv_length, zl_length]; try omega; done)) [-getElem?_pos, -getElem?_neg, hq8', he8', hg, hk, hf, hy2]; refine hK _ _ ?_; clear hK K)
        (refine aw_ret ?_; simp (disch := first | omega | (simp only [List.length_set, List.length_append, List.length_cons, List.length_nil, iv_length, zl_length]; try omega; done)) [-getElem?_pos, -getElem?_neg, thenQ_ret, inBlockQ_ret, RQ, resL, resV])
theorem rinv_rc {H : AH} {X : Int} (hX : El X) : AC Tryd.prog H.length gm 21 #[.agg (iv .u8 (bytesM X)).toArray] H (fun v' _ => v' = .agg (iv .u8 (bytesM (invM X))).toArray) := by
  have hend : invM X = pwX X (eI 255) := by unfold invM; rfl
  have h1 : pwX X (eI 0) = 1 := by rw [show eI 0 = 0 by unfold eI; rfl, pwX_zero]
  have bl := bytesM_len
  have tb := take_bytes
  have sb1 := setR_bytes
  have sb2 := setR_bz
  have o1 : setR (iv .u8 (zl 32)) 0 [.int .u8 1] = iv .u8 (bytesM (pwX X (eI 0))) := by rw [h1]; exact one_bytes
  have o2 : (iv .u8 (zl 32)).set 0 (.int .u8 1) = iv .u8 (bytesM (pwX X (eI 0))) := by rw [h1]; exact one_bytes'
  refine ac_of_aw Tryd.func21 rfl Tryd.ntmps21 Tryd.results21 (by simp) ?_
  refine aw_seq ?_
  (refine aw_ops (by kernel_rfl) (fun K hK => ?_); simp (disch := first | omega | (simp only [List.length_set, List.length_append, List.length_cons, List.length_nil, iv_length, zl_length]; try omega; done)) [-getElem?_pos, -getElem?_neg]; refine hK _ _ ?_; clear hK K)
  refine aw_seq ?_
  (refine aw_ops (by kernel_rfl) (fun K hK => ?_); simp (disch := first | omega | (simp only [List.length_set, List.length_append, List.length_cons, List.length_nil, iv_length, zl_length]; try omega; done)) [-getElem?_pos, -getElem?_neg, o1, o2, sb2, tb, bl]; refine hK _ _ ?_; clear hK K)
  refine aw_seq ?_
  refine aw_seq ?_
  (refine aw_ops (by kernel_rfl) (fun K hK => ?_); simp (disch := first | omega | (simp only [List.length_set, List.length_append, List.length_cons, List.length_nil, iv_length, zl_length]; try omega; done)) [-getElem?_pos, -getElem?_neg]; refine hK _ _ ?_; clear hK K)
  refine aw_block ?_
  refine aw_loop (fun q α H' => ∃ (n : Nat) (j : Int), n + q = 255 ∧ j = 254 - (n : Int) ∧ α 4 = .int .i64 j ∧ α 1 = .pointer (some ⟨H.length, 0, none⟩) ∧ α 2 = .pointer (some ⟨H.length + 1, 0, none⟩) ∧ α 3 = .pointer (some ⟨H.length + 2, 0, none⟩) ∧
    H' = H ++ [some ⟨iv .u8 (bytesM X), 23, none⟩, some ⟨iv .u8 (zl 32), 23, none⟩, some ⟨iv .u8 (bytesM (pwX X (eI n))), 23, none⟩]) 255 ?_ ?_
  · exact ⟨0, 254, by omega, by omega, by (first | (simp [put_at, put_none, fr0_at]; done) | rfl), by (first | (simp [put_at, put_none, fr0_at]; done) | rfl), by (first | (simp [put_at, put_none, fr0_at]; done) | rfl), by (first | (simp [put_at, put_none, fr0_at]; done) | rfl), rfl⟩
  clear o1 o2 h1
  rintro q α H' ⟨n, j, hnq, hj, h4, h1, h2, h3, rfl⟩
  refine aw_seq ?_
  refine aw_seq ?_
  by_cases hn : n < 255
  · have hj0 : 0 ≤ j := by omega
    have hj1 : j ≤ 254 := by omega
    have hPe := pwX_el X (eI n)
    have hPe2 := pwX_el X (2 * eI n)
    have hT1 := fun (G : AH) => rt_l G gm hPe hPe
    rw [pwX_sq] at hT1
    have hT2 := fun (G : AH) => rt_l G gm hPe2 hX
    rw [pwX_mul] at hT2
    have hn1 : j ≠ 2 → j ≠ 4 → pwX X (2 * eI n + 1) = pwX X (eI (n + 1)) := fun k1 k2 => by
      have : (n == 252 || n == 250) = false := by simp; omega
      conv => rhs; unfold eI
      rw [this]; rfl
    have hn2 : j = 2 ∨ j = 4 → pwX X (2 * eI n) = pwX X (eI (n + 1)) := fun k => by
      have : (n == 252 || n == 250) = true := by simp; omega
      conv => rhs; unfold eI
      rw [this]; rfl
    generalize pwX X (eI n) = P at *
    generalize pwX X (2 * eI n) = P2 at *
    generalize pwX X (2 * eI n + 1) = P3 at *
    obtain ⟨P4, hP4⟩ : ∃ P4, P4 = pwX X (eI (n + 1)) := ⟨_, rfl⟩
    rw [← hP4] at hn1 hn2
    clear hPe hPe2 hX hend
    (refine aw_ops (by kernel_rfl) (fun K hK => ?_); simp (disch := first | omega | (simp only [List.length_set, List.length_append, List.length_cons, List.length_nil, iv_length, zl_length]; try omega; done)) [-getElem?_pos, -getElem?_neg, h4]; refine hK _ _ ?_; clear hK K)
    refine aw_t (by (first | (simp [eval_tmp, put_at, hj0]; done) | (simp [eval_tmp, put_at, hj0]; omega))) (by kernel_rfl) ?_
    refine aw_skip ?_
    refine aw_seq ?_
    refine aw_block ?_
    refine aw_seq ?_
    refine aw_ops (by kernel_rfl) (fun K hK => ?_)
    simp (disch := first | omega | (simp only [List.length_set, List.length_append, List.length_cons, List.length_nil, iv_length, zl_length]; try omega; done)) [-getElem?_pos, -getElem?_neg, h3, tb, bl]
    refine ⟨by kernel_rfl, ac_of_rc (hT1 _) (by simp [pv_iv, pv_int, pv_bool, pv_string, pv_tup2, pv_tup3, iv_plain, p2_int, p2_bool, p2_string]) ?_⟩
    try simp (disch := first | omega | (simp only [List.length_set, List.length_append, List.length_cons, List.length_nil, iv_length, zl_length]; try omega; done)) [-getElem?_pos, -getElem?_neg, h3, tb, bl, sb1]
    refine hK _ _ ?_; clear hK K
    refine aw_seq ?_
    by_cases j2 : j = 2
    · have e4 := hn2 (.inl j2)
      (refine aw_ops (by kernel_rfl) (fun K hK => ?_); simp (disch := first | omega | (simp only [List.length_set, List.length_append, List.length_cons, List.length_nil, iv_length, zl_length]; try omega; done)) [-getElem?_pos, -getElem?_neg, h4, j2]; refine hK _ _ ?_; clear hK K)
      refine aw_f (by (first | (simp [eval_tmp, put_at]; done) | (simp [eval_tmp, put_at]; omega))) (by kernel_rfl) ?_
      refine aw_skip ?_
      (refine aw_ops (by kernel_rfl) (fun K hK => ?_); simp (disch := first | omega | (simp only [List.length_set, List.length_append, List.length_cons, List.length_nil, iv_length, zl_length]; try omega; done)) [-getElem?_pos, -getElem?_neg, h4]; refine hK _ _ ?_; clear hK K)
      exact ⟨q - 1, by omega, n + 1, j - 1, by omega, by omega, by (first | (simp [put_at, put_none, fr0_at]; done) | rfl), by (first | (simp [put_at, put_none, fr0_at, h1]; done) | rfl), by (first | (simp [put_at, put_none, fr0_at, h2]; done) | rfl), by (first | (simp [put_at, put_none, fr0_at, h3]; done) | rfl), by rw [← hP4, e4]⟩
    by_cases j4 : j = 4
    · have e4 := hn2 (.inr j4)
      (refine aw_ops (by kernel_rfl) (fun K hK => ?_); simp (disch := first | omega | (simp only [List.length_set, List.length_append, List.length_cons, List.length_nil, iv_length, zl_length]; try omega; done)) [-getElem?_pos, -getElem?_neg, h4, j4]; refine hK _ _ ?_; clear hK K)
      refine aw_f (by (first | (simp [eval_tmp, put_at]; done) | (simp [eval_tmp, put_at]; omega))) (by kernel_rfl) ?_
      refine aw_skip ?_
      (refine aw_ops (by kernel_rfl) (fun K hK => ?_); simp (disch := first | omega | (simp only [List.length_set, List.length_append, List.length_cons, List.length_nil, iv_length, zl_length]; try omega; done)) [-getElem?_pos, -getElem?_neg, h4]; refine hK _ _ ?_; clear hK K)
      exact ⟨q - 1, by omega, n + 1, j - 1, by omega, by omega, by (first | (simp [put_at, put_none, fr0_at]; done) | rfl), by (first | (simp [put_at, put_none, fr0_at, h1]; done) | rfl), by (first | (simp [put_at, put_none, fr0_at, h2]; done) | rfl), by (first | (simp [put_at, put_none, fr0_at, h3]; done) | rfl), by rw [← hP4, e4]⟩
    · have e4 := hn1 j2 j4
      (refine aw_ops (by kernel_rfl) (fun K hK => ?_); simp (disch := first | omega | (simp only [List.length_set, List.length_append, List.length_cons, List.length_nil, iv_length, zl_length]; try omega; done)) [-getElem?_pos, -getElem?_neg, h4]; refine hK _ _ ?_; clear hK K)
      refine aw_t (by (first | (simp [eval_tmp, put_at]; done) | (simp [eval_tmp, put_at]; omega))) (by kernel_rfl) ?_
      refine aw_ops (by kernel_rfl) (fun K hK => ?_)
      simp (disch := first | omega | (simp only [List.length_set, List.length_append, List.length_cons, List.length_nil, iv_length, zl_length]; try omega; done)) [-getElem?_pos, -getElem?_neg, h1, h3, tb, bl]
      refine ⟨by kernel_rfl, ac_of_rc (hT2 _) (by simp [pv_iv, pv_int, pv_bool, pv_string, pv_tup2, pv_tup3, iv_plain, p2_int, p2_bool, p2_string]) ?_⟩
      try simp (disch := first | omega | (simp only [List.length_set, List.length_append, List.length_cons, List.length_nil, iv_length, zl_length]; try omega; done)) [-getElem?_pos, -getElem?_neg, h1, h3, tb, bl, sb1]
      refine hK _ _ ?_; clear hK K
      (refine aw_ops (by kernel_rfl) (fun K hK => ?_); simp (disch := first | omega | (simp only [List.length_set, List.length_append, List.length_cons, List.length_nil, iv_length, zl_length]; try omega; done)) [-getElem?_pos, -getElem?_neg, h4]; refine hK _ _ ?_; clear hK K)
      exact ⟨q - 1, by omega, n + 1, j - 1, by omega, by omega, by (first | (simp [put_at, put_none, fr0_at]; done) | rfl), by (first | (simp [put_at, put_none, fr0_at, h1]; done) | rfl), by (first | (simp [put_at, put_none, fr0_at, h2]; done) | rfl), by (first | (simp [put_at, put_none, fr0_at, h3]; done) | rfl), by rw [← hP4, e4]⟩
  · obtain rfl : n = 255 := by omega
    rw [hend]
    have hj0 : j < 0 := by omega
    (refine aw_ops (by kernel_rfl) (fun K hK => ?_); simp (disch := first | omega | (simp only [List.length_set, List.length_append, List.length_cons, List.length_nil, iv_length, zl_length]; try omega; done)) [-getElem?_pos, -getElem?_neg, h4]; refine hK _ _ ?_; clear hK K)
    refine aw_f (by (first | (simp [eval_tmp, put_at]; done) | (simp [eval_tmp, put_at]; omega))) (by kernel_rfl) ?_
    refine aw_exit ?_
    refine aw_seq ?_
    (refine aw_ops (by kernel_rfl) (fun K hK => ?_); simp (disch := first | omega | (simp only [List.length_set, List.length_append, List.length_cons, List.length_nil, iv_length, zl_length]; try omega; done)) [-getElem?_pos, -getElem?_neg, h2, h3, tb, bl, sb2]; refine hK _ _ ?_; clear hK K)
    (refine aw_ret ?_; simp (disch := first | omega | (simp only [List.length_set, List.length_append, List.length_cons, List.length_nil, iv_length, zl_length]; try omega; done)) [-getElem?_pos, -getElem?_neg, thenQ_ret, inBlockQ_ret, RQ, resL, resV, h2, tb, bl])
end

section
open Go Go.RowKit
set_option linter.unusedVariables false
set_option linter.unusedSimpArgs false
set_option maxRecDepth 100000
set_option maxHeartbeats 8000000

theorem mulM_cm (X Y : Int) : mulM X Y = mulM Y X := by unfold mulM; rw [Int.mul_comm]
theorem small_r {n : Int} (hn : 0 ≤ n ∧ n ≤ 4294967295) : VC Tryd.prog 20 #[.int .u32 n] (.agg (iv .u8 (bytesM n)).toArray) := rsmall_vc hn
theorem of_l (H : AH) (γ : Nat → Option Nat) {k : List Int} (hk : By k) (hlk : k.length = 32) : AC Tryd.prog H.length γ 15 #[.agg (iv .u8 k).toArray] H (fun v' _ => v' = .agg (iv .u8 (bytesM (fromM k))).toArray) := of_rc hk hlk
theorem el_f : El 121665 := by unfold El; omega
/-- The reference's round. -/
def rrng (u : Int) (p : P4) : P4 :=
  (mulM (mulM (addM p.1 p.2.1) (addM p.1 p.2.1)) (mulM (subM p.1 p.2.1) (subM p.1 p.2.1)),
   mulM (subM (mulM (addM p.1 p.2.1) (addM p.1 p.2.1)) (mulM (subM p.1 p.2.1) (subM p.1 p.2.1))) (addM (mulM (addM p.1 p.2.1) (addM p.1 p.2.1)) (mulM 121665 (subM (mulM (addM p.1 p.2.1) (addM p.1 p.2.1)) (mulM (subM p.1 p.2.1) (subM p.1 p.2.1))))),
   mulM (addM (mulM (subM p.2.2.1 p.2.2.2) (addM p.1 p.2.1)) (mulM (addM p.2.2.1 p.2.2.2) (subM p.1 p.2.1))) (addM (mulM (subM p.2.2.1 p.2.2.2) (addM p.1 p.2.1)) (mulM (addM p.2.2.1 p.2.2.2) (subM p.1 p.2.1))),
   mulM u (mulM (subM (mulM (subM p.2.2.1 p.2.2.2) (addM p.1 p.2.1)) (mulM (addM p.2.2.1 p.2.2.2) (subM p.1 p.2.1))) (subM (mulM (subM p.2.2.1 p.2.2.2) (addM p.1 p.2.1)) (mulM (addM p.2.2.1 p.2.2.2) (subM p.1 p.2.1)))))
theorem rrng_is (u : Int) (p : P4) : rrng u p = rng u p := by
  unfold rrng rng
  rw [mulM_cm 121665, mulM_cm u]
theorem hs1 {G L : AH} {i k : Nat} {v : Option Blk} : hget (G.set i v ++ L) (G.length + k) = hget (G ++ L) (G.length + k) := by
  simp only [hget]
  rw [List.getElem?_append_right (by simp), List.getElem?_append_right (by simp), List.length_set]
theorem hs10 {G L : AH} {i : Nat} {v : Option Blk} : hget (G.set i v ++ L) G.length = hget (G ++ L) G.length := hs1 (k := 0)
theorem hs2 {G L : AH} {i j k : Nat} {v w : Option Blk} : hget ((G.set i v).set j w ++ L) (G.length + k) = hget (G ++ L) (G.length + k) := by
  have h := hs1 (G := G.set i v) (L := L) (i := j) (k := k) (v := w)
  rw [List.length_set] at h
  rw [h, hs1]
theorem hs20 {G L : AH} {i j : Nat} {v w : Option Blk} : hget ((G.set i v).set j w ++ L) G.length = hget (G ++ L) G.length := hs2 (k := 0)
theorem hs3 {G L : AH} {i j l k : Nat} {v w x : Option Blk} : hget (((G.set i v).set j w).set l x ++ L) (G.length + k) = hget (G ++ L) (G.length + k) := by
  have h := hs2 (G := G.set i v) (L := L) (i := j) (j := l) (k := k) (v := w) (w := x)
  rw [List.length_set] at h
  rw [h, hs1]
theorem hs30 {G L : AH} {i j l : Nat} {v w x : Option Blk} : hget (((G.set i v).set j w).set l x ++ L) G.length = hget (G ++ L) G.length := hs3 (k := 0)
attribute [local irreducible] wl addM subM mulM pM climbM fromM bytesM lad agrL agrB puL pwX pN eI invM sb
attribute [local simp] wb_bool wb_undef XL_nil XL_cons XLc_val XLc_call step1_eq stepW_t stepW_f stepC_n stepC_s stepX_s xop_eq xopR_s xopR_n wantedA_eq wantedG_n wantedG_s plain1_int plain1_bool plain1_string bits_i64 bits_u64 bits_u32 bits_u16 bits_u8 xeqA xarr allK_iv num_iv calleeOf xread xeff xbin xint xnil xun xstr xload xconv xpart xfield xfieldAddr xindexAddr xindex bnd asInt? xslice xlen xmin xmax xbuild xfill xappend xcopy xcells eval_tmp eval_const put_at put_none fr0_at cells_agg cells_int cells_bool cells_string cells_ptr cells_slice notTuple tab iv_all hget_app hget_app0 hget_cons0 hget_cons set_app set_app0 setR setR_one QL_nil QL_cons QLc_val stepQ_t stepQ_f stepQC_n stepQC_s stepQX_s SL_nil SL_cons SLc_val stepS_t stepS_f ltT ltF leT leF eqT eqF ltTn ltFn leTn leFn eqTn eqFn beqT beqF bneT bneF wi64 wu64 wu32 wu16 wu8 tmodP tdivP hgetL hgetNe hgetEq setL nums_def nums_len Nat.succ_le_of_lt List.getElem?_cons_zero List.getElem?_cons_succ Option.getD_some Int.toNat_add Int.toNat_mul agB agI agS agP agL agA okB okI okS okP okSl okA
theorem ladder_rc {H : AH} {k w : List Int} (hk : k.length = 32) (hb : By k) (hw : w.length = 32) (hwb : By w) : AC Tryd.prog H.length gm 10 #[.agg (iv .u8 k).toArray, .agg (iv .u8 w).toArray] H (fun v' _ => v' = .agg (iv .u8 (bytesM (climbM k (fromM w)))).toArray) := by
  have htk : (iv .u8 k).take 32 = iv .u8 k := List.take_of_length_le (by simp [hk])
  have htw : (iv .u8 w).take 32 = iv .u8 w := List.take_of_length_le (by simp [hw])
  have ssw : ∀ Y, setR (iv .u8 w) 0 (iv .u8 (bytesM Y)) = iv .u8 (bytesM Y) := fun Y => setR_all _ _ (by simp [hw, bytesM_len])
  have hu := fromM_el w
  have hof := fun (G : AH) => of_l G gm hwb hw
  generalize fromM w = u at *
  have bl := bytesM_len
  have tb := take_bytes
  have sb1 := setR_bytes
  have sb2 := setR_bz
  have b0 := bytes_0
  have o1 := one_bytes
  have o2 := one_bytes'
  have hl0 : lad k u 0 = (1, 0, u, 1) := by unfold lad; rfl
  have b00 : setR (iv .u8 (zl 32)) 0 (iv .u8 (zl 32)) = iv .u8 (bytesM 0) := by rw [b0]; rfl
  refine ac_of_aw Tryd.func10 rfl Tryd.ntmps10 Tryd.results10 (by simp) ?_
  refine aw_seq ?_
  (refine aw_ops (by kernel_rfl) (fun K hK => ?_); simp (disch := first | omega | (simp only [List.length_set, List.length_append, List.length_cons, List.length_nil, iv_length, zl_length]; try omega; done)) [-getElem?_pos, -getElem?_neg]; refine hK _ _ ?_; clear hK K)
  refine aw_seq ?_
  refine aw_ops (by kernel_rfl) (fun K hK => ?_)
  simp (disch := first | omega | (simp only [List.length_set, List.length_append, List.length_cons, List.length_nil, iv_length, zl_length]; try omega; done)) [-getElem?_pos, -getElem?_neg, htw, hw, bl]
  refine ⟨by kernel_rfl, ac_of_rc (hof _) (by simp [pv_iv, pv_int, pv_bool, pv_string, pv_tup2, pv_tup3, iv_plain, p2_int, p2_bool, p2_string]) ?_⟩
  try simp (disch := first | omega | (simp only [List.length_set, List.length_append, List.length_cons, List.length_nil, iv_length, zl_length]; try omega; done)) [-getElem?_pos, -getElem?_neg, ssw, hw, bl]
  refine hK _ _ ?_; clear hK K
  refine aw_seq ?_
  refine aw_cut (fun α' H' => α' 2 = .pointer (some ⟨H.length, 0, none⟩) ∧ α' 3 = .pointer (some ⟨H.length + 1, 0, none⟩) ∧ α' 4 = .pointer (some ⟨H.length + 2, 0, none⟩) ∧ α' 5 = .pointer (some ⟨H.length + 3, 0, none⟩) ∧ α' 6 = .pointer (some ⟨H.length + 4, 0, none⟩) ∧ α' 7 = .pointer (some ⟨H.length + 5, 0, none⟩) ∧ α' 8 = .pointer (some ⟨H.length + 6, 0, none⟩) ∧
    H' = H ++ [some ⟨iv .u8 k, 23, none⟩, some ⟨iv .u8 (bytesM (u)), 23, none⟩, some ⟨iv .u8 (zl 32), 23, none⟩, some ⟨iv .u8 (bytesM (1)), 23, none⟩, some ⟨iv .u8 (bytesM (0)), 23, none⟩, some ⟨iv .u8 (bytesM (u)), 23, none⟩, some ⟨iv .u8 (bytesM (1)), 23, none⟩]) ?_ ?_
  · (refine aw_planL [] [0, 1, 2, 3, 4, 5, 6, 7] [1, 2, 3] 4 [([], [], [[8, 9, 10, 11]]), ([1], [24], [[1, 8, 9, 10, 11], [8, 1, 9, 10, 11]]), ([2], [25], [[2, 8, 9, 10, 11], [8, 2, 9, 10, 11], [8, 9, 2, 10, 11]]), ([3], [26], [[3, 8, 9, 10, 11], [8, 3, 9, 10, 11], [8, 9, 3, 10, 11], [8, 9, 10, 3, 11]]), ([1, 2], [24, 25], [[1, 2, 8, 9, 10, 11], [1, 8, 2, 9, 10, 11], [1, 8, 9, 2, 10, 11], [2, 1, 8, 9, 10, 11], [2, 8, 1, 9, 10, 11], [8, 1, 2, 9, 10, 11], [8, 1, 9, 2, 10, 11], [8, 2, 1, 9, 10, 11]]), ([1, 3], [24, 26], [[1, 3, 8, 9, 10, 11], [1, 8, 3, 9, 10, 11], [1, 8, 9, 3, 10, 11], [1, 8, 9, 10, 3, 11], [3, 1, 8, 9, 10, 11], [3, 8, 1, 9, 10, 11], [8, 1, 3, 9, 10, 11], [8, 1, 9, 3, 10, 11], [8, 1, 9, 10, 3, 11], [8, 3, 1, 9, 10, 11]]), ([2, 3], [25, 26], [[2, 3, 8, 9, 10, 11], [2, 8, 3, 9, 10, 11], [2, 8, 9, 3, 10, 11], [2, 8, 9, 10, 3, 11], [3, 2, 8, 9, 10, 11], [3, 8, 2, 9, 10, 11], [3, 8, 9, 2, 10, 11], [8, 2, 3, 9, 10, 11], [8, 2, 9, 3, 10, 11], [8, 2, 9, 10, 3, 11], [8, 3, 2, 9, 10, 11], [8, 3, 9, 2, 10, 11], [8, 9, 2, 3, 10, 11], [8, 9, 2, 10, 3, 11], [8, 9, 3, 2, 10, 11]]), ([1, 2, 3], [24, 25, 26], [[1, 2, 3, 8, 9, 10, 11], [1, 2, 8, 3, 9, 10, 11], [1, 2, 8, 9, 3, 10, 11], [1, 2, 8, 9, 10, 3, 11], [1, 3, 2, 8, 9, 10, 11], [1, 3, 8, 2, 9, 10, 11], [1, 3, 8, 9, 2, 10, 11], [1, 8, 2, 3, 9, 10, 11], [1, 8, 2, 9, 3, 10, 11], [1, 8, 2, 9, 10, 3, 11], [1, 8, 3, 2, 9, 10, 11], [1, 8, 3, 9, 2, 10, 11], [1, 8, 9, 2, 3, 10, 11], [1, 8, 9, 2, 10, 3, 11], [1, 8, 9, 3, 2, 10, 11], [2, 1, 3, 8, 9, 10, 11], [2, 1, 8, 3, 9, 10, 11], [2, 1, 8, 9, 3, 10, 11], [2, 1, 8, 9, 10, 3, 11], [2, 3, 1, 8, 9, 10, 11], [2, 3, 8, 1, 9, 10, 11], [2, 8, 1, 3, 9, 10, 11], [2, 8, 1, 9, 3, 10, 11], [2, 8, 1, 9, 10, 3, 11], [2, 8, 3, 1, 9, 10, 11], [3, 1, 2, 8, 9, 10, 11], [3, 1, 8, 2, 9, 10, 11], [3, 1, 8, 9, 2, 10, 11], [3, 2, 1, 8, 9, 10, 11], [3, 2, 8, 1, 9, 10, 11], [3, 8, 1, 2, 9, 10, 11], [3, 8, 1, 9, 2, 10, 11], [3, 8, 2, 1, 9, 10, 11], [8, 1, 2, 3, 9, 10, 11], [8, 1, 2, 9, 3, 10, 11], [8, 1, 2, 9, 10, 3, 11], [8, 1, 3, 2, 9, 10, 11], [8, 1, 3, 9, 2, 10, 11], [8, 1, 9, 2, 3, 10, 11], [8, 1, 9, 2, 10, 3, 11], [8, 1, 9, 3, 2, 10, 11], [8, 2, 1, 3, 9, 10, 11], [8, 2, 1, 9, 3, 10, 11], [8, 2, 1, 9, 10, 3, 11], [8, 2, 3, 1, 9, 10, 11], [8, 3, 1, 2, 9, 10, 11], [8, 3, 1, 9, 2, 10, 11], [8, 3, 2, 1, 9, 10, 11]])] (by kernel_rfl) (by kernel_rfl) (by kernel_rfl) (fun K hK => ?_)); simp only [sel, List.getElem?_cons_succ, List.getElem?_cons_zero]; simp (disch := first | omega | (simp only [List.length_set, List.length_append, List.length_cons, List.length_nil, iv_length, zl_length]; try omega; done)) [-getElem?_pos, -getElem?_neg, tb, bl, o1, o2, sb2, b0, PL_nil, PL_cons, PLc_val, PLc_new, stepP_t, stepP_f, stepPC_n, stepPC_s, stepPX_s, stepPX_n, stepPA_t, stepPA_c, stepPA_l, stepPN_s, allocOp, reloc_sl, reloc_ptr, List.map_cons, List.map_nil, List.nil_append, List.append_assoc, List.cons_append, Nat.add_assoc]
    simp only [List.mem_cons, List.not_mem_nil, or_false, forall_eq_or_imp, forall_eq, sel, List.getElem?_cons_succ, List.getElem?_cons_zero]; simp (disch := first | omega | (simp only [List.length_set, List.length_append, List.length_cons, List.length_nil, iv_length, zl_length]; try omega; done)) [-getElem?_pos, -getElem?_neg, tb, bl, o1, o2, sb2, b0, mixF_at, mixF_nil, List.contains_cons, List.contains_nil]
    repeat' (first | apply And.intro | refine hK _ _ ?_)
    all_goals clear hK K
    all_goals first | rfl | (simp [put_at, put_none, fr0_at, mixF_at, List.contains_cons, b00]; done)
  rintro α H' ⟨s2, s3, s4, s5, s6, s7, s8, rfl⟩
  clear hof
  have lel := lad_el k hu
  refine aw_seq ?_
  refine aw_seq ?_
  (refine aw_ops (by kernel_rfl) (fun K hK => ?_); simp (disch := first | omega | (simp only [List.length_set, List.length_append, List.length_cons, List.length_nil, iv_length, zl_length]; try omega; done)) [-getElem?_pos, -getElem?_neg]; refine hK _ _ ?_; clear hK K)
  refine aw_block ?_
  refine aw_loop (fun q α G => ∃ n : Nat, n + q = 255 ∧ α 9 = .int .i64 ((254 : Int) - (n : Int)) ∧ α 2 = .pointer (some ⟨H.length, 0, none⟩) ∧ α 3 = .pointer (some ⟨H.length + 1, 0, none⟩) ∧ α 4 = .pointer (some ⟨H.length + 2, 0, none⟩) ∧ α 5 = .pointer (some ⟨H.length + 3, 0, none⟩) ∧ α 6 = .pointer (some ⟨H.length + 4, 0, none⟩) ∧ α 7 = .pointer (some ⟨H.length + 5, 0, none⟩) ∧ α 8 = .pointer (some ⟨H.length + 6, 0, none⟩) ∧ H.length + 7 ≤ G.length ∧ hget G H.length = some ⟨iv .u8 k, 23, none⟩ ∧ hget G (H.length + 1) = some ⟨iv .u8 (bytesM (u)), 23, none⟩ ∧ hget G (H.length + 2) = some ⟨iv .u8 (zl 32), 23, none⟩ ∧ hget G (H.length + 3) = some ⟨iv .u8 (bytesM ((lad k u n).1)), 23, none⟩ ∧ hget G (H.length + 4) = some ⟨iv .u8 (bytesM ((lad k u n).2.1)), 23, none⟩ ∧ hget G (H.length + 5) = some ⟨iv .u8 (bytesM ((lad k u n).2.2.1)), 23, none⟩ ∧ hget G (H.length + 6) = some ⟨iv .u8 (bytesM ((lad k u n).2.2.2)), 23, none⟩) 255 ?_ ?_
  · refine ⟨0, by omega, by (first | (simp [put_at, put_none, fr0_at]; done) | rfl), by (first | (simp [put_at, put_none, fr0_at, s2]; done) | rfl), by (first | (simp [put_at, put_none, fr0_at, s3]; done) | rfl), by (first | (simp [put_at, put_none, fr0_at, s4]; done) | rfl), by (first | (simp [put_at, put_none, fr0_at, s5]; done) | rfl), by (first | (simp [put_at, put_none, fr0_at, s6]; done) | rfl), by (first | (simp [put_at, put_none, fr0_at, s7]; done) | rfl), by (first | (simp [put_at, put_none, fr0_at, s8]; done) | rfl), ?_⟩
    rw [hl0]
    simp [hget_app, hget_app0, hget]
  clear s2 s3 s4 s5 s6 s7 s8
  rintro q α G ⟨n, hnq, s9, s2, s3, s4, s5, s6, s7, s8, xl, x0, x1, x2, x3, x4, x5, x6⟩
  refine aw_seq ?_
  refine aw_seq ?_
  by_cases hn : n < 255
  · obtain ⟨t, ht⟩ : ∃ t : Nat, t = 254 - n := ⟨_, rfl⟩
    have ht' : (254 : Int) - (n : Int) = (t : Int) := by omega
    rw [ht'] at s9
    have hsn : lad k u (n + 1) = swp (sb k t) (rrng u (swp (sb k t) (lad k u n))) := by rw [rrng_is, lad, ← ht]
    have lp := lel n
    have hbit := bit_vc hk hb (t := t) (by omega)
    generalize lad k u n = p0 at *
    generalize sb k t = s at *
    (refine aw_ops (by kernel_rfl) (fun K hK => ?_); simp (disch := first | omega | (simp only [List.length_set, List.length_append, List.length_cons, List.length_nil, iv_length, zl_length]; try omega; done)) [-getElem?_pos, -getElem?_neg, s9]; refine hK _ _ ?_; clear hK K)
    refine aw_t (by (first | (simp [eval_tmp, put_at]; done) | (simp [eval_tmp, put_at]; omega))) (by kernel_rfl) ?_
    refine aw_skip ?_
    refine aw_seq ?_
    refine aw_block ?_
    refine aw_seq ?_
    refine aw_cut (fun α' G' => α' 9 = .int .i64 (t : Nat) ∧ α' 2 = .pointer (some ⟨H.length, 0, none⟩) ∧ α' 3 = .pointer (some ⟨H.length + 1, 0, none⟩) ∧ α' 4 = .pointer (some ⟨H.length + 2, 0, none⟩) ∧ α' 5 = .pointer (some ⟨H.length + 3, 0, none⟩) ∧ α' 6 = .pointer (some ⟨H.length + 4, 0, none⟩) ∧ α' 7 = .pointer (some ⟨H.length + 5, 0, none⟩) ∧ α' 8 = .pointer (some ⟨H.length + 6, 0, none⟩) ∧ H.length + 7 ≤ G'.length ∧ hget G' H.length = some ⟨iv .u8 k, 23, none⟩ ∧ hget G' (H.length + 1) = some ⟨iv .u8 (bytesM (u)), 23, none⟩ ∧ hget G' (H.length + 2) = some ⟨iv .u8 (zl 32), 23, none⟩ ∧ hget G' (H.length + 3) = some ⟨iv .u8 (bytesM ((swp s p0).1)), 23, none⟩ ∧ hget G' (H.length + 4) = some ⟨iv .u8 (bytesM ((swp s p0).2.1)), 23, none⟩ ∧ hget G' (H.length + 5) = some ⟨iv .u8 (bytesM ((swp s p0).2.2.1)), 23, none⟩ ∧ hget G' (H.length + 6) = some ⟨iv .u8 (bytesM ((swp s p0).2.2.2)), 23, none⟩) ?_ ?_
    · refine aw_seq ?_
      refine aw_ops (by kernel_rfl) (fun K hK => ?_)
      simp (disch := first | omega | (simp only [List.length_set, List.length_append, List.length_cons, List.length_nil, iv_length, zl_length]; try omega; done)) [-getElem?_pos, -getElem?_neg, s2, s9, x0, hk, htk]
      refine ⟨by kernel_rfl, ac_of_vc (by simp [pv_iv, pv_int, pv_bool, pv_string, pv_tup2, pv_tup3, iv_plain, p2_int, p2_bool, p2_string]) hbit ?_⟩
      try simp (disch := first | omega | (simp only [List.length_set, List.length_append, List.length_cons, List.length_nil, iv_length, zl_length]; try omega; done)) [-getElem?_pos, -getElem?_neg]
      refine hK _ _ ?_; clear hK K
      cases s
      · refine aw_f (by (first | (simp [eval_tmp, put_at]; done) | (simp [eval_tmp, put_at]; omega))) (by kernel_rfl) ?_
        refine aw_skip ?_
        exact ⟨by (first | (simp [put_at, put_none, fr0_at, s9]; done) | rfl), by (first | (simp [put_at, put_none, fr0_at, s2]; done) | rfl), by (first | (simp [put_at, put_none, fr0_at, s3]; done) | rfl), by (first | (simp [put_at, put_none, fr0_at, s4]; done) | rfl), by (first | (simp [put_at, put_none, fr0_at, s5]; done) | rfl), by (first | (simp [put_at, put_none, fr0_at, s6]; done) | rfl), by (first | (simp [put_at, put_none, fr0_at, s7]; done) | rfl), by (first | (simp [put_at, put_none, fr0_at, s8]; done) | rfl), xl, x0, x1, x2, x3, x4, x5, x6⟩
      · refine aw_t (by (first | (simp [eval_tmp, put_at]; done) | (simp [eval_tmp, put_at]; omega))) (by kernel_rfl) ?_
        (refine aw_planL [] [0, 1, 2, 3] [1] 4 [([], [], [[4, 5, 6, 7]]), ([1], [35], [[1, 4, 5, 6, 7], [4, 1, 5, 6, 7]])] (by kernel_rfl) (by kernel_rfl) (by kernel_rfl) (fun K hK => ?_)); simp only [sel, List.getElem?_cons_succ, List.getElem?_cons_zero]; simp (disch := first | omega | (simp only [List.length_set, List.length_append, List.length_cons, List.length_nil, iv_length, zl_length]; try omega; done)) [-getElem?_pos, -getElem?_neg, s5, s6, s7, s8, x3, x4, x5, x6, tb, bl, sb1, PL_nil, PL_cons, PLc_val, PLc_new, stepP_t, stepP_f, stepPC_n, stepPC_s, stepPX_s, stepPX_n, stepPA_t, stepPA_c, stepPA_l, stepPN_s, allocOp, reloc_sl, reloc_ptr, List.map_cons, List.map_nil, List.nil_append, List.append_assoc, List.cons_append, Nat.add_assoc]
        simp only [List.mem_cons, List.not_mem_nil, or_false, forall_eq_or_imp, forall_eq, sel, List.getElem?_cons_succ, List.getElem?_cons_zero]; simp (disch := first | omega | (simp only [List.length_set, List.length_append, List.length_cons, List.length_nil, iv_length, zl_length]; try omega; done)) [-getElem?_pos, -getElem?_neg, s5, s6, s7, s8, x3, x4, x5, x6, tb, bl, sb1, mixF_at, mixF_nil, List.contains_cons, List.contains_nil]
        repeat' (first | apply And.intro | refine hK _ _ ?_)
        all_goals clear hK K
        all_goals first | assumption | (simp (disch := (first | omega | (simp only [List.length_set]; omega))) [put_at, put_none, fr0_at, mixF_at, List.contains_cons, s2, s3, s4, s5, s6, s7, s8, s9, hget_set_ne, hget_set_eq, x0, x1, x2, x3, x4, x5, x6, xl, swp]; done)
    clear s9 s2 s3 s4 s5 s6 s7 s8 xl x0 x1 x2 x3 x4 x5 x6
    rintro α G ⟨s9, s2, s3, s4, s5, s6, s7, s8, xl, x0, x1, x2, x3, x4, x5, x6⟩
    have lq := swp_el lp s
    generalize swp s p0 = p1 at *
    obtain ⟨e1, e2, e3, e4⟩ := lq
    refine aw_seq ?_
    refine aw_ops (by kernel_rfl) (fun K hK => ?_)
    simp (disch := first | omega | (simp only [List.length_set, List.length_append, List.length_cons, List.length_nil, iv_length, zl_length]; try omega; done)) [-getElem?_pos, -getElem?_neg, s2, s3, s4, s5, s6, s7, s8, s9, x0, x1, x2, x3, x4, x5, x6, tb, bl, sb1, sb2, hs1, hs10, hs2, hs20, hs3, hs30]
    refine ⟨by kernel_rfl, ac_of_rc (rp_l _ _ e1 e2) (by simp [pv_iv, pv_int, pv_bool, pv_string, pv_tup2, pv_tup3, iv_plain, p2_int, p2_bool, p2_string]) ?_⟩
    try simp (disch := first | omega | (simp only [List.length_set, List.length_append, List.length_cons, List.length_nil, iv_length, zl_length]; try omega; done)) [-getElem?_pos, -getElem?_neg, s2, s3, s4, s5, s6, s7, s8, s9, x0, x1, x2, x3, x4, x5, x6, tb, bl, sb1, sb2, hs1, hs10, hs2, hs20, hs3, hs30]
    refine hK _ _ ?_; clear hK K
    refine aw_seq ?_
    refine aw_ops (by kernel_rfl) (fun K hK => ?_)
    simp (disch := first | omega | (simp only [List.length_set, List.length_append, List.length_cons, List.length_nil, iv_length, zl_length]; try omega; done)) [-getElem?_pos, -getElem?_neg, s2, s3, s4, s5, s6, s7, s8, s9, x0, x1, x2, x3, x4, x5, x6, tb, bl, sb1, sb2, hs1, hs10, hs2, hs20, hs3, hs30]
    refine ⟨by kernel_rfl, ac_of_rc (rm_l _ _ e1 e2) (by simp [pv_iv, pv_int, pv_bool, pv_string, pv_tup2, pv_tup3, iv_plain, p2_int, p2_bool, p2_string]) ?_⟩
    try simp (disch := first | omega | (simp only [List.length_set, List.length_append, List.length_cons, List.length_nil, iv_length, zl_length]; try omega; done)) [-getElem?_pos, -getElem?_neg, s2, s3, s4, s5, s6, s7, s8, s9, x0, x1, x2, x3, x4, x5, x6, tb, bl, sb1, sb2, hs1, hs10, hs2, hs20, hs3, hs30]
    refine hK _ _ ?_; clear hK K
    refine aw_seq ?_
    refine aw_ops (by kernel_rfl) (fun K hK => ?_)
    simp (disch := first | omega | (simp only [List.length_set, List.length_append, List.length_cons, List.length_nil, iv_length, zl_length]; try omega; done)) [-getElem?_pos, -getElem?_neg, s2, s3, s4, s5, s6, s7, s8, s9, x0, x1, x2, x3, x4, x5, x6, tb, bl, sb1, sb2, hs1, hs10, hs2, hs20, hs3, hs30]
    refine ⟨by kernel_rfl, ac_of_rc (rp_l _ _ e3 e4) (by simp [pv_iv, pv_int, pv_bool, pv_string, pv_tup2, pv_tup3, iv_plain, p2_int, p2_bool, p2_string]) ?_⟩
    try simp (disch := first | omega | (simp only [List.length_set, List.length_append, List.length_cons, List.length_nil, iv_length, zl_length]; try omega; done)) [-getElem?_pos, -getElem?_neg, s2, s3, s4, s5, s6, s7, s8, s9, x0, x1, x2, x3, x4, x5, x6, tb, bl, sb1, sb2, hs1, hs10, hs2, hs20, hs3, hs30]
    refine hK _ _ ?_; clear hK K
    refine aw_seq ?_
    refine aw_ops (by kernel_rfl) (fun K hK => ?_)
    simp (disch := first | omega | (simp only [List.length_set, List.length_append, List.length_cons, List.length_nil, iv_length, zl_length]; try omega; done)) [-getElem?_pos, -getElem?_neg, s2, s3, s4, s5, s6, s7, s8, s9, x0, x1, x2, x3, x4, x5, x6, tb, bl, sb1, sb2, hs1, hs10, hs2, hs20, hs3, hs30]
    refine ⟨by kernel_rfl, ac_of_rc (rm_l _ _ e3 e4) (by simp [pv_iv, pv_int, pv_bool, pv_string, pv_tup2, pv_tup3, iv_plain, p2_int, p2_bool, p2_string]) ?_⟩
    try simp (disch := first | omega | (simp only [List.length_set, List.length_append, List.length_cons, List.length_nil, iv_length, zl_length]; try omega; done)) [-getElem?_pos, -getElem?_neg, s2, s3, s4, s5, s6, s7, s8, s9, x0, x1, x2, x3, x4, x5, x6, tb, bl, sb1, sb2, hs1, hs10, hs2, hs20, hs3, hs30]
    refine hK _ _ ?_; clear hK K
    refine aw_seq ?_
    refine aw_ops (by kernel_rfl) (fun K hK => ?_)
    simp (disch := first | omega | (simp only [List.length_set, List.length_append, List.length_cons, List.length_nil, iv_length, zl_length]; try omega; done)) [-getElem?_pos, -getElem?_neg, s2, s3, s4, s5, s6, s7, s8, s9, x0, x1, x2, x3, x4, x5, x6, tb, bl, sb1, sb2, hs1, hs10, hs2, hs20, hs3, hs30]
    refine ⟨by kernel_rfl, ac_of_rc (rt_l _ _ (addM_el _ _) (addM_el _ _)) (by simp [pv_iv, pv_int, pv_bool, pv_string, pv_tup2, pv_tup3, iv_plain, p2_int, p2_bool, p2_string]) ?_⟩
    try simp (disch := first | omega | (simp only [List.length_set, List.length_append, List.length_cons, List.length_nil, iv_length, zl_length]; try omega; done)) [-getElem?_pos, -getElem?_neg, s2, s3, s4, s5, s6, s7, s8, s9, x0, x1, x2, x3, x4, x5, x6, tb, bl, sb1, sb2, hs1, hs10, hs2, hs20, hs3, hs30]
    refine hK _ _ ?_; clear hK K
    refine aw_seq ?_
    refine aw_ops (by kernel_rfl) (fun K hK => ?_)
    simp (disch := first | omega | (simp only [List.length_set, List.length_append, List.length_cons, List.length_nil, iv_length, zl_length]; try omega; done)) [-getElem?_pos, -getElem?_neg, s2, s3, s4, s5, s6, s7, s8, s9, x0, x1, x2, x3, x4, x5, x6, tb, bl, sb1, sb2, hs1, hs10, hs2, hs20, hs3, hs30]
    refine ⟨by kernel_rfl, ac_of_rc (rt_l _ _ (subM_el _ _) (subM_el _ _)) (by simp [pv_iv, pv_int, pv_bool, pv_string, pv_tup2, pv_tup3, iv_plain, p2_int, p2_bool, p2_string]) ?_⟩
    try simp (disch := first | omega | (simp only [List.length_set, List.length_append, List.length_cons, List.length_nil, iv_length, zl_length]; try omega; done)) [-getElem?_pos, -getElem?_neg, s2, s3, s4, s5, s6, s7, s8, s9, x0, x1, x2, x3, x4, x5, x6, tb, bl, sb1, sb2, hs1, hs10, hs2, hs20, hs3, hs30]
    refine hK _ _ ?_; clear hK K
    refine aw_seq ?_
    refine aw_ops (by kernel_rfl) (fun K hK => ?_)
    simp (disch := first | omega | (simp only [List.length_set, List.length_append, List.length_cons, List.length_nil, iv_length, zl_length]; try omega; done)) [-getElem?_pos, -getElem?_neg, s2, s3, s4, s5, s6, s7, s8, s9, x0, x1, x2, x3, x4, x5, x6, tb, bl, sb1, sb2, hs1, hs10, hs2, hs20, hs3, hs30]
    refine ⟨by kernel_rfl, ac_of_rc (rm_l _ _ (mulM_el _ _) (mulM_el _ _)) (by simp [pv_iv, pv_int, pv_bool, pv_string, pv_tup2, pv_tup3, iv_plain, p2_int, p2_bool, p2_string]) ?_⟩
    try simp (disch := first | omega | (simp only [List.length_set, List.length_append, List.length_cons, List.length_nil, iv_length, zl_length]; try omega; done)) [-getElem?_pos, -getElem?_neg, s2, s3, s4, s5, s6, s7, s8, s9, x0, x1, x2, x3, x4, x5, x6, tb, bl, sb1, sb2, hs1, hs10, hs2, hs20, hs3, hs30]
    refine hK _ _ ?_; clear hK K
    refine aw_seq ?_
    refine aw_ops (by kernel_rfl) (fun K hK => ?_)
    simp (disch := first | omega | (simp only [List.length_set, List.length_append, List.length_cons, List.length_nil, iv_length, zl_length]; try omega; done)) [-getElem?_pos, -getElem?_neg, s2, s3, s4, s5, s6, s7, s8, s9, x0, x1, x2, x3, x4, x5, x6, tb, bl, sb1, sb2, hs1, hs10, hs2, hs20, hs3, hs30]
    refine ⟨by kernel_rfl, ac_of_rc (rt_l _ _ (subM_el _ _) (addM_el _ _)) (by simp [pv_iv, pv_int, pv_bool, pv_string, pv_tup2, pv_tup3, iv_plain, p2_int, p2_bool, p2_string]) ?_⟩
    try simp (disch := first | omega | (simp only [List.length_set, List.length_append, List.length_cons, List.length_nil, iv_length, zl_length]; try omega; done)) [-getElem?_pos, -getElem?_neg, s2, s3, s4, s5, s6, s7, s8, s9, x0, x1, x2, x3, x4, x5, x6, tb, bl, sb1, sb2, hs1, hs10, hs2, hs20, hs3, hs30]
    refine hK _ _ ?_; clear hK K
    refine aw_seq ?_
    refine aw_ops (by kernel_rfl) (fun K hK => ?_)
    simp (disch := first | omega | (simp only [List.length_set, List.length_append, List.length_cons, List.length_nil, iv_length, zl_length]; try omega; done)) [-getElem?_pos, -getElem?_neg, s2, s3, s4, s5, s6, s7, s8, s9, x0, x1, x2, x3, x4, x5, x6, tb, bl, sb1, sb2, hs1, hs10, hs2, hs20, hs3, hs30]
    refine ⟨by kernel_rfl, ac_of_rc (rt_l _ _ (addM_el _ _) (subM_el _ _)) (by simp [pv_iv, pv_int, pv_bool, pv_string, pv_tup2, pv_tup3, iv_plain, p2_int, p2_bool, p2_string]) ?_⟩
    try simp (disch := first | omega | (simp only [List.length_set, List.length_append, List.length_cons, List.length_nil, iv_length, zl_length]; try omega; done)) [-getElem?_pos, -getElem?_neg, s2, s3, s4, s5, s6, s7, s8, s9, x0, x1, x2, x3, x4, x5, x6, tb, bl, sb1, sb2, hs1, hs10, hs2, hs20, hs3, hs30]
    refine hK _ _ ?_; clear hK K
    refine aw_seq ?_
    refine aw_ops (by kernel_rfl) (fun K hK => ?_)
    simp (disch := first | omega | (simp only [List.length_set, List.length_append, List.length_cons, List.length_nil, iv_length, zl_length]; try omega; done)) [-getElem?_pos, -getElem?_neg, s2, s3, s4, s5, s6, s7, s8, s9, x0, x1, x2, x3, x4, x5, x6, tb, bl, sb1, sb2, hs1, hs10, hs2, hs20, hs3, hs30]
    refine ⟨by kernel_rfl, ac_of_rc (rp_l _ _ (mulM_el _ _) (mulM_el _ _)) (by simp [pv_iv, pv_int, pv_bool, pv_string, pv_tup2, pv_tup3, iv_plain, p2_int, p2_bool, p2_string]) ?_⟩
    try simp (disch := first | omega | (simp only [List.length_set, List.length_append, List.length_cons, List.length_nil, iv_length, zl_length]; try omega; done)) [-getElem?_pos, -getElem?_neg, s2, s3, s4, s5, s6, s7, s8, s9, x0, x1, x2, x3, x4, x5, x6, tb, bl, sb1, sb2, hs1, hs10, hs2, hs20, hs3, hs30]
    refine hK _ _ ?_; clear hK K
    refine aw_seq ?_
    refine aw_ops (by kernel_rfl) (fun K hK => ?_)
    simp (disch := first | omega | (simp only [List.length_set, List.length_append, List.length_cons, List.length_nil, iv_length, zl_length]; try omega; done)) [-getElem?_pos, -getElem?_neg, s2, s3, s4, s5, s6, s7, s8, s9, x0, x1, x2, x3, x4, x5, x6, tb, bl, sb1, sb2, hs1, hs10, hs2, hs20, hs3, hs30]
    refine ⟨by kernel_rfl, ac_of_rc (rm_l _ _ (mulM_el _ _) (mulM_el _ _)) (by simp [pv_iv, pv_int, pv_bool, pv_string, pv_tup2, pv_tup3, iv_plain, p2_int, p2_bool, p2_string]) ?_⟩
    try simp (disch := first | omega | (simp only [List.length_set, List.length_append, List.length_cons, List.length_nil, iv_length, zl_length]; try omega; done)) [-getElem?_pos, -getElem?_neg, s2, s3, s4, s5, s6, s7, s8, s9, x0, x1, x2, x3, x4, x5, x6, tb, bl, sb1, sb2, hs1, hs10, hs2, hs20, hs3, hs30]
    refine hK _ _ ?_; clear hK K
    refine aw_seq ?_
    refine aw_ops (by kernel_rfl) (fun K hK => ?_)
    simp (disch := first | omega | (simp only [List.length_set, List.length_append, List.length_cons, List.length_nil, iv_length, zl_length]; try omega; done)) [-getElem?_pos, -getElem?_neg, s2, s3, s4, s5, s6, s7, s8, s9, x0, x1, x2, x3, x4, x5, x6, tb, bl, sb1, sb2, hs1, hs10, hs2, hs20, hs3, hs30]
    refine ⟨by kernel_rfl, ac_of_rc (rt_l _ _ (addM_el _ _) (addM_el _ _)) (by simp [pv_iv, pv_int, pv_bool, pv_string, pv_tup2, pv_tup3, iv_plain, p2_int, p2_bool, p2_string]) ?_⟩
    try simp (disch := first | omega | (simp only [List.length_set, List.length_append, List.length_cons, List.length_nil, iv_length, zl_length]; try omega; done)) [-getElem?_pos, -getElem?_neg, s2, s3, s4, s5, s6, s7, s8, s9, x0, x1, x2, x3, x4, x5, x6, tb, bl, sb1, sb2, hs1, hs10, hs2, hs20, hs3, hs30]
    refine hK _ _ ?_; clear hK K
    refine aw_seq ?_
    (refine aw_plan [] [] [0, 1, 2, 3, 4] 5 1 (by kernel_rfl) (by kernel_rfl) (by kernel_rfl) (fun K hK => ?_)); simp only [sel, List.getElem?_cons_succ, List.getElem?_cons_zero, List.drop_succ_cons, List.drop_zero]; simp (disch := first | omega | (simp only [List.length_set, List.length_append, List.length_cons, List.length_nil, iv_length, zl_length]; try omega; done)) [-getElem?_pos, -getElem?_neg, s2, s3, s4, s5, s6, s7, s8, s9, x0, x1, x2, x3, x4, x5, x6, tb, bl, sb1, sb2, hs1, hs10, hs2, hs20, hs3, hs30, PL_nil, PL_cons, PLc_val, PLc_new, stepP_t, stepP_f, stepPC_n, stepPC_s, stepPX_s, stepPX_n, stepPA_t, stepPA_c, stepPA_l, stepPN_s, allocOp, reloc_sl, reloc_ptr, List.map_cons, List.map_nil, List.nil_append, List.append_assoc, List.cons_append, Nat.add_assoc]
    refine PLc_call (by kernel_rfl) (fun L hL => rt_l _ _ (subM_el _ _) (subM_el _ _)) (by simp [pv_iv, pv_int, pv_bool, pv_string, pv_tup2, pv_tup3, iv_plain, p2_int, p2_bool, p2_string]) ?_
    try simp (disch := first | omega | (simp only [List.length_set, List.length_append, List.length_cons, List.length_nil, iv_length, zl_length]; try omega; done)) [-getElem?_pos, -getElem?_neg, s2, s3, s4, s5, s6, s7, s8, s9, x0, x1, x2, x3, x4, x5, x6, tb, bl, sb1, sb2, hs1, hs10, hs2, hs20, hs3, hs30, PL_nil, PL_cons, PLc_val, PLc_new, stepP_t, stepP_f, stepPC_n, stepPC_s, stepPX_s, stepPX_n, stepPA_t, stepPA_c, stepPA_l, stepPN_s, allocOp, reloc_sl, reloc_ptr, List.map_cons, List.map_nil, List.nil_append, List.append_assoc, List.cons_append, Nat.add_assoc]
    refine PLc_call (by kernel_rfl) (fun L hL => rt_l _ _ hu (mulM_el _ _)) (by simp [pv_iv, pv_int, pv_bool, pv_string, pv_tup2, pv_tup3, iv_plain, p2_int, p2_bool, p2_string]) ?_
    try simp (disch := first | omega | (simp only [List.length_set, List.length_append, List.length_cons, List.length_nil, iv_length, zl_length]; try omega; done)) [-getElem?_pos, -getElem?_neg, s2, s3, s4, s5, s6, s7, s8, s9, x0, x1, x2, x3, x4, x5, x6, tb, bl, sb1, sb2, hs1, hs10, hs2, hs20, hs3, hs30, PL_nil, PL_cons, PLc_val, PLc_new, stepP_t, stepP_f, stepPC_n, stepPC_s, stepPX_s, stepPX_n, stepPA_t, stepPA_c, stepPA_l, stepPN_s, allocOp, reloc_sl, reloc_ptr, List.map_cons, List.map_nil, List.nil_append, List.append_assoc, List.cons_append, Nat.add_assoc]
    refine hK _ _ ?_; clear hK K
    refine aw_seq ?_
    refine aw_ops (by kernel_rfl) (fun K hK => ?_)
    simp (disch := first | omega | (simp only [List.length_set, List.length_append, List.length_cons, List.length_nil, iv_length, zl_length]; try omega; done)) [-getElem?_pos, -getElem?_neg, s2, s3, s4, s5, s6, s7, s8, s9, x0, x1, x2, x3, x4, x5, x6, tb, bl, sb1, sb2, hs1, hs10, hs2, hs20, hs3, hs30]
    refine ⟨by kernel_rfl, ac_of_rc (rt_l _ _ (mulM_el _ _) (mulM_el _ _)) (by simp [pv_iv, pv_int, pv_bool, pv_string, pv_tup2, pv_tup3, iv_plain, p2_int, p2_bool, p2_string]) ?_⟩
    try simp (disch := first | omega | (simp only [List.length_set, List.length_append, List.length_cons, List.length_nil, iv_length, zl_length]; try omega; done)) [-getElem?_pos, -getElem?_neg, s2, s3, s4, s5, s6, s7, s8, s9, x0, x1, x2, x3, x4, x5, x6, tb, bl, sb1, sb2, hs1, hs10, hs2, hs20, hs3, hs30]
    refine hK _ _ ?_; clear hK K
    refine aw_seq ?_
    refine aw_cut (fun α' G' => α' 9 = .int .i64 (t : Nat) ∧ α' 2 = .pointer (some ⟨H.length, 0, none⟩) ∧ α' 3 = .pointer (some ⟨H.length + 1, 0, none⟩) ∧ α' 4 = .pointer (some ⟨H.length + 2, 0, none⟩) ∧ α' 5 = .pointer (some ⟨H.length + 3, 0, none⟩) ∧ α' 6 = .pointer (some ⟨H.length + 4, 0, none⟩) ∧ α' 7 = .pointer (some ⟨H.length + 5, 0, none⟩) ∧ α' 8 = .pointer (some ⟨H.length + 6, 0, none⟩) ∧ H.length + 7 ≤ G'.length ∧ hget G' H.length = some ⟨iv .u8 k, 23, none⟩ ∧ hget G' (H.length + 1) = some ⟨iv .u8 (bytesM (u)), 23, none⟩ ∧ hget G' (H.length + 2) = some ⟨iv .u8 (zl 32), 23, none⟩ ∧ hget G' (H.length + 3) = some ⟨iv .u8 (bytesM ((rrng u p1).1)), 23, none⟩ ∧ hget G' (H.length + 4) = some ⟨iv .u8 (bytesM ((rrng u p1).2.1)), 23, none⟩ ∧ hget G' (H.length + 5) = some ⟨iv .u8 (bytesM ((rrng u p1).2.2.1)), 23, none⟩ ∧ hget G' (H.length + 6) = some ⟨iv .u8 (bytesM ((rrng u p1).2.2.2)), 23, none⟩) ?_ ?_
    · (refine aw_plan [] [] [0, 1, 2, 3, 4, 5, 6] 7 1 (by kernel_rfl) (by kernel_rfl) (by kernel_rfl) (fun K hK => ?_)); simp only [sel, List.getElem?_cons_succ, List.getElem?_cons_zero, List.drop_succ_cons, List.drop_zero]; simp (disch := first | omega | (simp only [List.length_set, List.length_append, List.length_cons, List.length_nil, iv_length, zl_length]; try omega; done)) [-getElem?_pos, -getElem?_neg, s2, s3, s4, s5, s6, s7, s8, s9, x0, x1, x2, x3, x4, x5, x6, tb, bl, sb1, sb2, hs1, hs10, hs2, hs20, hs3, hs30, PL_nil, PL_cons, PLc_val, PLc_new, stepP_t, stepP_f, stepPC_n, stepPC_s, stepPX_s, stepPX_n, stepPA_t, stepPA_c, stepPA_l, stepPN_s, allocOp, reloc_sl, reloc_ptr, List.map_cons, List.map_nil, List.nil_append, List.append_assoc, List.cons_append, Nat.add_assoc]
      refine PLc_call (by kernel_rfl) (fun L hL => ac_of_vc (by simp [pv_iv, pv_int, pv_bool, pv_string, pv_tup2, pv_tup3, iv_plain, p2_int, p2_bool, p2_string]) (small_r (n := 121665) (by omega)) rfl) (by simp [pv_iv, pv_int, pv_bool, pv_string, pv_tup2, pv_tup3, iv_plain, p2_int, p2_bool, p2_string]) ?_
      try simp (disch := first | omega | (simp only [List.length_set, List.length_append, List.length_cons, List.length_nil, iv_length, zl_length]; try omega; done)) [-getElem?_pos, -getElem?_neg, s2, s3, s4, s5, s6, s7, s8, s9, x0, x1, x2, x3, x4, x5, x6, tb, bl, sb1, sb2, hs1, hs10, hs2, hs20, hs3, hs30, PL_nil, PL_cons, PLc_val, PLc_new, stepP_t, stepP_f, stepPC_n, stepPC_s, stepPX_s, stepPX_n, stepPA_t, stepPA_c, stepPA_l, stepPN_s, allocOp, reloc_sl, reloc_ptr, List.map_cons, List.map_nil, List.nil_append, List.append_assoc, List.cons_append, Nat.add_assoc]
      refine PLc_call (by kernel_rfl) (fun L hL => rt_l _ _ el_f (subM_el _ _)) (by simp [pv_iv, pv_int, pv_bool, pv_string, pv_tup2, pv_tup3, iv_plain, p2_int, p2_bool, p2_string]) ?_
      try simp (disch := first | omega | (simp only [List.length_set, List.length_append, List.length_cons, List.length_nil, iv_length, zl_length]; try omega; done)) [-getElem?_pos, -getElem?_neg, s2, s3, s4, s5, s6, s7, s8, s9, x0, x1, x2, x3, x4, x5, x6, tb, bl, sb1, sb2, hs1, hs10, hs2, hs20, hs3, hs30, PL_nil, PL_cons, PLc_val, PLc_new, stepP_t, stepP_f, stepPC_n, stepPC_s, stepPX_s, stepPX_n, stepPA_t, stepPA_c, stepPA_l, stepPN_s, allocOp, reloc_sl, reloc_ptr, List.map_cons, List.map_nil, List.nil_append, List.append_assoc, List.cons_append, Nat.add_assoc]
      refine PLc_call (by kernel_rfl) (fun L hL => rp_l _ _ (mulM_el _ _) (mulM_el _ _)) (by simp [pv_iv, pv_int, pv_bool, pv_string, pv_tup2, pv_tup3, iv_plain, p2_int, p2_bool, p2_string]) ?_
      try simp (disch := first | omega | (simp only [List.length_set, List.length_append, List.length_cons, List.length_nil, iv_length, zl_length]; try omega; done)) [-getElem?_pos, -getElem?_neg, s2, s3, s4, s5, s6, s7, s8, s9, x0, x1, x2, x3, x4, x5, x6, tb, bl, sb1, sb2, hs1, hs10, hs2, hs20, hs3, hs30, PL_nil, PL_cons, PLc_val, PLc_new, stepP_t, stepP_f, stepPC_n, stepPC_s, stepPX_s, stepPX_n, stepPA_t, stepPA_c, stepPA_l, stepPN_s, allocOp, reloc_sl, reloc_ptr, List.map_cons, List.map_nil, List.nil_append, List.append_assoc, List.cons_append, Nat.add_assoc]
      refine PLc_call (by kernel_rfl) (fun L hL => rt_l _ _ (subM_el _ _) (addM_el _ _)) (by simp [pv_iv, pv_int, pv_bool, pv_string, pv_tup2, pv_tup3, iv_plain, p2_int, p2_bool, p2_string]) ?_
      try simp (disch := first | omega | (simp only [List.length_set, List.length_append, List.length_cons, List.length_nil, iv_length, zl_length]; try omega; done)) [-getElem?_pos, -getElem?_neg, s2, s3, s4, s5, s6, s7, s8, s9, x0, x1, x2, x3, x4, x5, x6, tb, bl, sb1, sb2, hs1, hs10, hs2, hs20, hs3, hs30, PL_nil, PL_cons, PLc_val, PLc_new, stepP_t, stepP_f, stepPC_n, stepPC_s, stepPX_s, stepPX_n, stepPA_t, stepPA_c, stepPA_l, stepPN_s, allocOp, reloc_sl, reloc_ptr, List.map_cons, List.map_nil, List.nil_append, List.append_assoc, List.cons_append, Nat.add_assoc]
      refine hK _ _ ?_; clear hK K
      refine ⟨by (first | (simp [put_at, put_none, fr0_at, s9]; done) | rfl), by (first | (simp [put_at, put_none, fr0_at, s2]; done) | rfl), by (first | (simp [put_at, put_none, fr0_at, s3]; done) | rfl), by (first | (simp [put_at, put_none, fr0_at, s4]; done) | rfl), by (first | (simp [put_at, put_none, fr0_at, s5]; done) | rfl), by (first | (simp [put_at, put_none, fr0_at, s6]; done) | rfl), by (first | (simp [put_at, put_none, fr0_at, s7]; done) | rfl), by (first | (simp [put_at, put_none, fr0_at, s8]; done) | rfl), by simp; omega, ?_⟩
      simp (disch := (first | omega | (simp only [List.length_set]; omega))) [hget_left, hget_set_ne, hget_set_eq, x0, x1, x2, x3, x4, x5, x6, rrng]
    clear s9 s2 s3 s4 s5 s6 s7 s8 xl x0 x1 x2 x3 x4 x5 x6
    rintro α G ⟨s9, s2, s3, s4, s5, s6, s7, s8, xl, x0, x1, x2, x3, x4, x5, x6⟩
    generalize rrng u p1 = p at *
    refine aw_seq ?_
    refine aw_ops (by kernel_rfl) (fun K hK => ?_)
    simp (disch := first | omega | (simp only [List.length_set, List.length_append, List.length_cons, List.length_nil, iv_length, zl_length]; try omega; done)) [-getElem?_pos, -getElem?_neg, s2, s9, x0, hk, htk]
    refine ⟨by kernel_rfl, ac_of_vc (by simp [pv_iv, pv_int, pv_bool, pv_string, pv_tup2, pv_tup3, iv_plain, p2_int, p2_bool, p2_string]) hbit ?_⟩
    try simp (disch := first | omega | (simp only [List.length_set, List.length_append, List.length_cons, List.length_nil, iv_length, zl_length]; try omega; done)) [-getElem?_pos, -getElem?_neg]
    refine hK _ _ ?_; clear hK K
    cases s
    · refine aw_f (by (first | (simp [eval_tmp, put_at]; done) | (simp [eval_tmp, put_at]; omega))) (by kernel_rfl) ?_
      refine aw_skip ?_
      (refine aw_ops (by kernel_rfl) (fun K hK => ?_); simp (disch := first | omega | (simp only [List.length_set, List.length_append, List.length_cons, List.length_nil, iv_length, zl_length]; try omega; done)) [-getElem?_pos, -getElem?_neg, s9]; refine hK _ _ ?_; clear hK K)
      exact ⟨q - 1, by omega, n + 1, by omega, by rw [show (254 : Int) - ((n + 1 : Nat) : Int) = (t : Int) - 1 by omega]; (first | (simp [put_at, put_none, fr0_at]; done) | rfl), by (first | (simp [put_at, put_none, fr0_at, s2]; done) | rfl), by (first | (simp [put_at, put_none, fr0_at, s3]; done) | rfl), by (first | (simp [put_at, put_none, fr0_at, s4]; done) | rfl), by (first | (simp [put_at, put_none, fr0_at, s5]; done) | rfl), by (first | (simp [put_at, put_none, fr0_at, s6]; done) | rfl), by (first | (simp [put_at, put_none, fr0_at, s7]; done) | rfl), by (first | (simp [put_at, put_none, fr0_at, s8]; done) | rfl), by rw [hsn]; exact ⟨xl, x0, x1, x2, x3, x4, x5, x6⟩⟩
    · refine aw_t (by (first | (simp [eval_tmp, put_at]; done) | (simp [eval_tmp, put_at]; omega))) (by kernel_rfl) ?_
      (refine aw_planL [] [0, 1, 2, 3] [1] 4 [([], [], [[4, 5, 6, 7]]), ([1], [93], [[1, 4, 5, 6, 7], [4, 1, 5, 6, 7]])] (by kernel_rfl) (by kernel_rfl) (by kernel_rfl) (fun K hK => ?_)); simp only [sel, List.getElem?_cons_succ, List.getElem?_cons_zero]; simp (disch := first | omega | (simp only [List.length_set, List.length_append, List.length_cons, List.length_nil, iv_length, zl_length]; try omega; done)) [-getElem?_pos, -getElem?_neg, s5, s6, s7, s8, x3, x4, x5, x6, tb, bl, sb1, PL_nil, PL_cons, PLc_val, PLc_new, stepP_t, stepP_f, stepPC_n, stepPC_s, stepPX_s, stepPX_n, stepPA_t, stepPA_c, stepPA_l, stepPN_s, allocOp, reloc_sl, reloc_ptr, List.map_cons, List.map_nil, List.nil_append, List.append_assoc, List.cons_append, Nat.add_assoc]
      simp only [List.mem_cons, List.not_mem_nil, or_false, forall_eq_or_imp, forall_eq, sel, List.getElem?_cons_succ, List.getElem?_cons_zero]; simp (disch := first | omega | (simp only [List.length_set, List.length_append, List.length_cons, List.length_nil, iv_length, zl_length]; try omega; done)) [-getElem?_pos, -getElem?_neg, s5, s6, s7, s8, x3, x4, x5, x6, tb, bl, sb1, mixF_at, mixF_nil, List.contains_cons, List.contains_nil]
      repeat' (first | apply And.intro | refine hK _ _ ?_)
      all_goals clear hK K
      all_goals first
        | assumption
        | ((refine aw_ops (by kernel_rfl) (fun K hK => ?_); simp (disch := first | omega | (simp only [List.length_set, List.length_append, List.length_cons, List.length_nil, iv_length, zl_length]; try omega; done)) [-getElem?_pos, -getElem?_neg, s9, mixF_at, List.contains_cons]; refine hK _ _ ?_; clear hK K)
           exact ⟨q - 1, by omega, n + 1, by omega, by rw [show (254 : Int) - ((n + 1 : Nat) : Int) = (t : Int) - 1 by omega]; (first | (simp [put_at, put_none, fr0_at, s9, mixF_at, List.contains_cons]; done) | rfl), by (first | (simp [put_at, put_none, fr0_at, s2, mixF_at, List.contains_cons]; done) | rfl), by (first | (simp [put_at, put_none, fr0_at, s3, mixF_at, List.contains_cons]; done) | rfl), by (first | (simp [put_at, put_none, fr0_at, s4, mixF_at, List.contains_cons]; done) | rfl), by (first | (simp [put_at, put_none, fr0_at, s5, mixF_at, List.contains_cons]; done) | rfl), by (first | (simp [put_at, put_none, fr0_at, s6, mixF_at, List.contains_cons]; done) | rfl), by (first | (simp [put_at, put_none, fr0_at, s7, mixF_at, List.contains_cons]; done) | rfl), by (first | (simp [put_at, put_none, fr0_at, s8, mixF_at, List.contains_cons]; done) | rfl), by rw [hsn]; simp (disch := (first | omega | (simp only [List.length_set]; omega))) [xl, hget_set_ne, hget_set_eq, x0, x1, x2, x3, x4, x5, x6, swp]⟩)
  · obtain rfl : n = 255 := by omega
    (refine aw_ops (by kernel_rfl) (fun K hK => ?_); simp (disch := first | omega | (simp only [List.length_set, List.length_append, List.length_cons, List.length_nil, iv_length, zl_length]; try omega; done)) [-getElem?_pos, -getElem?_neg, s9]; refine hK _ _ ?_; clear hK K)
    refine aw_f (by (first | (simp [eval_tmp, put_at]; done) | (simp [eval_tmp, put_at]; omega))) (by kernel_rfl) ?_
    refine aw_exit ?_
    have lp := lel 255
    have hcl : climbM k u = mulM (lad k u 255).1 (invM (lad k u 255).2.1) := by unfold climbM; rfl
    rw [hcl]
    generalize lad k u 255 = p at *
    refine aw_seq ?_
    (refine aw_plan [] [] [0, 1, 2, 3] 4 1 (by kernel_rfl) (by kernel_rfl) (by kernel_rfl) (fun K hK => ?_)); simp only [sel, List.getElem?_cons_succ, List.getElem?_cons_zero, List.drop_succ_cons, List.drop_zero]; simp (disch := first | omega | (simp only [List.length_set, List.length_append, List.length_cons, List.length_nil, iv_length, zl_length]; try omega; done)) [-getElem?_pos, -getElem?_neg, s2, s3, s4, s5, s6, s7, s8, s9, x0, x1, x2, x3, x4, x5, x6, tb, bl, sb1, sb2, hs1, hs10, hs2, hs20, hs3, hs30, PL_nil, PL_cons, PLc_val, PLc_new, stepP_t, stepP_f, stepPC_n, stepPC_s, stepPX_s, stepPX_n, stepPA_t, stepPA_c, stepPA_l, stepPN_s, allocOp, reloc_sl, reloc_ptr, List.map_cons, List.map_nil, List.nil_append, List.append_assoc, List.cons_append, Nat.add_assoc]
    refine PLc_call (by kernel_rfl) (fun L hL => rinv_rc lp.2.1) (by simp [pv_iv, pv_int, pv_bool, pv_string, pv_tup2, pv_tup3, iv_plain, p2_int, p2_bool, p2_string]) ?_
    try simp (disch := first | omega | (simp only [List.length_set, List.length_append, List.length_cons, List.length_nil, iv_length, zl_length]; try omega; done)) [-getElem?_pos, -getElem?_neg, s2, s3, s4, s5, s6, s7, s8, s9, x0, x1, x2, x3, x4, x5, x6, tb, bl, sb1, sb2, hs1, hs10, hs2, hs20, hs3, hs30, PL_nil, PL_cons, PLc_val, PLc_new, stepP_t, stepP_f, stepPC_n, stepPC_s, stepPX_s, stepPX_n, stepPA_t, stepPA_c, stepPA_l, stepPN_s, allocOp, reloc_sl, reloc_ptr, List.map_cons, List.map_nil, List.nil_append, List.append_assoc, List.cons_append, Nat.add_assoc]
    refine PLc_call (by kernel_rfl) (fun L hL => rt_l _ _ lp.1 (invM_el _)) (by simp [pv_iv, pv_int, pv_bool, pv_string, pv_tup2, pv_tup3, iv_plain, p2_int, p2_bool, p2_string]) ?_
    try simp (disch := first | omega | (simp only [List.length_set, List.length_append, List.length_cons, List.length_nil, iv_length, zl_length]; try omega; done)) [-getElem?_pos, -getElem?_neg, s2, s3, s4, s5, s6, s7, s8, s9, x0, x1, x2, x3, x4, x5, x6, tb, bl, sb1, sb2, hs1, hs10, hs2, hs20, hs3, hs30, PL_nil, PL_cons, PLc_val, PLc_new, stepP_t, stepP_f, stepPC_n, stepPC_s, stepPX_s, stepPX_n, stepPA_t, stepPA_c, stepPA_l, stepPN_s, allocOp, reloc_sl, reloc_ptr, List.map_cons, List.map_nil, List.nil_append, List.append_assoc, List.cons_append, Nat.add_assoc]
    refine hK _ _ ?_; clear hK K
    (refine aw_ret ?_; simp (disch := first | omega | (simp only [List.length_set, List.length_append, List.length_cons, List.length_nil, iv_length, zl_length]; try omega; done)) [-getElem?_pos, -getElem?_neg, thenQ_ret, inBlockQ_ret, RQ, resL, resV, s2, s3, s4, s5, s6, s7, s8, s9, x0, x1, x2, x3, x4, x5, x6, tb, bl, sb1, sb2, hs1, hs10, hs2, hs20, hs3, hs30])
end

section
open Go Go.RowKit
set_option linter.unusedVariables false
set_option linter.unusedSimpArgs false
set_option maxRecDepth 100000
set_option maxHeartbeats 8000000

theorem zl_by7 (n : Nat) : By (zl n) := by intro x hx; rw [List.eq_of_mem_replicate hx]; omega
theorem nine_by : By (9 :: zl 31) := by
  intro x hx
  rcases List.mem_cons.1 hx with h | h
  · omega
  · exact zl_by7 31 x h
theorem nine_from : fromM (9 :: zl 31) = 9 := by decide +kernel
theorem lad_l (G : AH) {k w : List Int} (hk : k.length = 32) (hb : By k) (hw : w.length = 32) (hwb : By w) : AC Tryd.prog G.length gm 10 #[.agg (iv .u8 k).toArray, .agg (iv .u8 w).toArray] G (fun v' _ => v' = .agg (iv .u8 (agrL k w)).toArray) := ladder_rc hk hb hw hwb
theorem lad_9 (G : AH) {k : List Int} (hk : k.length = 32) (hb : By k) : AC Tryd.prog G.length gm 10 #[.agg (iv .u8 k).toArray, .agg (iv .u8 (9 :: zl 31)).toArray] G (fun v' _ => v' = .agg (iv .u8 (puL k)).toArray) := by
  have h := lad_l G hk hb (w := 9 :: zl 31) rfl nine_by
  unfold agrL at h
  rw [nine_from] at h
  exact h
theorem agrB_is (k w : List Int) : (agrL k w == zl 32) = !agrB k w := by
  unfold agrL agrB
  rw [← bytes_0, bytes_inj (climbM_el _ _) el_0, Bool.not_not]
attribute [local irreducible] wl addM subM mulM pM climbM fromM bytesM lad sb agrL agrB puL
attribute [local simp] wb_bool wb_undef XL_nil XL_cons XLc_val XLc_call step1_eq stepW_t stepW_f stepC_n stepC_s stepX_s xop_eq xopR_s xopR_n wantedA_eq wantedG_n wantedG_s plain1_int plain1_bool plain1_string bits_i64 bits_u64 bits_u32 bits_u16 bits_u8 xeqA xarr allK_iv num_iv calleeOf xread xeff xbin xint xnil xun xstr xload xconv xpart xfield xfieldAddr xindexAddr xindex bnd asInt? xslice xlen xmin xmax xbuild xfill xappend xcopy xcells eval_tmp eval_const put_at put_none fr0_at cells_agg cells_int cells_bool cells_string cells_ptr cells_slice notTuple tab iv_all hget_app hget_app0 hget_cons0 hget_cons set_app set_app0 setR setR_one QL_nil QL_cons QLc_val stepQ_t stepQ_f stepQC_n stepQC_s stepQX_s SL_nil SL_cons SLc_val stepS_t stepS_f ltT ltF leT leF eqT eqF ltTn ltFn leTn leFn eqTn eqFn beqT beqF bneT bneF wi64 wu64 wu32 wu16 wu8 tmodP tdivP hgetL hgetNe hgetEq setL nums_def nums_len Nat.succ_le_of_lt List.getElem?_cons_zero List.getElem?_cons_succ Option.getD_some Int.toNat_add Int.toNat_mul agB agI agS agP agL agA okB okI okS okP okSl okA
theorem public_law {H : AH} (hG : GP H) {k : List Int} (hk : k.length = 32) (hb : By k) : AC Tryd.prog H.length gm 3 #[.agg (iv .u8 k).toArray] H (fun v' _ => v' = .bool true) := by
  have htk : (iv .u8 k).take 32 = iv .u8 k := List.take_of_length_le (by simp [hk])
  have hal := fun (G : AH) (hG : GP G) => alive_rc hG
  have hp := fun (G : AH) hG => pub_of (H := G) hG hk hb rfl
  have hl := fun (G : AH) => lad_9 G hk hb
  have o1 : setR (iv .u8 (zl 32)) 0 [.int .u8 9] = iv .u8 (9 :: zl 31) := rfl
  have o2 : (iv .u8 (zl 32)).set 0 (.int .u8 9) = iv .u8 (9 :: zl 31) := rfl
  have lP := puL_len k
  generalize puL k = P at *
  generalize 9 :: zl 31 = w9 at *
  refine ac_of_aw Tryd.func3 rfl Tryd.ntmps3 Tryd.results3 (by simp) ?_
  refine aw_seq ?_
  (refine aw_ops (by kernel_rfl) (fun K hK => ?_); simp (disch := first | omega | (simp only [List.length_set, List.length_append, List.length_cons, List.length_nil, iv_length, zl_length]; try omega; done)) [-getElem?_pos, -getElem?_neg]; refine hK _ _ ?_; clear hK K)
  refine aw_seq ?_
  refine aw_seq ?_
  refine aw_ops (by kernel_rfl) (fun K hK => ?_)
  simp (disch := first | omega | (simp only [List.length_set, List.length_append, List.length_cons, List.length_nil, iv_length, zl_length]; try omega; done)) [-getElem?_pos, -getElem?_neg]
  refine ⟨by kernel_rfl, ac_of_rc (hal _ (hG.app _)) (by simp [pv_iv, pv_int, pv_bool, pv_string, pv_tup2, pv_tup3, iv_plain, p2_int, p2_bool, p2_string]) ?_⟩
  try simp (disch := first | omega | (simp only [List.length_set, List.length_append, List.length_cons, List.length_nil, iv_length, zl_length]; try omega; done)) [-getElem?_pos, -getElem?_neg]
  refine hK _ _ ?_; clear hK K
  refine aw_f (by (first | (simp [eval_tmp, put_at]; done) | (simp [eval_tmp, put_at]; omega))) (by kernel_rfl) ?_
  refine aw_skip ?_
  refine aw_seq ?_
  (refine aw_plan [] [] [0, 1, 2, 3, 4, 5, 6, 7, 8, 9] 10 0 (by kernel_rfl) (by kernel_rfl) (by kernel_rfl) (fun K hK => ?_)); simp only [sel, List.getElem?_cons_succ, List.getElem?_cons_zero, List.drop_succ_cons, List.drop_zero]; simp (disch := first | omega | (simp only [List.length_set, List.length_append, List.length_cons, List.length_nil, iv_length, zl_length]; try omega; done)) [-getElem?_pos, -getElem?_neg, hk, htk, o1, o2, lP, PL_nil, PL_cons, PLc_val, PLc_new, stepP_t, stepP_f, stepPC_n, stepPC_s, stepPX_s, stepPX_n, stepPA_t, stepPA_c, stepPA_l, stepPN_s, allocOp, reloc_sl, reloc_ptr, List.map_cons, List.map_nil, List.nil_append, List.append_assoc, List.cons_append, Nat.add_assoc]
  refine PLc_call (by kernel_rfl) (fun L hL => hal _ ((hG.app _).app L)) (by simp [pv_iv, pv_int, pv_bool, pv_string, pv_tup2, pv_tup3, iv_plain, p2_int, p2_bool, p2_string]) ?_
  try simp (disch := first | omega | (simp only [List.length_set, List.length_append, List.length_cons, List.length_nil, iv_length, zl_length]; try omega; done)) [-getElem?_pos, -getElem?_neg, hk, htk, o1, o2, lP, PL_nil, PL_cons, PLc_val, PLc_new, stepP_t, stepP_f, stepPC_n, stepPC_s, stepPX_s, stepPX_n, stepPA_t, stepPA_c, stepPA_l, stepPN_s, allocOp, reloc_sl, reloc_ptr, List.map_cons, List.map_nil, List.nil_append, List.append_assoc, List.cons_append, Nat.add_assoc]
  refine PLc_call (by kernel_rfl) (fun L hL => hp _ ((hG.app _).app L)) (by simp [pv_iv, pv_int, pv_bool, pv_string, pv_tup2, pv_tup3, iv_plain, p2_int, p2_bool, p2_string]) ?_
  try simp (disch := first | omega | (simp only [List.length_set, List.length_append, List.length_cons, List.length_nil, iv_length, zl_length]; try omega; done)) [-getElem?_pos, -getElem?_neg, hk, htk, o1, o2, lP, PL_nil, PL_cons, PLc_val, PLc_new, stepP_t, stepP_f, stepPC_n, stepPC_s, stepPX_s, stepPX_n, stepPA_t, stepPA_c, stepPA_l, stepPN_s, allocOp, reloc_sl, reloc_ptr, List.map_cons, List.map_nil, List.nil_append, List.append_assoc, List.cons_append, Nat.add_assoc]
  refine PLc_call (by kernel_rfl) (fun L hL => hl _) (by simp [pv_iv, pv_int, pv_bool, pv_string, pv_tup2, pv_tup3, iv_plain, p2_int, p2_bool, p2_string]) ?_
  try simp (disch := first | omega | (simp only [List.length_set, List.length_append, List.length_cons, List.length_nil, iv_length, zl_length]; try omega; done)) [-getElem?_pos, -getElem?_neg, hk, htk, o1, o2, lP, PL_nil, PL_cons, PLc_val, PLc_new, stepP_t, stepP_f, stepPC_n, stepPC_s, stepPX_s, stepPX_n, stepPA_t, stepPA_c, stepPA_l, stepPN_s, allocOp, reloc_sl, reloc_ptr, List.map_cons, List.map_nil, List.nil_append, List.append_assoc, List.cons_append, Nat.add_assoc]
  refine hK _ _ ?_; clear hK K
  (refine aw_ret ?_; simp (disch := first | omega | (simp only [List.length_set, List.length_append, List.length_cons, List.length_nil, iv_length, zl_length]; try omega; done)) [-getElem?_pos, -getElem?_neg, thenQ_ret, inBlockQ_ret, RQ, resL, resV])
theorem agrees_law {H : AH} (hG : GP H) {k p : List Int} (hk : k.length = 32) (hb : By k) (hp : p.length = 32) (hpb : By p) : AC Tryd.prog H.length gm 4 #[.agg (iv .u8 k).toArray, .agg (iv .u8 p).toArray] H (fun v' _ => v' = .bool true) := by
  have htk : (iv .u8 k).take 32 = iv .u8 k := List.take_of_length_le (by simp [hk])
  have htp : (iv .u8 p).take 32 = iv .u8 p := List.take_of_length_le (by simp [hp])
  have hal := fun (G : AH) (hG : GP G) => alive_rc hG
  have ha := fun (G : AH) hG => agr_of (H := G) hG hk hb hp hpb rfl rfl
  have hl := fun (G : AH) => lad_l G hk hb hp hpb
  have hz := agrB_is k p
  have lL := agrL_len k p
  generalize agrL k p = L at *
  generalize agrB k p = B at *
  have htL : (iv .u8 L).take 32 = iv .u8 L := List.take_of_length_le (by simp [lL])
  have sL : setR (iv .u8 (zl 32)) 0 (iv .u8 L) = iv .u8 L := setR_all _ _ (by simp [lL])
  refine ac_of_aw Tryd.func4 rfl Tryd.ntmps4 Tryd.results4 (by simp) ?_
  refine aw_seq ?_
  (refine aw_ops (by kernel_rfl) (fun K hK => ?_); simp (disch := first | omega | (simp only [List.length_set, List.length_append, List.length_cons, List.length_nil, iv_length, zl_length]; try omega; done)) [-getElem?_pos, -getElem?_neg]; refine hK _ _ ?_; clear hK K)
  refine aw_seq ?_
  refine aw_seq ?_
  refine aw_ops (by kernel_rfl) (fun K hK => ?_)
  simp (disch := first | omega | (simp only [List.length_set, List.length_append, List.length_cons, List.length_nil, iv_length, zl_length]; try omega; done)) [-getElem?_pos, -getElem?_neg]
  refine ⟨by kernel_rfl, ac_of_rc (hal _ (hG.app _)) (by simp [pv_iv, pv_int, pv_bool, pv_string, pv_tup2, pv_tup3, iv_plain, p2_int, p2_bool, p2_string]) ?_⟩
  try simp (disch := first | omega | (simp only [List.length_set, List.length_append, List.length_cons, List.length_nil, iv_length, zl_length]; try omega; done)) [-getElem?_pos, -getElem?_neg]
  refine hK _ _ ?_; clear hK K
  refine aw_f (by (first | (simp [eval_tmp, put_at]; done) | (simp [eval_tmp, put_at]; omega))) (by kernel_rfl) ?_
  refine aw_skip ?_
  refine aw_seq ?_
  refine aw_ops (by kernel_rfl) (fun K hK => ?_)
  simp (disch := first | omega | (simp only [List.length_set, List.length_append, List.length_cons, List.length_nil, iv_length, zl_length]; try omega; done)) [-getElem?_pos, -getElem?_neg, htk, htp]
  refine ⟨by kernel_rfl, ac_of_rc (ha _ (hG.app _)) (by simp [pv_key]) ?_⟩
  try simp (disch := first | omega | (simp only [List.length_set, List.length_append, List.length_cons, List.length_nil, iv_length, zl_length]; try omega; done)) [-getElem?_pos, -getElem?_neg, sL, lL]
  refine hK _ _ ?_; clear hK K
  refine aw_seq ?_
  refine aw_ops (by kernel_rfl) (fun K hK => ?_)
  simp (disch := first | omega | (simp only [List.length_set, List.length_append, List.length_cons, List.length_nil, iv_length, zl_length]; try omega; done)) [-getElem?_pos, -getElem?_neg, htk, htp]
  refine ⟨by kernel_rfl, ac_of_rc (hl _) (by simp [pv_iv, pv_int, pv_bool, pv_string, pv_tup2, pv_tup3, iv_plain, p2_int, p2_bool, p2_string]) ?_⟩
  try simp (disch := first | omega | (simp only [List.length_set, List.length_append, List.length_cons, List.length_nil, iv_length, zl_length]; try omega; done)) [-getElem?_pos, -getElem?_neg, sL, lL]
  refine hK _ _ ?_; clear hK K
  refine aw_seq ?_
  refine aw_ops (by kernel_rfl) (fun K hK => ?_)
  simp (disch := first | omega | (simp only [List.length_set, List.length_append, List.length_cons, List.length_nil, iv_length, zl_length]; try omega; done)) [-getElem?_pos, -getElem?_neg]
  refine ⟨by kernel_rfl, ac_of_rc (hal _ (hG.app _)) (by simp [pv_iv, pv_int, pv_bool, pv_string, pv_tup2, pv_tup3, iv_plain, p2_int, p2_bool, p2_string]) ?_⟩
  cases B
  · try simp (disch := first | omega | (simp only [List.length_set, List.length_append, List.length_cons, List.length_nil, iv_length, zl_length]; try omega; done)) [-getElem?_pos, -getElem?_neg, htL, lL, hz]
    refine hK _ _ ?_; clear hK K
    (refine aw_ret ?_; simp (disch := first | omega | (simp only [List.length_set, List.length_append, List.length_cons, List.length_nil, iv_length, zl_length]; try omega; done)) [-getElem?_pos, -getElem?_neg, thenQ_ret, inBlockQ_ret, RQ, resL, resV])
  · try simp (disch := first | omega | (simp only [List.length_set, List.length_append, List.length_cons, List.length_nil, iv_length, zl_length]; try omega; done)) [-getElem?_pos, -getElem?_neg, htL, lL, hz]
    refine hK _ _ ?_; clear hK K
    (refine aw_ret ?_; simp (disch := first | omega | (simp only [List.length_set, List.length_append, List.length_cons, List.length_nil, iv_length, zl_length]; try omega; done)) [-getElem?_pos, -getElem?_neg, thenQ_ret, inBlockQ_ret, RQ, resL, resV])
end
end Go.Proofs.YtnddofgabipknaaDoor
