/-
  From and Bytes, walked.
-/
import Derived.Test.YtdokbnohlpbfbaaDoorFb
namespace Go.Proofs.YtdokbnohlpbfbaaDoor
open Go Go.RowKit
set_option linter.unusedSimpArgs false
set_option linter.unusedVariables false
set_option maxRecDepth 100000
set_option maxHeartbeats 4000000

/-- The element of 32 bytes. -/
def fromM (k : List Int) : Int := le k 32 % 57896044618658097711785492504343953926634992332820282019728792003956564819968 % 57896044618658097711785492504343953926634992332820282019728792003956564819949
theorem fromM_el (k : List Int) : El (fromM k) := by unfold El fromM; omega
theorem and_mod (w : Int) (hw : 0 ≤ w ∧ w < 18446744073709551616) : bitsOf .and .u64 w 9223372036854775807 = w % 9223372036854775808 := by
  obtain ⟨w, rfl⟩ := Int.eq_ofNat_of_zero_le hw.1
  have e2 : ((BitVec.ofInt 64 (w : Int)) &&& (BitVec.ofInt 64 9223372036854775807)).toNat = w % 9223372036854775808 := by
    rw [BitVec.toNat_and, BitVec.toNat_ofInt, BitVec.toNat_ofInt]
    have a1 : ((w : Int) % ((2 ^ 64 : Nat) : Int)).toNat = w := by omega
    have a2 : ((9223372036854775807 : Int) % ((2 ^ 64 : Nat) : Int)).toNat = 2 ^ 63 - 1 := by decide
    rw [a1, a2, Nat.and_two_pow_sub_one_eq_mod]
  show IntKind.u64.wrap (((BitVec.ofInt 64 (w : Int)) &&& (BitVec.ofInt 64 9223372036854775807)).toNat : Int) = _
  rw [e2, wrapU64]
  omega
theorem wl_and (X : Int) (h : Big X) : 0 ≤ (wl X).getD 3 0 ∧ (wl X).getD 3 0 < 18446744073709551616 ∧ (wl X).set 3 ((wl X).getD 3 0 % 9223372036854775808) = wl (X % 57896044618658097711785492504343953926634992332820282019728792003956564819968) := by
  unfold Big at h
  simp only [wl, List.getD_cons_succ, List.getD_cons_zero, List.set_cons_succ, List.set_cons_zero, List.cons.injEq, and_true]
  omega
theorem from_step {k : List Int} (hb : By k) {i : Nat} (hi : i < 32) : ∃ (q r : Nat) (w : Int), q < 4 ∧ r < 8 ∧ (i : Int) / 8 = (q : Int) ∧ (i : Int) % 8 = (r : Int) ∧ w = (wl (le k i)).getD q 0 ∧ 0 ≤ w ∧ w + k.getD i 0 * 2 ^ (r * 8) < 18446744073709551616 ∧ 0 ≤ k.getD i 0 * 2 ^ (r * 8) ∧
    bitsOf .or .u64 w (k.getD i 0 * 2 ^ (r * 8)) = w + k.getD i 0 * 2 ^ (r * 8) ∧ wl (le k (i + 1)) = (wl (le k i)).set q (w + k.getD i 0 * 2 ^ (r * 8)) := by
  obtain ⟨q, r, hq, hr, he, e1, e2⟩ := pow_split i hi
  have h1 := le_bd hb i
  have h2 := hb.get i
  have hs := pow_small r hr
  have hp := p256_pos r
  rw [he, pow_qr] at h1
  rw [← he] at h1
  obtain ⟨g1, g2, g3⟩ := wl_put hq ⟨hp, hs⟩ h2 h1
  have hpr := pow_r r
  refine ⟨q, r, _, hq, hr, by omega, by omega, rfl, g1, ?_, ?_, ?_, ?_⟩
  · rw [← hpr]
    have h4 : k.getD i 0 * 256 ^ r ≤ 255 * 256 ^ r := Int.mul_le_mul_of_nonneg_right h2.2 (by omega)
    generalize k.getD i 0 * 256 ^ r = c at *
    omega
  · rw [← hpr]; exact Int.mul_nonneg h2.1 (by omega)
  · refine or_add ⟨g1, by rw [← hpr]; exact g2⟩ h2.1 ?_
    rw [← hpr]
    have h4 : k.getD i 0 * 256 ^ r ≤ 255 * 256 ^ r := Int.mul_le_mul_of_nonneg_right h2.2 (by omega)
    generalize k.getD i 0 * 256 ^ r = c at *
    omega
  · rw [← hpr, ← g3]
    show wl (le k i + k.getD i 0 * 256 ^ i) = _
    rw [← pow_qr, ← he]
theorem emod_div (W s c : Int) (hs : 0 < s) : W % (s * c) / s = W / s % c := by
  have h1 : W % (s * c) = W + s * (-(c * (W / s / c))) := by
    rw [Int.emod_def, ← Int.ediv_ediv_of_nonneg (by omega : (0 : Int) ≤ s), Int.mul_neg, ← Int.sub_eq_add_neg, Int.mul_assoc]
  rw [h1, Int.add_mul_ediv_left _ _ (by omega), Int.emod_def (W / s)]
  omega
/-- A number's bytes. -/
def bytesM (X : Int) : List Int := (List.range 32).map fun i => X / 256 ^ i % 256
theorem bytesM_len (X : Int) : (bytesM X).length = 32 := by simp [bytesM]
theorem bytesM_at (X : Int) (i : Nat) (h : i < 32) : (bytesM X).getD i 0 = X / 256 ^ i % 256 := by simp [bytesM, h]
theorem bytesM_by (X : Int) : By (bytesM X) := by
  intro x hx
  unfold bytesM at hx
  obtain ⟨i, _, rfl⟩ := List.mem_map.1 hx
  omega
theorem bytes_step {X : Int} (hX : Big X) {i : Nat} (hi : i < 32) : ∃ (q r : Nat) (w : Int), q < 4 ∧ r < 8 ∧ (i : Int) / 8 = (q : Int) ∧ (i : Int) % 8 = (r : Int) ∧ w = (wl X).getD q 0 ∧ 0 ≤ w ∧ w < 18446744073709551616 ∧ IntKind.u8.wrap (w.fdiv (2 ^ (r * 8))) = (bytesM X).getD i 0 := by
  obtain ⟨q, r, hq, hr, he, e1, e2⟩ := pow_split i hi
  have hs := pow_small r hr
  have hp := p256_pos r
  have hpr := pow_r r
  unfold Big at hX
  have hw : 0 ≤ (wl X).getD q 0 ∧ (wl X).getD q 0 < 18446744073709551616 ∧ X / 18446744073709551616 ^ q % 18446744073709551616 = (wl X).getD q 0 := by
    match q, hq with
    | 0, _ => simp only [Int.pow_zero, wl, List.getD_cons_zero]; omega
    | 1, _ => simp only [Int.pow_one, wl, List.getD_cons_zero, List.getD_cons_succ, and_true]; omega
    | 2, _ => rw [show (18446744073709551616 : Int) ^ 2 = 340282366920938463463374607431768211456 by decide]; simp only [wl, List.getD_cons_zero, List.getD_cons_succ, and_true]; omega
    | 3, _ => rw [show (18446744073709551616 : Int) ^ 3 = 6277101735386680763835789423207666416102355444464034512896 by decide]; simp only [wl, List.getD_cons_zero, List.getD_cons_succ, and_true]; omega
  refine ⟨q, r, _, hq, hr, by omega, by omega, rfl, hw.1, hw.2.1, ?_⟩
  rw [bytesM_at X i hi, he, pow_qr, ← Int.ediv_ediv_of_nonneg (Int.le_of_lt (Int.pow_pos (by omega)) : (0 : Int) ≤ 18446744073709551616 ^ q)]
  rw [← hpr, Int.fdiv_eq_ediv_of_nonneg _ (by omega : (0 : Int) ≤ 256 ^ r)]
  obtain ⟨W, hW⟩ : ∃ W, W = X / 18446744073709551616 ^ q := ⟨_, rfl⟩
  rw [← hW] at hw ⊢
  rw [← hw.2.2]
  have hdvd : ∃ c : Int, (18446744073709551616 : Int) = 256 ^ r * c ∧ c % 256 = 0 := by
    match r, hr with
    | 0, _ => exact ⟨18446744073709551616, by decide, by decide⟩
    | 1, _ => exact ⟨72057594037927936, by decide, by decide⟩
    | 2, _ => exact ⟨281474976710656, by decide, by decide⟩
    | 3, _ => exact ⟨1099511627776, by decide, by decide⟩
    | 4, _ => exact ⟨4294967296, by decide, by decide⟩
    | 5, _ => exact ⟨16777216, by decide, by decide⟩
    | 6, _ => exact ⟨65536, by decide, by decide⟩
    | 7, _ => exact ⟨256, by decide, by decide⟩
  obtain ⟨c, hc, hc2⟩ := hdvd
  have hd : W % 18446744073709551616 / 256 ^ r = W / 256 ^ r % c := by rw [hc]; exact emod_div _ _ _ hp
  rw [hd]
  have h0 : 0 ≤ W / 256 ^ r % c := by rw [← hd]; exact Int.ediv_nonneg (by omega) (by omega)
  have h1 : W / 256 ^ r % c % 256 = W / 256 ^ r % 256 := Int.emod_emod_of_dvd _ (Int.dvd_of_emod_eq_zero hc2)
  have h2 : W / 256 ^ r % c < 18446744073709551616 := by
    rw [← hd]
    exact Int.lt_of_le_of_lt (Int.ediv_le_self _ (by omega)) (by omega)
  rw [← h1]
  generalize W / 256 ^ r % c = Y at *
  simp only [IntKind.wrap, IntKind.bits, IntKind.signed]
  simp
attribute [local irreducible] wl addM subM mulM pM le fromM bytesM
theorem from_rc {H : AH} (hG : GP H) (k : List Int) (hk : k.length = 32) (hb : By k) : AC Tryd.prog H.length gm 10 #[.agg (iv .u8 k).toArray] H (fun v' _ => v' = nv (fromM k)) := by
  have hle0 : le k 0 = 0 := by unfold le; rfl
  have hB : Big (le k 32) := by
    have := le_bd hb 32
    unfold Big
    rw [show (256 : Int) ^ 32 = 115792089237316195423570985008687907853269984665640564039457584007913129639936 by decide] at this
    exact this
  obtain ⟨a1, a2, a3⟩ := wl_and _ hB
  have hand := and_mod _ ⟨a1, a2⟩
  have hred : ∀ L : AH, AC Tryd.prog (H ++ L).length gm 24 #[nv (le k 32 % 57896044618658097711785492504343953926634992332820282019728792003956564819968)] (H ++ L) (fun v' _ => v' = nv (fromM k)) := fun L => by
    have := red_ac (hG.app L) (X := le k 32 % 57896044618658097711785492504343953926634992332820282019728792003956564819968) (by unfold Big; omega)
    unfold fromM
    exact this
  have hl : 0 < H.length := by obtain ⟨t, h⟩ := hG; exact hget_lt h
  have hstep := fun i hi => from_step (k := k) hb (i := i) hi
  generalize le k 32 % 57896044618658097711785492504343953926634992332820282019728792003956564819968 = X32 at *
  clear hG hB
  simp only [nv_el] at hred ⊢
  have hw3 : (iv .u64 (wl (le k 32)))[3]? = some (.int .u64 ((wl (le k 32)).getD 3 0)) := iv_getN _ _ _ (by simp)
  generalize (wl (le k 32)).getD 3 0 = W3 at *
  refine ac_of_aw Tryd.func10 rfl Tryd.ntmps10 Tryd.results10 (by simp) ?_
  refine aw_seq ?_
  (refine aw_ops (by kernel_rfl) (fun K hK => ?_); simp (disch := first | omega | (simp only [List.length_set, List.length_append, List.length_cons, List.length_nil, iv_length, zl_length]; done) | (simp only [List.length_set, List.length_append, List.length_cons, List.length_nil, iv_length, zl_length]; omega)) [wb_bool, wb_undef, XL_nil, XL_cons, XLc_val, XLc_call, step1_eq, stepW_t, stepW_f, stepC_n, stepC_s, stepX_s, xop_eq, xopR_s, xopR_n, wantedA_eq, wantedG_n, wantedG_s, plain1_int, plain1_bool, plain1_string, bits_i64, bits_u64, bits_u32, bits_u16, bits_u8, xeqA, xarr, allK_iv, num_iv, calleeOf, xread, xeff, xbin, xint, xnil, xun, xstr, xload, xconv, xpart, xfield, xfieldAddr, xindexAddr, xindex, bnd, asInt?, xslice, xlen, xmin, xmax, xbuild, xfill, xappend, xcopy, xcells, eval_tmp, eval_const, put_at, put_none, fr0_at, cells_agg, cells_int, cells_bool, cells_string, cells_ptr, cells_slice, notTuple, tab, iv_all, hget_app, hget_app0, hget_cons0, hget_cons, set_app, set_app0, setR, setR_one, QL_nil, QL_cons, QLc_val, stepQ_t, stepQ_f, stepQC_n, stepQC_s, stepQX_s, SL_nil, SL_cons, SLc_val, stepS_t, stepS_f, ← wl_zero, ltT, ltF, leT, leF, eqT, eqF, ltTn, ltFn, leTn, leFn, eqTn, eqFn, beqT, beqF, bneT, bneF, wi64, wu64, wu32, wu16, wu8, tmodP, tdivP, hgetL, hgetNe, hgetEq, setL, nums_def, nums_len, Nat.succ_le_of_lt, List.getElem?_cons_zero, List.getElem?_cons_succ, Option.getD_some, -getElem?_pos, -getElem?_neg, Int.toNat_add, Int.toNat_mul, agB, agI, agS, agP, agL, agA, okB, okI, okS, okP, okSl, okA]; refine hK _ _ ?_; clear hK K)
  refine aw_seq ?_
  (refine aw_ops (by kernel_rfl) (fun K hK => ?_); simp (disch := first | omega | (simp only [List.length_set, List.length_append, List.length_cons, List.length_nil, iv_length, zl_length]; done) | (simp only [List.length_set, List.length_append, List.length_cons, List.length_nil, iv_length, zl_length]; omega)) [wb_bool, wb_undef, XL_nil, XL_cons, XLc_val, XLc_call, step1_eq, stepW_t, stepW_f, stepC_n, stepC_s, stepX_s, xop_eq, xopR_s, xopR_n, wantedA_eq, wantedG_n, wantedG_s, plain1_int, plain1_bool, plain1_string, bits_i64, bits_u64, bits_u32, bits_u16, bits_u8, xeqA, xarr, allK_iv, num_iv, calleeOf, xread, xeff, xbin, xint, xnil, xun, xstr, xload, xconv, xpart, xfield, xfieldAddr, xindexAddr, xindex, bnd, asInt?, xslice, xlen, xmin, xmax, xbuild, xfill, xappend, xcopy, xcells, eval_tmp, eval_const, put_at, put_none, fr0_at, cells_agg, cells_int, cells_bool, cells_string, cells_ptr, cells_slice, notTuple, tab, iv_all, hget_app, hget_app0, hget_cons0, hget_cons, set_app, set_app0, setR, setR_one, QL_nil, QL_cons, QLc_val, stepQ_t, stepQ_f, stepQC_n, stepQC_s, stepQX_s, SL_nil, SL_cons, SLc_val, stepS_t, stepS_f, ← wl_zero, ltT, ltF, leT, leF, eqT, eqF, ltTn, ltFn, leTn, leFn, eqTn, eqFn, beqT, beqF, bneT, bneF, wi64, wu64, wu32, wu16, wu8, tmodP, tdivP, hgetL, hgetNe, hgetEq, setL, nums_def, nums_len, Nat.succ_le_of_lt, List.getElem?_cons_zero, List.getElem?_cons_succ, Option.getD_some, -getElem?_pos, -getElem?_neg, Int.toNat_add, Int.toNat_mul, agB, agI, agS, agP, agL, agA, okB, okI, okS, okP, okSl, okA]; refine hK _ _ ?_; clear hK K)
  refine aw_seq ?_
  refine aw_seq ?_
  (refine aw_ops (by kernel_rfl) (fun K hK => ?_); simp (disch := first | omega | (simp only [List.length_set, List.length_append, List.length_cons, List.length_nil, iv_length, zl_length]; done) | (simp only [List.length_set, List.length_append, List.length_cons, List.length_nil, iv_length, zl_length]; omega)) [wb_bool, wb_undef, XL_nil, XL_cons, XLc_val, XLc_call, step1_eq, stepW_t, stepW_f, stepC_n, stepC_s, stepX_s, xop_eq, xopR_s, xopR_n, wantedA_eq, wantedG_n, wantedG_s, plain1_int, plain1_bool, plain1_string, bits_i64, bits_u64, bits_u32, bits_u16, bits_u8, xeqA, xarr, allK_iv, num_iv, calleeOf, xread, xeff, xbin, xint, xnil, xun, xstr, xload, xconv, xpart, xfield, xfieldAddr, xindexAddr, xindex, bnd, asInt?, xslice, xlen, xmin, xmax, xbuild, xfill, xappend, xcopy, xcells, eval_tmp, eval_const, put_at, put_none, fr0_at, cells_agg, cells_int, cells_bool, cells_string, cells_ptr, cells_slice, notTuple, tab, iv_all, hget_app, hget_app0, hget_cons0, hget_cons, set_app, set_app0, setR, setR_one, QL_nil, QL_cons, QLc_val, stepQ_t, stepQ_f, stepQC_n, stepQC_s, stepQX_s, SL_nil, SL_cons, SLc_val, stepS_t, stepS_f, List.take_of_length_le, hk, ltT, ltF, leT, leF, eqT, eqF, ltTn, ltFn, leTn, leFn, eqTn, eqFn, beqT, beqF, bneT, bneF, wi64, wu64, wu32, wu16, wu8, tmodP, tdivP, hgetL, hgetNe, hgetEq, setL, nums_def, nums_len, Nat.succ_le_of_lt, List.getElem?_cons_zero, List.getElem?_cons_succ, Option.getD_some, -getElem?_pos, -getElem?_neg, Int.toNat_add, Int.toNat_mul, agB, agI, agS, agP, agL, agA, okB, okI, okS, okP, okSl, okA]; refine hK _ _ ?_; clear hK K)
  refine aw_block ?_
  refine aw_loop (fun q α H' => ∃ i : Nat, i + q = 32 ∧ α 7 = .int .i64 i ∧ α 6 = .agg (iv .u8 k).toArray ∧ α 2 = .pointer (some ⟨H.length + 1, 0, none⟩) ∧ α 3 = .pointer (some ⟨H.length + 2, 0, none⟩) ∧
    H' = H ++ [some ⟨iv .u8 k, 23, none⟩, some ⟨iv .u64 (wl 0), 30, none⟩, some ⟨iv .u64 (wl (le k i)), 28, none⟩]) 32 ?_ ?_
  · exact ⟨0, by omega, by (first | (simp [put_at, put_none, fr0_at]; done) | rfl), by (first | (simp [put_at, put_none, fr0_at]; done) | rfl), by (first | (simp [put_at, put_none, fr0_at]; done) | rfl), by (first | (simp [put_at, put_none, fr0_at]; done) | rfl), by rw [hle0]⟩
  rintro q α H' ⟨i, hi, h7, h6, h2, h3, rfl⟩
  refine aw_seq ?_
  by_cases hlt : i < 32
  · have hki : (iv .u8 k)[i]? = some (.int .u8 (k.getD i 0)) := iv_getN _ _ _ (by omega)
    have hb2 := hb.get i
    obtain ⟨q1, r, w, hq, hr, e1, e2, hw, w0, w1, w2, hor, hset⟩ := hstep i hlt
    have hwq : (iv .u64 (wl (le k i)))[q1]? = some (.int .u64 w) := by rw [hw]; exact iv_getN _ _ _ (by simpa using hq)
    clear hw hstep hand hw3
    generalize k.getD i 0 = b at *
    (refine aw_ops (by kernel_rfl) (fun K hK => ?_); simp (disch := first | omega | (simp only [List.length_set, List.length_append, List.length_cons, List.length_nil, iv_length, zl_length]; done) | (simp only [List.length_set, List.length_append, List.length_cons, List.length_nil, iv_length, zl_length]; omega)) [wb_bool, wb_undef, XL_nil, XL_cons, XLc_val, XLc_call, step1_eq, stepW_t, stepW_f, stepC_n, stepC_s, stepX_s, xop_eq, xopR_s, xopR_n, wantedA_eq, wantedG_n, wantedG_s, plain1_int, plain1_bool, plain1_string, bits_i64, bits_u64, bits_u32, bits_u16, bits_u8, xeqA, xarr, allK_iv, num_iv, calleeOf, xread, xeff, xbin, xint, xnil, xun, xstr, xload, xconv, xpart, xfield, xfieldAddr, xindexAddr, xindex, bnd, asInt?, xslice, xlen, xmin, xmax, xbuild, xfill, xappend, xcopy, xcells, eval_tmp, eval_const, put_at, put_none, fr0_at, cells_agg, cells_int, cells_bool, cells_string, cells_ptr, cells_slice, notTuple, tab, iv_all, hget_app, hget_app0, hget_cons0, hget_cons, set_app, set_app0, setR, setR_one, QL_nil, QL_cons, QLc_val, stepQ_t, stepQ_f, stepQC_n, stepQC_s, stepQX_s, SL_nil, SL_cons, SLc_val, stepS_t, stepS_f, h7, ltT, ltF, leT, leF, eqT, eqF, ltTn, ltFn, leTn, leFn, eqTn, eqFn, beqT, beqF, bneT, bneF, wi64, wu64, wu32, wu16, wu8, tmodP, tdivP, hgetL, hgetNe, hgetEq, setL, nums_def, nums_len, Nat.succ_le_of_lt, List.getElem?_cons_zero, List.getElem?_cons_succ, Option.getD_some, -getElem?_pos, -getElem?_neg, Int.toNat_add, Int.toNat_mul, agB, agI, agS, agP, agL, agA, okB, okI, okS, okP, okSl, okA]; refine hK _ _ ?_; clear hK K)
    refine aw_seq ?_
    refine aw_t (by (first | (simp [eval_tmp, put_at, hlt]; done) | (simp [eval_tmp, put_at, hlt]; omega))) (by kernel_rfl) ?_
    refine aw_skip ?_
    refine aw_seq ?_
    refine aw_block ?_
    refine aw_seq ?_
    (refine aw_ops (by kernel_rfl) (fun K hK => ?_); simp (disch := first | omega | (simp only [List.length_set, List.length_append, List.length_cons, List.length_nil, iv_length, zl_length]; done) | (simp only [List.length_set, List.length_append, List.length_cons, List.length_nil, iv_length, zl_length]; omega)) [wb_bool, wb_undef, XL_nil, XL_cons, XLc_val, XLc_call, step1_eq, stepW_t, stepW_f, stepC_n, stepC_s, stepX_s, xop_eq, xopR_s, xopR_n, wantedA_eq, wantedG_n, wantedG_s, plain1_int, plain1_bool, plain1_string, bits_i64, bits_u64, bits_u32, bits_u16, bits_u8, xeqA, xarr, allK_iv, num_iv, calleeOf, xread, xeff, xbin, xint, xnil, xun, xstr, xload, xconv, xpart, xfield, xfieldAddr, xindexAddr, xindex, bnd, asInt?, xslice, xlen, xmin, xmax, xbuild, xfill, xappend, xcopy, xcells, eval_tmp, eval_const, put_at, put_none, fr0_at, cells_agg, cells_int, cells_bool, cells_string, cells_ptr, cells_slice, notTuple, tab, iv_all, hget_app, hget_app0, hget_cons0, hget_cons, set_app, set_app0, setR, setR_one, QL_nil, QL_cons, QLc_val, stepQ_t, stepQ_f, stepQC_n, stepQC_s, stepQX_s, SL_nil, SL_cons, SLc_val, stepS_t, stepS_f, h7, h6, hki, ltT, ltF, leT, leF, eqT, eqF, ltTn, ltFn, leTn, leFn, eqTn, eqFn, beqT, beqF, bneT, bneF, wi64, wu64, wu32, wu16, wu8, tmodP, tdivP, hgetL, hgetNe, hgetEq, setL, nums_def, nums_len, Nat.succ_le_of_lt, List.getElem?_cons_zero, List.getElem?_cons_succ, Option.getD_some, -getElem?_pos, -getElem?_neg, Int.toNat_add, Int.toNat_mul, agB, agI, agS, agP, agL, agA, okB, okI, okS, okP, okSl, okA]; refine hK _ _ ?_; clear hK K)
    (refine aw_plan [] [] [0, 1, 2, 3, 4, 5, 6, 7, 8, 9, 10, 11] 12 1 (by kernel_rfl) (by kernel_rfl) (by kernel_rfl) (fun K hK => ?_)); simp only [sel, List.getElem?_cons_succ, List.getElem?_cons_zero, List.drop_succ_cons, List.drop_zero]; simp (disch := first | omega | (simp only [List.length_set, List.length_append, List.length_cons, List.length_nil, iv_length, zl_length]; done) | (simp only [List.length_set, List.length_append, List.length_cons, List.length_nil, iv_length, zl_length]; omega)) [wb_bool, wb_undef, XL_nil, XL_cons, XLc_val, XLc_call, step1_eq, stepW_t, stepW_f, stepC_n, stepC_s, stepX_s, xop_eq, xopR_s, xopR_n, wantedA_eq, wantedG_n, wantedG_s, plain1_int, plain1_bool, plain1_string, bits_i64, bits_u64, bits_u32, bits_u16, bits_u8, xeqA, xarr, allK_iv, num_iv, calleeOf, xread, xeff, xbin, xint, xnil, xun, xstr, xload, xconv, xpart, xfield, xfieldAddr, xindexAddr, xindex, bnd, asInt?, xslice, xlen, xmin, xmax, xbuild, xfill, xappend, xcopy, xcells, eval_tmp, eval_const, put_at, put_none, fr0_at, cells_agg, cells_int, cells_bool, cells_string, cells_ptr, cells_slice, notTuple, tab, iv_all, hget_app, hget_app0, hget_cons0, hget_cons, set_app, set_app0, setR, setR_one, QL_nil, QL_cons, QLc_val, stepQ_t, stepQ_f, stepQC_n, stepQC_s, stepQX_s, SL_nil, SL_cons, SLc_val, stepS_t, stepS_f, h3, e1, e2, hwq, hor, iv_set, ← hset, PL_nil, PL_cons, PLc_val, PLc_new, stepP_t, stepP_f, stepPC_n, stepPC_s, stepPX_s, stepPX_n, stepPA_t, stepPN_s, allocOp, reloc_sl, reloc_ptr, List.map_cons, List.map_nil, List.nil_append, List.append_assoc, List.cons_append, Nat.add_assoc, ltT, ltF, leT, leF, eqT, eqF, ltTn, ltFn, leTn, leFn, eqTn, eqFn, beqT, beqF, bneT, bneF, wi64, wu64, wu32, wu16, wu8, tmodP, tdivP, hgetL, hgetNe, hgetEq, setL, nums_def, nums_len, Nat.succ_le_of_lt, List.getElem?_cons_zero, List.getElem?_cons_succ, Option.getD_some, -getElem?_pos, -getElem?_neg, Int.toNat_add, Int.toNat_mul, agB, agI, agS, agP, agL, agA, okB, okI, okS, okP, okSl, okA]
    refine hK _ _ ?_; clear hK K
    (refine aw_ops (by kernel_rfl) (fun K hK => ?_); simp (disch := first | omega | (simp only [List.length_set, List.length_append, List.length_cons, List.length_nil, iv_length, zl_length]; done) | (simp only [List.length_set, List.length_append, List.length_cons, List.length_nil, iv_length, zl_length]; omega)) [wb_bool, wb_undef, XL_nil, XL_cons, XLc_val, XLc_call, step1_eq, stepW_t, stepW_f, stepC_n, stepC_s, stepX_s, xop_eq, xopR_s, xopR_n, wantedA_eq, wantedG_n, wantedG_s, plain1_int, plain1_bool, plain1_string, bits_i64, bits_u64, bits_u32, bits_u16, bits_u8, xeqA, xarr, allK_iv, num_iv, calleeOf, xread, xeff, xbin, xint, xnil, xun, xstr, xload, xconv, xpart, xfield, xfieldAddr, xindexAddr, xindex, bnd, asInt?, xslice, xlen, xmin, xmax, xbuild, xfill, xappend, xcopy, xcells, eval_tmp, eval_const, put_at, put_none, fr0_at, cells_agg, cells_int, cells_bool, cells_string, cells_ptr, cells_slice, notTuple, tab, iv_all, hget_app, hget_app0, hget_cons0, hget_cons, set_app, set_app0, setR, setR_one, QL_nil, QL_cons, QLc_val, stepQ_t, stepQ_f, stepQC_n, stepQC_s, stepQX_s, SL_nil, SL_cons, SLc_val, stepS_t, stepS_f, h7, ltT, ltF, leT, leF, eqT, eqF, ltTn, ltFn, leTn, leFn, eqTn, eqFn, beqT, beqF, bneT, bneF, wi64, wu64, wu32, wu16, wu8, tmodP, tdivP, hgetL, hgetNe, hgetEq, setL, nums_def, nums_len, Nat.succ_le_of_lt, List.getElem?_cons_zero, List.getElem?_cons_succ, Option.getD_some, -getElem?_pos, -getElem?_neg, Int.toNat_add, Int.toNat_mul, agB, agI, agS, agP, agL, agA, okB, okI, okS, okP, okSl, okA]; refine hK _ _ ?_; clear hK K)
    exact ⟨q - 1, by omega, i + 1, by omega, by (first | (simp [put_at, put_none, fr0_at]; done) | rfl), by (first | (simp [put_at, put_none, fr0_at, h6]; done) | rfl), by (first | (simp [put_at, put_none, fr0_at, h2]; done) | rfl), by (first | (simp [put_at, put_none, fr0_at, h3]; done) | rfl), rfl⟩
  · (refine aw_ops (by kernel_rfl) (fun K hK => ?_); simp (disch := first | omega | (simp only [List.length_set, List.length_append, List.length_cons, List.length_nil, iv_length, zl_length]; done) | (simp only [List.length_set, List.length_append, List.length_cons, List.length_nil, iv_length, zl_length]; omega)) [wb_bool, wb_undef, XL_nil, XL_cons, XLc_val, XLc_call, step1_eq, stepW_t, stepW_f, stepC_n, stepC_s, stepX_s, xop_eq, xopR_s, xopR_n, wantedA_eq, wantedG_n, wantedG_s, plain1_int, plain1_bool, plain1_string, bits_i64, bits_u64, bits_u32, bits_u16, bits_u8, xeqA, xarr, allK_iv, num_iv, calleeOf, xread, xeff, xbin, xint, xnil, xun, xstr, xload, xconv, xpart, xfield, xfieldAddr, xindexAddr, xindex, bnd, asInt?, xslice, xlen, xmin, xmax, xbuild, xfill, xappend, xcopy, xcells, eval_tmp, eval_const, put_at, put_none, fr0_at, cells_agg, cells_int, cells_bool, cells_string, cells_ptr, cells_slice, notTuple, tab, iv_all, hget_app, hget_app0, hget_cons0, hget_cons, set_app, set_app0, setR, setR_one, QL_nil, QL_cons, QLc_val, stepQ_t, stepQ_f, stepQC_n, stepQC_s, stepQX_s, SL_nil, SL_cons, SLc_val, stepS_t, stepS_f, h7, ltT, ltF, leT, leF, eqT, eqF, ltTn, ltFn, leTn, leFn, eqTn, eqFn, beqT, beqF, bneT, bneF, wi64, wu64, wu32, wu16, wu8, tmodP, tdivP, hgetL, hgetNe, hgetEq, setL, nums_def, nums_len, Nat.succ_le_of_lt, List.getElem?_cons_zero, List.getElem?_cons_succ, Option.getD_some, -getElem?_pos, -getElem?_neg, Int.toNat_add, Int.toNat_mul, agB, agI, agS, agP, agL, agA, okB, okI, okS, okP, okSl, okA]; refine hK _ _ ?_; clear hK K)
    refine aw_seq ?_
    refine aw_f (by (first | (simp [eval_tmp, put_at, hlt]; done) | (simp [eval_tmp, put_at, hlt]; omega))) (by kernel_rfl) ?_
    refine aw_exit ?_
    obtain rfl : i = 32 := by omega
    refine aw_seq ?_
    (refine aw_ops (by kernel_rfl) (fun K hK => ?_); simp (disch := first | omega | (simp only [List.length_set, List.length_append, List.length_cons, List.length_nil, iv_length, zl_length]; done) | (simp only [List.length_set, List.length_append, List.length_cons, List.length_nil, iv_length, zl_length]; omega)) [wb_bool, wb_undef, XL_nil, XL_cons, XLc_val, XLc_call, step1_eq, stepW_t, stepW_f, stepC_n, stepC_s, stepX_s, xop_eq, xopR_s, xopR_n, wantedA_eq, wantedG_n, wantedG_s, plain1_int, plain1_bool, plain1_string, bits_i64, bits_u64, bits_u32, bits_u16, bits_u8, xeqA, xarr, allK_iv, num_iv, calleeOf, xread, xeff, xbin, xint, xnil, xun, xstr, xload, xconv, xpart, xfield, xfieldAddr, xindexAddr, xindex, bnd, asInt?, xslice, xlen, xmin, xmax, xbuild, xfill, xappend, xcopy, xcells, eval_tmp, eval_const, put_at, put_none, fr0_at, cells_agg, cells_int, cells_bool, cells_string, cells_ptr, cells_slice, notTuple, tab, iv_all, hget_app, hget_app0, hget_cons0, hget_cons, set_app, set_app0, setR, setR_one, QL_nil, QL_cons, QLc_val, stepQ_t, stepQ_f, stepQC_n, stepQC_s, stepQX_s, SL_nil, SL_cons, SLc_val, stepS_t, stepS_f, h3, hw3, hand, iv_set, a3, ltT, ltF, leT, leF, eqT, eqF, ltTn, ltFn, leTn, leFn, eqTn, eqFn, beqT, beqF, bneT, bneF, wi64, wu64, wu32, wu16, wu8, tmodP, tdivP, hgetL, hgetNe, hgetEq, setL, nums_def, nums_len, Nat.succ_le_of_lt, List.getElem?_cons_zero, List.getElem?_cons_succ, Option.getD_some, -getElem?_pos, -getElem?_neg, Int.toNat_add, Int.toNat_mul, agB, agI, agS, agP, agL, agA, okB, okI, okS, okP, okSl, okA]; refine hK _ _ ?_; clear hK K)
    refine aw_seq ?_
    refine aw_ops (by kernel_rfl) (fun K hK => ?_)
    simp (disch := first | omega | (simp only [List.length_set, List.length_append, List.length_cons, List.length_nil, iv_length, zl_length]; done) | (simp only [List.length_set, List.length_append, List.length_cons, List.length_nil, iv_length, zl_length]; omega)) [wb_bool, wb_undef, XL_nil, XL_cons, XLc_val, XLc_call, step1_eq, stepW_t, stepW_f, stepC_n, stepC_s, stepX_s, xop_eq, xopR_s, xopR_n, wantedA_eq, wantedG_n, wantedG_s, plain1_int, plain1_bool, plain1_string, bits_i64, bits_u64, bits_u32, bits_u16, bits_u8, xeqA, xarr, allK_iv, num_iv, calleeOf, xread, xeff, xbin, xint, xnil, xun, xstr, xload, xconv, xpart, xfield, xfieldAddr, xindexAddr, xindex, bnd, asInt?, xslice, xlen, xmin, xmax, xbuild, xfill, xappend, xcopy, xcells, eval_tmp, eval_const, put_at, put_none, fr0_at, cells_agg, cells_int, cells_bool, cells_string, cells_ptr, cells_slice, notTuple, tab, iv_all, hget_app, hget_app0, hget_cons0, hget_cons, set_app, set_app0, setR, setR_one, QL_nil, QL_cons, QLc_val, stepQ_t, stepQ_f, stepQC_n, stepQC_s, stepQX_s, SL_nil, SL_cons, SLc_val, stepS_t, stepS_f, h3, take_wl, ltT, ltF, leT, leF, eqT, eqF, ltTn, ltFn, leTn, leFn, eqTn, eqFn, beqT, beqF, bneT, bneF, wi64, wu64, wu32, wu16, wu8, tmodP, tdivP, hgetL, hgetNe, hgetEq, setL, nums_def, nums_len, Nat.succ_le_of_lt, List.getElem?_cons_zero, List.getElem?_cons_succ, Option.getD_some, -getElem?_pos, -getElem?_neg, Int.toNat_add, Int.toNat_mul, agB, agI, agS, agP, agL, agA, okB, okI, okS, okP, okSl, okA]
    refine ⟨by kernel_rfl, ac_of_rc (hred _) (by simp [pv_iv, pv_int, pv_bool, pv_string, pv_tup2, pv_tup3, iv_plain, p2_int, p2_bool, p2_string]) ?_⟩
    simp (disch := first | omega | (simp only [List.length_set, List.length_append, List.length_cons, List.length_nil, iv_length, zl_length]; done) | (simp only [List.length_set, List.length_append, List.length_cons, List.length_nil, iv_length, zl_length]; omega)) [wb_bool, wb_undef, XL_nil, XL_cons, XLc_val, XLc_call, step1_eq, stepW_t, stepW_f, stepC_n, stepC_s, stepX_s, xop_eq, xopR_s, xopR_n, wantedA_eq, wantedG_n, wantedG_s, plain1_int, plain1_bool, plain1_string, bits_i64, bits_u64, bits_u32, bits_u16, bits_u8, xeqA, xarr, allK_iv, num_iv, calleeOf, xread, xeff, xbin, xint, xnil, xun, xstr, xload, xconv, xpart, xfield, xfieldAddr, xindexAddr, xindex, bnd, asInt?, xslice, xlen, xmin, xmax, xbuild, xfill, xappend, xcopy, xcells, eval_tmp, eval_const, put_at, put_none, fr0_at, cells_agg, cells_int, cells_bool, cells_string, cells_ptr, cells_slice, notTuple, tab, iv_all, hget_app, hget_app0, hget_cons0, hget_cons, set_app, set_app0, setR, setR_one, QL_nil, QL_cons, QLc_val, stepQ_t, stepQ_f, stepQC_n, stepQC_s, stepQX_s, SL_nil, SL_cons, SLc_val, stepS_t, stepS_f, h2, set_wl, ltT, ltF, leT, leF, eqT, eqF, ltTn, ltFn, leTn, leFn, eqTn, eqFn, beqT, beqF, bneT, bneF, wi64, wu64, wu32, wu16, wu8, tmodP, tdivP, hgetL, hgetNe, hgetEq, setL, nums_def, nums_len, Nat.succ_le_of_lt, List.getElem?_cons_zero, List.getElem?_cons_succ, Option.getD_some, -getElem?_pos, -getElem?_neg, Int.toNat_add, Int.toNat_mul, agB, agI, agS, agP, agL, agA, okB, okI, okS, okP, okSl, okA]
    refine hK _ _ ?_; clear hK K
    (refine aw_ret ?_; simp (disch := first | omega | (simp only [List.length_set, List.length_append, List.length_cons, List.length_nil, iv_length, zl_length]; done) | (simp only [List.length_set, List.length_append, List.length_cons, List.length_nil, iv_length, zl_length]; omega)) [wb_bool, wb_undef, XL_nil, XL_cons, XLc_val, XLc_call, step1_eq, stepW_t, stepW_f, stepC_n, stepC_s, stepX_s, xop_eq, xopR_s, xopR_n, wantedA_eq, wantedG_n, wantedG_s, plain1_int, plain1_bool, plain1_string, bits_i64, bits_u64, bits_u32, bits_u16, bits_u8, xeqA, xarr, allK_iv, num_iv, calleeOf, xread, xeff, xbin, xint, xnil, xun, xstr, xload, xconv, xpart, xfield, xfieldAddr, xindexAddr, xindex, bnd, asInt?, xslice, xlen, xmin, xmax, xbuild, xfill, xappend, xcopy, xcells, eval_tmp, eval_const, put_at, put_none, fr0_at, cells_agg, cells_int, cells_bool, cells_string, cells_ptr, cells_slice, notTuple, tab, iv_all, hget_app, hget_app0, hget_cons0, hget_cons, set_app, set_app0, setR, setR_one, QL_nil, QL_cons, QLc_val, stepQ_t, stepQ_f, stepQC_n, stepQC_s, stepQX_s, SL_nil, SL_cons, SLc_val, stepS_t, stepS_f, thenQ_ret, inBlockQ_ret, RQ, resL, resV, h2, take_wl, ltT, ltF, leT, leF, eqT, eqF, ltTn, ltFn, leTn, leFn, eqTn, eqFn, beqT, beqF, bneT, bneF, wi64, wu64, wu32, wu16, wu8, tmodP, tdivP, hgetL, hgetNe, hgetEq, setL, nums_def, nums_len, Nat.succ_le_of_lt, List.getElem?_cons_zero, List.getElem?_cons_succ, Option.getD_some, -getElem?_pos, -getElem?_neg, Int.toNat_add, Int.toNat_mul, agB, agI, agS, agP, agL, agA, okB, okI, okS, okP, okSl, okA])
end Go.Proofs.YtdokbnohlpbfbaaDoor
