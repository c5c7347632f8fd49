/-
  The document's Read: its digits, as plain lists; its check digits' number.
-/
import Derived.Test.YtmnkbdclnaekkaaLaws
import Derived.Test.YtmnkbdclnaekkaaXk
namespace Go.Proofs.Ytmnkbdclnaekkaa
open Go Go.RowKit
set_option linter.unusedSimpArgs false
set_option linter.unusedVariables false
set_option maxRecDepth 100000
set_option maxHeartbeats 1000000

/-- Does the text's byte at i fit? -/
def okp (s : ByteArray) (i : Nat) : Bool := if i % 6 = 5 then decide (gb s i = 32) else decide (48 ≤ gb s i) && decide (gb s i ≤ 57)
def dg (s : ByteArray) : Nat → List Int
  | 0 => []
  | i + 1 => if i % 6 = 5 then dg s i else dg s i ++ [gb s i - 48]
theorem dg_len (s : ByteArray) : ∀ i, (dg s i).length = i - i / 6
  | 0 => rfl
  | i + 1 => by
    have := dg_len s i
    simp only [dg]
    split
    · omega
    · rw [List.length_append]; simp only [List.length_cons, List.length_nil]; omega
theorem dg_get (s : ByteArray) (j : Nat) : ∀ i, j + j / 5 < i → (dg s i).getD j 0 = gb s (j + j / 5) - 48
  | 0, h => by omega
  | i + 1, h => by
    have hl := dg_len s i
    simp only [dg]
    by_cases e : j + j / 5 = i
    · rw [if_neg (by omega)]
      have : j = (dg s i).length := by omega
      rw [this, getD_app_at, ← this, e]
    · have ih := dg_get s j i (by omega)
      split
      · exact ih
      · rw [getD_app_left _ _ _ (by omega)]; exact ih
theorem allOk_okp (s : ByteArray) : allOk s 80 = true ↔ ∀ i, i < 95 → okp s i = true := by
  rw [allOk_iff]
  constructor
  · intro h i hi
    unfold okp
    by_cases h5 : i % 6 = 5
    · rw [if_pos h5]
      have ho := h (i / 6 * 5 + 5) (by omega)
      simp only [okAt, Bool.and_eq_true, decide_eq_true_eq, Bool.not_eq_true', Bool.and_eq_false_iff, decide_eq_false_iff_not] at ho
      rw [show i / 6 * 5 + 5 + (i / 6 * 5 + 5) / 5 - 1 = i by omega] at ho
      rcases ho.1.1 with (h | h) | h
      · omega
      · omega
      · exact decide_eq_true (Classical.not_not.1 h)
    · rw [if_neg h5]
      have ho := h (i / 6 * 5 + i % 6) (by omega)
      simp only [okAt, Bool.and_eq_true, decide_eq_true_eq] at ho
      rw [show i / 6 * 5 + i % 6 + (i / 6 * 5 + i % 6) / 5 = i by omega] at ho
      simp only [Bool.and_eq_true, decide_eq_true_eq]
      exact ⟨ho.1.2, ho.2⟩
  · intro h i hi
    simp only [okAt, Bool.and_eq_true, decide_eq_true_eq, Bool.not_eq_true', Bool.and_eq_false_iff, decide_eq_false_iff_not]
    have h1 := h (i + i / 5) (by omega)
    unfold okp at h1
    rw [if_neg (by omega)] at h1
    simp only [Bool.and_eq_true, decide_eq_true_eq] at h1
    refine ⟨⟨?_, h1.1⟩, h1.2⟩
    by_cases h0 : 0 < i
    · by_cases h5 : i % 5 = 0
      · right
        have h2 := h (i + i / 5 - 1) (by omega)
        unfold okp at h2
        rw [if_pos (by omega)] at h2
        exact fun hn => hn (of_decide_eq_true h2)
      · exact .inl (.inr h5)
    · exact .inl (.inl h0)
theorem dg_rd (s : ByteArray) : dg s 95 = rd s 80 := by
  have hl := dg_len s 95
  have hr := rd_len s 80
  apply list_eq (by omega)
  intro p hp
  rw [dg_get s p 95 (by omega), rd_get s p 80 (Nat.le_refl _) (by omega)]

theorem check_ac {nro : Nat} {γ : Nat → Option Nat} {H : AH} (d : List Int) (hd : d.length = 80) (hb : Byte d) (i : Nat) (h : hget H i = some ⟨iv .i64 d, 3, some 1⟩) :
    AC Try.prog nro γ 13 #[.slice (some ⟨i, 0, none⟩) 80 80] H (fun v' _ => v' = .int .i64 (checkF d)) := by
  refine ac_of_aw Try.func13 rfl Try.ntmps13 Try.results13 (by simp) ?_
  refine aw_seq ?_
  (refine aw_ops (by kernel_rfl) (fun K hK => ?_); simp [wb_bool, wb_undef, XL_nil, XL_cons, XLc_val, XLc_call, step1_eq, stepW_t, stepW_f, stepC_n, stepC_s, stepX_s, xop_eq, xopR_s, xopR_n, wantedA_eq, wantedG_n, wantedG_s, plain1_int, plain1_bool, plain1_string, bits_i64, bits_u64, bits_u32, bits_u16, bits_u8, xeqA, xarr, allK_iv, num_iv, calleeOf, xread, xeff, xbin, xint, xun, xstr, xload, xconv, xpart, xfield, xfieldAddr, xindexAddr, xindex, bnd, asInt?, xslice, xlen, xmin, xmax, xbuild, xfill, xappend, xcopy, xcells, eval_tmp, eval_const, put_at, put_none, fr0_at, cells_agg, cells_int, cells_bool, cells_string, cells_ptr, cells_slice, notTuple, tab, iv_all, okD, isAggD, hget_app, hget_app0, hget_cons0, hget_cons, set_app, set_app0, setR, setR_one, QL_nil, QL_cons, QLc_val, stepQ_t, stepQ_f, stepQC_n, stepQC_s, stepQX_s, SL_nil, SL_cons, SLc_val, stepS_t, stepS_f]; refine hK _ _ ?_; clear hK K)
  refine aw_seq ?_
  (refine aw_ops (by kernel_rfl) (fun K hK => ?_); simp [wb_bool, wb_undef, XL_nil, XL_cons, XLc_val, XLc_call, step1_eq, stepW_t, stepW_f, stepC_n, stepC_s, stepX_s, xop_eq, xopR_s, xopR_n, wantedA_eq, wantedG_n, wantedG_s, plain1_int, plain1_bool, plain1_string, bits_i64, bits_u64, bits_u32, bits_u16, bits_u8, xeqA, xarr, allK_iv, num_iv, calleeOf, xread, xeff, xbin, xint, xun, xstr, xload, xconv, xpart, xfield, xfieldAddr, xindexAddr, xindex, bnd, asInt?, xslice, xlen, xmin, xmax, xbuild, xfill, xappend, xcopy, xcells, eval_tmp, eval_const, put_at, put_none, fr0_at, cells_agg, cells_int, cells_bool, cells_string, cells_ptr, cells_slice, notTuple, tab, iv_all, okD, isAggD, hget_app, hget_app0, hget_cons0, hget_cons, set_app, set_app0, setR, setR_one, QL_nil, QL_cons, QLc_val, stepQ_t, stepQ_f, stepQC_n, stepQC_s, stepQX_s, SL_nil, SL_cons, SLc_val, stepS_t, stepS_f]; refine hK _ _ ?_; clear hK K)
  refine aw_seq ?_
  refine aw_seq ?_
  (refine aw_ops (by kernel_rfl) (fun K hK => ?_); simp [wb_bool, wb_undef, XL_nil, XL_cons, XLc_val, XLc_call, step1_eq, stepW_t, stepW_f, stepC_n, stepC_s, stepX_s, xop_eq, xopR_s, xopR_n, wantedA_eq, wantedG_n, wantedG_s, plain1_int, plain1_bool, plain1_string, bits_i64, bits_u64, bits_u32, bits_u16, bits_u8, xeqA, xarr, allK_iv, num_iv, calleeOf, xread, xeff, xbin, xint, xun, xstr, xload, xconv, xpart, xfield, xfieldAddr, xindexAddr, xindex, bnd, asInt?, xslice, xlen, xmin, xmax, xbuild, xfill, xappend, xcopy, xcells, eval_tmp, eval_const, put_at, put_none, fr0_at, cells_agg, cells_int, cells_bool, cells_string, cells_ptr, cells_slice, notTuple, tab, iv_all, okD, isAggD, hget_app, hget_app0, hget_cons0, hget_cons, set_app, set_app0, setR, setR_one, QL_nil, QL_cons, QLc_val, stepQ_t, stepQ_f, stepQC_n, stepQC_s, stepQX_s, SL_nil, SL_cons, SLc_val, stepS_t, stepS_f]; refine hK _ _ ?_; clear hK K)
  refine aw_block ?_
  refine aw_loop (fun q α H' => ∃ j : Nat, j + q = 78 ∧ α 4 = .int .i64 j ∧ α 3 = .int .i64 (restF d j) ∧ α 0 = .slice (some ⟨i, 0, none⟩) 80 80 ∧ H' = H) 78 ?_ ?_
  · exact ⟨0, rfl, rfl, rfl, rfl, rfl⟩
  rintro q α H' ⟨j, hj, h4, h3, h0, rfl⟩
  have hr := restF_bd d j
  refine aw_seq ?_
  refine aw_seq ?_
  (refine aw_ops (by kernel_rfl) (fun K hK => ?_); simp [wb_bool, wb_undef, XL_nil, XL_cons, XLc_val, XLc_call, step1_eq, stepW_t, stepW_f, stepC_n, stepC_s, stepX_s, xop_eq, xopR_s, xopR_n, wantedA_eq, wantedG_n, wantedG_s, plain1_int, plain1_bool, plain1_string, bits_i64, bits_u64, bits_u32, bits_u16, bits_u8, xeqA, xarr, allK_iv, num_iv, calleeOf, xread, xeff, xbin, xint, xun, xstr, xload, xconv, xpart, xfield, xfieldAddr, xindexAddr, xindex, bnd, asInt?, xslice, xlen, xmin, xmax, xbuild, xfill, xappend, xcopy, xcells, eval_tmp, eval_const, put_at, put_none, fr0_at, cells_agg, cells_int, cells_bool, cells_string, cells_ptr, cells_slice, notTuple, tab, iv_all, okD, isAggD, hget_app, hget_app0, hget_cons0, hget_cons, set_app, set_app0, setR, setR_one, QL_nil, QL_cons, QLc_val, stepQ_t, stepQ_f, stepQC_n, stepQC_s, stepQX_s, SL_nil, SL_cons, SLc_val, stepS_t, stepS_f, h4]; refine hK _ _ ?_; clear hK K)
  by_cases hlt : (j : Int) < 78
  · refine aw_t (by simp [eval_tmp, put_at, hlt]) (by kernel_rfl) ?_
    refine aw_skip ?_
    refine aw_seq ?_
    refine aw_block ?_
    have hx := hb j
    have e1 : IntKind.i64.wrap (restF d j * 10) = restF d j * 10 := wrap64_in (by omega)
    have e3 : IntKind.i64.wrap (restF d j * 10 + d.getD j 0) = restF d j * 10 + d.getD j 0 := wrap64_in (by omega)
    have e4 : (iv .i64 d)[j]? = some (.int .i64 (d.getD j 0)) := iv_get _ _ _ (by omega)
    have e5 : (restF d j * 10 + d.getD j 0).tmod 97 = restF d (j + 1) := by
      rw [Int.tmod_eq_emod_of_nonneg (by omega)]; rfl
    have e6 : IntKind.i64.wrap (j + 1) = j + 1 := wrap64_in (by omega)
    have hlt80 : (j : Int) < 80 := by omega
    (refine aw_ops (by kernel_rfl) (fun K hK => ?_); simp [wb_bool, wb_undef, XL_nil, XL_cons, XLc_val, XLc_call, step1_eq, stepW_t, stepW_f, stepC_n, stepC_s, stepX_s, xop_eq, xopR_s, xopR_n, wantedA_eq, wantedG_n, wantedG_s, plain1_int, plain1_bool, plain1_string, bits_i64, bits_u64, bits_u32, bits_u16, bits_u8, xeqA, xarr, allK_iv, num_iv, calleeOf, xread, xeff, xbin, xint, xun, xstr, xload, xconv, xpart, xfield, xfieldAddr, xindexAddr, xindex, bnd, asInt?, xslice, xlen, xmin, xmax, xbuild, xfill, xappend, xcopy, xcells, eval_tmp, eval_const, put_at, put_none, fr0_at, cells_agg, cells_int, cells_bool, cells_string, cells_ptr, cells_slice, notTuple, tab, iv_all, okD, isAggD, hget_app, hget_app0, hget_cons0, hget_cons, set_app, set_app0, setR, setR_one, QL_nil, QL_cons, QLc_val, stepQ_t, stepQ_f, stepQC_n, stepQC_s, stepQX_s, SL_nil, SL_cons, SLc_val, stepS_t, stepS_f, h4, h3, h0, h, e1, e3, e4, e5, hlt80, -List.getD_eq_getElem?_getD]; refine hK _ _ ?_; clear hK K)
    (refine aw_ops (by kernel_rfl) (fun K hK => ?_); simp [wb_bool, wb_undef, XL_nil, XL_cons, XLc_val, XLc_call, step1_eq, stepW_t, stepW_f, stepC_n, stepC_s, stepX_s, xop_eq, xopR_s, xopR_n, wantedA_eq, wantedG_n, wantedG_s, plain1_int, plain1_bool, plain1_string, bits_i64, bits_u64, bits_u32, bits_u16, bits_u8, xeqA, xarr, allK_iv, num_iv, calleeOf, xread, xeff, xbin, xint, xun, xstr, xload, xconv, xpart, xfield, xfieldAddr, xindexAddr, xindex, bnd, asInt?, xslice, xlen, xmin, xmax, xbuild, xfill, xappend, xcopy, xcells, eval_tmp, eval_const, put_at, put_none, fr0_at, cells_agg, cells_int, cells_bool, cells_string, cells_ptr, cells_slice, notTuple, tab, iv_all, okD, isAggD, hget_app, hget_app0, hget_cons0, hget_cons, set_app, set_app0, setR, setR_one, QL_nil, QL_cons, QLc_val, stepQ_t, stepQ_f, stepQC_n, stepQC_s, stepQX_s, SL_nil, SL_cons, SLc_val, stepS_t, stepS_f, h4, e6]; refine hK _ _ ?_; clear hK K)
    exact ⟨q - 1, by omega, j + 1, by omega, by simp [put_at, put_none], by simp [put_at, put_none], by simp [put_at, put_none, h0], rfl⟩
  · refine aw_f (by simp [eval_tmp, put_at, hlt]) (by kernel_rfl) ?_
    obtain rfl : j = 78 := by omega
    refine aw_exit ?_
    have e1 : IntKind.i64.wrap (restF d 78 * 100) = restF d 78 * 100 := wrap64_in (by omega)
    have e3 : (restF d 78 * 100).tmod 97 = restF d 78 * 100 % 97 := by rw [Int.tmod_eq_emod_of_nonneg (by omega)]
    have e4 : IntKind.i64.wrap (98 - restF d 78 * 100 % 97) = checkF d := wrap64_in (by omega)
    refine aw_seq ?_
    (refine aw_ops (by kernel_rfl) (fun K hK => ?_); simp [wb_bool, wb_undef, XL_nil, XL_cons, XLc_val, XLc_call, step1_eq, stepW_t, stepW_f, stepC_n, stepC_s, stepX_s, xop_eq, xopR_s, xopR_n, wantedA_eq, wantedG_n, wantedG_s, plain1_int, plain1_bool, plain1_string, bits_i64, bits_u64, bits_u32, bits_u16, bits_u8, xeqA, xarr, allK_iv, num_iv, calleeOf, xread, xeff, xbin, xint, xun, xstr, xload, xconv, xpart, xfield, xfieldAddr, xindexAddr, xindex, bnd, asInt?, xslice, xlen, xmin, xmax, xbuild, xfill, xappend, xcopy, xcells, eval_tmp, eval_const, put_at, put_none, fr0_at, cells_agg, cells_int, cells_bool, cells_string, cells_ptr, cells_slice, notTuple, tab, iv_all, okD, isAggD, hget_app, hget_app0, hget_cons0, hget_cons, set_app, set_app0, setR, setR_one, QL_nil, QL_cons, QLc_val, stepQ_t, stepQ_f, stepQC_n, stepQC_s, stepQX_s, SL_nil, SL_cons, SLc_val, stepS_t, stepS_f, h3, e1, e3, e4]; refine hK _ _ ?_; clear hK K)
    (refine aw_ret ?_; simp [thenQ_ret, inBlockQ_ret, RQ, resL, resV, xload, tab, okD, isAggD, hget_app, hget_app0, hget_cons0, hget_cons, notTuple, put_at, put_none])
end Go.Proofs.Ytmnkbdclnaekkaa
