/-
  Check digits, by the text.
  A key's digits, and their text, by the Go text.
  The digits' text, by the Go text.
  A text's digits, by the Go text.
  The key of digits, by the Go text.
-/
import Derived.Test.YtmnkbdclnaekkaaDoorTab
import Derived.Test.YtmnkbdclnaekkaaDoorXo
namespace Go.Proofs.YtmnkbdclnaekkaaDoor
section
open Go Go.RowKit
set_option linter.unusedSimpArgs false
set_option maxRecDepth 100000
set_option maxHeartbeats 1000000

def restF (d : List Int) : Nat → Int
  | 0 => 0
  | k + 1 => (restF d k * 10 + d.getD k 0) % 97
theorem restF_bd (d : List Int) (k : Nat) : 0 ≤ restF d k ∧ restF d k ≤ 96 := by
  cases k with
  | zero => simp [restF]
  | succ k => simp only [restF]; omega
def checkF (d : List Int) : Int := 98 - restF d 78 * 100 % 97
theorem checkF_bd (d : List Int) : 2 ≤ checkF d ∧ checkF d ≤ 98 := by unfold checkF; omega
def checkedF (d : List Int) : List Int := (d.set 78 (checkF d / 10)).set 79 (checkF d % 10)
theorem checkedF_len (d : List Int) : (checkedF d).length = d.length := by simp [checkedF]
def Byte (l : List Int) : Prop := ∀ i, 0 ≤ l.getD i 0 ∧ l.getD i 0 ≤ 255

theorem checked_vc (d : List Int) (hd : d.length = 80) (hb : Byte d) : VC Tryd.prog 21 #[.agg (iv .u8 d).toArray] (.agg (iv .u8 (checkedF d)).toArray) := by
  refine vc_of_ac (by simp [pv_iv, pv_int, pv_bool, pv_string, pv_tup2, pv_tup3, iv_plain, p2_int, p2_bool, p2_string]) (by simp [pv_iv, pv_int, pv_bool, pv_string, pv_tup2, pv_tup3, iv_plain, p2_int, p2_bool, p2_string]) ?_
  refine ac_of_aw Tryd.func21 rfl Tryd.ntmps21 Tryd.results21 (by simp) ?_
  refine aw_seq ?_
  (refine aw_ops (by kernel_rfl) (fun K hK => ?_); simp [wb_bool, wb_undef, XL_nil, XL_cons, XLc_val, XLc_call, step1_eq, stepW_t, stepW_f, stepC_n, stepC_s, stepX_s, stepX_n, stepN_s, calleeX, oneV, xop_eq, xopR_s, xopR_n, wantedA_eq, wantedG_n, wantedG_s, plain1_int, plain1_bool, plain1_string, bits_i64, bits_u64, bits_u32, bits_u16, bits_u8, xeqA, xagg, xcmp, xarr, allK_iv, num_iv, calleeOf, xread, xeff, xbin, xint, xnil, xun, xstr, xload, xconv, xpart, xfield, xfieldAddr, xindexAddr, xindex, bnd, asInt?, xslice, xlen, xmin, xmax, xbuild, xfill, xappend, xapp2, xappstr, xappmk, xcap, xcopy, xcells, eval_tmp, eval_const, put_at, put_none, fr0_at, cells_agg, cells_int, cells_bool, cells_string, cells_ptr, cells_slice, notTuple, tab, iv_all, okD, isAggD, hget_app, hget_app0, hget_cons0, hget_cons, set_app, set_app0, setR, setR_one, QL_nil, QL_cons, QLc_val, stepQ_t, stepQ_f, stepQC_n, stepQC_s, stepQX_s, SL_nil, SL_cons, SLc_val, stepS_t, stepS_f]; refine hK _ _ ?_; clear hK K)
  refine aw_seq ?_
  (refine aw_ops (by kernel_rfl) (fun K hK => ?_); simp [wb_bool, wb_undef, XL_nil, XL_cons, XLc_val, XLc_call, step1_eq, stepW_t, stepW_f, stepC_n, stepC_s, stepX_s, stepX_n, stepN_s, calleeX, oneV, xop_eq, xopR_s, xopR_n, wantedA_eq, wantedG_n, wantedG_s, plain1_int, plain1_bool, plain1_string, bits_i64, bits_u64, bits_u32, bits_u16, bits_u8, xeqA, xagg, xcmp, xarr, allK_iv, num_iv, calleeOf, xread, xeff, xbin, xint, xnil, xun, xstr, xload, xconv, xpart, xfield, xfieldAddr, xindexAddr, xindex, bnd, asInt?, xslice, xlen, xmin, xmax, xbuild, xfill, xappend, xapp2, xappstr, xappmk, xcap, xcopy, xcells, eval_tmp, eval_const, put_at, put_none, fr0_at, cells_agg, cells_int, cells_bool, cells_string, cells_ptr, cells_slice, notTuple, tab, iv_all, okD, isAggD, hget_app, hget_app0, hget_cons0, hget_cons, set_app, set_app0, setR, setR_one, QL_nil, QL_cons, QLc_val, stepQ_t, stepQ_f, stepQC_n, stepQC_s, stepQX_s, SL_nil, SL_cons, SLc_val, stepS_t, stepS_f]; refine hK _ _ ?_; clear hK K)
  refine aw_seq ?_
  refine aw_seq ?_
  (refine aw_ops (by kernel_rfl) (fun K hK => ?_); simp [wb_bool, wb_undef, XL_nil, XL_cons, XLc_val, XLc_call, step1_eq, stepW_t, stepW_f, stepC_n, stepC_s, stepX_s, stepX_n, stepN_s, calleeX, oneV, xop_eq, xopR_s, xopR_n, wantedA_eq, wantedG_n, wantedG_s, plain1_int, plain1_bool, plain1_string, bits_i64, bits_u64, bits_u32, bits_u16, bits_u8, xeqA, xagg, xcmp, xarr, allK_iv, num_iv, calleeOf, xread, xeff, xbin, xint, xnil, xun, xstr, xload, xconv, xpart, xfield, xfieldAddr, xindexAddr, xindex, bnd, asInt?, xslice, xlen, xmin, xmax, xbuild, xfill, xappend, xapp2, xappstr, xappmk, xcap, xcopy, xcells, eval_tmp, eval_const, put_at, put_none, fr0_at, cells_agg, cells_int, cells_bool, cells_string, cells_ptr, cells_slice, notTuple, tab, iv_all, okD, isAggD, hget_app, hget_app0, hget_cons0, hget_cons, set_app, set_app0, setR, setR_one, QL_nil, QL_cons, QLc_val, stepQ_t, stepQ_f, stepQC_n, stepQC_s, stepQX_s, SL_nil, SL_cons, SLc_val, stepS_t, stepS_f]; refine hK _ _ ?_; clear hK K)
  refine aw_block ?_
  refine aw_loop (fun k α H => ∃ i : Nat, i + k = 78 ∧ α 6 = .int .i64 i ∧ α 3 = .int .i64 (restF d i) ∧ α 1 = .pointer (some ⟨0, 0, none⟩) ∧ α 2 = .pointer (some ⟨1, 0, none⟩) ∧ H = [some ⟨iv .u8 d, 32, none⟩, some ⟨iv .u8 (zl 80), 32, none⟩]) 78 ?_ ?_
  · exact ⟨0, rfl, rfl, rfl, rfl, rfl, rfl⟩
  rintro k α H ⟨i, hi, h6, h3, h1, h2, rfl⟩
  have hr := restF_bd d i
  refine aw_seq ?_
  (refine aw_ops (by kernel_rfl) (fun K hK => ?_); simp [wb_bool, wb_undef, XL_nil, XL_cons, XLc_val, XLc_call, step1_eq, stepW_t, stepW_f, stepC_n, stepC_s, stepX_s, stepX_n, stepN_s, calleeX, oneV, xop_eq, xopR_s, xopR_n, wantedA_eq, wantedG_n, wantedG_s, plain1_int, plain1_bool, plain1_string, bits_i64, bits_u64, bits_u32, bits_u16, bits_u8, xeqA, xagg, xcmp, xarr, allK_iv, num_iv, calleeOf, xread, xeff, xbin, xint, xnil, xun, xstr, xload, xconv, xpart, xfield, xfieldAddr, xindexAddr, xindex, bnd, asInt?, xslice, xlen, xmin, xmax, xbuild, xfill, xappend, xapp2, xappstr, xappmk, xcap, xcopy, xcells, eval_tmp, eval_const, put_at, put_none, fr0_at, cells_agg, cells_int, cells_bool, cells_string, cells_ptr, cells_slice, notTuple, tab, iv_all, okD, isAggD, hget_app, hget_app0, hget_cons0, hget_cons, set_app, set_app0, setR, setR_one, QL_nil, QL_cons, QLc_val, stepQ_t, stepQ_f, stepQC_n, stepQC_s, stepQX_s, SL_nil, SL_cons, SLc_val, stepS_t, stepS_f, h6]; refine hK _ _ ?_; clear hK K)
  refine aw_seq ?_
  by_cases hlt : (i : Int) < 78
  · refine aw_t (by simp [eval_tmp, put_at, hlt]) (by kernel_rfl) ?_
    refine aw_skip ?_
    refine aw_seq ?_
    refine aw_block ?_
    refine aw_seq ?_
    (refine aw_ops (by kernel_rfl) (fun K hK => ?_); simp [wb_bool, wb_undef, XL_nil, XL_cons, XLc_val, XLc_call, step1_eq, stepW_t, stepW_f, stepC_n, stepC_s, stepX_s, stepX_n, stepN_s, calleeX, oneV, xop_eq, xopR_s, xopR_n, wantedA_eq, wantedG_n, wantedG_s, plain1_int, plain1_bool, plain1_string, bits_i64, bits_u64, bits_u32, bits_u16, bits_u8, xeqA, xagg, xcmp, xarr, allK_iv, num_iv, calleeOf, xread, xeff, xbin, xint, xnil, xun, xstr, xload, xconv, xpart, xfield, xfieldAddr, xindexAddr, xindex, bnd, asInt?, xslice, xlen, xmin, xmax, xbuild, xfill, xappend, xapp2, xappstr, xappmk, xcap, xcopy, xcells, eval_tmp, eval_const, put_at, put_none, fr0_at, cells_agg, cells_int, cells_bool, cells_string, cells_ptr, cells_slice, notTuple, tab, iv_all, okD, isAggD, hget_app, hget_app0, hget_cons0, hget_cons, set_app, set_app0, setR, setR_one, QL_nil, QL_cons, QLc_val, stepQ_t, stepQ_f, stepQC_n, stepQC_s, stepQX_s, SL_nil, SL_cons, SLc_val, stepS_t, stepS_f, h6]; refine hK _ _ ?_; clear hK K)
    have hx := hb i
    have e1 : IntKind.i64.wrap (restF d i * 10) = restF d i * 10 := wrap64_in (by omega)
    have e2 : IntKind.i64.wrap (d.getD i 0) = d.getD i 0 := wrap64_in (by omega)
    have e3 : IntKind.i64.wrap (restF d i * 10 + d.getD i 0) = restF d i * 10 + d.getD i 0 := wrap64_in (by omega)
    have e4 : (iv .u8 d)[i]? = some (.int .u8 (d.getD i 0)) := iv_get _ _ _ (by omega)
    have e5 : (restF d i * 10 + d.getD i 0).tmod 97 = restF d (i + 1) := by
      rw [Int.tmod_eq_emod_of_nonneg (by omega)]; rfl
    have e6 : IntKind.i64.wrap (i + 1) = i + 1 := wrap64_in (by omega)
    have hlt80 : (i : Int) < 80 := by omega
    (refine aw_ops (by kernel_rfl) (fun K hK => ?_); simp [wb_bool, wb_undef, XL_nil, XL_cons, XLc_val, XLc_call, step1_eq, stepW_t, stepW_f, stepC_n, stepC_s, stepX_s, stepX_n, stepN_s, calleeX, oneV, xop_eq, xopR_s, xopR_n, wantedA_eq, wantedG_n, wantedG_s, plain1_int, plain1_bool, plain1_string, bits_i64, bits_u64, bits_u32, bits_u16, bits_u8, xeqA, xagg, xcmp, xarr, allK_iv, num_iv, calleeOf, xread, xeff, xbin, xint, xnil, xun, xstr, xload, xconv, xpart, xfield, xfieldAddr, xindexAddr, xindex, bnd, asInt?, xslice, xlen, xmin, xmax, xbuild, xfill, xappend, xapp2, xappstr, xappmk, xcap, xcopy, xcells, eval_tmp, eval_const, put_at, put_none, fr0_at, cells_agg, cells_int, cells_bool, cells_string, cells_ptr, cells_slice, notTuple, tab, iv_all, okD, isAggD, hget_app, hget_app0, hget_cons0, hget_cons, set_app, set_app0, setR, setR_one, QL_nil, QL_cons, QLc_val, stepQ_t, stepQ_f, stepQC_n, stepQC_s, stepQX_s, SL_nil, SL_cons, SLc_val, stepS_t, stepS_f, h6, h3, h1, e1, e2, e3, e4, e5, hlt80, -List.getD_eq_getElem?_getD]; refine hK _ _ ?_; clear hK K)
    (refine aw_ops (by kernel_rfl) (fun K hK => ?_); simp [wb_bool, wb_undef, XL_nil, XL_cons, XLc_val, XLc_call, step1_eq, stepW_t, stepW_f, stepC_n, stepC_s, stepX_s, stepX_n, stepN_s, calleeX, oneV, xop_eq, xopR_s, xopR_n, wantedA_eq, wantedG_n, wantedG_s, plain1_int, plain1_bool, plain1_string, bits_i64, bits_u64, bits_u32, bits_u16, bits_u8, xeqA, xagg, xcmp, xarr, allK_iv, num_iv, calleeOf, xread, xeff, xbin, xint, xnil, xun, xstr, xload, xconv, xpart, xfield, xfieldAddr, xindexAddr, xindex, bnd, asInt?, xslice, xlen, xmin, xmax, xbuild, xfill, xappend, xapp2, xappstr, xappmk, xcap, xcopy, xcells, eval_tmp, eval_const, put_at, put_none, fr0_at, cells_agg, cells_int, cells_bool, cells_string, cells_ptr, cells_slice, notTuple, tab, iv_all, okD, isAggD, hget_app, hget_app0, hget_cons0, hget_cons, set_app, set_app0, setR, setR_one, QL_nil, QL_cons, QLc_val, stepQ_t, stepQ_f, stepQC_n, stepQC_s, stepQX_s, SL_nil, SL_cons, SLc_val, stepS_t, stepS_f, h6, e6]; refine hK _ _ ?_; clear hK K)
    exact ⟨k - 1, by omega, i + 1, by omega, by simp [put_at, put_none], by simp [put_at, put_none], by simp [put_at, put_none, h1], by simp [put_at, put_none, h2], rfl⟩
  · refine aw_f (by simp [eval_tmp, put_at, hlt]) (by kernel_rfl) ?_
    obtain rfl : i = 78 := by omega
    refine aw_exit ?_
    have hc := checkF_bd d
    have e1 : IntKind.i64.wrap (restF d 78 * 10) = restF d 78 * 10 := wrap64_in (by omega)
    have e2 : IntKind.i64.wrap (restF d 78 * 10 * 10) = restF d 78 * 10 * 10 := wrap64_in (by omega)
    have e3 : (restF d 78 * 10 * 10).tmod 97 = restF d 78 * 100 % 97 := by rw [Int.tmod_eq_emod_of_nonneg (by omega)]; omega
    have e4 : IntKind.i64.wrap (98 - restF d 78 * 100 % 97) = checkF d := wrap64_in (by omega)
    have e5 : IntKind.i64.wrap ((checkF d).tdiv 10) = checkF d / 10 := by rw [Int.tdiv_eq_ediv_of_nonneg (by omega)]; exact wrap64_in (by omega)
    have e6 : (checkF d).tmod 10 = checkF d % 10 := by rw [Int.tmod_eq_emod_of_nonneg (by omega)]
    have e7 : IntKind.u8.wrap (checkF d / 10) = checkF d / 10 := wrap8_in (by omega)
    have e8 : IntKind.u8.wrap (checkF d % 10) = checkF d % 10 := wrap8_in (by omega)
    refine aw_seq ?_
    (refine aw_ops (by kernel_rfl) (fun K hK => ?_); simp [wb_bool, wb_undef, XL_nil, XL_cons, XLc_val, XLc_call, step1_eq, stepW_t, stepW_f, stepC_n, stepC_s, stepX_s, stepX_n, stepN_s, calleeX, oneV, xop_eq, xopR_s, xopR_n, wantedA_eq, wantedG_n, wantedG_s, plain1_int, plain1_bool, plain1_string, bits_i64, bits_u64, bits_u32, bits_u16, bits_u8, xeqA, xagg, xcmp, xarr, allK_iv, num_iv, calleeOf, xread, xeff, xbin, xint, xnil, xun, xstr, xload, xconv, xpart, xfield, xfieldAddr, xindexAddr, xindex, bnd, asInt?, xslice, xlen, xmin, xmax, xbuild, xfill, xappend, xapp2, xappstr, xappmk, xcap, xcopy, xcells, eval_tmp, eval_const, put_at, put_none, fr0_at, cells_agg, cells_int, cells_bool, cells_string, cells_ptr, cells_slice, notTuple, tab, iv_all, okD, isAggD, hget_app, hget_app0, hget_cons0, hget_cons, set_app, set_app0, setR, setR_one, QL_nil, QL_cons, QLc_val, stepQ_t, stepQ_f, stepQC_n, stepQC_s, stepQX_s, SL_nil, SL_cons, SLc_val, stepS_t, stepS_f, h3, e1, e2, e3, e4]; refine hK _ _ ?_; clear hK K)
    refine aw_seq ?_
    (refine aw_ops (by kernel_rfl) (fun K hK => ?_); simp [wb_bool, wb_undef, XL_nil, XL_cons, XLc_val, XLc_call, step1_eq, stepW_t, stepW_f, stepC_n, stepC_s, stepX_s, stepX_n, stepN_s, calleeX, oneV, xop_eq, xopR_s, xopR_n, wantedA_eq, wantedG_n, wantedG_s, plain1_int, plain1_bool, plain1_string, bits_i64, bits_u64, bits_u32, bits_u16, bits_u8, xeqA, xagg, xcmp, xarr, allK_iv, num_iv, calleeOf, xread, xeff, xbin, xint, xnil, xun, xstr, xload, xconv, xpart, xfield, xfieldAddr, xindexAddr, xindex, bnd, asInt?, xslice, xlen, xmin, xmax, xbuild, xfill, xappend, xapp2, xappstr, xappmk, xcap, xcopy, xcells, eval_tmp, eval_const, put_at, put_none, fr0_at, cells_agg, cells_int, cells_bool, cells_string, cells_ptr, cells_slice, notTuple, tab, iv_all, okD, isAggD, hget_app, hget_app0, hget_cons0, hget_cons, set_app, set_app0, setR, setR_one, QL_nil, QL_cons, QLc_val, stepQ_t, stepQ_f, stepQC_n, stepQC_s, stepQX_s, SL_nil, SL_cons, SLc_val, stepS_t, stepS_f, h1, hd, e5, e6, e7, e8, iv_set]; refine hK _ _ ?_; clear hK K)
    refine aw_seq ?_
    (refine aw_ops (by kernel_rfl) (fun K hK => ?_); simp [wb_bool, wb_undef, XL_nil, XL_cons, XLc_val, XLc_call, step1_eq, stepW_t, stepW_f, stepC_n, stepC_s, stepX_s, stepX_n, stepN_s, calleeX, oneV, xop_eq, xopR_s, xopR_n, wantedA_eq, wantedG_n, wantedG_s, plain1_int, plain1_bool, plain1_string, bits_i64, bits_u64, bits_u32, bits_u16, bits_u8, xeqA, xagg, xcmp, xarr, allK_iv, num_iv, calleeOf, xread, xeff, xbin, xint, xnil, xun, xstr, xload, xconv, xpart, xfield, xfieldAddr, xindexAddr, xindex, bnd, asInt?, xslice, xlen, xmin, xmax, xbuild, xfill, xappend, xapp2, xappstr, xappmk, xcap, xcopy, xcells, eval_tmp, eval_const, put_at, put_none, fr0_at, cells_agg, cells_int, cells_bool, cells_string, cells_ptr, cells_slice, notTuple, tab, iv_all, okD, isAggD, hget_app, hget_app0, hget_cons0, hget_cons, set_app, set_app0, setR, setR_one, QL_nil, QL_cons, QLc_val, stepQ_t, stepQ_f, stepQC_n, stepQC_s, stepQX_s, SL_nil, SL_cons, SLc_val, stepS_t, stepS_f, h1, h2, hd, setR_all]; refine hK _ _ ?_; clear hK K)
    (refine aw_ret ?_; simp [thenQ_ret, inBlockQ_ret, RQ, resL, resV, xload, tab, okD, isAggD, hget_app, hget_app0, hget_cons0, hget_cons, notTuple, put_at, put_none, h2, hd, setR_all, List.take_of_length_le])
    rfl
end

section
open Go Go.RowKit
set_option linter.unusedSimpArgs false
set_option maxRecDepth 100000
set_option maxHeartbeats 1000000

def inD (d : List Int) (b : Int) : Nat → List Int × Int
  | 0 => (d, b)
  | i + 1 => ((inD d b i).1.set (77 - i) (((inD d b i).1.getD (77 - i) 0 * 256 + (inD d b i).2) % 10), ((inD d b i).1.getD (77 - i) 0 * 256 + (inD d b i).2) / 10)
def Dig (l : List Int) : Prop := ∀ i, 0 ≤ l.getD i 0 ∧ l.getD i 0 ≤ 9
theorem Dig.set {l : List Int} (h : Dig l) (i : Nat) {x : Int} (hx : 0 ≤ x ∧ x ≤ 9) : Dig (l.set i x) := by
  intro j
  have := h j
  simp only [List.getD_eq_getElem?_getD, List.getElem?_set] at *
  split
  · split
    · exact hx
    · simp
  · exact this
theorem Dig.byte {l : List Int} (h : Dig l) : Byte l := fun i => ⟨(h i).1, by have := (h i).2; omega⟩
theorem inD_spec (d : List Int) (b : Int) (hd : Dig d) (hb : 0 ≤ b ∧ b ≤ 255) (i : Nat) : Dig (inD d b i).1 ∧ 0 ≤ (inD d b i).2 ∧ (inD d b i).2 ≤ 255 ∧ (inD d b i).1.length = d.length := by
  induction i with
  | zero => exact ⟨hd, hb.1, hb.2, rfl⟩
  | succ i ih =>
    obtain ⟨h1, h2, h3, h4⟩ := ih
    have := h1 (77 - i)
    simp only [inD]
    exact ⟨h1.set _ (by omega), by omega, by omega, by rw [List.length_set, h4]⟩
def outD (k : List Int) : Nat → List Int
  | 0 => zl 80
  | i + 1 => (inD (outD k i) (k.getD i 0) 78).1
theorem outD_spec (k : List Int) (hk : Byte k) (i : Nat) : Dig (outD k i) ∧ (outD k i).length = 80 := by
  induction i with
  | zero =>
    refine ⟨fun j => ?_, by simp [outD]⟩
    have : (zl 80).getD j 0 = 0 := by
      unfold zl
      rw [List.getD_eq_getElem?_getD, List.getElem?_replicate]
      split <;> rfl
    show 0 ≤ (zl 80).getD j 0 ∧ (zl 80).getD j 0 ≤ 9
    omega
  | succ i ih =>
    obtain ⟨h1, _, _, h4⟩ := inD_spec (outD k i) (k.getD i 0) ih.1 (hk i) 78
    exact ⟨h1, by rw [outD, h4, ih.2]⟩
def digitsF (k : List Int) : List Int := checkedF (outD k 32)

theorem digits_vc (k : List Int) (hk : k.length = 32) (hb : Byte k) : VC Tryd.prog 11 #[.agg (iv .u8 k).toArray] (.agg (iv .u8 (digitsF k)).toArray) := by
  refine vc_of_ac (by simp [pv_iv, pv_int, pv_bool, pv_string, pv_tup2, pv_tup3, iv_plain, p2_int, p2_bool, p2_string]) (by simp [pv_iv, pv_int, pv_bool, pv_string, pv_tup2, pv_tup3, iv_plain, p2_int, p2_bool, p2_string]) ?_
  refine ac_of_aw Tryd.func11 rfl Tryd.ntmps11 Tryd.results11 (by simp) ?_
  refine aw_seq ?_
  (refine aw_ops (by kernel_rfl) (fun K hK => ?_); simp [wb_bool, wb_undef, XL_nil, XL_cons, XLc_val, XLc_call, step1_eq, stepW_t, stepW_f, stepC_n, stepC_s, stepX_s, stepX_n, stepN_s, calleeX, oneV, xop_eq, xopR_s, xopR_n, wantedA_eq, wantedG_n, wantedG_s, plain1_int, plain1_bool, plain1_string, bits_i64, bits_u64, bits_u32, bits_u16, bits_u8, xeqA, xagg, xcmp, xarr, allK_iv, num_iv, calleeOf, xread, xeff, xbin, xint, xnil, xun, xstr, xload, xconv, xpart, xfield, xfieldAddr, xindexAddr, xindex, bnd, asInt?, xslice, xlen, xmin, xmax, xbuild, xfill, xappend, xapp2, xappstr, xappmk, xcap, xcopy, xcells, eval_tmp, eval_const, put_at, put_none, fr0_at, cells_agg, cells_int, cells_bool, cells_string, cells_ptr, cells_slice, notTuple, tab, iv_all, okD, isAggD, hget_app, hget_app0, hget_cons0, hget_cons, set_app, set_app0, setR, setR_one, QL_nil, QL_cons, QLc_val, stepQ_t, stepQ_f, stepQC_n, stepQC_s, stepQX_s, SL_nil, SL_cons, SLc_val, stepS_t, stepS_f]; refine hK _ _ ?_; clear hK K)
  refine aw_seq ?_
  (refine aw_ops (by kernel_rfl) (fun K hK => ?_); simp [wb_bool, wb_undef, XL_nil, XL_cons, XLc_val, XLc_call, step1_eq, stepW_t, stepW_f, stepC_n, stepC_s, stepX_s, stepX_n, stepN_s, calleeX, oneV, xop_eq, xopR_s, xopR_n, wantedA_eq, wantedG_n, wantedG_s, plain1_int, plain1_bool, plain1_string, bits_i64, bits_u64, bits_u32, bits_u16, bits_u8, xeqA, xagg, xcmp, xarr, allK_iv, num_iv, calleeOf, xread, xeff, xbin, xint, xnil, xun, xstr, xload, xconv, xpart, xfield, xfieldAddr, xindexAddr, xindex, bnd, asInt?, xslice, xlen, xmin, xmax, xbuild, xfill, xappend, xapp2, xappstr, xappmk, xcap, xcopy, xcells, eval_tmp, eval_const, put_at, put_none, fr0_at, cells_agg, cells_int, cells_bool, cells_string, cells_ptr, cells_slice, notTuple, tab, iv_all, okD, isAggD, hget_app, hget_app0, hget_cons0, hget_cons, set_app, set_app0, setR, setR_one, QL_nil, QL_cons, QLc_val, stepQ_t, stepQ_f, stepQC_n, stepQC_s, stepQX_s, SL_nil, SL_cons, SLc_val, stepS_t, stepS_f]; refine hK _ _ ?_; clear hK K)
  refine aw_seq ?_
  refine aw_seq ?_
  (refine aw_ops (by kernel_rfl) (fun K hK => ?_); simp [wb_bool, wb_undef, XL_nil, XL_cons, XLc_val, XLc_call, step1_eq, stepW_t, stepW_f, stepC_n, stepC_s, stepX_s, stepX_n, stepN_s, calleeX, oneV, xop_eq, xopR_s, xopR_n, wantedA_eq, wantedG_n, wantedG_s, plain1_int, plain1_bool, plain1_string, bits_i64, bits_u64, bits_u32, bits_u16, bits_u8, xeqA, xagg, xcmp, xarr, allK_iv, num_iv, calleeOf, xread, xeff, xbin, xint, xnil, xun, xstr, xload, xconv, xpart, xfield, xfieldAddr, xindexAddr, xindex, bnd, asInt?, xslice, xlen, xmin, xmax, xbuild, xfill, xappend, xapp2, xappstr, xappmk, xcap, xcopy, xcells, eval_tmp, eval_const, put_at, put_none, fr0_at, cells_agg, cells_int, cells_bool, cells_string, cells_ptr, cells_slice, notTuple, tab, iv_all, okD, isAggD, hget_app, hget_app0, hget_cons0, hget_cons, set_app, set_app0, setR, setR_one, QL_nil, QL_cons, QLc_val, stepQ_t, stepQ_f, stepQC_n, stepQC_s, stepQX_s, SL_nil, SL_cons, SLc_val, stepS_t, stepS_f, hk, List.take_of_length_le]; refine hK _ _ ?_; clear hK K)
  refine aw_block ?_
  refine aw_loop (fun q α H => ∃ i : Nat, i + q = 32 ∧ α 11 = .int .i64 i ∧ α 10 = .agg (iv .u8 k).toArray ∧ α 2 = .pointer (some ⟨1, 0, none⟩) ∧ α 3 = .pointer (some ⟨2, 0, none⟩) ∧
    H = [some ⟨iv .u8 k, 23, none⟩, some ⟨iv .u8 (zl 80), 32, none⟩, some ⟨iv .u8 (outD k i), 32, none⟩]) 32 ?_ ?_
  · exact ⟨0, rfl, rfl, rfl, rfl, rfl, rfl⟩
  rintro q α H ⟨i, hi, h11, h10, h2, h3, rfl⟩
  obtain ⟨ho1, ho2⟩ := outD_spec k hb i
  refine aw_seq ?_
  (refine aw_ops (by kernel_rfl) (fun K hK => ?_); simp [wb_bool, wb_undef, XL_nil, XL_cons, XLc_val, XLc_call, step1_eq, stepW_t, stepW_f, stepC_n, stepC_s, stepX_s, stepX_n, stepN_s, calleeX, oneV, xop_eq, xopR_s, xopR_n, wantedA_eq, wantedG_n, wantedG_s, plain1_int, plain1_bool, plain1_string, bits_i64, bits_u64, bits_u32, bits_u16, bits_u8, xeqA, xagg, xcmp, xarr, allK_iv, num_iv, calleeOf, xread, xeff, xbin, xint, xnil, xun, xstr, xload, xconv, xpart, xfield, xfieldAddr, xindexAddr, xindex, bnd, asInt?, xslice, xlen, xmin, xmax, xbuild, xfill, xappend, xapp2, xappstr, xappmk, xcap, xcopy, xcells, eval_tmp, eval_const, put_at, put_none, fr0_at, cells_agg, cells_int, cells_bool, cells_string, cells_ptr, cells_slice, notTuple, tab, iv_all, okD, isAggD, hget_app, hget_app0, hget_cons0, hget_cons, set_app, set_app0, setR, setR_one, QL_nil, QL_cons, QLc_val, stepQ_t, stepQ_f, stepQC_n, stepQC_s, stepQX_s, SL_nil, SL_cons, SLc_val, stepS_t, stepS_f, h11]; refine hK _ _ ?_; clear hK K)
  refine aw_seq ?_
  by_cases hlt : (i : Int) < 32
  · refine aw_t (by simp [eval_tmp, put_at, hlt]) (by kernel_rfl) ?_
    refine aw_skip ?_
    refine aw_seq ?_
    refine aw_block ?_
    refine aw_seq ?_
    have e1 : (iv .u8 k)[i]? = some (.int .u8 (k.getD i 0)) := iv_get _ _ _ (by omega)
    have hx := hb i
    have e2 : IntKind.i64.wrap (k.getD i 0) = k.getD i 0 := wrap64_in (by omega)
    generalize hx0 : k.getD i 0 = x at *
    have hxx : Hid (k.getD i 0 = x) := hx0
    clear hx0
    (refine aw_ops (by kernel_rfl) (fun K hK => ?_); simp [wb_bool, wb_undef, XL_nil, XL_cons, XLc_val, XLc_call, step1_eq, stepW_t, stepW_f, stepC_n, stepC_s, stepX_s, stepX_n, stepN_s, calleeX, oneV, xop_eq, xopR_s, xopR_n, wantedA_eq, wantedG_n, wantedG_s, plain1_int, plain1_bool, plain1_string, bits_i64, bits_u64, bits_u32, bits_u16, bits_u8, xeqA, xagg, xcmp, xarr, allK_iv, num_iv, calleeOf, xread, xeff, xbin, xint, xnil, xun, xstr, xload, xconv, xpart, xfield, xfieldAddr, xindexAddr, xindex, bnd, asInt?, xslice, xlen, xmin, xmax, xbuild, xfill, xappend, xapp2, xappstr, xappmk, xcap, xcopy, xcells, eval_tmp, eval_const, put_at, put_none, fr0_at, cells_agg, cells_int, cells_bool, cells_string, cells_ptr, cells_slice, notTuple, tab, iv_all, okD, isAggD, hget_app, hget_app0, hget_cons0, hget_cons, set_app, set_app0, setR, setR_one, QL_nil, QL_cons, QLc_val, stepQ_t, stepQ_f, stepQC_n, stepQC_s, stepQX_s, SL_nil, SL_cons, SLc_val, stepS_t, stepS_f, h11, h10, e1, hlt]; refine hK _ _ ?_; clear hK K)
    refine aw_seq ?_
    (refine aw_ops (by kernel_rfl) (fun K hK => ?_); simp [wb_bool, wb_undef, XL_nil, XL_cons, XLc_val, XLc_call, step1_eq, stepW_t, stepW_f, stepC_n, stepC_s, stepX_s, stepX_n, stepN_s, calleeX, oneV, xop_eq, xopR_s, xopR_n, wantedA_eq, wantedG_n, wantedG_s, plain1_int, plain1_bool, plain1_string, bits_i64, bits_u64, bits_u32, bits_u16, bits_u8, xeqA, xagg, xcmp, xarr, allK_iv, num_iv, calleeOf, xread, xeff, xbin, xint, xnil, xun, xstr, xload, xconv, xpart, xfield, xfieldAddr, xindexAddr, xindex, bnd, asInt?, xslice, xlen, xmin, xmax, xbuild, xfill, xappend, xapp2, xappstr, xappmk, xcap, xcopy, xcells, eval_tmp, eval_const, put_at, put_none, fr0_at, cells_agg, cells_int, cells_bool, cells_string, cells_ptr, cells_slice, notTuple, tab, iv_all, okD, isAggD, hget_app, hget_app0, hget_cons0, hget_cons, set_app, set_app0, setR, setR_one, QL_nil, QL_cons, QLc_val, stepQ_t, stepQ_f, stepQC_n, stepQC_s, stepQX_s, SL_nil, SL_cons, SLc_val, stepS_t, stepS_f, e2]; refine hK _ _ ?_; clear hK K)
    refine aw_seq ?_
    (refine aw_ops (by kernel_rfl) (fun K hK => ?_); simp [wb_bool, wb_undef, XL_nil, XL_cons, XLc_val, XLc_call, step1_eq, stepW_t, stepW_f, stepC_n, stepC_s, stepX_s, stepX_n, stepN_s, calleeX, oneV, xop_eq, xopR_s, xopR_n, wantedA_eq, wantedG_n, wantedG_s, plain1_int, plain1_bool, plain1_string, bits_i64, bits_u64, bits_u32, bits_u16, bits_u8, xeqA, xagg, xcmp, xarr, allK_iv, num_iv, calleeOf, xread, xeff, xbin, xint, xnil, xun, xstr, xload, xconv, xpart, xfield, xfieldAddr, xindexAddr, xindex, bnd, asInt?, xslice, xlen, xmin, xmax, xbuild, xfill, xappend, xapp2, xappstr, xappmk, xcap, xcopy, xcells, eval_tmp, eval_const, put_at, put_none, fr0_at, cells_agg, cells_int, cells_bool, cells_string, cells_ptr, cells_slice, notTuple, tab, iv_all, okD, isAggD, hget_app, hget_app0, hget_cons0, hget_cons, set_app, set_app0, setR, setR_one, QL_nil, QL_cons, QLc_val, stepQ_t, stepQ_f, stepQC_n, stepQC_s, stepQX_s, SL_nil, SL_cons, SLc_val, stepS_t, stepS_f]; refine hK _ _ ?_; clear hK K)
    refine aw_block ?_
    refine aw_loop (fun q' α H => ∃ j : Nat, j + q' = 78 ∧ α 16 = .int .i64 j ∧ α 6 = .int .i64 (inD (outD k i) x j).2 ∧ α 11 = .int .i64 i ∧ α 10 = .agg (iv .u8 k).toArray ∧ α 2 = .pointer (some ⟨1, 0, none⟩) ∧ α 3 = .pointer (some ⟨2, 0, none⟩) ∧
      H = [some ⟨iv .u8 k, 23, none⟩, some ⟨iv .u8 (zl 80), 32, none⟩, some ⟨iv .u8 (inD (outD k i) x j).1, 32, none⟩]) 78 ?_ ?_
    · exact ⟨0, rfl, rfl, rfl, h11, h10, h2, h3, rfl⟩
    clear h11 h10 h2 h3
    rintro q' α H ⟨j, hj, h16, h6, h11, h10, h2, h3, rfl⟩
    obtain ⟨s1, s2, s3, s4⟩ := inD_spec (outD k i) x ho1 hx j
    refine aw_seq ?_
    (refine aw_ops (by kernel_rfl) (fun K hK => ?_); simp [wb_bool, wb_undef, XL_nil, XL_cons, XLc_val, XLc_call, step1_eq, stepW_t, stepW_f, stepC_n, stepC_s, stepX_s, stepX_n, stepN_s, calleeX, oneV, xop_eq, xopR_s, xopR_n, wantedA_eq, wantedG_n, wantedG_s, plain1_int, plain1_bool, plain1_string, bits_i64, bits_u64, bits_u32, bits_u16, bits_u8, xeqA, xagg, xcmp, xarr, allK_iv, num_iv, calleeOf, xread, xeff, xbin, xint, xnil, xun, xstr, xload, xconv, xpart, xfield, xfieldAddr, xindexAddr, xindex, bnd, asInt?, xslice, xlen, xmin, xmax, xbuild, xfill, xappend, xapp2, xappstr, xappmk, xcap, xcopy, xcells, eval_tmp, eval_const, put_at, put_none, fr0_at, cells_agg, cells_int, cells_bool, cells_string, cells_ptr, cells_slice, notTuple, tab, iv_all, okD, isAggD, hget_app, hget_app0, hget_cons0, hget_cons, set_app, set_app0, setR, setR_one, QL_nil, QL_cons, QLc_val, stepQ_t, stepQ_f, stepQC_n, stepQC_s, stepQX_s, SL_nil, SL_cons, SLc_val, stepS_t, stepS_f, h16]; refine hK _ _ ?_; clear hK K)
    refine aw_seq ?_
    by_cases hjt : (j : Int) < 78
    · refine aw_t (by simp [eval_tmp, put_at, hjt]) (by kernel_rfl) ?_
      refine aw_skip ?_
      refine aw_seq ?_
      refine aw_block ?_
      refine aw_seq ?_
      (refine aw_ops (by kernel_rfl) (fun K hK => ?_); simp [wb_bool, wb_undef, XL_nil, XL_cons, XLc_val, XLc_call, step1_eq, stepW_t, stepW_f, stepC_n, stepC_s, stepX_s, stepX_n, stepN_s, calleeX, oneV, xop_eq, xopR_s, xopR_n, wantedA_eq, wantedG_n, wantedG_s, plain1_int, plain1_bool, plain1_string, bits_i64, bits_u64, bits_u32, bits_u16, bits_u8, xeqA, xagg, xcmp, xarr, allK_iv, num_iv, calleeOf, xread, xeff, xbin, xint, xnil, xun, xstr, xload, xconv, xpart, xfield, xfieldAddr, xindexAddr, xindex, bnd, asInt?, xslice, xlen, xmin, xmax, xbuild, xfill, xappend, xapp2, xappstr, xappmk, xcap, xcopy, xcells, eval_tmp, eval_const, put_at, put_none, fr0_at, cells_agg, cells_int, cells_bool, cells_string, cells_ptr, cells_slice, notTuple, tab, iv_all, okD, isAggD, hget_app, hget_app0, hget_cons0, hget_cons, set_app, set_app0, setR, setR_one, QL_nil, QL_cons, QLc_val, stepQ_t, stepQ_f, stepQC_n, stepQC_s, stepQX_s, SL_nil, SL_cons, SLc_val, stepS_t, stepS_f, h16]; refine hK _ _ ?_; clear hK K)
      refine aw_seq ?_
      have e3 : IntKind.i64.wrap (77 - (j : Int)) = ((77 - j : Nat) : Int) := by rw [wrap64_in (by omega)]; omega
      (refine aw_ops (by kernel_rfl) (fun K hK => ?_); simp [wb_bool, wb_undef, XL_nil, XL_cons, XLc_val, XLc_call, step1_eq, stepW_t, stepW_f, stepC_n, stepC_s, stepX_s, stepX_n, stepN_s, calleeX, oneV, xop_eq, xopR_s, xopR_n, wantedA_eq, wantedG_n, wantedG_s, plain1_int, plain1_bool, plain1_string, bits_i64, bits_u64, bits_u32, bits_u16, bits_u8, xeqA, xagg, xcmp, xarr, allK_iv, num_iv, calleeOf, xread, xeff, xbin, xint, xnil, xun, xstr, xload, xconv, xpart, xfield, xfieldAddr, xindexAddr, xindex, bnd, asInt?, xslice, xlen, xmin, xmax, xbuild, xfill, xappend, xapp2, xappstr, xappmk, xcap, xcopy, xcells, eval_tmp, eval_const, put_at, put_none, fr0_at, cells_agg, cells_int, cells_bool, cells_string, cells_ptr, cells_slice, notTuple, tab, iv_all, okD, isAggD, hget_app, hget_app0, hget_cons0, hget_cons, set_app, set_app0, setR, setR_one, QL_nil, QL_cons, QLc_val, stepQ_t, stepQ_f, stepQC_n, stepQC_s, stepQX_s, SL_nil, SL_cons, SLc_val, stepS_t, stepS_f, e3]; refine hK _ _ ?_; clear hK K)
      refine aw_seq ?_
      have hy := s1 (77 - j)
      have e4 : (iv .u8 (inD (outD k i) x j).1)[77 - j]? = some (.int .u8 ((inD (outD k i) x j).1.getD (77 - j) 0)) := iv_get _ _ _ (by omega)
      have e5 : inD (outD k i) x (j + 1) = ((inD (outD k i) x j).1.set (77 - j) (((inD (outD k i) x j).1.getD (77 - j) 0 * 256 + (inD (outD k i) x j).2) % 10), ((inD (outD k i) x j).1.getD (77 - j) 0 * 256 + (inD (outD k i) x j).2) / 10) := rfl
      have e6 : ((77 - j : Nat) : Int) < 80 := by omega
      have e7 : 77 - j + 1 ≤ (inD (outD k i) x j).1.length := by omega
      generalize (inD (outD k i) x j).1.getD (77 - j) 0 = y at *
      generalize (inD (outD k i) x j).1 = dd at *
      generalize (inD (outD k i) x j).2 = cc at *
      have w1 : IntKind.i64.wrap y = y := wrap64_in (by omega)
      have w2 : IntKind.i64.wrap (y * 256) = y * 256 := wrap64_in (by omega)
      have w3 : IntKind.i64.wrap (y * 256 + cc) = y * 256 + cc := wrap64_in (by omega)
      have w4 : (y * 256 + cc).tmod 10 = (y * 256 + cc) % 10 := Int.tmod_eq_emod_of_nonneg (by omega)
      have w5 : IntKind.u8.wrap ((y * 256 + cc) % 10) = (y * 256 + cc) % 10 := wrap8_in (by omega)
      have w6 : IntKind.i64.wrap ((y * 256 + cc).tdiv 10) = (y * 256 + cc) / 10 := by rw [Int.tdiv_eq_ediv_of_nonneg (by omega)]; exact wrap64_in (by omega)
      have w7 : IntKind.i64.wrap ((j : Int) + 1) = j + 1 := wrap64_in (by omega)
      (refine aw_ops (by kernel_rfl) (fun K hK => ?_); simp [wb_bool, wb_undef, XL_nil, XL_cons, XLc_val, XLc_call, step1_eq, stepW_t, stepW_f, stepC_n, stepC_s, stepX_s, stepX_n, stepN_s, calleeX, oneV, xop_eq, xopR_s, xopR_n, wantedA_eq, wantedG_n, wantedG_s, plain1_int, plain1_bool, plain1_string, bits_i64, bits_u64, bits_u32, bits_u16, bits_u8, xeqA, xagg, xcmp, xarr, allK_iv, num_iv, calleeOf, xread, xeff, xbin, xint, xnil, xun, xstr, xload, xconv, xpart, xfield, xfieldAddr, xindexAddr, xindex, bnd, asInt?, xslice, xlen, xmin, xmax, xbuild, xfill, xappend, xapp2, xappstr, xappmk, xcap, xcopy, xcells, eval_tmp, eval_const, put_at, put_none, fr0_at, cells_agg, cells_int, cells_bool, cells_string, cells_ptr, cells_slice, notTuple, tab, iv_all, okD, isAggD, hget_app, hget_app0, hget_cons0, hget_cons, set_app, set_app0, setR, setR_one, QL_nil, QL_cons, QLc_val, stepQ_t, stepQ_f, stepQC_n, stepQC_s, stepQX_s, SL_nil, SL_cons, SLc_val, stepS_t, stepS_f, h3, h6, e4, e6, w1, w2, w3]; refine hK _ _ ?_; clear hK K)
      (refine aw_ops (by kernel_rfl) (fun K hK => ?_); simp [wb_bool, wb_undef, XL_nil, XL_cons, XLc_val, XLc_call, step1_eq, stepW_t, stepW_f, stepC_n, stepC_s, stepX_s, stepX_n, stepN_s, calleeX, oneV, xop_eq, xopR_s, xopR_n, wantedA_eq, wantedG_n, wantedG_s, plain1_int, plain1_bool, plain1_string, bits_i64, bits_u64, bits_u32, bits_u16, bits_u8, xeqA, xagg, xcmp, xarr, allK_iv, num_iv, calleeOf, xread, xeff, xbin, xint, xnil, xun, xstr, xload, xconv, xpart, xfield, xfieldAddr, xindexAddr, xindex, bnd, asInt?, xslice, xlen, xmin, xmax, xbuild, xfill, xappend, xapp2, xappstr, xappmk, xcap, xcopy, xcells, eval_tmp, eval_const, put_at, put_none, fr0_at, cells_agg, cells_int, cells_bool, cells_string, cells_ptr, cells_slice, notTuple, tab, iv_all, okD, isAggD, hget_app, hget_app0, hget_cons0, hget_cons, set_app, set_app0, setR, setR_one, QL_nil, QL_cons, QLc_val, stepQ_t, stepQ_f, stepQC_n, stepQC_s, stepQX_s, SL_nil, SL_cons, SLc_val, stepS_t, stepS_f, h3, e6, e7, w4, w5, w6, iv_set]; refine hK _ _ ?_; clear hK K)
      (refine aw_ops (by kernel_rfl) (fun K hK => ?_); simp [wb_bool, wb_undef, XL_nil, XL_cons, XLc_val, XLc_call, step1_eq, stepW_t, stepW_f, stepC_n, stepC_s, stepX_s, stepX_n, stepN_s, calleeX, oneV, xop_eq, xopR_s, xopR_n, wantedA_eq, wantedG_n, wantedG_s, plain1_int, plain1_bool, plain1_string, bits_i64, bits_u64, bits_u32, bits_u16, bits_u8, xeqA, xagg, xcmp, xarr, allK_iv, num_iv, calleeOf, xread, xeff, xbin, xint, xnil, xun, xstr, xload, xconv, xpart, xfield, xfieldAddr, xindexAddr, xindex, bnd, asInt?, xslice, xlen, xmin, xmax, xbuild, xfill, xappend, xapp2, xappstr, xappmk, xcap, xcopy, xcells, eval_tmp, eval_const, put_at, put_none, fr0_at, cells_agg, cells_int, cells_bool, cells_string, cells_ptr, cells_slice, notTuple, tab, iv_all, okD, isAggD, hget_app, hget_app0, hget_cons0, hget_cons, set_app, set_app0, setR, setR_one, QL_nil, QL_cons, QLc_val, stepQ_t, stepQ_f, stepQC_n, stepQC_s, stepQX_s, SL_nil, SL_cons, SLc_val, stepS_t, stepS_f, h16, w7]; refine hK _ _ ?_; clear hK K)
      exact ⟨q' - 1, by omega, j + 1, by omega, by simp [put_at, put_none], by rw [e5]; simp [put_at, put_none], by simp [put_at, put_none, h11], by simp [put_at, put_none, h10], by simp [put_at, put_none, h2], by simp [put_at, put_none, h3], by rw [e5]⟩
    · refine aw_f (by simp [eval_tmp, put_at, hjt]) (by kernel_rfl) ?_
      obtain rfl : j = 78 := by omega
      refine aw_exit ?_
      have w7 : IntKind.i64.wrap ((i : Int) + 1) = i + 1 := wrap64_in (by omega)
      (refine aw_ops (by kernel_rfl) (fun K hK => ?_); simp [wb_bool, wb_undef, XL_nil, XL_cons, XLc_val, XLc_call, step1_eq, stepW_t, stepW_f, stepC_n, stepC_s, stepX_s, stepX_n, stepN_s, calleeX, oneV, xop_eq, xopR_s, xopR_n, wantedA_eq, wantedG_n, wantedG_s, plain1_int, plain1_bool, plain1_string, bits_i64, bits_u64, bits_u32, bits_u16, bits_u8, xeqA, xagg, xcmp, xarr, allK_iv, num_iv, calleeOf, xread, xeff, xbin, xint, xnil, xun, xstr, xload, xconv, xpart, xfield, xfieldAddr, xindexAddr, xindex, bnd, asInt?, xslice, xlen, xmin, xmax, xbuild, xfill, xappend, xapp2, xappstr, xappmk, xcap, xcopy, xcells, eval_tmp, eval_const, put_at, put_none, fr0_at, cells_agg, cells_int, cells_bool, cells_string, cells_ptr, cells_slice, notTuple, tab, iv_all, okD, isAggD, hget_app, hget_app0, hget_cons0, hget_cons, set_app, set_app0, setR, setR_one, QL_nil, QL_cons, QLc_val, stepQ_t, stepQ_f, stepQC_n, stepQC_s, stepQX_s, SL_nil, SL_cons, SLc_val, stepS_t, stepS_f, h11, w7]; refine hK _ _ ?_; clear hK K)
      exact ⟨q - 1, by omega, i + 1, by omega, by simp [put_at, put_none], by simp [put_at, put_none, h10], by simp [put_at, put_none, h2], by simp [put_at, put_none, h3], by rw [outD, hxx.out]⟩
  · refine aw_f (by simp [eval_tmp, put_at, hlt]) (by kernel_rfl) ?_
    obtain rfl : i = 32 := by omega
    refine aw_exit ?_
    refine aw_seq ?_
    have C := checked_vc (outD k 32) ho2 ho1.byte
    refine aw_ops (by kernel_rfl) (fun K hK => ?_)
    simp [wb_bool, wb_undef, XL_nil, XL_cons, XLc_val, XLc_call, step1_eq, stepW_t, stepW_f, stepC_n, stepC_s, stepX_s, stepX_n, stepN_s, calleeX, oneV, xop_eq, xopR_s, xopR_n, wantedA_eq, wantedG_n, wantedG_s, plain1_int, plain1_bool, plain1_string, bits_i64, bits_u64, bits_u32, bits_u16, bits_u8, xeqA, xagg, xcmp, xarr, allK_iv, num_iv, calleeOf, xread, xeff, xbin, xint, xnil, xun, xstr, xload, xconv, xpart, xfield, xfieldAddr, xindexAddr, xindex, bnd, asInt?, xslice, xlen, xmin, xmax, xbuild, xfill, xappend, xapp2, xappstr, xappmk, xcap, xcopy, xcells, eval_tmp, eval_const, put_at, put_none, fr0_at, cells_agg, cells_int, cells_bool, cells_string, cells_ptr, cells_slice, notTuple, tab, iv_all, okD, isAggD, hget_app, hget_app0, hget_cons0, hget_cons, set_app, set_app0, setR, setR_one, QL_nil, QL_cons, QLc_val, stepQ_t, stepQ_f, stepQC_n, stepQC_s, stepQX_s, SL_nil, SL_cons, SLc_val, stepS_t, stepS_f, h3, ho2, List.take_of_length_le]
    refine ⟨by kernel_rfl, ac_of_vc (by simp [pv_iv, pv_int, pv_bool, pv_string, pv_tup2, pv_tup3, iv_plain, p2_int, p2_bool, p2_string]) C ?_⟩
    simp [wb_bool, wb_undef, XL_nil, XL_cons, XLc_val, XLc_call, step1_eq, stepW_t, stepW_f, stepC_n, stepC_s, stepX_s, stepX_n, stepN_s, calleeX, oneV, xop_eq, xopR_s, xopR_n, wantedA_eq, wantedG_n, wantedG_s, plain1_int, plain1_bool, plain1_string, bits_i64, bits_u64, bits_u32, bits_u16, bits_u8, xeqA, xagg, xcmp, xarr, allK_iv, num_iv, calleeOf, xread, xeff, xbin, xint, xnil, xun, xstr, xload, xconv, xpart, xfield, xfieldAddr, xindexAddr, xindex, bnd, asInt?, xslice, xlen, xmin, xmax, xbuild, xfill, xappend, xapp2, xappstr, xappmk, xcap, xcopy, xcells, eval_tmp, eval_const, put_at, put_none, fr0_at, cells_agg, cells_int, cells_bool, cells_string, cells_ptr, cells_slice, notTuple, tab, iv_all, okD, isAggD, hget_app, hget_app0, hget_cons0, hget_cons, set_app, set_app0, setR, setR_one, QL_nil, QL_cons, QLc_val, stepQ_t, stepQ_f, stepQC_n, stepQC_s, stepQX_s, SL_nil, SL_cons, SLc_val, stepS_t, stepS_f, h2, ho2, checkedF_len, setR_all]
    refine hK _ _ ?_; clear hK K
    refine aw_ret ?_
    simp [RQ, resL, resV, xload, tab, okD, isAggD, hget_cons0, hget_cons, put_at, put_none, h2, checkedF_len, ho2, List.take_of_length_le]
    rfl
end

section
open Go Go.RowKit
set_option linter.unusedSimpArgs false
set_option maxRecDepth 100000
set_option maxHeartbeats 1000000

def mid (l : List Int) (i : Nat) : List Int := if 0 < i ∧ i % 5 = 0 then l ++ [32] else l
def tx (d : List Int) : Nat → List Int
  | 0 => []
  | i + 1 => mid (tx d i) i ++ [48 + d.getD i 0]
theorem tx_len (d : List Int) (i : Nat) : (tx d i).length ≤ 2 * i := by
  induction i with
  | zero => simp [tx]
  | succ i ih =>
    simp only [tx, mid]
    split <;> simp <;> omega

theorem text_vc (d : List Int) (hd : d.length = 80) (hb : Dig d) : VC Tryd.prog 12 #[.agg (iv .u8 d).toArray] (.string (strOfNums (tx d 80))) := by
  refine vc_of_ac (by simp [pv_iv, pv_int, pv_bool, pv_string, pv_tup2, pv_tup3, iv_plain, p2_int, p2_bool, p2_string]) rfl ?_
  refine ac_of_aw Tryd.func12 rfl Tryd.ntmps12 Tryd.results12 (by simp) ?_
  refine aw_seq ?_
  (refine aw_ops (by kernel_rfl) (fun K hK => ?_); simp [wb_bool, wb_undef, XL_nil, XL_cons, XLc_val, XLc_call, step1_eq, stepW_t, stepW_f, stepC_n, stepC_s, stepX_s, stepX_n, stepN_s, calleeX, oneV, xop_eq, xopR_s, xopR_n, wantedA_eq, wantedG_n, wantedG_s, plain1_int, plain1_bool, plain1_string, bits_i64, bits_u64, bits_u32, bits_u16, bits_u8, xeqA, xagg, xcmp, xarr, allK_iv, num_iv, calleeOf, xread, xeff, xbin, xint, xnil, xun, xstr, xload, xconv, xpart, xfield, xfieldAddr, xindexAddr, xindex, bnd, asInt?, xslice, xlen, xmin, xmax, xbuild, xfill, xappend, xapp2, xappstr, xappmk, xcap, xcopy, xcells, eval_tmp, eval_const, put_at, put_none, fr0_at, cells_agg, cells_int, cells_bool, cells_string, cells_ptr, cells_slice, notTuple, tab, iv_all, okD, isAggD, hget_app, hget_app0, hget_cons0, hget_cons, set_app, set_app0, setR, setR_one, QL_nil, QL_cons, QLc_val, stepQ_t, stepQ_f, stepQC_n, stepQC_s, stepQX_s, SL_nil, SL_cons, SLc_val, stepS_t, stepS_f]; refine hK _ _ ?_; clear hK K)
  refine aw_seq ?_
  (refine aw_ops (by kernel_rfl) (fun K hK => ?_); simp [wb_bool, wb_undef, XL_nil, XL_cons, XLc_val, XLc_call, step1_eq, stepW_t, stepW_f, stepC_n, stepC_s, stepX_s, stepX_n, stepN_s, calleeX, oneV, xop_eq, xopR_s, xopR_n, wantedA_eq, wantedG_n, wantedG_s, plain1_int, plain1_bool, plain1_string, bits_i64, bits_u64, bits_u32, bits_u16, bits_u8, xeqA, xagg, xcmp, xarr, allK_iv, num_iv, calleeOf, xread, xeff, xbin, xint, xnil, xun, xstr, xload, xconv, xpart, xfield, xfieldAddr, xindexAddr, xindex, bnd, asInt?, xslice, xlen, xmin, xmax, xbuild, xfill, xappend, xapp2, xappstr, xappmk, xcap, xcopy, xcells, eval_tmp, eval_const, put_at, put_none, fr0_at, cells_agg, cells_int, cells_bool, cells_string, cells_ptr, cells_slice, notTuple, tab, iv_all, okD, isAggD, hget_app, hget_app0, hget_cons0, hget_cons, set_app, set_app0, setR, setR_one, QL_nil, QL_cons, QLc_val, stepQ_t, stepQ_f, stepQC_n, stepQC_s, stepQX_s, SL_nil, SL_cons, SLc_val, stepS_t, stepS_f]; refine hK _ _ ?_; clear hK K)
  refine aw_seq ?_
  refine aw_seq ?_
  (refine aw_ops (by kernel_rfl) (fun K hK => ?_); simp [wb_bool, wb_undef, XL_nil, XL_cons, XLc_val, XLc_call, step1_eq, stepW_t, stepW_f, stepC_n, stepC_s, stepX_s, stepX_n, stepN_s, calleeX, oneV, xop_eq, xopR_s, xopR_n, wantedA_eq, wantedG_n, wantedG_s, plain1_int, plain1_bool, plain1_string, bits_i64, bits_u64, bits_u32, bits_u16, bits_u8, xeqA, xagg, xcmp, xarr, allK_iv, num_iv, calleeOf, xread, xeff, xbin, xint, xnil, xun, xstr, xload, xconv, xpart, xfield, xfieldAddr, xindexAddr, xindex, bnd, asInt?, xslice, xlen, xmin, xmax, xbuild, xfill, xappend, xapp2, xappstr, xappmk, xcap, xcopy, xcells, eval_tmp, eval_const, put_at, put_none, fr0_at, cells_agg, cells_int, cells_bool, cells_string, cells_ptr, cells_slice, notTuple, tab, iv_all, okD, isAggD, hget_app, hget_app0, hget_cons0, hget_cons, set_app, set_app0, setR, setR_one, QL_nil, QL_cons, QLc_val, stepQ_t, stepQ_f, stepQC_n, stepQC_s, stepQX_s, SL_nil, SL_cons, SLc_val, stepS_t, stepS_f]; refine hK _ _ ?_; clear hK K)
  refine aw_block ?_
  refine aw_loop (fun q α H => ∃ i : Nat, i + q = 80 ∧ α 5 = .int .i64 i ∧ α 1 = .pointer (some ⟨0, 0, none⟩) ∧ OwnC 1 H (α 3) 5 1 (iv .u8 (tx d i)) ∧ hget H 0 = some ⟨iv .u8 d, 32, none⟩ ∧ 1 ≤ H.length) 80 ?_ ?_
  · exact ⟨0, rfl, rfl, rfl, .inl ⟨rfl, rfl⟩, rfl, Nat.le_refl _⟩
  rintro q α H ⟨i, hi, h5, h1, h3, h0, hl⟩
  have hlen := tx_len d i
  refine aw_seq ?_
  (refine aw_ops (by kernel_rfl) (fun K hK => ?_); simp [wb_bool, wb_undef, XL_nil, XL_cons, XLc_val, XLc_call, step1_eq, stepW_t, stepW_f, stepC_n, stepC_s, stepX_s, stepX_n, stepN_s, calleeX, oneV, xop_eq, xopR_s, xopR_n, wantedA_eq, wantedG_n, wantedG_s, plain1_int, plain1_bool, plain1_string, bits_i64, bits_u64, bits_u32, bits_u16, bits_u8, xeqA, xagg, xcmp, xarr, allK_iv, num_iv, calleeOf, xread, xeff, xbin, xint, xnil, xun, xstr, xload, xconv, xpart, xfield, xfieldAddr, xindexAddr, xindex, bnd, asInt?, xslice, xlen, xmin, xmax, xbuild, xfill, xappend, xapp2, xappstr, xappmk, xcap, xcopy, xcells, eval_tmp, eval_const, put_at, put_none, fr0_at, cells_agg, cells_int, cells_bool, cells_string, cells_ptr, cells_slice, notTuple, tab, iv_all, okD, isAggD, hget_app, hget_app0, hget_cons0, hget_cons, set_app, set_app0, setR, setR_one, QL_nil, QL_cons, QLc_val, stepQ_t, stepQ_f, stepQC_n, stepQC_s, stepQX_s, SL_nil, SL_cons, SLc_val, stepS_t, stepS_f, h5]; refine hK _ _ ?_; clear hK K)
  refine aw_seq ?_
  by_cases hlt : (i : Int) < 80
  · refine aw_t (by simp [eval_tmp, put_at, hlt]) (by kernel_rfl) ?_
    refine aw_skip ?_
    refine aw_seq ?_
    refine aw_block ?_
    refine aw_seq ?_
    (refine aw_ops (by kernel_rfl) (fun K hK => ?_); simp [wb_bool, wb_undef, XL_nil, XL_cons, XLc_val, XLc_call, step1_eq, stepW_t, stepW_f, stepC_n, stepC_s, stepX_s, stepX_n, stepN_s, calleeX, oneV, xop_eq, xopR_s, xopR_n, wantedA_eq, wantedG_n, wantedG_s, plain1_int, plain1_bool, plain1_string, bits_i64, bits_u64, bits_u32, bits_u16, bits_u8, xeqA, xagg, xcmp, xarr, allK_iv, num_iv, calleeOf, xread, xeff, xbin, xint, xnil, xun, xstr, xload, xconv, xpart, xfield, xfieldAddr, xindexAddr, xindex, bnd, asInt?, xslice, xlen, xmin, xmax, xbuild, xfill, xappend, xapp2, xappstr, xappmk, xcap, xcopy, xcells, eval_tmp, eval_const, put_at, put_none, fr0_at, cells_agg, cells_int, cells_bool, cells_string, cells_ptr, cells_slice, notTuple, tab, iv_all, okD, isAggD, hget_app, hget_app0, hget_cons0, hget_cons, set_app, set_app0, setR, setR_one, QL_nil, QL_cons, QLc_val, stepQ_t, stepQ_f, stepQC_n, stepQC_s, stepQX_s, SL_nil, SL_cons, SLc_val, stepS_t, stepS_f, h5]; refine hK _ _ ?_; clear hK K)
    refine aw_seq ?_
    refine aw_cut (fun α H => α 5 = .int .i64 i ∧ α 4 = .int .i64 i ∧ α 1 = .pointer (some ⟨0, 0, none⟩) ∧ OwnC 1 H (α 3) 5 1 (iv .u8 (mid (tx d i) i)) ∧ hget H 0 = some ⟨iv .u8 d, 32, none⟩ ∧ 1 ≤ H.length) ?_ ?_
    · refine aw_seq ?_
      by_cases hi0 : 0 < i
      · have hm : (i : Int).tmod 5 = ((i % 5 : Nat) : Int) := by rw [Int.tmod_eq_emod_of_nonneg (by omega)]; omega
        by_cases h5' : i % 5 = 0
        · have hmid : mid (tx d i) i = tx d i ++ [32] := if_pos ⟨by omega, h5'⟩
          (refine aw_ops (by kernel_rfl) (fun K hK => ?_); simp [wb_bool, wb_undef, XL_nil, XL_cons, XLc_val, XLc_call, step1_eq, stepW_t, stepW_f, stepC_n, stepC_s, stepX_s, stepX_n, stepN_s, calleeX, oneV, xop_eq, xopR_s, xopR_n, wantedA_eq, wantedG_n, wantedG_s, plain1_int, plain1_bool, plain1_string, bits_i64, bits_u64, bits_u32, bits_u16, bits_u8, xeqA, xagg, xcmp, xarr, allK_iv, num_iv, calleeOf, xread, xeff, xbin, xint, xnil, xun, xstr, xload, xconv, xpart, xfield, xfieldAddr, xindexAddr, xindex, bnd, asInt?, xslice, xlen, xmin, xmax, xbuild, xfill, xappend, xapp2, xappstr, xappmk, xcap, xcopy, xcells, eval_tmp, eval_const, put_at, put_none, fr0_at, cells_agg, cells_int, cells_bool, cells_string, cells_ptr, cells_slice, notTuple, tab, iv_all, okD, isAggD, hget_app, hget_app0, hget_cons0, hget_cons, set_app, set_app0, setR, setR_one, QL_nil, QL_cons, QLc_val, stepQ_t, stepQ_f, stepQC_n, stepQC_s, stepQX_s, SL_nil, SL_cons, SLc_val, stepS_t, stepS_f, hi0, hm, h5']; refine hK _ _ ?_; clear hK K)
          refine aw_t (by simp [eval_tmp, put_at]) (by kernel_rfl) ?_
          obtain ⟨v', H', hap, ho, hlow⟩ := own_append (P := Tryd.prog) (nro := 0) (lo := 1) (t := 40) (e := 5) (H := H ++ [some ⟨[.int .u8 32], 5, some 1⟩]) (x := .slice (some ⟨H.length, 0, none⟩) 1 1) (sz := 1) (news := [.int .u8 32])
            (by simp [tab]) (by simp [tab]) (by omega) (by simp [tab, cells_int]) (h3.push _) (by simp) (by omega) (by simp) (by simp [xcells, hget_app0, hget_cons0]) (by simp) (by simp) (by simp [tab]; omega) (by simp [maxLen]; omega)
          (refine aw_ops (by kernel_rfl) (fun K hK => ?_); simp [wb_bool, wb_undef, XL_nil, XL_cons, XLc_val, XLc_call, step1_eq, stepW_t, stepW_f, stepC_n, stepC_s, stepX_s, stepX_n, stepN_s, calleeX, oneV, xop_eq, xopR_s, xopR_n, wantedA_eq, wantedG_n, wantedG_s, plain1_int, plain1_bool, plain1_string, bits_i64, bits_u64, bits_u32, bits_u16, bits_u8, xeqA, xagg, xcmp, xarr, allK_iv, num_iv, calleeOf, xread, xeff, xbin, xint, xnil, xun, xstr, xload, xconv, xpart, xfield, xfieldAddr, xindexAddr, xindex, bnd, asInt?, xslice, xlen, xmin, xmax, xbuild, xfill, xapp2, xappstr, xappmk, xcap, xcopy, xcells, eval_tmp, eval_const, put_at, put_none, fr0_at, cells_agg, cells_int, cells_bool, cells_string, cells_ptr, cells_slice, notTuple, tab, iv_all, okD, isAggD, hget_app, hget_app0, hget_cons0, hget_cons, set_app, set_app0, setR, setR_one, QL_nil, QL_cons, QLc_val, stepQ_t, stepQ_f, stepQC_n, stepQC_s, stepQX_s, SL_nil, SL_cons, SLc_val, stepS_t, stepS_f, hap]; refine hK _ _ ?_; clear hK K)
          refine ⟨by simp [put_at, put_none, h5], by simp [put_at, put_none], by simp [put_at, put_none, h1], ?_, ?_, hlow.2⟩
          · simp [put_at, put_none]
            rw [hmid, iv_append]
            exact ho
          · rw [hlow.1 0 (by omega), hget_left (by omega)]; exact h0
        · have hmid : mid (tx d i) i = tx d i := if_neg (by omega)
          have h5n : ¬ ((i % 5 : Nat) : Int) = 0 := by omega
          have h5m : ¬ (i : Int) % 5 = 0 := by omega
          (refine aw_ops (by kernel_rfl) (fun K hK => ?_); simp [wb_bool, wb_undef, XL_nil, XL_cons, XLc_val, XLc_call, step1_eq, stepW_t, stepW_f, stepC_n, stepC_s, stepX_s, stepX_n, stepN_s, calleeX, oneV, xop_eq, xopR_s, xopR_n, wantedA_eq, wantedG_n, wantedG_s, plain1_int, plain1_bool, plain1_string, bits_i64, bits_u64, bits_u32, bits_u16, bits_u8, xeqA, xagg, xcmp, xarr, allK_iv, num_iv, calleeOf, xread, xeff, xbin, xint, xnil, xun, xstr, xload, xconv, xpart, xfield, xfieldAddr, xindexAddr, xindex, bnd, asInt?, xslice, xlen, xmin, xmax, xbuild, xfill, xappend, xapp2, xappstr, xappmk, xcap, xcopy, xcells, eval_tmp, eval_const, put_at, put_none, fr0_at, cells_agg, cells_int, cells_bool, cells_string, cells_ptr, cells_slice, notTuple, tab, iv_all, okD, isAggD, hget_app, hget_app0, hget_cons0, hget_cons, set_app, set_app0, setR, setR_one, QL_nil, QL_cons, QLc_val, stepQ_t, stepQ_f, stepQC_n, stepQC_s, stepQX_s, SL_nil, SL_cons, SLc_val, stepS_t, stepS_f, hi0, hm, h5n]; refine hK _ _ ?_; clear hK K)
          refine aw_f (by simp [eval_tmp, put_at, h5m]) (by kernel_rfl) ?_
          refine aw_skip ?_
          exact ⟨by simp [put_at, put_none, h5], by simp [put_at, put_none], by simp [put_at, put_none, h1], by rw [hmid]; simp [put_at, put_none, h3], h0, hl⟩
      · have hmid : mid (tx d i) i = tx d i := if_neg (by omega)
        (refine aw_ops (by kernel_rfl) (fun K hK => ?_); simp [wb_bool, wb_undef, XL_nil, XL_cons, XLc_val, XLc_call, step1_eq, stepW_t, stepW_f, stepC_n, stepC_s, stepX_s, stepX_n, stepN_s, calleeX, oneV, xop_eq, xopR_s, xopR_n, wantedA_eq, wantedG_n, wantedG_s, plain1_int, plain1_bool, plain1_string, bits_i64, bits_u64, bits_u32, bits_u16, bits_u8, xeqA, xagg, xcmp, xarr, allK_iv, num_iv, calleeOf, xread, xeff, xbin, xint, xnil, xun, xstr, xload, xconv, xpart, xfield, xfieldAddr, xindexAddr, xindex, bnd, asInt?, xslice, xlen, xmin, xmax, xbuild, xfill, xappend, xapp2, xappstr, xappmk, xcap, xcopy, xcells, eval_tmp, eval_const, put_at, put_none, fr0_at, cells_agg, cells_int, cells_bool, cells_string, cells_ptr, cells_slice, notTuple, tab, iv_all, okD, isAggD, hget_app, hget_app0, hget_cons0, hget_cons, set_app, set_app0, setR, setR_one, QL_nil, QL_cons, QLc_val, stepQ_t, stepQ_f, stepQC_n, stepQC_s, stepQX_s, SL_nil, SL_cons, SLc_val, stepS_t, stepS_f, hi0]; refine hK _ _ ?_; clear hK K)
        refine aw_f (by simp [eval_tmp, put_at]) (by kernel_rfl) ?_
        refine aw_skip ?_
        exact ⟨by simp [put_at, put_none, h5], by simp [put_at, put_none], by simp [put_at, put_none, h1], by rw [hmid]; simp [put_at, put_none, h3], h0, hl⟩
    · clear h5 h1 h3 h0 hl
      rintro α H ⟨h5, h4, h1, h3, h0, hl⟩
      have hx := hb i
      have e1 : (iv .u8 d)[i]? = some (.int .u8 (d.getD i 0)) := iv_get _ _ _ (by omega)
      have e2 : IntKind.u8.wrap (48 + d.getD i 0) = 48 + d.getD i 0 := wrap8_in (by omega)
      have e3 : IntKind.i64.wrap ((i : Int) + 1) = i + 1 := wrap64_in (by omega)
      have htx : tx d (i + 1) = mid (tx d i) i ++ [48 + d.getD i 0] := rfl
      have hml : (mid (tx d i) i).length ≤ 2 * i + 1 := by
        unfold mid
        split
        · simp; omega
        · omega
      generalize d.getD i 0 = x at *
      obtain ⟨v', H', hap, ho, hlow⟩ := own_append (P := Tryd.prog) (nro := 0) (lo := 1) (t := 40) (e := 5) (H := H ++ [some ⟨[.int .u8 (48 + x)], 5, some 1⟩]) (x := .slice (some ⟨H.length, 0, none⟩) 1 1) (sz := 1) (news := [.int .u8 (48 + x)])
        (by simp [tab]) (by simp [tab]) (by omega) (by simp [tab, cells_int]) (h3.push _) (by simp) (by omega) (by simp) (by simp [xcells, hget_app0, hget_cons0]) (by simp) (by simp) (by simp [tab]; omega) (by simp [maxLen]; omega)
      have hlt80 : (i : Int) < 80 := by omega
      (refine aw_ops (by kernel_rfl) (fun K hK => ?_); simp [wb_bool, wb_undef, XL_nil, XL_cons, XLc_val, XLc_call, step1_eq, stepW_t, stepW_f, stepC_n, stepC_s, stepX_s, stepX_n, stepN_s, calleeX, oneV, xop_eq, xopR_s, xopR_n, wantedA_eq, wantedG_n, wantedG_s, plain1_int, plain1_bool, plain1_string, bits_i64, bits_u64, bits_u32, bits_u16, bits_u8, xeqA, xagg, xcmp, xarr, allK_iv, num_iv, calleeOf, xread, xeff, xbin, xint, xnil, xun, xstr, xload, xconv, xpart, xfield, xfieldAddr, xindexAddr, xindex, bnd, asInt?, xslice, xlen, xmin, xmax, xbuild, xfill, xapp2, xappstr, xappmk, xcap, xcopy, xcells, eval_tmp, eval_const, put_at, put_none, fr0_at, cells_agg, cells_int, cells_bool, cells_string, cells_ptr, cells_slice, notTuple, tab, iv_all, okD, isAggD, hget_app, hget_app0, hget_cons0, hget_cons, set_app, set_app0, setR, setR_one, QL_nil, QL_cons, QLc_val, stepQ_t, stepQ_f, stepQC_n, stepQC_s, stepQX_s, SL_nil, SL_cons, SLc_val, stepS_t, stepS_f, h4, h1, h0, hlt80, e1, e2, hap]; refine hK _ _ ?_; clear hK K)
      (refine aw_ops (by kernel_rfl) (fun K hK => ?_); simp [wb_bool, wb_undef, XL_nil, XL_cons, XLc_val, XLc_call, step1_eq, stepW_t, stepW_f, stepC_n, stepC_s, stepX_s, stepX_n, stepN_s, calleeX, oneV, xop_eq, xopR_s, xopR_n, wantedA_eq, wantedG_n, wantedG_s, plain1_int, plain1_bool, plain1_string, bits_i64, bits_u64, bits_u32, bits_u16, bits_u8, xeqA, xagg, xcmp, xarr, allK_iv, num_iv, calleeOf, xread, xeff, xbin, xint, xnil, xun, xstr, xload, xconv, xpart, xfield, xfieldAddr, xindexAddr, xindex, bnd, asInt?, xslice, xlen, xmin, xmax, xbuild, xfill, xappend, xapp2, xappstr, xappmk, xcap, xcopy, xcells, eval_tmp, eval_const, put_at, put_none, fr0_at, cells_agg, cells_int, cells_bool, cells_string, cells_ptr, cells_slice, notTuple, tab, iv_all, okD, isAggD, hget_app, hget_app0, hget_cons0, hget_cons, set_app, set_app0, setR, setR_one, QL_nil, QL_cons, QLc_val, stepQ_t, stepQ_f, stepQC_n, stepQC_s, stepQX_s, SL_nil, SL_cons, SLc_val, stepS_t, stepS_f, h5, e3]; refine hK _ _ ?_; clear hK K)
      refine ⟨q - 1, by omega, i + 1, by omega, by simp [put_at, put_none], by simp [put_at, put_none, h1], ?_, ?_, hlow.2⟩
      · rw [htx, iv_append]
        simp [put_at, put_none]
        exact ho
      · rw [hlow.1 0 (by omega), hget_left (by omega)]; exact h0
  · refine aw_f (by simp [eval_tmp, put_at, hlt]) (by kernel_rfl) ?_
    obtain rfl : i = 80 := by omega
    refine aw_exit ?_
    refine aw_seq ?_
    have hcv := own_conv (P := Tryd.prog) (s := 40) (d := 9) (by simp [tab]) (by simp [tab]) (by simp [tab]) h3
    (refine aw_ops (by kernel_rfl) (fun K hK => ?_); simp [wb_bool, wb_undef, XL_nil, XL_cons, XLc_val, XLc_call, step1_eq, stepW_t, stepW_f, stepC_n, stepC_s, stepX_s, stepX_n, stepN_s, calleeX, oneV, xop_eq, xopR_s, xopR_n, wantedA_eq, wantedG_n, wantedG_s, plain1_int, plain1_bool, plain1_string, bits_i64, bits_u64, bits_u32, bits_u16, bits_u8, xeqA, xagg, xcmp, xarr, allK_iv, num_iv, calleeOf, xread, xeff, xbin, xint, xnil, xun, xstr, xload, xpart, xfield, xfieldAddr, xindexAddr, xindex, bnd, asInt?, xslice, xlen, xmin, xmax, xbuild, xfill, xappend, xapp2, xappstr, xappmk, xcap, xcopy, xcells, eval_tmp, eval_const, put_at, put_none, fr0_at, cells_agg, cells_int, cells_bool, cells_string, cells_ptr, cells_slice, notTuple, tab, iv_all, okD, isAggD, hget_app, hget_app0, hget_cons0, hget_cons, set_app, set_app0, setR, setR_one, QL_nil, QL_cons, QLc_val, stepQ_t, stepQ_f, stepQC_n, stepQC_s, stepQX_s, SL_nil, SL_cons, SLc_val, stepS_t, stepS_f, hcv]; refine hK _ _ ?_; clear hK K)
    (refine aw_ret ?_; simp [thenQ_ret, inBlockQ_ret, RQ, resL, resV, xload, tab, okD, isAggD, hget_app, hget_app0, hget_cons0, hget_cons, notTuple, put_at, put_none])
end

section
open Go Go.RowKit
set_option linter.unusedSimpArgs false
set_option maxRecDepth 100000
set_option maxHeartbeats 1000000

/-- Is the digit at this place one, and a blank ahead of it where a group begins? -/
def okAt (s : ByteArray) (i : Nat) : Bool := !(decide (0 < i) && decide (i % 5 = 0) && decide (gb s (i + i / 5 - 1) ≠ 32)) && decide (48 ≤ gb s (i + i / 5)) && decide (gb s (i + i / 5) ≤ 57)
def allOk (s : ByteArray) : Nat → Bool
  | 0 => true
  | i + 1 => allOk s i && okAt s i
theorem allOk_not {s : ByteArray} {i : Nat} (h : okAt s i = false) {n : Nat} (hn : i < n) : allOk s n = false := by
  induction n with
  | zero => omega
  | succ n ih =>
    simp only [allOk]
    by_cases e : i = n
    · subst e; simp [h]
    · rw [ih (by omega)]; rfl
def rd (s : ByteArray) : Nat → List Int
  | 0 => zl 80
  | i + 1 => (rd s i).set i (gb s (i + i / 5) - 48)
theorem rd_len (s : ByteArray) (i : Nat) : (rd s i).length = 80 := by
  induction i with
  | zero => simp [rd]
  | succ i ih => simp [rd, ih]
def rdV (s : ByteArray) : Value := if s.size = 95 ∧ allOk s 80 = true then .tuple #[.agg (iv .u8 (rd s 80)).toArray, .bool true] else .tuple #[.agg (iv .u8 (zl 80)).toArray, .bool false]

theorem rdd_vc (s : ByteArray) : VC Tryd.prog 20 #[.string s] (rdV s) := by
  refine vc_of_ac (by simp [pv_iv, pv_int, pv_bool, pv_string, pv_tup2, pv_tup3, iv_plain, p2_int, p2_bool, p2_string]) (by unfold rdV; split <;> simp [pv_iv, pv_int, pv_bool, pv_string, pv_tup2, pv_tup3, iv_plain, p2_int, p2_bool, p2_string]) ?_
  refine ac_of_aw Tryd.func20 rfl Tryd.ntmps20 Tryd.results20 (by simp) ?_
  refine aw_seq ?_
  (refine aw_ops (by kernel_rfl) (fun K hK => ?_); simp [wb_bool, wb_undef, XL_nil, XL_cons, XLc_val, XLc_call, step1_eq, stepW_t, stepW_f, stepC_n, stepC_s, stepX_s, stepX_n, stepN_s, calleeX, oneV, xop_eq, xopR_s, xopR_n, wantedA_eq, wantedG_n, wantedG_s, plain1_int, plain1_bool, plain1_string, bits_i64, bits_u64, bits_u32, bits_u16, bits_u8, xeqA, xagg, xcmp, xarr, allK_iv, num_iv, calleeOf, xread, xeff, xbin, xint, xnil, xun, xstr, xload, xconv, xpart, xfield, xfieldAddr, xindexAddr, xindex, bnd, asInt?, xslice, xlen, xmin, xmax, xbuild, xfill, xappend, xapp2, xappstr, xappmk, xcap, xcopy, xcells, eval_tmp, eval_const, put_at, put_none, fr0_at, cells_agg, cells_int, cells_bool, cells_string, cells_ptr, cells_slice, notTuple, tab, iv_all, okD, isAggD, hget_app, hget_app0, hget_cons0, hget_cons, set_app, set_app0, setR, setR_one, QL_nil, QL_cons, QLc_val, stepQ_t, stepQ_f, stepQC_n, stepQC_s, stepQX_s, SL_nil, SL_cons, SLc_val, stepS_t, stepS_f]; refine hK _ _ ?_; clear hK K)
  refine aw_seq ?_
  (refine aw_ops (by kernel_rfl) (fun K hK => ?_); simp [wb_bool, wb_undef, XL_nil, XL_cons, XLc_val, XLc_call, step1_eq, stepW_t, stepW_f, stepC_n, stepC_s, stepX_s, stepX_n, stepN_s, calleeX, oneV, xop_eq, xopR_s, xopR_n, wantedA_eq, wantedG_n, wantedG_s, plain1_int, plain1_bool, plain1_string, bits_i64, bits_u64, bits_u32, bits_u16, bits_u8, xeqA, xagg, xcmp, xarr, allK_iv, num_iv, calleeOf, xread, xeff, xbin, xint, xnil, xun, xstr, xload, xconv, xpart, xfield, xfieldAddr, xindexAddr, xindex, bnd, asInt?, xslice, xlen, xmin, xmax, xbuild, xfill, xappend, xapp2, xappstr, xappmk, xcap, xcopy, xcells, eval_tmp, eval_const, put_at, put_none, fr0_at, cells_agg, cells_int, cells_bool, cells_string, cells_ptr, cells_slice, notTuple, tab, iv_all, okD, isAggD, hget_app, hget_app0, hget_cons0, hget_cons, set_app, set_app0, setR, setR_one, QL_nil, QL_cons, QLc_val, stepQ_t, stepQ_f, stepQC_n, stepQC_s, stepQX_s, SL_nil, SL_cons, SLc_val, stepS_t, stepS_f]; refine hK _ _ ?_; clear hK K)
  refine aw_seq ?_
  refine aw_seq ?_
  (refine aw_ops (by kernel_rfl) (fun K hK => ?_); simp [wb_bool, wb_undef, XL_nil, XL_cons, XLc_val, XLc_call, step1_eq, stepW_t, stepW_f, stepC_n, stepC_s, stepX_s, stepX_n, stepN_s, calleeX, oneV, xop_eq, xopR_s, xopR_n, wantedA_eq, wantedG_n, wantedG_s, plain1_int, plain1_bool, plain1_string, bits_i64, bits_u64, bits_u32, bits_u16, bits_u8, xeqA, xagg, xcmp, xarr, allK_iv, num_iv, calleeOf, xread, xeff, xbin, xint, xnil, xun, xstr, xload, xconv, xpart, xfield, xfieldAddr, xindexAddr, xindex, bnd, asInt?, xslice, xlen, xmin, xmax, xbuild, xfill, xappend, xapp2, xappstr, xappmk, xcap, xcopy, xcells, eval_tmp, eval_const, put_at, put_none, fr0_at, cells_agg, cells_int, cells_bool, cells_string, cells_ptr, cells_slice, notTuple, tab, iv_all, okD, isAggD, hget_app, hget_app0, hget_cons0, hget_cons, set_app, set_app0, setR, setR_one, QL_nil, QL_cons, QLc_val, stepQ_t, stepQ_f, stepQC_n, stepQC_s, stepQX_s, SL_nil, SL_cons, SLc_val, stepS_t, stepS_f]; refine hK _ _ ?_; clear hK K)
  by_cases hs : (s.size : Int) = 95
  case neg =>
    have hs' : ¬ s.size = 95 := by omega
    refine aw_t (by simp [eval_tmp, put_at, hs, hs']) (by kernel_rfl) ?_
    refine aw_seq ?_
    (refine aw_ops (by kernel_rfl) (fun K hK => ?_); simp [wb_bool, wb_undef, XL_nil, XL_cons, XLc_val, XLc_call, step1_eq, stepW_t, stepW_f, stepC_n, stepC_s, stepX_s, stepX_n, stepN_s, calleeX, oneV, xop_eq, xopR_s, xopR_n, wantedA_eq, wantedG_n, wantedG_s, plain1_int, plain1_bool, plain1_string, bits_i64, bits_u64, bits_u32, bits_u16, bits_u8, xeqA, xagg, xcmp, xarr, allK_iv, num_iv, calleeOf, xread, xeff, xbin, xint, xnil, xun, xstr, xload, xconv, xpart, xfield, xfieldAddr, xindexAddr, xindex, bnd, asInt?, xslice, xlen, xmin, xmax, xbuild, xfill, xappend, xapp2, xappstr, xappmk, xcap, xcopy, xcells, eval_tmp, eval_const, put_at, put_none, fr0_at, cells_agg, cells_int, cells_bool, cells_string, cells_ptr, cells_slice, notTuple, tab, iv_all, okD, isAggD, hget_app, hget_app0, hget_cons0, hget_cons, set_app, set_app0, setR, setR_one, QL_nil, QL_cons, QLc_val, stepQ_t, stepQ_f, stepQC_n, stepQC_s, stepQX_s, SL_nil, SL_cons, SLc_val, stepS_t, stepS_f, setR_all, List.take_of_length_le]; refine hK _ _ ?_; clear hK K)
    (refine aw_ret ?_; simp [thenQ_ret, inBlockQ_ret, RQ, resL, resV, xload, tab, okD, isAggD, hget_app, hget_app0, hget_cons0, hget_cons, notTuple, put_at, put_none, List.take_of_length_le])
    simp [rdV, hs']
  have hs' : s.size = 95 := by omega
  refine aw_f (by simp [eval_tmp, put_at, hs, hs']) (by kernel_rfl) ?_
  refine aw_skip ?_
  refine aw_seq ?_
  refine aw_seq ?_
  (refine aw_ops (by kernel_rfl) (fun K hK => ?_); simp [wb_bool, wb_undef, XL_nil, XL_cons, XLc_val, XLc_call, step1_eq, stepW_t, stepW_f, stepC_n, stepC_s, stepX_s, stepX_n, stepN_s, calleeX, oneV, xop_eq, xopR_s, xopR_n, wantedA_eq, wantedG_n, wantedG_s, plain1_int, plain1_bool, plain1_string, bits_i64, bits_u64, bits_u32, bits_u16, bits_u8, xeqA, xagg, xcmp, xarr, allK_iv, num_iv, calleeOf, xread, xeff, xbin, xint, xnil, xun, xstr, xload, xconv, xpart, xfield, xfieldAddr, xindexAddr, xindex, bnd, asInt?, xslice, xlen, xmin, xmax, xbuild, xfill, xappend, xapp2, xappstr, xappmk, xcap, xcopy, xcells, eval_tmp, eval_const, put_at, put_none, fr0_at, cells_agg, cells_int, cells_bool, cells_string, cells_ptr, cells_slice, notTuple, tab, iv_all, okD, isAggD, hget_app, hget_app0, hget_cons0, hget_cons, set_app, set_app0, setR, setR_one, QL_nil, QL_cons, QLc_val, stepQ_t, stepQ_f, stepQC_n, stepQC_s, stepQX_s, SL_nil, SL_cons, SLc_val, stepS_t, stepS_f]; refine hK _ _ ?_; clear hK K)
  refine aw_block ?_
  refine aw_loop (fun q α H => ∃ i : Nat, i + q = 80 ∧ allOk s i = true ∧ α 11 = .int .i64 i ∧ α 0 = .string s ∧ α 2 = .pointer (some ⟨0, 0, none⟩) ∧ α 4 = .pointer (some ⟨1, 0, none⟩) ∧
    H = [some ⟨iv .u8 (zl 80), 32, none⟩, some ⟨iv .u8 (rd s i), 32, none⟩]) 80 ?_ ?_
  · exact ⟨0, rfl, rfl, rfl, rfl, rfl, rfl, rfl⟩
  rintro q α H ⟨i, hi, hok, h11, h0, h2, h4, rfl⟩
  have hlen := rd_len s i
  refine aw_seq ?_
  (refine aw_ops (by kernel_rfl) (fun K hK => ?_); simp [wb_bool, wb_undef, XL_nil, XL_cons, XLc_val, XLc_call, step1_eq, stepW_t, stepW_f, stepC_n, stepC_s, stepX_s, stepX_n, stepN_s, calleeX, oneV, xop_eq, xopR_s, xopR_n, wantedA_eq, wantedG_n, wantedG_s, plain1_int, plain1_bool, plain1_string, bits_i64, bits_u64, bits_u32, bits_u16, bits_u8, xeqA, xagg, xcmp, xarr, allK_iv, num_iv, calleeOf, xread, xeff, xbin, xint, xnil, xun, xstr, xload, xconv, xpart, xfield, xfieldAddr, xindexAddr, xindex, bnd, asInt?, xslice, xlen, xmin, xmax, xbuild, xfill, xappend, xapp2, xappstr, xappmk, xcap, xcopy, xcells, eval_tmp, eval_const, put_at, put_none, fr0_at, cells_agg, cells_int, cells_bool, cells_string, cells_ptr, cells_slice, notTuple, tab, iv_all, okD, isAggD, hget_app, hget_app0, hget_cons0, hget_cons, set_app, set_app0, setR, setR_one, QL_nil, QL_cons, QLc_val, stepQ_t, stepQ_f, stepQC_n, stepQC_s, stepQX_s, SL_nil, SL_cons, SLc_val, stepS_t, stepS_f, h11]; refine hK _ _ ?_; clear hK K)
  refine aw_seq ?_
  by_cases hlt : (i : Int) < 80
  · refine aw_t (by simp [eval_tmp, put_at, hlt]) (by kernel_rfl) ?_
    refine aw_skip ?_
    refine aw_seq ?_
    refine aw_block ?_
    refine aw_seq ?_
    (refine aw_ops (by kernel_rfl) (fun K hK => ?_); simp [wb_bool, wb_undef, XL_nil, XL_cons, XLc_val, XLc_call, step1_eq, stepW_t, stepW_f, stepC_n, stepC_s, stepX_s, stepX_n, stepN_s, calleeX, oneV, xop_eq, xopR_s, xopR_n, wantedA_eq, wantedG_n, wantedG_s, plain1_int, plain1_bool, plain1_string, bits_i64, bits_u64, bits_u32, bits_u16, bits_u8, xeqA, xagg, xcmp, xarr, allK_iv, num_iv, calleeOf, xread, xeff, xbin, xint, xnil, xun, xstr, xload, xconv, xpart, xfield, xfieldAddr, xindexAddr, xindex, bnd, asInt?, xslice, xlen, xmin, xmax, xbuild, xfill, xappend, xapp2, xappstr, xappmk, xcap, xcopy, xcells, eval_tmp, eval_const, put_at, put_none, fr0_at, cells_agg, cells_int, cells_bool, cells_string, cells_ptr, cells_slice, notTuple, tab, iv_all, okD, isAggD, hget_app, hget_app0, hget_cons0, hget_cons, set_app, set_app0, setR, setR_one, QL_nil, QL_cons, QLc_val, stepQ_t, stepQ_f, stepQC_n, stepQC_s, stepQX_s, SL_nil, SL_cons, SLc_val, stepS_t, stepS_f, h11]; refine hK _ _ ?_; clear hK K)
    refine aw_seq ?_
    have hrd : rd s (i + 1) = (rd s i).set i (gb s (i + i / 5) - 48) := rfl
    have hoki : okAt s i = (!(decide (0 < i) && decide (i % 5 = 0) && decide (gb s (i + i / 5 - 1) ≠ 32)) && decide (48 ≤ gb s (i + i / 5)) && decide (gb s (i + i / 5) ≤ 57)) := rfl
    obtain ⟨q5, hq5⟩ : ∃ q5, q5 = i / 5 := ⟨_, rfl⟩
    rw [← hq5] at hrd hoki
    obtain ⟨p, hp⟩ : ∃ p, p = i + q5 := ⟨_, rfl⟩
    rw [← hp] at hrd hoki
    obtain ⟨p1, hp1⟩ : ∃ p1, p1 = p - 1 := ⟨_, rfl⟩
    rw [← hp1] at hoki
    have e1 : IntKind.i64.wrap ((i : Int) / 5) = (q5 : Int) := by rw [wrap64_in (by omega)]; omega
    have e2 : IntKind.i64.wrap ((i : Int) + (q5 : Int)) = (p : Int) := by rw [wrap64_in (by omega)]; omega
    (refine aw_ops (by kernel_rfl) (fun K hK => ?_); simp [wb_bool, wb_undef, XL_nil, XL_cons, XLc_val, XLc_call, step1_eq, stepW_t, stepW_f, stepC_n, stepC_s, stepX_s, stepX_n, stepN_s, calleeX, oneV, xop_eq, xopR_s, xopR_n, wantedA_eq, wantedG_n, wantedG_s, plain1_int, plain1_bool, plain1_string, bits_i64, bits_u64, bits_u32, bits_u16, bits_u8, xeqA, xagg, xcmp, xarr, allK_iv, num_iv, calleeOf, xread, xeff, xbin, xint, xnil, xun, xstr, xload, xconv, xpart, xfield, xfieldAddr, xindexAddr, xindex, bnd, asInt?, xslice, xlen, xmin, xmax, xbuild, xfill, xappend, xapp2, xappstr, xappmk, xcap, xcopy, xcells, eval_tmp, eval_const, put_at, put_none, fr0_at, cells_agg, cells_int, cells_bool, cells_string, cells_ptr, cells_slice, notTuple, tab, iv_all, okD, isAggD, hget_app, hget_app0, hget_cons0, hget_cons, set_app, set_app0, setR, setR_one, QL_nil, QL_cons, QLc_val, stepQ_t, stepQ_f, stepQC_n, stepQC_s, stepQX_s, SL_nil, SL_cons, SLc_val, stepS_t, stepS_f, e1, e2]; refine hK _ _ ?_; clear hK K)
    refine aw_seq ?_
    have hpl : (p : Int) < s.size := by omega
    have hpl' : p < s.size := by omega
    have hg := gb_bd s p
    have hg1 := gb_bd s p1
    refine aw_seq ?_
    refine aw_cut (fun α H => α 43 = .bool (!okAt s i) ∧ α 5 = .int .i64 i ∧ α 6 = .int .i64 p ∧ α 11 = .int .i64 i ∧ α 0 = .string s ∧ α 2 = .pointer (some ⟨0, 0, none⟩) ∧ α 4 = .pointer (some ⟨1, 0, none⟩) ∧
      H = [some ⟨iv .u8 (zl 80), 32, none⟩, some ⟨iv .u8 (rd s i), 32, none⟩]) ?_ ?_
    · have e3 : IntKind.i64.wrap (p1 : Int) = p1 := wrap64_in (by omega)
      have e4 : 0 < i → ((p : Int) - 1) = (p1 : Int) := by omega
      by_cases hi0 : 0 < i
      · have e4 := e4 hi0
        have hm : (i : Int).tmod 5 = ((i % 5 : Nat) : Int) := by rw [Int.tmod_eq_emod_of_nonneg (by omega)]; omega
        have hp1l : (p1 : Int) < s.size := by omega
        have hp1l' : p1 < s.size := by omega
        by_cases h5 : i % 5 = 0
        · by_cases hsp : gb s p1 = 32
          · skip
            by_cases hlo : gb s p < 48
            · have hlo' : ¬ 48 ≤ gb s p := by omega
              (refine aw_ops (by kernel_rfl) (fun K hK => ?_); simp [wb_bool, wb_undef, XL_nil, XL_cons, XLc_val, XLc_call, step1_eq, stepW_t, stepW_f, stepC_n, stepC_s, stepX_s, stepX_n, stepN_s, calleeX, oneV, xop_eq, xopR_s, xopR_n, wantedA_eq, wantedG_n, wantedG_s, plain1_int, plain1_bool, plain1_string, bits_i64, bits_u64, bits_u32, bits_u16, bits_u8, xeqA, xagg, xcmp, xarr, allK_iv, num_iv, calleeOf, xread, xeff, xbin, xint, xnil, xun, xstr, xload, xconv, xpart, xfield, xfieldAddr, xindexAddr, xindex, bnd, asInt?, xslice, xlen, xmin, xmax, xbuild, xfill, xappend, xapp2, xappstr, xappmk, xcap, xcopy, xcells, eval_tmp, eval_const, put_at, put_none, fr0_at, cells_agg, cells_int, cells_bool, cells_string, cells_ptr, cells_slice, notTuple, tab, iv_all, okD, isAggD, hget_app, hget_app0, hget_cons0, hget_cons, set_app, set_app0, setR, setR_one, QL_nil, QL_cons, QLc_val, stepQ_t, stepQ_f, stepQC_n, stepQC_s, stepQX_s, SL_nil, SL_cons, SLc_val, stepS_t, stepS_f, h0, e3, e4, hpl, hpl', hi0, hm, h5, hp1l, hp1l', hsp, hlo]; refine hK _ _ ?_; clear hK K)
              exact ⟨by rw [hoki]; simp [put_at, hi0, h5, hsp, hlo'], by simp [put_at, put_none], by simp [put_at, put_none], by simp [put_at, put_none, h11], by simp [put_at, put_none, h0], by simp [put_at, put_none, h2], by simp [put_at, put_none, h4], rfl⟩
            · have hlo' : 48 ≤ gb s p := by omega
              by_cases hhi : 57 < gb s p
              · have hhi' : ¬ gb s p ≤ 57 := by omega
                (refine aw_ops (by kernel_rfl) (fun K hK => ?_); simp [wb_bool, wb_undef, XL_nil, XL_cons, XLc_val, XLc_call, step1_eq, stepW_t, stepW_f, stepC_n, stepC_s, stepX_s, stepX_n, stepN_s, calleeX, oneV, xop_eq, xopR_s, xopR_n, wantedA_eq, wantedG_n, wantedG_s, plain1_int, plain1_bool, plain1_string, bits_i64, bits_u64, bits_u32, bits_u16, bits_u8, xeqA, xagg, xcmp, xarr, allK_iv, num_iv, calleeOf, xread, xeff, xbin, xint, xnil, xun, xstr, xload, xconv, xpart, xfield, xfieldAddr, xindexAddr, xindex, bnd, asInt?, xslice, xlen, xmin, xmax, xbuild, xfill, xappend, xapp2, xappstr, xappmk, xcap, xcopy, xcells, eval_tmp, eval_const, put_at, put_none, fr0_at, cells_agg, cells_int, cells_bool, cells_string, cells_ptr, cells_slice, notTuple, tab, iv_all, okD, isAggD, hget_app, hget_app0, hget_cons0, hget_cons, set_app, set_app0, setR, setR_one, QL_nil, QL_cons, QLc_val, stepQ_t, stepQ_f, stepQC_n, stepQC_s, stepQX_s, SL_nil, SL_cons, SLc_val, stepS_t, stepS_f, h0, e3, e4, hpl, hpl', hi0, hm, h5, hp1l, hp1l', hsp, hlo, hhi]; refine hK _ _ ?_; clear hK K)
                exact ⟨by rw [hoki]; simp [put_at, hi0, h5, hsp, hlo', hhi'], by simp [put_at, put_none], by simp [put_at, put_none], by simp [put_at, put_none, h11], by simp [put_at, put_none, h0], by simp [put_at, put_none, h2], by simp [put_at, put_none, h4], rfl⟩
              · have hhi' : gb s p ≤ 57 := by omega
                (refine aw_ops (by kernel_rfl) (fun K hK => ?_); simp [wb_bool, wb_undef, XL_nil, XL_cons, XLc_val, XLc_call, step1_eq, stepW_t, stepW_f, stepC_n, stepC_s, stepX_s, stepX_n, stepN_s, calleeX, oneV, xop_eq, xopR_s, xopR_n, wantedA_eq, wantedG_n, wantedG_s, plain1_int, plain1_bool, plain1_string, bits_i64, bits_u64, bits_u32, bits_u16, bits_u8, xeqA, xagg, xcmp, xarr, allK_iv, num_iv, calleeOf, xread, xeff, xbin, xint, xnil, xun, xstr, xload, xconv, xpart, xfield, xfieldAddr, xindexAddr, xindex, bnd, asInt?, xslice, xlen, xmin, xmax, xbuild, xfill, xappend, xapp2, xappstr, xappmk, xcap, xcopy, xcells, eval_tmp, eval_const, put_at, put_none, fr0_at, cells_agg, cells_int, cells_bool, cells_string, cells_ptr, cells_slice, notTuple, tab, iv_all, okD, isAggD, hget_app, hget_app0, hget_cons0, hget_cons, set_app, set_app0, setR, setR_one, QL_nil, QL_cons, QLc_val, stepQ_t, stepQ_f, stepQC_n, stepQC_s, stepQX_s, SL_nil, SL_cons, SLc_val, stepS_t, stepS_f, h0, e3, e4, hpl, hpl', hi0, hm, h5, hp1l, hp1l', hsp, hlo, hhi]; refine hK _ _ ?_; clear hK K)
                exact ⟨by rw [hoki]; simp [put_at, hi0, h5, hsp, hlo', hhi'], by simp [put_at, put_none], by simp [put_at, put_none], by simp [put_at, put_none, h11], by simp [put_at, put_none, h0], by simp [put_at, put_none, h2], by simp [put_at, put_none, h4], rfl⟩
          · skip
            have hspb : (gb s p1 != 32) = true := by simp [hsp]
            (refine aw_ops (by kernel_rfl) (fun K hK => ?_); simp [wb_bool, wb_undef, XL_nil, XL_cons, XLc_val, XLc_call, step1_eq, stepW_t, stepW_f, stepC_n, stepC_s, stepX_s, stepX_n, stepN_s, calleeX, oneV, xop_eq, xopR_s, xopR_n, wantedA_eq, wantedG_n, wantedG_s, plain1_int, plain1_bool, plain1_string, bits_i64, bits_u64, bits_u32, bits_u16, bits_u8, xeqA, xagg, xcmp, xarr, allK_iv, num_iv, calleeOf, xread, xeff, xbin, xint, xnil, xun, xstr, xload, xconv, xpart, xfield, xfieldAddr, xindexAddr, xindex, bnd, asInt?, xslice, xlen, xmin, xmax, xbuild, xfill, xappend, xapp2, xappstr, xappmk, xcap, xcopy, xcells, eval_tmp, eval_const, put_at, put_none, fr0_at, cells_agg, cells_int, cells_bool, cells_string, cells_ptr, cells_slice, notTuple, tab, iv_all, okD, isAggD, hget_app, hget_app0, hget_cons0, hget_cons, set_app, set_app0, setR, setR_one, QL_nil, QL_cons, QLc_val, stepQ_t, stepQ_f, stepQC_n, stepQC_s, stepQX_s, SL_nil, SL_cons, SLc_val, stepS_t, stepS_f, h0, e3, e4, hpl, hpl', hi0, hm, h5, hp1l, hp1l', hsp, hspb]; refine hK _ _ ?_; clear hK K)
            exact ⟨by rw [hoki]; simp [put_at, hi0, h5, hsp], by simp [put_at, put_none], by simp [put_at, put_none], by simp [put_at, put_none, h11], by simp [put_at, put_none, h0], by simp [put_at, put_none, h2], by simp [put_at, put_none, h4], rfl⟩
        · have h5z : ¬ (i : Int) % 5 = 0 := by omega
          have h5b : ((i : Int) % 5 == 0) = false := by simp; omega
          by_cases hlo : gb s p < 48
          · have hlo' : ¬ 48 ≤ gb s p := by omega
            (refine aw_ops (by kernel_rfl) (fun K hK => ?_); simp [wb_bool, wb_undef, XL_nil, XL_cons, XLc_val, XLc_call, step1_eq, stepW_t, stepW_f, stepC_n, stepC_s, stepX_s, stepX_n, stepN_s, calleeX, oneV, xop_eq, xopR_s, xopR_n, wantedA_eq, wantedG_n, wantedG_s, plain1_int, plain1_bool, plain1_string, bits_i64, bits_u64, bits_u32, bits_u16, bits_u8, xeqA, xagg, xcmp, xarr, allK_iv, num_iv, calleeOf, xread, xeff, xbin, xint, xnil, xun, xstr, xload, xconv, xpart, xfield, xfieldAddr, xindexAddr, xindex, bnd, asInt?, xslice, xlen, xmin, xmax, xbuild, xfill, xappend, xapp2, xappstr, xappmk, xcap, xcopy, xcells, eval_tmp, eval_const, put_at, put_none, fr0_at, cells_agg, cells_int, cells_bool, cells_string, cells_ptr, cells_slice, notTuple, tab, iv_all, okD, isAggD, hget_app, hget_app0, hget_cons0, hget_cons, set_app, set_app0, setR, setR_one, QL_nil, QL_cons, QLc_val, stepQ_t, stepQ_f, stepQC_n, stepQC_s, stepQX_s, SL_nil, SL_cons, SLc_val, stepS_t, stepS_f, h0, e3, e4, hpl, hpl', hi0, hm, h5, h5z, h5b, hlo]; refine hK _ _ ?_; clear hK K)
            exact ⟨by rw [hoki]; simp [put_at, hi0, h5, hlo'], by simp [put_at, put_none], by simp [put_at, put_none], by simp [put_at, put_none, h11], by simp [put_at, put_none, h0], by simp [put_at, put_none, h2], by simp [put_at, put_none, h4], rfl⟩
          · have hlo' : 48 ≤ gb s p := by omega
            by_cases hhi : 57 < gb s p
            · have hhi' : ¬ gb s p ≤ 57 := by omega
              (refine aw_ops (by kernel_rfl) (fun K hK => ?_); simp [wb_bool, wb_undef, XL_nil, XL_cons, XLc_val, XLc_call, step1_eq, stepW_t, stepW_f, stepC_n, stepC_s, stepX_s, stepX_n, stepN_s, calleeX, oneV, xop_eq, xopR_s, xopR_n, wantedA_eq, wantedG_n, wantedG_s, plain1_int, plain1_bool, plain1_string, bits_i64, bits_u64, bits_u32, bits_u16, bits_u8, xeqA, xagg, xcmp, xarr, allK_iv, num_iv, calleeOf, xread, xeff, xbin, xint, xnil, xun, xstr, xload, xconv, xpart, xfield, xfieldAddr, xindexAddr, xindex, bnd, asInt?, xslice, xlen, xmin, xmax, xbuild, xfill, xappend, xapp2, xappstr, xappmk, xcap, xcopy, xcells, eval_tmp, eval_const, put_at, put_none, fr0_at, cells_agg, cells_int, cells_bool, cells_string, cells_ptr, cells_slice, notTuple, tab, iv_all, okD, isAggD, hget_app, hget_app0, hget_cons0, hget_cons, set_app, set_app0, setR, setR_one, QL_nil, QL_cons, QLc_val, stepQ_t, stepQ_f, stepQC_n, stepQC_s, stepQX_s, SL_nil, SL_cons, SLc_val, stepS_t, stepS_f, h0, e3, e4, hpl, hpl', hi0, hm, h5, h5z, h5b, hlo, hhi]; refine hK _ _ ?_; clear hK K)
              exact ⟨by rw [hoki]; simp [put_at, hi0, h5, hlo', hhi'], by simp [put_at, put_none], by simp [put_at, put_none], by simp [put_at, put_none, h11], by simp [put_at, put_none, h0], by simp [put_at, put_none, h2], by simp [put_at, put_none, h4], rfl⟩
            · have hhi' : gb s p ≤ 57 := by omega
              (refine aw_ops (by kernel_rfl) (fun K hK => ?_); simp [wb_bool, wb_undef, XL_nil, XL_cons, XLc_val, XLc_call, step1_eq, stepW_t, stepW_f, stepC_n, stepC_s, stepX_s, stepX_n, stepN_s, calleeX, oneV, xop_eq, xopR_s, xopR_n, wantedA_eq, wantedG_n, wantedG_s, plain1_int, plain1_bool, plain1_string, bits_i64, bits_u64, bits_u32, bits_u16, bits_u8, xeqA, xagg, xcmp, xarr, allK_iv, num_iv, calleeOf, xread, xeff, xbin, xint, xnil, xun, xstr, xload, xconv, xpart, xfield, xfieldAddr, xindexAddr, xindex, bnd, asInt?, xslice, xlen, xmin, xmax, xbuild, xfill, xappend, xapp2, xappstr, xappmk, xcap, xcopy, xcells, eval_tmp, eval_const, put_at, put_none, fr0_at, cells_agg, cells_int, cells_bool, cells_string, cells_ptr, cells_slice, notTuple, tab, iv_all, okD, isAggD, hget_app, hget_app0, hget_cons0, hget_cons, set_app, set_app0, setR, setR_one, QL_nil, QL_cons, QLc_val, stepQ_t, stepQ_f, stepQC_n, stepQC_s, stepQX_s, SL_nil, SL_cons, SLc_val, stepS_t, stepS_f, h0, e3, e4, hpl, hpl', hi0, hm, h5, h5z, h5b, hlo, hhi]; refine hK _ _ ?_; clear hK K)
              exact ⟨by rw [hoki]; simp [put_at, hi0, h5, hlo', hhi'], by simp [put_at, put_none], by simp [put_at, put_none], by simp [put_at, put_none, h11], by simp [put_at, put_none, h0], by simp [put_at, put_none, h2], by simp [put_at, put_none, h4], rfl⟩
      · skip
        by_cases hlo : gb s p < 48
        · have hlo' : ¬ 48 ≤ gb s p := by omega
          (refine aw_ops (by kernel_rfl) (fun K hK => ?_); simp [wb_bool, wb_undef, XL_nil, XL_cons, XLc_val, XLc_call, step1_eq, stepW_t, stepW_f, stepC_n, stepC_s, stepX_s, stepX_n, stepN_s, calleeX, oneV, xop_eq, xopR_s, xopR_n, wantedA_eq, wantedG_n, wantedG_s, plain1_int, plain1_bool, plain1_string, bits_i64, bits_u64, bits_u32, bits_u16, bits_u8, xeqA, xagg, xcmp, xarr, allK_iv, num_iv, calleeOf, xread, xeff, xbin, xint, xnil, xun, xstr, xload, xconv, xpart, xfield, xfieldAddr, xindexAddr, xindex, bnd, asInt?, xslice, xlen, xmin, xmax, xbuild, xfill, xappend, xapp2, xappstr, xappmk, xcap, xcopy, xcells, eval_tmp, eval_const, put_at, put_none, fr0_at, cells_agg, cells_int, cells_bool, cells_string, cells_ptr, cells_slice, notTuple, tab, iv_all, okD, isAggD, hget_app, hget_app0, hget_cons0, hget_cons, set_app, set_app0, setR, setR_one, QL_nil, QL_cons, QLc_val, stepQ_t, stepQ_f, stepQC_n, stepQC_s, stepQX_s, SL_nil, SL_cons, SLc_val, stepS_t, stepS_f, h0, e3, e4, hpl, hpl', hi0, hlo]; refine hK _ _ ?_; clear hK K)
          exact ⟨by rw [hoki]; simp [put_at, hi0, hlo'], by simp [put_at, put_none], by simp [put_at, put_none], by simp [put_at, put_none, h11], by simp [put_at, put_none, h0], by simp [put_at, put_none, h2], by simp [put_at, put_none, h4], rfl⟩
        · have hlo' : 48 ≤ gb s p := by omega
          by_cases hhi : 57 < gb s p
          · have hhi' : ¬ gb s p ≤ 57 := by omega
            (refine aw_ops (by kernel_rfl) (fun K hK => ?_); simp [wb_bool, wb_undef, XL_nil, XL_cons, XLc_val, XLc_call, step1_eq, stepW_t, stepW_f, stepC_n, stepC_s, stepX_s, stepX_n, stepN_s, calleeX, oneV, xop_eq, xopR_s, xopR_n, wantedA_eq, wantedG_n, wantedG_s, plain1_int, plain1_bool, plain1_string, bits_i64, bits_u64, bits_u32, bits_u16, bits_u8, xeqA, xagg, xcmp, xarr, allK_iv, num_iv, calleeOf, xread, xeff, xbin, xint, xnil, xun, xstr, xload, xconv, xpart, xfield, xfieldAddr, xindexAddr, xindex, bnd, asInt?, xslice, xlen, xmin, xmax, xbuild, xfill, xappend, xapp2, xappstr, xappmk, xcap, xcopy, xcells, eval_tmp, eval_const, put_at, put_none, fr0_at, cells_agg, cells_int, cells_bool, cells_string, cells_ptr, cells_slice, notTuple, tab, iv_all, okD, isAggD, hget_app, hget_app0, hget_cons0, hget_cons, set_app, set_app0, setR, setR_one, QL_nil, QL_cons, QLc_val, stepQ_t, stepQ_f, stepQC_n, stepQC_s, stepQX_s, SL_nil, SL_cons, SLc_val, stepS_t, stepS_f, h0, e3, e4, hpl, hpl', hi0, hlo, hhi]; refine hK _ _ ?_; clear hK K)
            exact ⟨by rw [hoki]; simp [put_at, hi0, hlo', hhi'], by simp [put_at, put_none], by simp [put_at, put_none], by simp [put_at, put_none, h11], by simp [put_at, put_none, h0], by simp [put_at, put_none, h2], by simp [put_at, put_none, h4], rfl⟩
          · have hhi' : gb s p ≤ 57 := by omega
            (refine aw_ops (by kernel_rfl) (fun K hK => ?_); simp [wb_bool, wb_undef, XL_nil, XL_cons, XLc_val, XLc_call, step1_eq, stepW_t, stepW_f, stepC_n, stepC_s, stepX_s, stepX_n, stepN_s, calleeX, oneV, xop_eq, xopR_s, xopR_n, wantedA_eq, wantedG_n, wantedG_s, plain1_int, plain1_bool, plain1_string, bits_i64, bits_u64, bits_u32, bits_u16, bits_u8, xeqA, xagg, xcmp, xarr, allK_iv, num_iv, calleeOf, xread, xeff, xbin, xint, xnil, xun, xstr, xload, xconv, xpart, xfield, xfieldAddr, xindexAddr, xindex, bnd, asInt?, xslice, xlen, xmin, xmax, xbuild, xfill, xappend, xapp2, xappstr, xappmk, xcap, xcopy, xcells, eval_tmp, eval_const, put_at, put_none, fr0_at, cells_agg, cells_int, cells_bool, cells_string, cells_ptr, cells_slice, notTuple, tab, iv_all, okD, isAggD, hget_app, hget_app0, hget_cons0, hget_cons, set_app, set_app0, setR, setR_one, QL_nil, QL_cons, QLc_val, stepQ_t, stepQ_f, stepQC_n, stepQC_s, stepQX_s, SL_nil, SL_cons, SLc_val, stepS_t, stepS_f, h0, e3, e4, hpl, hpl', hi0, hlo, hhi]; refine hK _ _ ?_; clear hK K)
            exact ⟨by rw [hoki]; simp [put_at, hi0, hlo', hhi'], by simp [put_at, put_none], by simp [put_at, put_none], by simp [put_at, put_none, h11], by simp [put_at, put_none, h0], by simp [put_at, put_none, h2], by simp [put_at, put_none, h4], rfl⟩
    · clear h11 h0 h2 h4
      rintro α H ⟨h43, h5, h6, h11, h0, h2, h4, rfl⟩
      cases hoka : okAt s i with
      | false =>
        rw [hoka] at h43
        refine aw_t (by simp [eval_tmp, put_at, h43]) (by kernel_rfl) ?_
        refine aw_seq ?_
        (refine aw_ops (by kernel_rfl) (fun K hK => ?_); simp [wb_bool, wb_undef, XL_nil, XL_cons, XLc_val, XLc_call, step1_eq, stepW_t, stepW_f, stepC_n, stepC_s, stepX_s, stepX_n, stepN_s, calleeX, oneV, xop_eq, xopR_s, xopR_n, wantedA_eq, wantedG_n, wantedG_s, plain1_int, plain1_bool, plain1_string, bits_i64, bits_u64, bits_u32, bits_u16, bits_u8, xeqA, xagg, xcmp, xarr, allK_iv, num_iv, calleeOf, xread, xeff, xbin, xint, xnil, xun, xstr, xload, xconv, xpart, xfield, xfieldAddr, xindexAddr, xindex, bnd, asInt?, xslice, xlen, xmin, xmax, xbuild, xfill, xappend, xapp2, xappstr, xappmk, xcap, xcopy, xcells, eval_tmp, eval_const, put_at, put_none, fr0_at, cells_agg, cells_int, cells_bool, cells_string, cells_ptr, cells_slice, notTuple, tab, iv_all, okD, isAggD, hget_app, hget_app0, hget_cons0, hget_cons, set_app, set_app0, setR, setR_one, QL_nil, QL_cons, QLc_val, stepQ_t, stepQ_f, stepQC_n, stepQC_s, stepQX_s, SL_nil, SL_cons, SLc_val, stepS_t, stepS_f, h2, setR_all, show Value.agg (iv .u8 (zl 80)).toArray = .agg (iv .u8 (zl 80)).toArray from rfl]; refine hK _ _ ?_; clear hK K)
        (refine aw_ret ?_; simp [thenQ_ret, inBlockQ_ret, RQ, resL, resV, xload, tab, okD, isAggD, hget_app, hget_app0, hget_cons0, hget_cons, notTuple, put_at, put_none, h2, List.take_of_length_le])
        simp [rdV, allOk_not hoka (show i < 80 by omega)]
      | true =>
        rw [hoka] at h43
        refine aw_f (by simp [eval_tmp, put_at, h43]) (by kernel_rfl) ?_
        refine aw_skip ?_
        have hge : 48 ≤ gb s p ∧ gb s p ≤ 57 := by
          rw [hoka] at hoki
          have h := hoki.symm
          simp only [Bool.and_eq_true, decide_eq_true_eq] at h
          exact ⟨h.1.2, h.2⟩
        have e5 : IntKind.u8.wrap (gb s p - 48) = gb s p - 48 := wrap8_in (by omega)
        have e6 : IntKind.i64.wrap ((i : Int) + 1) = i + 1 := wrap64_in (by omega)
        have hlt80 : (i : Int) < 80 := by omega
        have hlt81 : i + 1 ≤ (rd s i).length := by omega
        (refine aw_ops (by kernel_rfl) (fun K hK => ?_); simp [wb_bool, wb_undef, XL_nil, XL_cons, XLc_val, XLc_call, step1_eq, stepW_t, stepW_f, stepC_n, stepC_s, stepX_s, stepX_n, stepN_s, calleeX, oneV, xop_eq, xopR_s, xopR_n, wantedA_eq, wantedG_n, wantedG_s, plain1_int, plain1_bool, plain1_string, bits_i64, bits_u64, bits_u32, bits_u16, bits_u8, xeqA, xagg, xcmp, xarr, allK_iv, num_iv, calleeOf, xread, xeff, xbin, xint, xnil, xun, xstr, xload, xconv, xpart, xfield, xfieldAddr, xindexAddr, xindex, bnd, asInt?, xslice, xlen, xmin, xmax, xbuild, xfill, xappend, xapp2, xappstr, xappmk, xcap, xcopy, xcells, eval_tmp, eval_const, put_at, put_none, fr0_at, cells_agg, cells_int, cells_bool, cells_string, cells_ptr, cells_slice, notTuple, tab, iv_all, okD, isAggD, hget_app, hget_app0, hget_cons0, hget_cons, set_app, set_app0, setR, setR_one, QL_nil, QL_cons, QLc_val, stepQ_t, stepQ_f, stepQC_n, stepQC_s, stepQX_s, SL_nil, SL_cons, SLc_val, stepS_t, stepS_f, h0, h4, h5, h6, hpl, hpl', e5, hlt80, hlt81, iv_set]; refine hK _ _ ?_; clear hK K)
        (refine aw_ops (by kernel_rfl) (fun K hK => ?_); simp [wb_bool, wb_undef, XL_nil, XL_cons, XLc_val, XLc_call, step1_eq, stepW_t, stepW_f, stepC_n, stepC_s, stepX_s, stepX_n, stepN_s, calleeX, oneV, xop_eq, xopR_s, xopR_n, wantedA_eq, wantedG_n, wantedG_s, plain1_int, plain1_bool, plain1_string, bits_i64, bits_u64, bits_u32, bits_u16, bits_u8, xeqA, xagg, xcmp, xarr, allK_iv, num_iv, calleeOf, xread, xeff, xbin, xint, xnil, xun, xstr, xload, xconv, xpart, xfield, xfieldAddr, xindexAddr, xindex, bnd, asInt?, xslice, xlen, xmin, xmax, xbuild, xfill, xappend, xapp2, xappstr, xappmk, xcap, xcopy, xcells, eval_tmp, eval_const, put_at, put_none, fr0_at, cells_agg, cells_int, cells_bool, cells_string, cells_ptr, cells_slice, notTuple, tab, iv_all, okD, isAggD, hget_app, hget_app0, hget_cons0, hget_cons, set_app, set_app0, setR, setR_one, QL_nil, QL_cons, QLc_val, stepQ_t, stepQ_f, stepQC_n, stepQC_s, stepQX_s, SL_nil, SL_cons, SLc_val, stepS_t, stepS_f, h11, e6]; refine hK _ _ ?_; clear hK K)
        exact ⟨q - 1, by omega, i + 1, by omega, by simp [allOk, hok, hoka], by simp [put_at, put_none], by simp [put_at, put_none, h0], by simp [put_at, put_none, h2], by simp [put_at, put_none, h4], by rw [hrd]⟩
  · refine aw_f (by simp [eval_tmp, put_at, hlt]) (by kernel_rfl) ?_
    obtain rfl : i = 80 := by omega
    refine aw_exit ?_
    refine aw_seq ?_
    (refine aw_ops (by kernel_rfl) (fun K hK => ?_); simp [wb_bool, wb_undef, XL_nil, XL_cons, XLc_val, XLc_call, step1_eq, stepW_t, stepW_f, stepC_n, stepC_s, stepX_s, stepX_n, stepN_s, calleeX, oneV, xop_eq, xopR_s, xopR_n, wantedA_eq, wantedG_n, wantedG_s, plain1_int, plain1_bool, plain1_string, bits_i64, bits_u64, bits_u32, bits_u16, bits_u8, xeqA, xagg, xcmp, xarr, allK_iv, num_iv, calleeOf, xread, xeff, xbin, xint, xnil, xun, xstr, xload, xconv, xpart, xfield, xfieldAddr, xindexAddr, xindex, bnd, asInt?, xslice, xlen, xmin, xmax, xbuild, xfill, xappend, xapp2, xappstr, xappmk, xcap, xcopy, xcells, eval_tmp, eval_const, put_at, put_none, fr0_at, cells_agg, cells_int, cells_bool, cells_string, cells_ptr, cells_slice, notTuple, tab, iv_all, okD, isAggD, hget_app, hget_app0, hget_cons0, hget_cons, set_app, set_app0, setR, setR_one, QL_nil, QL_cons, QLc_val, stepQ_t, stepQ_f, stepQC_n, stepQC_s, stepQX_s, SL_nil, SL_cons, SLc_val, stepS_t, stepS_f, h2, h4, hlen, setR_all, List.take_of_length_le]; refine hK _ _ ?_; clear hK K)
    (refine aw_ret ?_; simp [thenQ_ret, inBlockQ_ret, RQ, resL, resV, xload, tab, okD, isAggD, hget_app, hget_app0, hget_cons0, hget_cons, notTuple, put_at, put_none, h2, hlen, List.take_of_length_le])
    simp [rdV, hs', hok]
end

section
open Go Go.RowKit
set_option linter.unusedSimpArgs false
set_option maxRecDepth 100000
set_option maxHeartbeats 1000000

def kin (l : List Int) (c : Int) : Nat → List Int × Int
  | 0 => (l, c)
  | j + 1 => ((kin l c j).1.set (31 - j) (((kin l c j).1.getD (31 - j) 0 * 10 + (kin l c j).2) % 256), ((kin l c j).1.getD (31 - j) 0 * 10 + (kin l c j).2) / 256)
theorem Byte.set {l : List Int} (h : Byte l) (i : Nat) {x : Int} (hx : 0 ≤ x ∧ x ≤ 255) : Byte (l.set i x) := by
  intro j
  have := h j
  simp only [List.getD_eq_getElem?_getD, List.getElem?_set] at *
  split
  · split
    · exact hx
    · simp
  · exact this
theorem kin_spec (l : List Int) (c : Int) (hl : Byte l) (hc : 0 ≤ c ∧ c ≤ 255) (j : Nat) : Byte (kin l c j).1 ∧ 0 ≤ (kin l c j).2 ∧ (kin l c j).2 ≤ 255 ∧ (kin l c j).1.length = l.length := by
  induction j with
  | zero => exact ⟨hl, hc.1, hc.2, rfl⟩
  | succ j ih =>
    obtain ⟨h1, h2, h3, h4⟩ := ih
    have := h1 (31 - j)
    simp only [kin]
    exact ⟨h1.set _ (by omega), by omega, by omega, by rw [List.length_set, h4]⟩
theorem zl_get (n j : Nat) : (zl n).getD j 0 = 0 := by
  unfold zl
  rw [List.getD_eq_getElem?_getD, List.getElem?_replicate]
  split <;> rfl
def outK (d : List Int) : Nat → List Int
  | 0 => zl 32
  | i + 1 => (kin (outK d i) (d.getD i 0) 32).1
theorem outK_spec (d : List Int) (hd : Byte d) (i : Nat) : Byte (outK d i) ∧ (outK d i).length = 32 := by
  induction i with
  | zero => exact ⟨fun j => by show 0 ≤ (zl 32).getD j 0 ∧ _; rw [outK, zl_get]; omega, by simp [outK]⟩
  | succ i ih =>
    obtain ⟨h1, _, _, h4⟩ := kin_spec (outK d i) (d.getD i 0) ih.1 (hd i) 32
    exact ⟨h1, by rw [outK, h4, ih.2]⟩
def fits (d : List Int) : Nat → Bool
  | 0 => true
  | i + 1 => fits d i && decide ((kin (outK d i) (d.getD i 0) 32).2 = 0)
theorem fits_not {d : List Int} {i : Nat} (h : ¬ (kin (outK d i) (d.getD i 0) 32).2 = 0) {n : Nat} (hn : i < n) : fits d n = false := by
  induction n with
  | zero => omega
  | succ n ih =>
    simp only [fits]
    by_cases e : i = n
    · subst e; rw [decide_eq_false h, Bool.and_false]
    · rw [ih (by omega)]; rfl
def keyV (d : List Int) : Value := if fits d 78 = true then .tuple #[.agg (iv .u8 (outK d 78)).toArray, .bool true] else .tuple #[.agg (iv .u8 (zl 32)).toArray, .bool false]

theorem key_vc (d : List Int) (hd : d.length = 80) (hb : Byte d) : VC Tryd.prog 22 #[.agg (iv .u8 d).toArray] (keyV d) := by
  refine vc_of_ac (by simp [pv_iv, pv_int, pv_bool, pv_string, pv_tup2, pv_tup3, iv_plain, p2_int, p2_bool, p2_string]) (by unfold keyV; split <;> simp [pv_iv, pv_int, pv_bool, pv_string, pv_tup2, pv_tup3, iv_plain, p2_int, p2_bool, p2_string]) ?_
  refine ac_of_aw Tryd.func22 rfl Tryd.ntmps22 Tryd.results22 (by simp) ?_
  refine aw_seq ?_
  (refine aw_ops (by kernel_rfl) (fun K hK => ?_); simp [wb_bool, wb_undef, XL_nil, XL_cons, XLc_val, XLc_call, step1_eq, stepW_t, stepW_f, stepC_n, stepC_s, stepX_s, stepX_n, stepN_s, calleeX, oneV, xop_eq, xopR_s, xopR_n, wantedA_eq, wantedG_n, wantedG_s, plain1_int, plain1_bool, plain1_string, bits_i64, bits_u64, bits_u32, bits_u16, bits_u8, xeqA, xagg, xcmp, xarr, allK_iv, num_iv, calleeOf, xread, xeff, xbin, xint, xnil, xun, xstr, xload, xconv, xpart, xfield, xfieldAddr, xindexAddr, xindex, bnd, asInt?, xslice, xlen, xmin, xmax, xbuild, xfill, xappend, xapp2, xappstr, xappmk, xcap, xcopy, xcells, eval_tmp, eval_const, put_at, put_none, fr0_at, cells_agg, cells_int, cells_bool, cells_string, cells_ptr, cells_slice, notTuple, tab, iv_all, okD, isAggD, hget_app, hget_app0, hget_cons0, hget_cons, set_app, set_app0, setR, setR_one, QL_nil, QL_cons, QLc_val, stepQ_t, stepQ_f, stepQC_n, stepQC_s, stepQX_s, SL_nil, SL_cons, SLc_val, stepS_t, stepS_f]; refine hK _ _ ?_; clear hK K)
  refine aw_seq ?_
  (refine aw_ops (by kernel_rfl) (fun K hK => ?_); simp [wb_bool, wb_undef, XL_nil, XL_cons, XLc_val, XLc_call, step1_eq, stepW_t, stepW_f, stepC_n, stepC_s, stepX_s, stepX_n, stepN_s, calleeX, oneV, xop_eq, xopR_s, xopR_n, wantedA_eq, wantedG_n, wantedG_s, plain1_int, plain1_bool, plain1_string, bits_i64, bits_u64, bits_u32, bits_u16, bits_u8, xeqA, xagg, xcmp, xarr, allK_iv, num_iv, calleeOf, xread, xeff, xbin, xint, xnil, xun, xstr, xload, xconv, xpart, xfield, xfieldAddr, xindexAddr, xindex, bnd, asInt?, xslice, xlen, xmin, xmax, xbuild, xfill, xappend, xapp2, xappstr, xappmk, xcap, xcopy, xcells, eval_tmp, eval_const, put_at, put_none, fr0_at, cells_agg, cells_int, cells_bool, cells_string, cells_ptr, cells_slice, notTuple, tab, iv_all, okD, isAggD, hget_app, hget_app0, hget_cons0, hget_cons, set_app, set_app0, setR, setR_one, QL_nil, QL_cons, QLc_val, stepQ_t, stepQ_f, stepQC_n, stepQC_s, stepQX_s, SL_nil, SL_cons, SLc_val, stepS_t, stepS_f]; refine hK _ _ ?_; clear hK K)
  refine aw_seq ?_
  refine aw_seq ?_
  (refine aw_ops (by kernel_rfl) (fun K hK => ?_); simp [wb_bool, wb_undef, XL_nil, XL_cons, XLc_val, XLc_call, step1_eq, stepW_t, stepW_f, stepC_n, stepC_s, stepX_s, stepX_n, stepN_s, calleeX, oneV, xop_eq, xopR_s, xopR_n, wantedA_eq, wantedG_n, wantedG_s, plain1_int, plain1_bool, plain1_string, bits_i64, bits_u64, bits_u32, bits_u16, bits_u8, xeqA, xagg, xcmp, xarr, allK_iv, num_iv, calleeOf, xread, xeff, xbin, xint, xnil, xun, xstr, xload, xconv, xpart, xfield, xfieldAddr, xindexAddr, xindex, bnd, asInt?, xslice, xlen, xmin, xmax, xbuild, xfill, xappend, xapp2, xappstr, xappmk, xcap, xcopy, xcells, eval_tmp, eval_const, put_at, put_none, fr0_at, cells_agg, cells_int, cells_bool, cells_string, cells_ptr, cells_slice, notTuple, tab, iv_all, okD, isAggD, hget_app, hget_app0, hget_cons0, hget_cons, set_app, set_app0, setR, setR_one, QL_nil, QL_cons, QLc_val, stepQ_t, stepQ_f, stepQC_n, stepQC_s, stepQX_s, SL_nil, SL_cons, SLc_val, stepS_t, stepS_f]; refine hK _ _ ?_; clear hK K)
  refine aw_block ?_
  refine aw_loop (fun q α H => ∃ i : Nat, i + q = 78 ∧ fits d i = true ∧ α 10 = .int .i64 i ∧ α 1 = .pointer (some ⟨0, 0, none⟩) ∧ α 2 = .pointer (some ⟨1, 0, none⟩) ∧ α 4 = .pointer (some ⟨2, 0, none⟩) ∧
    H = [some ⟨iv .u8 d, 32, none⟩, some ⟨iv .u8 (zl 32), 23, none⟩, some ⟨iv .u8 (outK d i), 23, none⟩]) 78 ?_ ?_
  · exact ⟨0, rfl, rfl, rfl, rfl, rfl, rfl, rfl⟩
  rintro q α H ⟨i, hi, hf, h10, h1, h2, h4, rfl⟩
  obtain ⟨ho1, ho2⟩ := outK_spec d hb i
  refine aw_seq ?_
  (refine aw_ops (by kernel_rfl) (fun K hK => ?_); simp [wb_bool, wb_undef, XL_nil, XL_cons, XLc_val, XLc_call, step1_eq, stepW_t, stepW_f, stepC_n, stepC_s, stepX_s, stepX_n, stepN_s, calleeX, oneV, xop_eq, xopR_s, xopR_n, wantedA_eq, wantedG_n, wantedG_s, plain1_int, plain1_bool, plain1_string, bits_i64, bits_u64, bits_u32, bits_u16, bits_u8, xeqA, xagg, xcmp, xarr, allK_iv, num_iv, calleeOf, xread, xeff, xbin, xint, xnil, xun, xstr, xload, xconv, xpart, xfield, xfieldAddr, xindexAddr, xindex, bnd, asInt?, xslice, xlen, xmin, xmax, xbuild, xfill, xappend, xapp2, xappstr, xappmk, xcap, xcopy, xcells, eval_tmp, eval_const, put_at, put_none, fr0_at, cells_agg, cells_int, cells_bool, cells_string, cells_ptr, cells_slice, notTuple, tab, iv_all, okD, isAggD, hget_app, hget_app0, hget_cons0, hget_cons, set_app, set_app0, setR, setR_one, QL_nil, QL_cons, QLc_val, stepQ_t, stepQ_f, stepQC_n, stepQC_s, stepQX_s, SL_nil, SL_cons, SLc_val, stepS_t, stepS_f, h10]; refine hK _ _ ?_; clear hK K)
  refine aw_seq ?_
  by_cases hlt : (i : Int) < 78
  · refine aw_t (by simp [eval_tmp, put_at, hlt]) (by kernel_rfl) ?_
    refine aw_skip ?_
    refine aw_seq ?_
    refine aw_block ?_
    refine aw_seq ?_
    (refine aw_ops (by kernel_rfl) (fun K hK => ?_); simp [wb_bool, wb_undef, XL_nil, XL_cons, XLc_val, XLc_call, step1_eq, stepW_t, stepW_f, stepC_n, stepC_s, stepX_s, stepX_n, stepN_s, calleeX, oneV, xop_eq, xopR_s, xopR_n, wantedA_eq, wantedG_n, wantedG_s, plain1_int, plain1_bool, plain1_string, bits_i64, bits_u64, bits_u32, bits_u16, bits_u8, xeqA, xagg, xcmp, xarr, allK_iv, num_iv, calleeOf, xread, xeff, xbin, xint, xnil, xun, xstr, xload, xconv, xpart, xfield, xfieldAddr, xindexAddr, xindex, bnd, asInt?, xslice, xlen, xmin, xmax, xbuild, xfill, xappend, xapp2, xappstr, xappmk, xcap, xcopy, xcells, eval_tmp, eval_const, put_at, put_none, fr0_at, cells_agg, cells_int, cells_bool, cells_string, cells_ptr, cells_slice, notTuple, tab, iv_all, okD, isAggD, hget_app, hget_app0, hget_cons0, hget_cons, set_app, set_app0, setR, setR_one, QL_nil, QL_cons, QLc_val, stepQ_t, stepQ_f, stepQC_n, stepQC_s, stepQX_s, SL_nil, SL_cons, SLc_val, stepS_t, stepS_f, h10]; refine hK _ _ ?_; clear hK K)
    refine aw_seq ?_
    have hx := hb i
    have e1 : (iv .u8 d)[i]? = some (.int .u8 (d.getD i 0)) := iv_get _ _ _ (by omega)
    have hxx : Hid (fits d (i + 1) = (fits d i && decide ((kin (outK d i) (d.getD i 0) 32).2 = 0))) := rfl
    have hxy : Hid (outK d (i + 1) = (kin (outK d i) (d.getD i 0) 32).1) := rfl
    have hxn : Hid (¬ (kin (outK d i) (d.getD i 0) 32).2 = 0 → fits d 78 = false) := fun h => fits_not h (by omega)
    generalize d.getD i 0 = x at *
    have e2 : IntKind.i64.wrap x = x := wrap64_in (by omega)
    have hlt80 : (i : Int) < 80 := by omega
    (refine aw_ops (by kernel_rfl) (fun K hK => ?_); simp [wb_bool, wb_undef, XL_nil, XL_cons, XLc_val, XLc_call, step1_eq, stepW_t, stepW_f, stepC_n, stepC_s, stepX_s, stepX_n, stepN_s, calleeX, oneV, xop_eq, xopR_s, xopR_n, wantedA_eq, wantedG_n, wantedG_s, plain1_int, plain1_bool, plain1_string, bits_i64, bits_u64, bits_u32, bits_u16, bits_u8, xeqA, xagg, xcmp, xarr, allK_iv, num_iv, calleeOf, xread, xeff, xbin, xint, xnil, xun, xstr, xload, xconv, xpart, xfield, xfieldAddr, xindexAddr, xindex, bnd, asInt?, xslice, xlen, xmin, xmax, xbuild, xfill, xappend, xapp2, xappstr, xappmk, xcap, xcopy, xcells, eval_tmp, eval_const, put_at, put_none, fr0_at, cells_agg, cells_int, cells_bool, cells_string, cells_ptr, cells_slice, notTuple, tab, iv_all, okD, isAggD, hget_app, hget_app0, hget_cons0, hget_cons, set_app, set_app0, setR, setR_one, QL_nil, QL_cons, QLc_val, stepQ_t, stepQ_f, stepQC_n, stepQC_s, stepQX_s, SL_nil, SL_cons, SLc_val, stepS_t, stepS_f, h1, e1, e2, hlt80]; refine hK _ _ ?_; clear hK K)
    refine aw_seq ?_
    refine aw_seq ?_
    (refine aw_ops (by kernel_rfl) (fun K hK => ?_); simp [wb_bool, wb_undef, XL_nil, XL_cons, XLc_val, XLc_call, step1_eq, stepW_t, stepW_f, stepC_n, stepC_s, stepX_s, stepX_n, stepN_s, calleeX, oneV, xop_eq, xopR_s, xopR_n, wantedA_eq, wantedG_n, wantedG_s, plain1_int, plain1_bool, plain1_string, bits_i64, bits_u64, bits_u32, bits_u16, bits_u8, xeqA, xagg, xcmp, xarr, allK_iv, num_iv, calleeOf, xread, xeff, xbin, xint, xnil, xun, xstr, xload, xconv, xpart, xfield, xfieldAddr, xindexAddr, xindex, bnd, asInt?, xslice, xlen, xmin, xmax, xbuild, xfill, xappend, xapp2, xappstr, xappmk, xcap, xcopy, xcells, eval_tmp, eval_const, put_at, put_none, fr0_at, cells_agg, cells_int, cells_bool, cells_string, cells_ptr, cells_slice, notTuple, tab, iv_all, okD, isAggD, hget_app, hget_app0, hget_cons0, hget_cons, set_app, set_app0, setR, setR_one, QL_nil, QL_cons, QLc_val, stepQ_t, stepQ_f, stepQC_n, stepQC_s, stepQX_s, SL_nil, SL_cons, SLc_val, stepS_t, stepS_f]; refine hK _ _ ?_; clear hK K)
    refine aw_block ?_
    refine aw_loop (fun q' α H => ∃ j : Nat, j + q' = 32 ∧ α 17 = .int .i64 j ∧ α 6 = .int .i64 (kin (outK d i) x j).2 ∧ α 10 = .int .i64 i ∧ α 1 = .pointer (some ⟨0, 0, none⟩) ∧ α 2 = .pointer (some ⟨1, 0, none⟩) ∧ α 4 = .pointer (some ⟨2, 0, none⟩) ∧
      H = [some ⟨iv .u8 d, 32, none⟩, some ⟨iv .u8 (zl 32), 23, none⟩, some ⟨iv .u8 (kin (outK d i) x j).1, 23, none⟩]) 32 ?_ ?_
    · exact ⟨0, rfl, rfl, rfl, h10, h1, h2, h4, rfl⟩
    clear h10 h1 h2 h4
    rintro q' α H ⟨j, hj, h17, h6, h10, h1, h2, h4, rfl⟩
    obtain ⟨s1, s2, s3, s4⟩ := kin_spec (outK d i) x ho1 hx j
    refine aw_seq ?_
    (refine aw_ops (by kernel_rfl) (fun K hK => ?_); simp [wb_bool, wb_undef, XL_nil, XL_cons, XLc_val, XLc_call, step1_eq, stepW_t, stepW_f, stepC_n, stepC_s, stepX_s, stepX_n, stepN_s, calleeX, oneV, xop_eq, xopR_s, xopR_n, wantedA_eq, wantedG_n, wantedG_s, plain1_int, plain1_bool, plain1_string, bits_i64, bits_u64, bits_u32, bits_u16, bits_u8, xeqA, xagg, xcmp, xarr, allK_iv, num_iv, calleeOf, xread, xeff, xbin, xint, xnil, xun, xstr, xload, xconv, xpart, xfield, xfieldAddr, xindexAddr, xindex, bnd, asInt?, xslice, xlen, xmin, xmax, xbuild, xfill, xappend, xapp2, xappstr, xappmk, xcap, xcopy, xcells, eval_tmp, eval_const, put_at, put_none, fr0_at, cells_agg, cells_int, cells_bool, cells_string, cells_ptr, cells_slice, notTuple, tab, iv_all, okD, isAggD, hget_app, hget_app0, hget_cons0, hget_cons, set_app, set_app0, setR, setR_one, QL_nil, QL_cons, QLc_val, stepQ_t, stepQ_f, stepQC_n, stepQC_s, stepQX_s, SL_nil, SL_cons, SLc_val, stepS_t, stepS_f, h17]; refine hK _ _ ?_; clear hK K)
    refine aw_seq ?_
    by_cases hjt : (j : Int) < 32
    · refine aw_t (by simp [eval_tmp, put_at, hjt]) (by kernel_rfl) ?_
      refine aw_skip ?_
      refine aw_seq ?_
      refine aw_block ?_
      refine aw_seq ?_
      (refine aw_ops (by kernel_rfl) (fun K hK => ?_); simp [wb_bool, wb_undef, XL_nil, XL_cons, XLc_val, XLc_call, step1_eq, stepW_t, stepW_f, stepC_n, stepC_s, stepX_s, stepX_n, stepN_s, calleeX, oneV, xop_eq, xopR_s, xopR_n, wantedA_eq, wantedG_n, wantedG_s, plain1_int, plain1_bool, plain1_string, bits_i64, bits_u64, bits_u32, bits_u16, bits_u8, xeqA, xagg, xcmp, xarr, allK_iv, num_iv, calleeOf, xread, xeff, xbin, xint, xnil, xun, xstr, xload, xconv, xpart, xfield, xfieldAddr, xindexAddr, xindex, bnd, asInt?, xslice, xlen, xmin, xmax, xbuild, xfill, xappend, xapp2, xappstr, xappmk, xcap, xcopy, xcells, eval_tmp, eval_const, put_at, put_none, fr0_at, cells_agg, cells_int, cells_bool, cells_string, cells_ptr, cells_slice, notTuple, tab, iv_all, okD, isAggD, hget_app, hget_app0, hget_cons0, hget_cons, set_app, set_app0, setR, setR_one, QL_nil, QL_cons, QLc_val, stepQ_t, stepQ_f, stepQC_n, stepQC_s, stepQX_s, SL_nil, SL_cons, SLc_val, stepS_t, stepS_f, h17]; refine hK _ _ ?_; clear hK K)
      refine aw_seq ?_
      have e3 : IntKind.i64.wrap (31 - (j : Int)) = ((31 - j : Nat) : Int) := by rw [wrap64_in (by omega)]; omega
      (refine aw_ops (by kernel_rfl) (fun K hK => ?_); simp [wb_bool, wb_undef, XL_nil, XL_cons, XLc_val, XLc_call, step1_eq, stepW_t, stepW_f, stepC_n, stepC_s, stepX_s, stepX_n, stepN_s, calleeX, oneV, xop_eq, xopR_s, xopR_n, wantedA_eq, wantedG_n, wantedG_s, plain1_int, plain1_bool, plain1_string, bits_i64, bits_u64, bits_u32, bits_u16, bits_u8, xeqA, xagg, xcmp, xarr, allK_iv, num_iv, calleeOf, xread, xeff, xbin, xint, xnil, xun, xstr, xload, xconv, xpart, xfield, xfieldAddr, xindexAddr, xindex, bnd, asInt?, xslice, xlen, xmin, xmax, xbuild, xfill, xappend, xapp2, xappstr, xappmk, xcap, xcopy, xcells, eval_tmp, eval_const, put_at, put_none, fr0_at, cells_agg, cells_int, cells_bool, cells_string, cells_ptr, cells_slice, notTuple, tab, iv_all, okD, isAggD, hget_app, hget_app0, hget_cons0, hget_cons, set_app, set_app0, setR, setR_one, QL_nil, QL_cons, QLc_val, stepQ_t, stepQ_f, stepQC_n, stepQC_s, stepQX_s, SL_nil, SL_cons, SLc_val, stepS_t, stepS_f, e3]; refine hK _ _ ?_; clear hK K)
      refine aw_seq ?_
      have hy := s1 (31 - j)
      have e4 : (iv .u8 (kin (outK d i) x j).1)[31 - j]? = some (.int .u8 ((kin (outK d i) x j).1.getD (31 - j) 0)) := iv_get _ _ _ (by omega)
      have e5 : kin (outK d i) x (j + 1) = ((kin (outK d i) x j).1.set (31 - j) (((kin (outK d i) x j).1.getD (31 - j) 0 * 10 + (kin (outK d i) x j).2) % 256), ((kin (outK d i) x j).1.getD (31 - j) 0 * 10 + (kin (outK d i) x j).2) / 256) := rfl
      have e6 : ((31 - j : Nat) : Int) < 32 := by omega
      have e7 : 31 - j + 1 ≤ (kin (outK d i) x j).1.length := by omega
      generalize (kin (outK d i) x j).1.getD (31 - j) 0 = y at *
      generalize (kin (outK d i) x j).1 = dd at *
      generalize (kin (outK d i) x j).2 = cc at *
      have w1 : IntKind.i64.wrap y = y := wrap64_in (by omega)
      have w2 : IntKind.i64.wrap (y * 10) = y * 10 := wrap64_in (by omega)
      have w3 : IntKind.i64.wrap (y * 10 + cc) = y * 10 + cc := wrap64_in (by omega)
      have w5 : IntKind.u8.wrap (y * 10 + cc) = (y * 10 + cc) % 256 := by simp only [IntKind.wrap_u8']
      have w6 : (y * 10 + cc).fdiv 256 = (y * 10 + cc) / 256 := Int.fdiv_eq_ediv_of_nonneg _ (by omega)
      have w7 : IntKind.i64.wrap ((j : Int) + 1) = j + 1 := wrap64_in (by omega)
      (refine aw_ops (by kernel_rfl) (fun K hK => ?_); simp [wb_bool, wb_undef, XL_nil, XL_cons, XLc_val, XLc_call, step1_eq, stepW_t, stepW_f, stepC_n, stepC_s, stepX_s, stepX_n, stepN_s, calleeX, oneV, xop_eq, xopR_s, xopR_n, wantedA_eq, wantedG_n, wantedG_s, plain1_int, plain1_bool, plain1_string, bits_i64, bits_u64, bits_u32, bits_u16, bits_u8, xeqA, xagg, xcmp, xarr, allK_iv, num_iv, calleeOf, xread, xeff, xbin, xint, xnil, xun, xstr, xload, xconv, xpart, xfield, xfieldAddr, xindexAddr, xindex, bnd, asInt?, xslice, xlen, xmin, xmax, xbuild, xfill, xappend, xapp2, xappstr, xappmk, xcap, xcopy, xcells, eval_tmp, eval_const, put_at, put_none, fr0_at, cells_agg, cells_int, cells_bool, cells_string, cells_ptr, cells_slice, notTuple, tab, iv_all, okD, isAggD, hget_app, hget_app0, hget_cons0, hget_cons, set_app, set_app0, setR, setR_one, QL_nil, QL_cons, QLc_val, stepQ_t, stepQ_f, stepQC_n, stepQC_s, stepQX_s, SL_nil, SL_cons, SLc_val, stepS_t, stepS_f, h4, h6, e4, e6, w1, w2, w3]; refine hK _ _ ?_; clear hK K)
      (refine aw_ops (by kernel_rfl) (fun K hK => ?_); simp [wb_bool, wb_undef, XL_nil, XL_cons, XLc_val, XLc_call, step1_eq, stepW_t, stepW_f, stepC_n, stepC_s, stepX_s, stepX_n, stepN_s, calleeX, oneV, xop_eq, xopR_s, xopR_n, wantedA_eq, wantedG_n, wantedG_s, plain1_int, plain1_bool, plain1_string, bits_i64, bits_u64, bits_u32, bits_u16, bits_u8, xeqA, xagg, xcmp, xarr, allK_iv, num_iv, calleeOf, xread, xeff, xbin, xint, xnil, xun, xstr, xload, xconv, xpart, xfield, xfieldAddr, xindexAddr, xindex, bnd, asInt?, xslice, xlen, xmin, xmax, xbuild, xfill, xappend, xapp2, xappstr, xappmk, xcap, xcopy, xcells, eval_tmp, eval_const, put_at, put_none, fr0_at, cells_agg, cells_int, cells_bool, cells_string, cells_ptr, cells_slice, notTuple, tab, iv_all, okD, isAggD, hget_app, hget_app0, hget_cons0, hget_cons, set_app, set_app0, setR, setR_one, QL_nil, QL_cons, QLc_val, stepQ_t, stepQ_f, stepQC_n, stepQC_s, stepQX_s, SL_nil, SL_cons, SLc_val, stepS_t, stepS_f, h4, e6, e7, w5, w6, iv_set]; refine hK _ _ ?_; clear hK K)
      (refine aw_ops (by kernel_rfl) (fun K hK => ?_); simp [wb_bool, wb_undef, XL_nil, XL_cons, XLc_val, XLc_call, step1_eq, stepW_t, stepW_f, stepC_n, stepC_s, stepX_s, stepX_n, stepN_s, calleeX, oneV, xop_eq, xopR_s, xopR_n, wantedA_eq, wantedG_n, wantedG_s, plain1_int, plain1_bool, plain1_string, bits_i64, bits_u64, bits_u32, bits_u16, bits_u8, xeqA, xagg, xcmp, xarr, allK_iv, num_iv, calleeOf, xread, xeff, xbin, xint, xnil, xun, xstr, xload, xconv, xpart, xfield, xfieldAddr, xindexAddr, xindex, bnd, asInt?, xslice, xlen, xmin, xmax, xbuild, xfill, xappend, xapp2, xappstr, xappmk, xcap, xcopy, xcells, eval_tmp, eval_const, put_at, put_none, fr0_at, cells_agg, cells_int, cells_bool, cells_string, cells_ptr, cells_slice, notTuple, tab, iv_all, okD, isAggD, hget_app, hget_app0, hget_cons0, hget_cons, set_app, set_app0, setR, setR_one, QL_nil, QL_cons, QLc_val, stepQ_t, stepQ_f, stepQC_n, stepQC_s, stepQX_s, SL_nil, SL_cons, SLc_val, stepS_t, stepS_f, h17, w7]; refine hK _ _ ?_; clear hK K)
      exact ⟨q' - 1, by omega, j + 1, by omega, by simp [put_at, put_none], by rw [e5]; simp [put_at, put_none], by simp [put_at, put_none, h10], by simp [put_at, put_none, h1], by simp [put_at, put_none, h2], by simp [put_at, put_none, h4], by rw [e5]⟩
    · refine aw_f (by simp [eval_tmp, put_at, hjt]) (by kernel_rfl) ?_
      obtain rfl : j = 32 := by omega
      refine aw_exit ?_
      refine aw_seq ?_
      by_cases hcc : (kin (outK d i) x 32).2 = 0
      · (refine aw_ops (by kernel_rfl) (fun K hK => ?_); simp [wb_bool, wb_undef, XL_nil, XL_cons, XLc_val, XLc_call, step1_eq, stepW_t, stepW_f, stepC_n, stepC_s, stepX_s, stepX_n, stepN_s, calleeX, oneV, xop_eq, xopR_s, xopR_n, wantedA_eq, wantedG_n, wantedG_s, plain1_int, plain1_bool, plain1_string, bits_i64, bits_u64, bits_u32, bits_u16, bits_u8, xeqA, xagg, xcmp, xarr, allK_iv, num_iv, calleeOf, xread, xeff, xbin, xint, xnil, xun, xstr, xload, xconv, xpart, xfield, xfieldAddr, xindexAddr, xindex, bnd, asInt?, xslice, xlen, xmin, xmax, xbuild, xfill, xappend, xapp2, xappstr, xappmk, xcap, xcopy, xcells, eval_tmp, eval_const, put_at, put_none, fr0_at, cells_agg, cells_int, cells_bool, cells_string, cells_ptr, cells_slice, notTuple, tab, iv_all, okD, isAggD, hget_app, hget_app0, hget_cons0, hget_cons, set_app, set_app0, setR, setR_one, QL_nil, QL_cons, QLc_val, stepQ_t, stepQ_f, stepQC_n, stepQC_s, stepQX_s, SL_nil, SL_cons, SLc_val, stepS_t, stepS_f, h6, hcc]; refine hK _ _ ?_; clear hK K)
        refine aw_f (by simp [eval_tmp, put_at]) (by kernel_rfl) ?_
        refine aw_skip ?_
        have w7 : IntKind.i64.wrap ((i : Int) + 1) = i + 1 := wrap64_in (by omega)
        (refine aw_ops (by kernel_rfl) (fun K hK => ?_); simp [wb_bool, wb_undef, XL_nil, XL_cons, XLc_val, XLc_call, step1_eq, stepW_t, stepW_f, stepC_n, stepC_s, stepX_s, stepX_n, stepN_s, calleeX, oneV, xop_eq, xopR_s, xopR_n, wantedA_eq, wantedG_n, wantedG_s, plain1_int, plain1_bool, plain1_string, bits_i64, bits_u64, bits_u32, bits_u16, bits_u8, xeqA, xagg, xcmp, xarr, allK_iv, num_iv, calleeOf, xread, xeff, xbin, xint, xnil, xun, xstr, xload, xconv, xpart, xfield, xfieldAddr, xindexAddr, xindex, bnd, asInt?, xslice, xlen, xmin, xmax, xbuild, xfill, xappend, xapp2, xappstr, xappmk, xcap, xcopy, xcells, eval_tmp, eval_const, put_at, put_none, fr0_at, cells_agg, cells_int, cells_bool, cells_string, cells_ptr, cells_slice, notTuple, tab, iv_all, okD, isAggD, hget_app, hget_app0, hget_cons0, hget_cons, set_app, set_app0, setR, setR_one, QL_nil, QL_cons, QLc_val, stepQ_t, stepQ_f, stepQC_n, stepQC_s, stepQX_s, SL_nil, SL_cons, SLc_val, stepS_t, stepS_f, h10, w7]; refine hK _ _ ?_; clear hK K)
        exact ⟨q - 1, by omega, i + 1, by omega, by rw [hxx.out, hf, hcc]; rfl, by simp [put_at, put_none], by simp [put_at, put_none, h1], by simp [put_at, put_none, h2], by simp [put_at, put_none, h4], by rw [hxy.out]⟩
      · have hpos : 0 < (kin (outK d i) x 32).2 := by omega
        (refine aw_ops (by kernel_rfl) (fun K hK => ?_); simp [wb_bool, wb_undef, XL_nil, XL_cons, XLc_val, XLc_call, step1_eq, stepW_t, stepW_f, stepC_n, stepC_s, stepX_s, stepX_n, stepN_s, calleeX, oneV, xop_eq, xopR_s, xopR_n, wantedA_eq, wantedG_n, wantedG_s, plain1_int, plain1_bool, plain1_string, bits_i64, bits_u64, bits_u32, bits_u16, bits_u8, xeqA, xagg, xcmp, xarr, allK_iv, num_iv, calleeOf, xread, xeff, xbin, xint, xnil, xun, xstr, xload, xconv, xpart, xfield, xfieldAddr, xindexAddr, xindex, bnd, asInt?, xslice, xlen, xmin, xmax, xbuild, xfill, xappend, xapp2, xappstr, xappmk, xcap, xcopy, xcells, eval_tmp, eval_const, put_at, put_none, fr0_at, cells_agg, cells_int, cells_bool, cells_string, cells_ptr, cells_slice, notTuple, tab, iv_all, okD, isAggD, hget_app, hget_app0, hget_cons0, hget_cons, set_app, set_app0, setR, setR_one, QL_nil, QL_cons, QLc_val, stepQ_t, stepQ_f, stepQC_n, stepQC_s, stepQX_s, SL_nil, SL_cons, SLc_val, stepS_t, stepS_f, h6, hpos]; refine hK _ _ ?_; clear hK K)
        refine aw_t (by simp [eval_tmp, put_at]) (by kernel_rfl) ?_
        refine aw_seq ?_
        (refine aw_ops (by kernel_rfl) (fun K hK => ?_); simp [wb_bool, wb_undef, XL_nil, XL_cons, XLc_val, XLc_call, step1_eq, stepW_t, stepW_f, stepC_n, stepC_s, stepX_s, stepX_n, stepN_s, calleeX, oneV, xop_eq, xopR_s, xopR_n, wantedA_eq, wantedG_n, wantedG_s, plain1_int, plain1_bool, plain1_string, bits_i64, bits_u64, bits_u32, bits_u16, bits_u8, xeqA, xagg, xcmp, xarr, allK_iv, num_iv, calleeOf, xread, xeff, xbin, xint, xnil, xun, xstr, xload, xconv, xpart, xfield, xfieldAddr, xindexAddr, xindex, bnd, asInt?, xslice, xlen, xmin, xmax, xbuild, xfill, xappend, xapp2, xappstr, xappmk, xcap, xcopy, xcells, eval_tmp, eval_const, put_at, put_none, fr0_at, cells_agg, cells_int, cells_bool, cells_string, cells_ptr, cells_slice, notTuple, tab, iv_all, okD, isAggD, hget_app, hget_app0, hget_cons0, hget_cons, set_app, set_app0, setR, setR_one, QL_nil, QL_cons, QLc_val, stepQ_t, stepQ_f, stepQC_n, stepQC_s, stepQX_s, SL_nil, SL_cons, SLc_val, stepS_t, stepS_f, h2, setR_all]; refine hK _ _ ?_; clear hK K)
        (refine aw_ret ?_; simp [thenQ_ret, inBlockQ_ret, RQ, resL, resV, xload, tab, okD, isAggD, hget_app, hget_app0, hget_cons0, hget_cons, notTuple, put_at, put_none, h2, List.take_of_length_le])
        simp [keyV, hxn.out hcc]
  · refine aw_f (by simp [eval_tmp, put_at, hlt]) (by kernel_rfl) ?_
    obtain rfl : i = 78 := by omega
    refine aw_exit ?_
    refine aw_seq ?_
    (refine aw_ops (by kernel_rfl) (fun K hK => ?_); simp [wb_bool, wb_undef, XL_nil, XL_cons, XLc_val, XLc_call, step1_eq, stepW_t, stepW_f, stepC_n, stepC_s, stepX_s, stepX_n, stepN_s, calleeX, oneV, xop_eq, xopR_s, xopR_n, wantedA_eq, wantedG_n, wantedG_s, plain1_int, plain1_bool, plain1_string, bits_i64, bits_u64, bits_u32, bits_u16, bits_u8, xeqA, xagg, xcmp, xarr, allK_iv, num_iv, calleeOf, xread, xeff, xbin, xint, xnil, xun, xstr, xload, xconv, xpart, xfield, xfieldAddr, xindexAddr, xindex, bnd, asInt?, xslice, xlen, xmin, xmax, xbuild, xfill, xappend, xapp2, xappstr, xappmk, xcap, xcopy, xcells, eval_tmp, eval_const, put_at, put_none, fr0_at, cells_agg, cells_int, cells_bool, cells_string, cells_ptr, cells_slice, notTuple, tab, iv_all, okD, isAggD, hget_app, hget_app0, hget_cons0, hget_cons, set_app, set_app0, setR, setR_one, QL_nil, QL_cons, QLc_val, stepQ_t, stepQ_f, stepQC_n, stepQC_s, stepQX_s, SL_nil, SL_cons, SLc_val, stepS_t, stepS_f, h2, h4, ho2, setR_all, List.take_of_length_le]; refine hK _ _ ?_; clear hK K)
    (refine aw_ret ?_; simp [thenQ_ret, inBlockQ_ret, RQ, resL, resV, xload, tab, okD, isAggD, hget_app, hget_app0, hget_cons0, hget_cons, notTuple, put_at, put_none, h2, ho2, List.take_of_length_le])
    simp [keyV, hf]
end
end Go.Proofs.YtmnkbdclnaekkaaDoor
