/-
  Words turned: RotateLeft32, sigma, spread, as plain functions.
  A hash's block as a list of cells; its sixteen words, and the sixty-four.
  One block taken: compress, as a plain function of lists.
  A word laid into four bytes.
  A hash under way, byte by byte, as a plain function of lists.
  (*Hash).Write: parts taken, byte by byte.
  pad, (*Hash).Sum, (*Hash).Len and digest.Sum, as plain functions of lists.
  Own slices with their blocks as a footprint.
  strings.Builder, at this program: Len, WriteString, String.
  Blocks of noughts, filled blocks, the mark: written and read.
  The mark, read.
  A writer: where it lies; one byte more.
  A writer's numbers: the bytes.
  Numbers, walked.
  The writer's text; lists of numbers.
  Texts, walked.
  The reference's number.
  A reader: where it lies; a number read.
-/
import Derived.Test.YtgamobjfeaeddaaGreatDoorMpB
import Derived.Test.YtgamobjfeaeddaaGreatDoorTabm
import Derived.Lib.Strings
import Derived.Test.YtgamobjfeaeddaaGreatDoorShelf
import Derived.Test.YtgamobjfeaeddaaGreatDoorMpC
namespace Go.Proofs.YtgamobjfeaeddaaGreatDoor
open Go Go.RowKit
set_option linter.unusedSimpArgs false
set_option linter.unusedVariables false
set_option maxRecDepth 100000
set_option maxHeartbeats 4000000
section
theorem wrapU64 (n : Int) : IntKind.u64.wrap n = n % 18446744073709551616 := by simp [IntKind.wrap, IntKind.bits, IntKind.signed]
theorem wrapU32 (n : Int) : IntKind.u32.wrap n = n % 4294967296 := by simp [IntKind.wrap, IntKind.bits, IntKind.signed]
/-- A word turned right. -/
def rr (x a : Int) : Int := bitsOf .or .u32 (IntKind.u32.wrap (x * 2 ^ (min (32 - a).toNat 32))) (x.fdiv (2 ^ (min a.toNat 32)))
def sigF (x a b c : Int) : Int := bitsOf .xor .u32 (bitsOf .xor .u32 (rr x a) (rr x b)) (rr x c)
def sprF (x a b c : Int) : Int := bitsOf .xor .u32 (bitsOf .xor .u32 (rr x a) (rr x b)) (x.fdiv (2 ^ (min c.toNat 32)))
theorem and31 : ∀ a : Nat, a < 31 → bitsOf .and .u64 (18446744073709551616 - ((a : Int) + 1)) 31 = 32 - ((a : Int) + 1) := by decide +kernel
theorem rot_vc (x a : Int) (ha : 1 ≤ a ∧ a ≤ 31) : VC Tryz.prog 106 #[.int .u32 x, .int .i64 (-a)] (.int .u32 (rr x a)) := by
  refine vc_of_ac (by simp [pv_iv, pv_int, pv_bool, pv_string, pv_tup2, pv_tup3, iv_plain, p2_int, p2_bool, p2_string]) (by simp [pv_iv, pv_int, pv_bool, pv_string, pv_tup2, pv_tup3, iv_plain, p2_int, p2_bool, p2_string]) ?_
  refine ac_of_aw Tryz.func106 rfl Tryz.ntmps106 Tryz.results106 (by simp) ?_
  have e1 : IntKind.u64.wrap (-a) = 18446744073709551616 - a := by simp only [wrapU64]; omega
  have e2 : bitsOf .and .u64 (18446744073709551616 - a) 31 = 32 - a := by
    have := and31 (a.toNat - 1) (by omega)
    rw [show ((a.toNat - 1 : Nat) : Int) + 1 = a by omega] at this
    exact this
  obtain ⟨s, hs⟩ : ∃ s : Int, s = 32 - a := ⟨_, rfl⟩
  rw [← hs] at e2
  have e3 : IntKind.u64.wrap (32 - s) = a := by simp only [wrapU64]; omega
  have h1 : ¬ s < 0 := by omega
  have h2 : ¬ a < 0 := by omega
  have hr : rr x a = bitsOf .or .u32 (IntKind.u32.wrap (x * 2 ^ (min s.toNat 32))) (x.fdiv (2 ^ (min a.toNat 32))) := by rw [rr, hs]
  rw [hr]
  refine aw_seq ?_
  (refine aw_ops (by kernel_rfl) (fun K hK => ?_); simp [wb_bool, wb_undef, XL_nil, XL_cons, XLc_val, XLc_call, step1_eq, stepW_t, stepW_f, stepC_n, stepC_s, stepX_s, stepX_n, stepN_s, calleeX, oneV, xop_eq, xopR_s, xopR_n, wantedA_eq, wantedG_n, wantedG_s, plain1_int, plain1_bool, plain1_string, bits_i64, bits_u64, bits_u32, bits_u16, bits_u8, xeqA, xagg, xcmp, xarr, allK_iv, num_iv, calleeOf, xread, xeff, xbin, xint, xnil, xun, xstr, xload, xconv, xpart, xfield, xfieldAddr, xindexAddr, xindex, bnd, asInt?, xslice, xlen, xmin, xmax, xbuild, xfill, xappend, xapp2, xappstr, xappmk, xcap, xcopy, xcells, eval_tmp, eval_const, put_at, put_none, fr0_at, cells_agg, cells_int, cells_bool, cells_string, cells_ptr, cells_slice, notTuple, tab, iv_all, okD, isAggD, hget_app, hget_app0, hget_cons0, hget_cons, set_app, set_app0, setR, setR_one, QL_nil, QL_cons, QLc_val, stepQ_t, stepQ_f, stepQC_n, stepQC_s, stepQX_s, SL_nil, SL_cons, SLc_val, stepS_t, stepS_f]; refine hK _ _ ?_; clear hK K)
  refine aw_seq ?_
  (refine aw_ops (by kernel_rfl) (fun K hK => ?_); simp [wb_bool, wb_undef, XL_nil, XL_cons, XLc_val, XLc_call, step1_eq, stepW_t, stepW_f, stepC_n, stepC_s, stepX_s, stepX_n, stepN_s, calleeX, oneV, xop_eq, xopR_s, xopR_n, wantedA_eq, wantedG_n, wantedG_s, plain1_int, plain1_bool, plain1_string, bits_i64, bits_u64, bits_u32, bits_u16, bits_u8, xeqA, xagg, xcmp, xarr, allK_iv, num_iv, calleeOf, xread, xeff, xbin, xint, xnil, xun, xstr, xload, xconv, xpart, xfield, xfieldAddr, xindexAddr, xindex, bnd, asInt?, xslice, xlen, xmin, xmax, xbuild, xfill, xappend, xapp2, xappstr, xappmk, xcap, xcopy, xcells, eval_tmp, eval_const, put_at, put_none, fr0_at, cells_agg, cells_int, cells_bool, cells_string, cells_ptr, cells_slice, notTuple, tab, iv_all, okD, isAggD, hget_app, hget_app0, hget_cons0, hget_cons, set_app, set_app0, setR, setR_one, QL_nil, QL_cons, QLc_val, stepQ_t, stepQ_f, stepQC_n, stepQC_s, stepQX_s, SL_nil, SL_cons, SLc_val, stepS_t, stepS_f, e1, e2]; refine hK _ _ ?_; clear hK K)
  refine aw_seq ?_
  (refine aw_ops (by kernel_rfl) (fun K hK => ?_); simp [wb_bool, wb_undef, XL_nil, XL_cons, XLc_val, XLc_call, step1_eq, stepW_t, stepW_f, stepC_n, stepC_s, stepX_s, stepX_n, stepN_s, calleeX, oneV, xop_eq, xopR_s, xopR_n, wantedA_eq, wantedG_n, wantedG_s, plain1_int, plain1_bool, plain1_string, bits_i64, bits_u64, bits_u32, bits_u16, bits_u8, xeqA, xagg, xcmp, xarr, allK_iv, num_iv, calleeOf, xread, xeff, xbin, xint, xnil, xun, xstr, xload, xconv, xpart, xfield, xfieldAddr, xindexAddr, xindex, bnd, asInt?, xslice, xlen, xmin, xmax, xbuild, xfill, xappend, xapp2, xappstr, xappmk, xcap, xcopy, xcells, eval_tmp, eval_const, put_at, put_none, fr0_at, cells_agg, cells_int, cells_bool, cells_string, cells_ptr, cells_slice, notTuple, tab, iv_all, okD, isAggD, hget_app, hget_app0, hget_cons0, hget_cons, set_app, set_app0, setR, setR_one, QL_nil, QL_cons, QLc_val, stepQ_t, stepQ_f, stepQC_n, stepQC_s, stepQX_s, SL_nil, SL_cons, SLc_val, stepS_t, stepS_f, e3, h1, h2]; refine hK _ _ ?_; clear hK K)
  (refine aw_ret ?_; simp [thenQ_ret, inBlockQ_ret, RQ, resL, resV, xload, tab, okD, isAggD, hget_app, hget_app0, hget_cons0, hget_cons, notTuple, put_at, put_none])
theorem sigma_vc (x a b c : Int) (ha : 1 ≤ a ∧ a ≤ 31) (hb : 1 ≤ b ∧ b ≤ 31) (hc : 1 ≤ c ∧ c ≤ 31) : VC Tryz.prog 104 #[.int .u32 x, .int .i64 a, .int .i64 b, .int .i64 c] (.int .u32 (sigF x a b c)) := by
  refine vc_of_ac (by simp [pv_iv, pv_int, pv_bool, pv_string, pv_tup2, pv_tup3, iv_plain, p2_int, p2_bool, p2_string]) (by simp [pv_iv, pv_int, pv_bool, pv_string, pv_tup2, pv_tup3, iv_plain, p2_int, p2_bool, p2_string]) ?_
  refine ac_of_aw Tryz.func104 rfl Tryz.ntmps104 Tryz.results104 (by simp) ?_
  have e1 : IntKind.i64.wrap (-a) = -a := wrap64_in (by omega)
  have e2 : IntKind.i64.wrap (-b) = -b := wrap64_in (by omega)
  have e3 : IntKind.i64.wrap (-c) = -c := wrap64_in (by omega)
  refine aw_seq ?_
  (refine aw_ops (by kernel_rfl) (fun K hK => ?_); simp [wb_bool, wb_undef, XL_nil, XL_cons, XLc_val, XLc_call, step1_eq, stepW_t, stepW_f, stepC_n, stepC_s, stepX_s, stepX_n, stepN_s, calleeX, oneV, xop_eq, xopR_s, xopR_n, wantedA_eq, wantedG_n, wantedG_s, plain1_int, plain1_bool, plain1_string, bits_i64, bits_u64, bits_u32, bits_u16, bits_u8, xeqA, xagg, xcmp, xarr, allK_iv, num_iv, calleeOf, xread, xeff, xbin, xint, xnil, xun, xstr, xload, xconv, xpart, xfield, xfieldAddr, xindexAddr, xindex, bnd, asInt?, xslice, xlen, xmin, xmax, xbuild, xfill, xappend, xapp2, xappstr, xappmk, xcap, xcopy, xcells, eval_tmp, eval_const, put_at, put_none, fr0_at, cells_agg, cells_int, cells_bool, cells_string, cells_ptr, cells_slice, notTuple, tab, iv_all, okD, isAggD, hget_app, hget_app0, hget_cons0, hget_cons, set_app, set_app0, setR, setR_one, QL_nil, QL_cons, QLc_val, stepQ_t, stepQ_f, stepQC_n, stepQC_s, stepQX_s, SL_nil, SL_cons, SLc_val, stepS_t, stepS_f]; refine hK _ _ ?_; clear hK K)
  refine aw_seq ?_
  refine aw_ops (by kernel_rfl) (fun K hK => ?_)
  simp [wb_bool, wb_undef, XL_nil, XL_cons, XLc_val, XLc_call, step1_eq, stepW_t, stepW_f, stepC_n, stepC_s, stepX_s, stepX_n, stepN_s, calleeX, oneV, xop_eq, xopR_s, xopR_n, wantedA_eq, wantedG_n, wantedG_s, plain1_int, plain1_bool, plain1_string, bits_i64, bits_u64, bits_u32, bits_u16, bits_u8, xeqA, xagg, xcmp, xarr, allK_iv, num_iv, calleeOf, xread, xeff, xbin, xint, xnil, xun, xstr, xload, xconv, xpart, xfield, xfieldAddr, xindexAddr, xindex, bnd, asInt?, xslice, xlen, xmin, xmax, xbuild, xfill, xappend, xapp2, xappstr, xappmk, xcap, xcopy, xcells, eval_tmp, eval_const, put_at, put_none, fr0_at, cells_agg, cells_int, cells_bool, cells_string, cells_ptr, cells_slice, notTuple, tab, iv_all, okD, isAggD, hget_app, hget_app0, hget_cons0, hget_cons, set_app, set_app0, setR, setR_one, QL_nil, QL_cons, QLc_val, stepQ_t, stepQ_f, stepQC_n, stepQC_s, stepQX_s, SL_nil, SL_cons, SLc_val, stepS_t, stepS_f, e1, e2, e3]
  refine ⟨by kernel_rfl, ac_of_vc (by simp [pv_iv, pv_int, pv_bool, pv_string, pv_tup2, pv_tup3, iv_plain, p2_int, p2_bool, p2_string]) (rot_vc x a ha) ?_⟩
  refine ⟨by kernel_rfl, ac_of_vc (by simp [pv_iv, pv_int, pv_bool, pv_string, pv_tup2, pv_tup3, iv_plain, p2_int, p2_bool, p2_string]) (rot_vc x b hb) ?_⟩
  try simp [wb_bool, wb_undef, XL_nil, XL_cons, XLc_val, XLc_call, step1_eq, stepW_t, stepW_f, stepC_n, stepC_s, stepX_s, stepX_n, stepN_s, calleeX, oneV, xop_eq, xopR_s, xopR_n, wantedA_eq, wantedG_n, wantedG_s, plain1_int, plain1_bool, plain1_string, bits_i64, bits_u64, bits_u32, bits_u16, bits_u8, xeqA, xagg, xcmp, xarr, allK_iv, num_iv, calleeOf, xread, xeff, xbin, xint, xnil, xun, xstr, xload, xconv, xpart, xfield, xfieldAddr, xindexAddr, xindex, bnd, asInt?, xslice, xlen, xmin, xmax, xbuild, xfill, xappend, xapp2, xappstr, xappmk, xcap, xcopy, xcells, eval_tmp, eval_const, put_at, put_none, fr0_at, cells_agg, cells_int, cells_bool, cells_string, cells_ptr, cells_slice, notTuple, tab, iv_all, okD, isAggD, hget_app, hget_app0, hget_cons0, hget_cons, set_app, set_app0, setR, setR_one, QL_nil, QL_cons, QLc_val, stepQ_t, stepQ_f, stepQC_n, stepQC_s, stepQX_s, SL_nil, SL_cons, SLc_val, stepS_t, stepS_f, e1, e2, e3]
  refine ⟨by kernel_rfl, ac_of_vc (by simp [pv_iv, pv_int, pv_bool, pv_string, pv_tup2, pv_tup3, iv_plain, p2_int, p2_bool, p2_string]) (rot_vc x c hc) ?_⟩
  try simp [wb_bool, wb_undef, XL_nil, XL_cons, XLc_val, XLc_call, step1_eq, stepW_t, stepW_f, stepC_n, stepC_s, stepX_s, stepX_n, stepN_s, calleeX, oneV, xop_eq, xopR_s, xopR_n, wantedA_eq, wantedG_n, wantedG_s, plain1_int, plain1_bool, plain1_string, bits_i64, bits_u64, bits_u32, bits_u16, bits_u8, xeqA, xagg, xcmp, xarr, allK_iv, num_iv, calleeOf, xread, xeff, xbin, xint, xnil, xun, xstr, xload, xconv, xpart, xfield, xfieldAddr, xindexAddr, xindex, bnd, asInt?, xslice, xlen, xmin, xmax, xbuild, xfill, xappend, xapp2, xappstr, xappmk, xcap, xcopy, xcells, eval_tmp, eval_const, put_at, put_none, fr0_at, cells_agg, cells_int, cells_bool, cells_string, cells_ptr, cells_slice, notTuple, tab, iv_all, okD, isAggD, hget_app, hget_app0, hget_cons0, hget_cons, set_app, set_app0, setR, setR_one, QL_nil, QL_cons, QLc_val, stepQ_t, stepQ_f, stepQC_n, stepQC_s, stepQX_s, SL_nil, SL_cons, SLc_val, stepS_t, stepS_f]
  refine hK _ _ ?_; clear hK K
  (refine aw_ret ?_; simp [thenQ_ret, inBlockQ_ret, RQ, resL, resV, xload, tab, okD, isAggD, hget_app, hget_app0, hget_cons0, hget_cons, notTuple, put_at, put_none])
  rfl
theorem spread_vc (x a b c : Int) (ha : 1 ≤ a ∧ a ≤ 31) (hb : 1 ≤ b ∧ b ≤ 31) (hc : 1 ≤ c ∧ c ≤ 31) : VC Tryz.prog 105 #[.int .u32 x, .int .i64 a, .int .i64 b, .int .i64 c] (.int .u32 (sprF x a b c)) := by
  refine vc_of_ac (by simp [pv_iv, pv_int, pv_bool, pv_string, pv_tup2, pv_tup3, iv_plain, p2_int, p2_bool, p2_string]) (by simp [pv_iv, pv_int, pv_bool, pv_string, pv_tup2, pv_tup3, iv_plain, p2_int, p2_bool, p2_string]) ?_
  refine ac_of_aw Tryz.func105 rfl Tryz.ntmps105 Tryz.results105 (by simp) ?_
  have e1 : IntKind.i64.wrap (-a) = -a := wrap64_in (by omega)
  have e2 : IntKind.i64.wrap (-b) = -b := wrap64_in (by omega)
  have h2 : ¬ c < 0 := by omega
  refine aw_seq ?_
  (refine aw_ops (by kernel_rfl) (fun K hK => ?_); simp [wb_bool, wb_undef, XL_nil, XL_cons, XLc_val, XLc_call, step1_eq, stepW_t, stepW_f, stepC_n, stepC_s, stepX_s, stepX_n, stepN_s, calleeX, oneV, xop_eq, xopR_s, xopR_n, wantedA_eq, wantedG_n, wantedG_s, plain1_int, plain1_bool, plain1_string, bits_i64, bits_u64, bits_u32, bits_u16, bits_u8, xeqA, xagg, xcmp, xarr, allK_iv, num_iv, calleeOf, xread, xeff, xbin, xint, xnil, xun, xstr, xload, xconv, xpart, xfield, xfieldAddr, xindexAddr, xindex, bnd, asInt?, xslice, xlen, xmin, xmax, xbuild, xfill, xappend, xapp2, xappstr, xappmk, xcap, xcopy, xcells, eval_tmp, eval_const, put_at, put_none, fr0_at, cells_agg, cells_int, cells_bool, cells_string, cells_ptr, cells_slice, notTuple, tab, iv_all, okD, isAggD, hget_app, hget_app0, hget_cons0, hget_cons, set_app, set_app0, setR, setR_one, QL_nil, QL_cons, QLc_val, stepQ_t, stepQ_f, stepQC_n, stepQC_s, stepQX_s, SL_nil, SL_cons, SLc_val, stepS_t, stepS_f]; refine hK _ _ ?_; clear hK K)
  refine aw_seq ?_
  refine aw_quietM (by kernel_rfl) (by kernel_rfl) (by kernel_rfl) (fun K hK => ?_)
  simp [wb_bool, wb_undef, XL_nil, XL_cons, XLc_val, XLc_call, step1_eq, stepW_t, stepW_f, stepC_n, stepC_s, stepX_s, stepX_n, stepN_s, calleeX, oneV, xop_eq, xopR_s, xopR_n, wantedA_eq, wantedG_n, wantedG_s, plain1_int, plain1_bool, plain1_string, bits_i64, bits_u64, bits_u32, bits_u16, bits_u8, xeqA, xagg, xcmp, xarr, allK_iv, num_iv, calleeOf, xread, xeff, xbin, xint, xnil, xun, xstr, xload, xconv, xpart, xfield, xfieldAddr, xindexAddr, xindex, bnd, asInt?, xslice, xlen, xmin, xmax, xbuild, xfill, xappend, xapp2, xappstr, xappmk, xcap, xcopy, xcells, eval_tmp, eval_const, put_at, put_none, fr0_at, cells_agg, cells_int, cells_bool, cells_string, cells_ptr, cells_slice, notTuple, tab, iv_all, okD, isAggD, hget_app, hget_app0, hget_cons0, hget_cons, set_app, set_app0, setR, setR_one, QL_nil, QL_cons, QLc_val, stepQ_t, stepQ_f, stepQC_n, stepQC_s, stepQX_s, SL_nil, SL_cons, SLc_val, stepS_t, stepS_f, QM_nil, QM_cons, QMc_val, e1, e2, h2]
  refine QMc_call (by kernel_rfl) (ac_of_vc (by simp [pv_iv, pv_int, pv_bool, pv_string, pv_tup2, pv_tup3, iv_plain, p2_int, p2_bool, p2_string]) (rot_vc x a ha) rfl) rfl ?_
  simp [wb_bool, wb_undef, XL_nil, XL_cons, XLc_val, XLc_call, step1_eq, stepW_t, stepW_f, stepC_n, stepC_s, stepX_s, stepX_n, stepN_s, calleeX, oneV, xop_eq, xopR_s, xopR_n, wantedA_eq, wantedG_n, wantedG_s, plain1_int, plain1_bool, plain1_string, bits_i64, bits_u64, bits_u32, bits_u16, bits_u8, xeqA, xagg, xcmp, xarr, allK_iv, num_iv, calleeOf, xread, xeff, xbin, xint, xnil, xun, xstr, xload, xconv, xpart, xfield, xfieldAddr, xindexAddr, xindex, bnd, asInt?, xslice, xlen, xmin, xmax, xbuild, xfill, xappend, xapp2, xappstr, xappmk, xcap, xcopy, xcells, eval_tmp, eval_const, put_at, put_none, fr0_at, cells_agg, cells_int, cells_bool, cells_string, cells_ptr, cells_slice, notTuple, tab, iv_all, okD, isAggD, hget_app, hget_app0, hget_cons0, hget_cons, set_app, set_app0, setR, setR_one, QL_nil, QL_cons, QLc_val, stepQ_t, stepQ_f, stepQC_n, stepQC_s, stepQX_s, SL_nil, SL_cons, SLc_val, stepS_t, stepS_f, QM_nil, QM_cons, QMc_val, e1, e2, h2]
  refine QMc_call (by kernel_rfl) (ac_of_vc (by simp [pv_iv, pv_int, pv_bool, pv_string, pv_tup2, pv_tup3, iv_plain, p2_int, p2_bool, p2_string]) (rot_vc x b hb) rfl) rfl ?_
  simp [wb_bool, wb_undef, XL_nil, XL_cons, XLc_val, XLc_call, step1_eq, stepW_t, stepW_f, stepC_n, stepC_s, stepX_s, stepX_n, stepN_s, calleeX, oneV, xop_eq, xopR_s, xopR_n, wantedA_eq, wantedG_n, wantedG_s, plain1_int, plain1_bool, plain1_string, bits_i64, bits_u64, bits_u32, bits_u16, bits_u8, xeqA, xagg, xcmp, xarr, allK_iv, num_iv, calleeOf, xread, xeff, xbin, xint, xnil, xun, xstr, xload, xconv, xpart, xfield, xfieldAddr, xindexAddr, xindex, bnd, asInt?, xslice, xlen, xmin, xmax, xbuild, xfill, xappend, xapp2, xappstr, xappmk, xcap, xcopy, xcells, eval_tmp, eval_const, put_at, put_none, fr0_at, cells_agg, cells_int, cells_bool, cells_string, cells_ptr, cells_slice, notTuple, tab, iv_all, okD, isAggD, hget_app, hget_app0, hget_cons0, hget_cons, set_app, set_app0, setR, setR_one, QL_nil, QL_cons, QLc_val, stepQ_t, stepQ_f, stepQC_n, stepQC_s, stepQX_s, SL_nil, SL_cons, SLc_val, stepS_t, stepS_f, QM_nil, QM_cons, QMc_val, e1, e2, h2]
  refine hK _ ?_; clear hK K
  (refine aw_ret ?_; simp [thenQ_ret, inBlockQ_ret, RQ, resL, resV, xload, tab, okD, isAggD, hget_app, hget_app0, hget_cons0, hget_cons, notTuple, put_at, put_none])
  rfl
end
section
theorem get_of {l : List Value} {i : Nat} {v : Value} (h : l[i]? = some v) (h' : i < l.length) : l[i]'h' = v := by
  rw [List.getElem?_eq_getElem h'] at h; exact Option.some.inj h
/-- A hash's cells: the state, the block, the size. -/
def hcells (st rs : List Int) (n : Int) : List Value := iv .u32 st ++ (iv .u8 rs ++ [.int .u64 n])
theorem hcells_len (st rs : List Int) (n : Int) : (hcells st rs n).length = st.length + (rs.length + 1) := by simp [hcells]
theorem hcells_st (st rs : List Int) (n : Int) (i : Nat) (h : i < st.length) : (hcells st rs n)[i]? = some (.int .u32 (st.getD i 0)) := by
  unfold hcells
  rw [List.getElem?_append_left (by simp; omega)]
  exact iv_get _ _ _ h
theorem hcells_rs (st rs : List Int) (n : Int) (i : Nat) (hs : st.length = 8) (h : i < rs.length) : (hcells st rs n)[8 + i]? = some (.int .u8 (rs.getD i 0)) := by
  unfold hcells
  rw [List.getElem?_append_right (by simp; omega), iv_length, hs, show 8 + i - 8 = i by omega, List.getElem?_append_left (by simp; omega)]
  exact iv_get _ _ _ h
theorem hcells_n (st rs : List Int) (n : Int) (hs : st.length = 8) (hr : rs.length = 64) : (hcells st rs n)[72]? = some (.int .u64 n) := by
  unfold hcells
  rw [List.getElem?_append_right (by simp; omega), iv_length, hs, List.getElem?_append_right (by simp; omega), iv_length, hr]
  rfl
/-- The i-th word of the block. -/
def w4 (rs : List Int) (i : Nat) : Int :=
  bitsOf .or .u32 (bitsOf .or .u32 (bitsOf .or .u32 (IntKind.u32.wrap (rs.getD (4 * i) 0 * 16777216)) (IntKind.u32.wrap (rs.getD (4 * i + 1) 0 * 65536))) (IntKind.u32.wrap (rs.getD (4 * i + 2) 0 * 256))) (rs.getD (4 * i + 3) 0)
def w16 (rs : List Int) : Nat → List Int
  | 0 => zl 64
  | i + 1 => (w16 rs i).set i (w4 rs i)
def w64 (rs : List Int) : Nat → List Int
  | 0 => w16 rs 16
  | j + 1 => (w64 rs j).set (16 + j) (IntKind.u32.wrap (IntKind.u32.wrap (IntKind.u32.wrap (sprF ((w64 rs j).getD (14 + j) 0) 17 19 10 + (w64 rs j).getD (9 + j) 0) + sprF ((w64 rs j).getD (1 + j) 0) 7 18 3) + (w64 rs j).getD j 0))
theorem w16_len (rs : List Int) : ∀ i, (w16 rs i).length = 64
  | 0 => by simp [w16]
  | i + 1 => by simp [w16, w16_len rs i]
theorem w64_len (rs : List Int) : ∀ i, (w64 rs i).length = 64
  | 0 => w16_len rs 16
  | i + 1 => by simp [w64, w64_len rs i]
theorem w16_succ (rs : List Int) (i : Nat) : w16 rs (i + 1) = (w16 rs i).set i (w4 rs i) := rfl
theorem w64_succ (rs : List Int) (j : Nat) : w64 rs (j + 1) = (w64 rs j).set (16 + j) (IntKind.u32.wrap (IntKind.u32.wrap (IntKind.u32.wrap (sprF ((w64 rs j).getD (14 + j) 0) 17 19 10 + (w64 rs j).getD (9 + j) 0) + sprF ((w64 rs j).getD (1 + j) 0) 7 18 3) + (w64 rs j).getD j 0)) := rfl
theorem w64_zero (rs : List Int) : w64 rs 0 = w16 rs 16 := rfl
attribute [local irreducible] w16 w64 w4 hcells zl sprF
theorem words_ac {nro : Nat} {γ : Nat → Option Nat} {H : AH} (st rs : List Int) (n : Int) (hs : st.length = 8) (hr : rs.length = 64) (hb : ∀ p, 0 ≤ rs.getD p 0 ∧ rs.getD p 0 ≤ 255) (hn : nro ≤ H.length) (b : Nat) (ty : TypeId) (hg : hget H b = some ⟨hcells st rs n, ty, none⟩) :
    AC Tryz.prog nro γ 103 #[.pointer (some ⟨b, 0, none⟩)] H (fun v' _ => v' = .agg (iv .u32 (w64 rs 48)).toArray) := by
  refine ac_of_aw Tryz.func103 rfl Tryz.ntmps103 Tryz.results103 (by simp) ?_
  have hg2 : ∀ x y, hget (H ++ [x, y]) b = some ⟨hcells st rs n, ty, none⟩ := fun x y => hget_left' hg
  have hln := hcells_len st rs n
  have hn1 : nro ≤ H.length + 1 := by omega
  refine aw_seq ?_
  (refine aw_ops (by kernel_rfl) (fun K hK => ?_); simp [wb_bool, wb_undef, XL_nil, XL_cons, XLc_val, XLc_call, step1_eq, stepW_t, stepW_f, stepC_n, stepC_s, stepX_s, stepX_n, stepN_s, calleeX, oneV, xop_eq, xopR_s, xopR_n, wantedA_eq, wantedG_n, wantedG_s, plain1_int, plain1_bool, plain1_string, bits_i64, bits_u64, bits_u32, bits_u16, bits_u8, xeqA, xagg, xcmp, xarr, allK_iv, num_iv, calleeOf, xread, xeff, xbin, xint, xnil, xun, xstr, xload, xconv, xpart, xfield, xfieldAddr, xindexAddr, xindex, bnd, asInt?, xslice, xlen, xmin, xmax, xbuild, xfill, xappend, xapp2, xappstr, xappmk, xcap, xcopy, xcells, eval_tmp, eval_const, put_at, put_none, fr0_at, cells_agg, cells_int, cells_bool, cells_string, cells_ptr, cells_slice, notTuple, tab, iv_all, okD, isAggD, hget_app, hget_app0, hget_cons0, hget_cons, set_app, set_app0, setR, setR_one, QL_nil, QL_cons, QLc_val, stepQ_t, stepQ_f, stepQC_n, stepQC_s, stepQX_s, SL_nil, SL_cons, SLc_val, stepS_t, stepS_f]; refine hK _ _ ?_; clear hK K)
  refine aw_seq ?_
  (refine aw_ops (by kernel_rfl) (fun K hK => ?_); simp [wb_bool, wb_undef, XL_nil, XL_cons, XLc_val, XLc_call, step1_eq, stepW_t, stepW_f, stepC_n, stepC_s, stepX_s, stepX_n, stepN_s, calleeX, oneV, xop_eq, xopR_s, xopR_n, wantedA_eq, wantedG_n, wantedG_s, plain1_int, plain1_bool, plain1_string, bits_i64, bits_u64, bits_u32, bits_u16, bits_u8, xeqA, xagg, xcmp, xarr, allK_iv, num_iv, calleeOf, xread, xeff, xbin, xint, xnil, xun, xstr, xload, xconv, xpart, xfield, xfieldAddr, xindexAddr, xindex, bnd, asInt?, xslice, xlen, xmin, xmax, xbuild, xfill, xappend, xapp2, xappstr, xappmk, xcap, xcopy, xcells, eval_tmp, eval_const, put_at, put_none, fr0_at, cells_agg, cells_int, cells_bool, cells_string, cells_ptr, cells_slice, notTuple, tab, iv_all, okD, isAggD, hget_app, hget_app0, hget_cons0, hget_cons, set_app, set_app0, setR, setR_one, QL_nil, QL_cons, QLc_val, stepQ_t, stepQ_f, stepQC_n, stepQC_s, stepQX_s, SL_nil, SL_cons, SLc_val, stepS_t, stepS_f]; refine hK _ _ ?_; clear hK K)
  refine aw_seq ?_
  refine aw_seq ?_
  (refine aw_ops (by kernel_rfl) (fun K hK => ?_); simp [wb_bool, wb_undef, XL_nil, XL_cons, XLc_val, XLc_call, step1_eq, stepW_t, stepW_f, stepC_n, stepC_s, stepX_s, stepX_n, stepN_s, calleeX, oneV, xop_eq, xopR_s, xopR_n, wantedA_eq, wantedG_n, wantedG_s, plain1_int, plain1_bool, plain1_string, bits_i64, bits_u64, bits_u32, bits_u16, bits_u8, xeqA, xagg, xcmp, xarr, allK_iv, num_iv, calleeOf, xread, xeff, xbin, xint, xnil, xun, xstr, xload, xconv, xpart, xfield, xfieldAddr, xindexAddr, xindex, bnd, asInt?, xslice, xlen, xmin, xmax, xbuild, xfill, xappend, xapp2, xappstr, xappmk, xcap, xcopy, xcells, eval_tmp, eval_const, put_at, put_none, fr0_at, cells_agg, cells_int, cells_bool, cells_string, cells_ptr, cells_slice, notTuple, tab, iv_all, okD, isAggD, hget_app, hget_app0, hget_cons0, hget_cons, set_app, set_app0, setR, setR_one, QL_nil, QL_cons, QLc_val, stepQ_t, stepQ_f, stepQC_n, stepQC_s, stepQX_s, SL_nil, SL_cons, SLc_val, stepS_t, stepS_f]; refine hK _ _ ?_; clear hK K)
  refine aw_block ?_
  refine aw_loop (fun q α H' => ∃ i : Nat, i + q = 16 ∧ α 7 = .int .i64 i ∧ α 0 = .pointer (some ⟨b, 0, none⟩) ∧ α 2 = .pointer (some ⟨H.length, 0, none⟩) ∧ α 3 = .pointer (some ⟨H.length + 1, 0, none⟩) ∧
    H' = H ++ [some ⟨iv .u32 (zl 64), 149, none⟩, some ⟨iv .u32 (w16 rs i), 149, none⟩]) 16 ?_ ?_
  · exact ⟨0, rfl, rfl, rfl, rfl, by simp [put_at, put_none], by unfold w16; simp⟩
  rintro q α H' ⟨i, hi, h7, h0, h2, h3, rfl⟩
  refine aw_seq ?_
  (refine aw_ops (by kernel_rfl) (fun K hK => ?_); simp [wb_bool, wb_undef, XL_nil, XL_cons, XLc_val, XLc_call, step1_eq, stepW_t, stepW_f, stepC_n, stepC_s, stepX_s, stepX_n, stepN_s, calleeX, oneV, xop_eq, xopR_s, xopR_n, wantedA_eq, wantedG_n, wantedG_s, plain1_int, plain1_bool, plain1_string, bits_i64, bits_u64, bits_u32, bits_u16, bits_u8, xeqA, xagg, xcmp, xarr, allK_iv, num_iv, calleeOf, xread, xeff, xbin, xint, xnil, xun, xstr, xload, xconv, xpart, xfield, xfieldAddr, xindexAddr, xindex, bnd, asInt?, xslice, xlen, xmin, xmax, xbuild, xfill, xappend, xapp2, xappstr, xappmk, xcap, xcopy, xcells, eval_tmp, eval_const, put_at, put_none, fr0_at, cells_agg, cells_int, cells_bool, cells_string, cells_ptr, cells_slice, notTuple, tab, iv_all, okD, isAggD, hget_app, hget_app0, hget_cons0, hget_cons, set_app, set_app0, setR, setR_one, QL_nil, QL_cons, QLc_val, stepQ_t, stepQ_f, stepQC_n, stepQC_s, stepQX_s, SL_nil, SL_cons, SLc_val, stepS_t, stepS_f, h7]; refine hK _ _ ?_; clear hK K)
  refine aw_seq ?_
  by_cases hlt : (i : Int) < 16
  · refine aw_t (by simp [eval_tmp, put_at, hlt]) (by kernel_rfl) ?_
    refine aw_skip ?_
    refine aw_seq ?_
    refine aw_block ?_
    refine aw_seq ?_
    (refine aw_ops (by kernel_rfl) (fun K hK => ?_); simp [wb_bool, wb_undef, XL_nil, XL_cons, XLc_val, XLc_call, step1_eq, stepW_t, stepW_f, stepC_n, stepC_s, stepX_s, stepX_n, stepN_s, calleeX, oneV, xop_eq, xopR_s, xopR_n, wantedA_eq, wantedG_n, wantedG_s, plain1_int, plain1_bool, plain1_string, bits_i64, bits_u64, bits_u32, bits_u16, bits_u8, xeqA, xagg, xcmp, xarr, allK_iv, num_iv, calleeOf, xread, xeff, xbin, xint, xnil, xun, xstr, xload, xconv, xpart, xfield, xfieldAddr, xindexAddr, xindex, bnd, asInt?, xslice, xlen, xmin, xmax, xbuild, xfill, xappend, xapp2, xappstr, xappmk, xcap, xcopy, xcells, eval_tmp, eval_const, put_at, put_none, fr0_at, cells_agg, cells_int, cells_bool, cells_string, cells_ptr, cells_slice, notTuple, tab, iv_all, okD, isAggD, hget_app, hget_app0, hget_cons0, hget_cons, set_app, set_app0, setR, setR_one, QL_nil, QL_cons, QLc_val, stepQ_t, stepQ_f, stepQC_n, stepQC_s, stepQX_s, SL_nil, SL_cons, SLc_val, stepS_t, stepS_f, h7]; refine hK _ _ ?_; clear hK K)
    refine aw_seq ?_
    obtain ⟨o, ho⟩ : ∃ o : Nat, o = 4 * i := ⟨_, rfl⟩
    have e1 : IntKind.i64.wrap (4 * (i : Int)) = (o : Int) := by rw [wrap64_in (by omega)]; omega
    have o1 : (o : Int) ≤ 64 := by omega
    have o2 : o ≤ 64 := by omega
    have o3 : ¬ (64 : Int) = o := by omega
    have o4 : ¬ 64 = o := by omega
    (refine aw_ops (by kernel_rfl) (fun K hK => ?_); simp [wb_bool, wb_undef, XL_nil, XL_cons, XLc_val, XLc_call, step1_eq, stepW_t, stepW_f, stepC_n, stepC_s, stepX_s, stepX_n, stepN_s, calleeX, oneV, xop_eq, xopR_s, xopR_n, wantedA_eq, wantedG_n, wantedG_s, plain1_int, plain1_bool, plain1_string, bits_i64, bits_u64, bits_u32, bits_u16, bits_u8, xeqA, xagg, xcmp, xarr, allK_iv, num_iv, calleeOf, xread, xeff, xbin, xint, xnil, xun, xstr, xload, xconv, xpart, xfield, xfieldAddr, xindexAddr, xindex, bnd, asInt?, xslice, xlen, xmin, xmax, xbuild, xfill, xappend, xapp2, xappstr, xappmk, xcap, xcopy, xcells, eval_tmp, eval_const, put_at, put_none, fr0_at, cells_agg, cells_int, cells_bool, cells_string, cells_ptr, cells_slice, notTuple, tab, iv_all, okD, isAggD, hget_app, hget_app0, hget_cons0, hget_cons, set_app, set_app0, setR, setR_one, QL_nil, QL_cons, QLc_val, stepQ_t, stepQ_f, stepQC_n, stepQC_s, stepQX_s, SL_nil, SL_cons, SLc_val, stepS_t, stepS_f, h0, hg2, e1, o1, o2, o3, o4]; refine hK _ _ ?_; clear hK K)
    have c0 := hcells_rs st rs n o hs (by omega)
    have c1 := hcells_rs st rs n (o + 1) hs (by omega)
    have c2 := hcells_rs st rs n (o + 2) hs (by omega)
    have c3 := hcells_rs st rs n (o + 3) hs (by omega)
    rw [← Nat.add_assoc] at c1 c2 c3
    have hw4 : w4 rs i = bitsOf .or .u32 (bitsOf .or .u32 (bitsOf .or .u32 (IntKind.u32.wrap (rs.getD o 0 * 16777216)) (IntKind.u32.wrap (rs.getD (o + 1) 0 * 65536))) (IntKind.u32.wrap (rs.getD (o + 2) 0 * 256))) (rs.getD (o + 3) 0) := by unfold w4; rw [← ho]
    have b0 := hb o
    have b1 := hb (o + 1)
    have b2 := hb (o + 2)
    have b3 := hb (o + 3)
    generalize rs.getD o 0 = x0 at *
    generalize rs.getD (o + 1) 0 = x1 at *
    generalize rs.getD (o + 2) 0 = x2 at *
    generalize rs.getD (o + 3) 0 = x3 at *
    have v0 : IntKind.u32.wrap x0 = x0 := by rw [wrapU32]; omega
    have v1 : IntKind.u32.wrap x1 = x1 := by rw [wrapU32]; omega
    have v2 : IntKind.u32.wrap x2 = x2 := by rw [wrapU32]; omega
    have v3 : IntKind.u32.wrap x3 = x3 := by rw [wrapU32]; omega
    have o5 : 0 < 64 - o := by omega
    have o6 : 1 < 64 - o := by omega
    have o7 : 2 < 64 - o := by omega
    have o8 : 3 < 64 - o := by omega
    have o9 : (0 : Int) < ((64 - o : Nat) : Int) ∧ (1 : Int) < ((64 - o : Nat) : Int) ∧ (2 : Int) < ((64 - o : Nat) : Int) ∧ (3 : Int) < ((64 - o : Nat) : Int) := by omega
    have hwl := w16_len rs i
    have hi64 : (i : Int) < 64 := by omega
    have hi63 : i ≤ 63 := by omega
    have hi64' : i < 64 := by omega
    have hws := w16_succ rs i
    have w7 : IntKind.i64.wrap ((i : Int) + 1) = i + 1 := wrap64_in (by omega)
    (refine aw_tail 23 (by kernel_rfl) (by kernel_rfl) (by kernel_rfl) (fun K hK => ?_); simp [wb_bool, wb_undef, XL_nil, XL_cons, XLc_val, XLc_call, step1_eq, stepW_t, stepW_f, stepC_n, stepC_s, stepX_s, stepX_n, stepN_s, calleeX, oneV, xop_eq, xopR_s, xopR_n, wantedA_eq, wantedG_n, wantedG_s, plain1_int, plain1_bool, plain1_string, bits_i64, bits_u64, bits_u32, bits_u16, bits_u8, xeqA, xagg, xcmp, xarr, allK_iv, num_iv, calleeOf, xread, xeff, xbin, xint, xnil, xun, xstr, xload, xconv, xpart, xfield, xfieldAddr, xindexAddr, xindex, bnd, asInt?, xslice, xlen, xmin, xmax, xbuild, xfill, xappend, xapp2, xappstr, xappmk, xcap, xcopy, xcells, eval_tmp, eval_const, put_at, put_none, fr0_at, cells_agg, cells_int, cells_bool, cells_string, cells_ptr, cells_slice, notTuple, tab, iv_all, okD, isAggD, hget_app, hget_app0, hget_cons0, hget_cons, set_app, set_app0, setR, setR_one, QL_nil, QL_cons, QLc_val, stepQ_t, stepQ_f, stepQC_n, stepQC_s, stepQX_s, SL_nil, SL_cons, SLc_val, stepS_t, stepS_f, hn, hn1, h3, hg2, c0, c1, c2, c3, v0, v1, v2, v3, o5, o6, o7, o8, o9, hwl, hi64, hi63, hi64', iv_set, ← hw4, ← hws]; refine hK _ _ ?_; clear hK K)
    (refine aw_ops (by kernel_rfl) (fun K hK => ?_); simp [wb_bool, wb_undef, XL_nil, XL_cons, XLc_val, XLc_call, step1_eq, stepW_t, stepW_f, stepC_n, stepC_s, stepX_s, stepX_n, stepN_s, calleeX, oneV, xop_eq, xopR_s, xopR_n, wantedA_eq, wantedG_n, wantedG_s, plain1_int, plain1_bool, plain1_string, bits_i64, bits_u64, bits_u32, bits_u16, bits_u8, xeqA, xagg, xcmp, xarr, allK_iv, num_iv, calleeOf, xread, xeff, xbin, xint, xnil, xun, xstr, xload, xconv, xpart, xfield, xfieldAddr, xindexAddr, xindex, bnd, asInt?, xslice, xlen, xmin, xmax, xbuild, xfill, xappend, xapp2, xappstr, xappmk, xcap, xcopy, xcells, eval_tmp, eval_const, put_at, put_none, fr0_at, cells_agg, cells_int, cells_bool, cells_string, cells_ptr, cells_slice, notTuple, tab, iv_all, okD, isAggD, hget_app, hget_app0, hget_cons0, hget_cons, set_app, set_app0, setR, setR_one, QL_nil, QL_cons, QLc_val, stepQ_t, stepQ_f, stepQC_n, stepQC_s, stepQX_s, SL_nil, SL_cons, SLc_val, stepS_t, stepS_f, h7, w7]; refine hK _ _ ?_; clear hK K)
    exact ⟨q - 1, by omega, i + 1, by omega, by simp [put_at, put_none], by simp [put_at, put_none, h0], by simp [put_at, put_none, h2], by simp [put_at, put_none, h3], rfl⟩
  · refine aw_f (by simp [eval_tmp, put_at, hlt]) (by kernel_rfl) ?_
    obtain rfl : i = 16 := by omega
    refine aw_exit ?_
    refine aw_seq ?_
    refine aw_seq ?_
    (refine aw_ops (by kernel_rfl) (fun K hK => ?_); simp [wb_bool, wb_undef, XL_nil, XL_cons, XLc_val, XLc_call, step1_eq, stepW_t, stepW_f, stepC_n, stepC_s, stepX_s, stepX_n, stepN_s, calleeX, oneV, xop_eq, xopR_s, xopR_n, wantedA_eq, wantedG_n, wantedG_s, plain1_int, plain1_bool, plain1_string, bits_i64, bits_u64, bits_u32, bits_u16, bits_u8, xeqA, xagg, xcmp, xarr, allK_iv, num_iv, calleeOf, xread, xeff, xbin, xint, xnil, xun, xstr, xload, xconv, xpart, xfield, xfieldAddr, xindexAddr, xindex, bnd, asInt?, xslice, xlen, xmin, xmax, xbuild, xfill, xappend, xapp2, xappstr, xappmk, xcap, xcopy, xcells, eval_tmp, eval_const, put_at, put_none, fr0_at, cells_agg, cells_int, cells_bool, cells_string, cells_ptr, cells_slice, notTuple, tab, iv_all, okD, isAggD, hget_app, hget_app0, hget_cons0, hget_cons, set_app, set_app0, setR, setR_one, QL_nil, QL_cons, QLc_val, stepQ_t, stepQ_f, stepQC_n, stepQC_s, stepQX_s, SL_nil, SL_cons, SLc_val, stepS_t, stepS_f]; refine hK _ _ ?_; clear hK K)
    refine aw_block ?_
    rw [← w64_zero]
    refine aw_loop (fun q α H' => ∃ j i : Nat, j + q = 48 ∧ i = 16 + j ∧ α 6 = .int .i64 i ∧ α 2 = .pointer (some ⟨H.length, 0, none⟩) ∧ α 3 = .pointer (some ⟨H.length + 1, 0, none⟩) ∧
      H' = H ++ [some ⟨iv .u32 (zl 64), 149, none⟩, some ⟨iv .u32 (w64 rs j), 149, none⟩]) 48 ?_ ?_
    · exact ⟨0, 16, rfl, rfl, rfl, by simp [put_at, put_none, h2], by simp [put_at, put_none, h3], rfl⟩
    clear h7 h0 h2 h3 hlt hi
    rintro q' α H' ⟨j, i, hj, hi, h6, h2, h3, rfl⟩
    have hwl := w64_len rs j
    refine aw_seq ?_
    refine aw_seq ?_
    (refine aw_ops (by kernel_rfl) (fun K hK => ?_); simp [wb_bool, wb_undef, XL_nil, XL_cons, XLc_val, XLc_call, step1_eq, stepW_t, stepW_f, stepC_n, stepC_s, stepX_s, stepX_n, stepN_s, calleeX, oneV, xop_eq, xopR_s, xopR_n, wantedA_eq, wantedG_n, wantedG_s, plain1_int, plain1_bool, plain1_string, bits_i64, bits_u64, bits_u32, bits_u16, bits_u8, xeqA, xagg, xcmp, xarr, allK_iv, num_iv, calleeOf, xread, xeff, xbin, xint, xnil, xun, xstr, xload, xconv, xpart, xfield, xfieldAddr, xindexAddr, xindex, bnd, asInt?, xslice, xlen, xmin, xmax, xbuild, xfill, xappend, xapp2, xappstr, xappmk, xcap, xcopy, xcells, eval_tmp, eval_const, put_at, put_none, fr0_at, cells_agg, cells_int, cells_bool, cells_string, cells_ptr, cells_slice, notTuple, tab, iv_all, okD, isAggD, hget_app, hget_app0, hget_cons0, hget_cons, set_app, set_app0, setR, setR_one, QL_nil, QL_cons, QLc_val, stepQ_t, stepQ_f, stepQC_n, stepQC_s, stepQX_s, SL_nil, SL_cons, SLc_val, stepS_t, stepS_f, h6]; refine hK _ _ ?_; clear hK K)
    by_cases hlt : (i : Int) < 64
    · refine aw_t (by simp [eval_tmp, put_at, hlt]) (by kernel_rfl) ?_
      refine aw_skip ?_
      refine aw_seq ?_
      refine aw_block ?_
      have hws := w64_succ rs j
      rw [← hi] at hws
      obtain ⟨p2, hp2⟩ : ∃ p : Nat, p = 14 + j := ⟨_, rfl⟩
      obtain ⟨p7, hp7⟩ : ∃ p : Nat, p = 9 + j := ⟨_, rfl⟩
      obtain ⟨p15, hp15⟩ : ∃ p : Nat, p = 1 + j := ⟨_, rfl⟩
      rw [← hp2, ← hp7, ← hp15] at hws
      have g2 : (iv .u32 (w64 rs j))[p2]? = some (.int .u32 ((w64 rs j).getD p2 0)) := iv_get _ _ _ (by omega)
      have g7 : (iv .u32 (w64 rs j))[p7]? = some (.int .u32 ((w64 rs j).getD p7 0)) := iv_get _ _ _ (by omega)
      have g15 : (iv .u32 (w64 rs j))[p15]? = some (.int .u32 ((w64 rs j).getD p15 0)) := iv_get _ _ _ (by omega)
      have g16 : (iv .u32 (w64 rs j))[j]? = some (.int .u32 ((w64 rs j).getD j 0)) := iv_get _ _ _ (by omega)
      have i2 : IntKind.i64.wrap ((i : Int) - 2) = (p2 : Int) := by rw [wrap64_in (by omega)]; omega
      have i7 : IntKind.i64.wrap ((i : Int) - 7) = (p7 : Int) := by rw [wrap64_in (by omega)]; omega
      have i15 : IntKind.i64.wrap ((i : Int) - 15) = (p15 : Int) := by rw [wrap64_in (by omega)]; omega
      have i16 : IntKind.i64.wrap ((i : Int) - 16) = (j : Int) := by rw [wrap64_in (by omega)]; omega
      have l2 : (p2 : Int) < 64 ∧ (p7 : Int) < 64 ∧ (p15 : Int) < 64 ∧ (j : Int) < 64 := by omega
      have l3 : p2 < 64 ∧ p7 < 64 ∧ p15 < 64 ∧ j < 64 := by omega
      have hi63 : i ≤ 63 := by omega
      have hi64' : i < 64 := by omega
      have w7 : IntKind.i64.wrap ((i : Int) + 1) = i + 1 := wrap64_in (by omega)
      generalize (w64 rs j).getD p2 0 = x2 at *
      generalize (w64 rs j).getD p7 0 = x7 at *
      generalize (w64 rs j).getD p15 0 = x15 at *
      generalize (w64 rs j).getD j 0 = x16 at *
      (refine aw_floatQ [] [0, 1, 2, 3, 4, 5, 6, 7, 8, 9, 10, 11, 12, 13, 14, 15, 16, 17, 18, 19, 20, 21] 22 1 (by kernel_rfl) (by kernel_rfl) (by kernel_rfl) (fun K hK => ?_)); simp only [sel, List.getElem?_cons_succ, List.getElem?_cons_zero, List.drop_succ_cons, List.drop_zero]; simp [wb_bool, wb_undef, XL_nil, XL_cons, XLc_val, XLc_call, step1_eq, stepW_t, stepW_f, stepC_n, stepC_s, stepX_s, stepX_n, stepN_s, calleeX, oneV, xop_eq, xopR_s, xopR_n, wantedA_eq, wantedG_n, wantedG_s, plain1_int, plain1_bool, plain1_string, bits_i64, bits_u64, bits_u32, bits_u16, bits_u8, xeqA, xagg, xcmp, xarr, allK_iv, num_iv, calleeOf, xread, xeff, xbin, xint, xnil, xun, xstr, xload, xconv, xpart, xfield, xfieldAddr, xindexAddr, xindex, bnd, asInt?, xslice, xlen, xmin, xmax, xbuild, xfill, xappend, xapp2, xappstr, xappmk, xcap, xcopy, xcells, eval_tmp, eval_const, put_at, put_none, fr0_at, cells_agg, cells_int, cells_bool, cells_string, cells_ptr, cells_slice, notTuple, tab, iv_all, okD, isAggD, hget_app, hget_app0, hget_cons0, hget_cons, set_app, set_app0, setR, setR_one, QL_nil, QL_cons, QLc_val, stepQ_t, stepQ_f, stepQC_n, stepQC_s, stepQX_s, SL_nil, SL_cons, SLc_val, stepS_t, stepS_f, h6, h3, g2, g7, g15, g16, i2, i7, i15, i16, l2, l3, QM_nil, QM_cons, QMc_val]
      refine QMc_call (by kernel_rfl) (ac_of_vc (by simp [pv_iv, pv_int, pv_bool, pv_string, pv_tup2, pv_tup3, iv_plain, p2_int, p2_bool, p2_string]) (spread_vc x2 17 19 10 (by omega) (by omega) (by omega)) rfl) rfl ?_
      try simp [wb_bool, wb_undef, XL_nil, XL_cons, XLc_val, XLc_call, step1_eq, stepW_t, stepW_f, stepC_n, stepC_s, stepX_s, stepX_n, stepN_s, calleeX, oneV, xop_eq, xopR_s, xopR_n, wantedA_eq, wantedG_n, wantedG_s, plain1_int, plain1_bool, plain1_string, bits_i64, bits_u64, bits_u32, bits_u16, bits_u8, xeqA, xagg, xcmp, xarr, allK_iv, num_iv, calleeOf, xread, xeff, xbin, xint, xnil, xun, xstr, xload, xconv, xpart, xfield, xfieldAddr, xindexAddr, xindex, bnd, asInt?, xslice, xlen, xmin, xmax, xbuild, xfill, xappend, xapp2, xappstr, xappmk, xcap, xcopy, xcells, eval_tmp, eval_const, put_at, put_none, fr0_at, cells_agg, cells_int, cells_bool, cells_string, cells_ptr, cells_slice, notTuple, tab, iv_all, okD, isAggD, hget_app, hget_app0, hget_cons0, hget_cons, set_app, set_app0, setR, setR_one, QL_nil, QL_cons, QLc_val, stepQ_t, stepQ_f, stepQC_n, stepQC_s, stepQX_s, SL_nil, SL_cons, SLc_val, stepS_t, stepS_f, QM_nil, QM_cons, QMc_val, h6, h3, g2, g7, g15, g16, i2, i7, i15, i16, l2, l3]
      refine QMc_call (by kernel_rfl) (ac_of_vc (by simp [pv_iv, pv_int, pv_bool, pv_string, pv_tup2, pv_tup3, iv_plain, p2_int, p2_bool, p2_string]) (spread_vc x15 7 18 3 (by omega) (by omega) (by omega)) rfl) rfl ?_
      simp [wb_bool, wb_undef, XL_nil, XL_cons, XLc_val, XLc_call, step1_eq, stepW_t, stepW_f, stepC_n, stepC_s, stepX_s, stepX_n, stepN_s, calleeX, oneV, xop_eq, xopR_s, xopR_n, wantedA_eq, wantedG_n, wantedG_s, plain1_int, plain1_bool, plain1_string, bits_i64, bits_u64, bits_u32, bits_u16, bits_u8, xeqA, xagg, xcmp, xarr, allK_iv, num_iv, calleeOf, xread, xeff, xbin, xint, xnil, xun, xstr, xload, xconv, xpart, xfield, xfieldAddr, xindexAddr, xindex, bnd, asInt?, xslice, xlen, xmin, xmax, xbuild, xfill, xappend, xapp2, xappstr, xappmk, xcap, xcopy, xcells, eval_tmp, eval_const, put_at, put_none, fr0_at, cells_agg, cells_int, cells_bool, cells_string, cells_ptr, cells_slice, notTuple, tab, iv_all, okD, isAggD, hget_app, hget_app0, hget_cons0, hget_cons, set_app, set_app0, setR, setR_one, QL_nil, QL_cons, QLc_val, stepQ_t, stepQ_f, stepQC_n, stepQC_s, stepQX_s, SL_nil, SL_cons, SLc_val, stepS_t, stepS_f, QM_nil, QM_cons, QMc_val, h6, h3, g2, g7, g15, g16, i2, i7, i15, i16, l2, l3, get_of g2, get_of g7, get_of g15, get_of g16, hwl, hlt, hi63, hi64', iv_set, hn, hn1, ← hws]
      refine hK _ _ ?_; clear hK K
      (refine aw_ops (by kernel_rfl) (fun K hK => ?_); simp [wb_bool, wb_undef, XL_nil, XL_cons, XLc_val, XLc_call, step1_eq, stepW_t, stepW_f, stepC_n, stepC_s, stepX_s, stepX_n, stepN_s, calleeX, oneV, xop_eq, xopR_s, xopR_n, wantedA_eq, wantedG_n, wantedG_s, plain1_int, plain1_bool, plain1_string, bits_i64, bits_u64, bits_u32, bits_u16, bits_u8, xeqA, xagg, xcmp, xarr, allK_iv, num_iv, calleeOf, xread, xeff, xbin, xint, xnil, xun, xstr, xload, xconv, xpart, xfield, xfieldAddr, xindexAddr, xindex, bnd, asInt?, xslice, xlen, xmin, xmax, xbuild, xfill, xappend, xapp2, xappstr, xappmk, xcap, xcopy, xcells, eval_tmp, eval_const, put_at, put_none, fr0_at, cells_agg, cells_int, cells_bool, cells_string, cells_ptr, cells_slice, notTuple, tab, iv_all, okD, isAggD, hget_app, hget_app0, hget_cons0, hget_cons, set_app, set_app0, setR, setR_one, QL_nil, QL_cons, QLc_val, stepQ_t, stepQ_f, stepQC_n, stepQC_s, stepQX_s, SL_nil, SL_cons, SLc_val, stepS_t, stepS_f, h6, w7]; refine hK _ _ ?_; clear hK K)
      exact ⟨q' - 1, by omega, j + 1, i + 1, by omega, by omega, by simp [put_at, put_none], by simp [put_at, put_none, h2], by simp [put_at, put_none, h3], rfl⟩
    · refine aw_f (by simp [eval_tmp, put_at, hlt]) (by kernel_rfl) ?_
      obtain rfl : j = 48 := by omega
      refine aw_exit ?_
      refine aw_seq ?_
      (refine aw_ops (by kernel_rfl) (fun K hK => ?_); simp [wb_bool, wb_undef, XL_nil, XL_cons, XLc_val, XLc_call, step1_eq, stepW_t, stepW_f, stepC_n, stepC_s, stepX_s, stepX_n, stepN_s, calleeX, oneV, xop_eq, xopR_s, xopR_n, wantedA_eq, wantedG_n, wantedG_s, plain1_int, plain1_bool, plain1_string, bits_i64, bits_u64, bits_u32, bits_u16, bits_u8, xeqA, xagg, xcmp, xarr, allK_iv, num_iv, calleeOf, xread, xeff, xbin, xint, xnil, xun, xstr, xload, xconv, xpart, xfield, xfieldAddr, xindexAddr, xindex, bnd, asInt?, xslice, xlen, xmin, xmax, xbuild, xfill, xappend, xapp2, xappstr, xappmk, xcap, xcopy, xcells, eval_tmp, eval_const, put_at, put_none, fr0_at, cells_agg, cells_int, cells_bool, cells_string, cells_ptr, cells_slice, notTuple, tab, iv_all, okD, isAggD, hget_app, hget_app0, hget_cons0, hget_cons, set_app, set_app0, setR, setR_one, QL_nil, QL_cons, QLc_val, stepQ_t, stepQ_f, stepQC_n, stepQC_s, stepQX_s, SL_nil, SL_cons, SLc_val, stepS_t, stepS_f, h2, h3, hn, hn1, hwl, setR_all, List.take_of_length_le]; refine hK _ _ ?_; clear hK K)
      (refine aw_ret ?_; simp [thenQ_ret, inBlockQ_ret, RQ, resL, resV, xload, tab, okD, isAggD, hget_app, hget_app0, hget_cons0, hget_cons, notTuple, put_at, put_none, h2, hwl, List.take_of_length_le])
end
section
def startL : List Int := [1779033703, 3144134277, 1013904242, 2773480762, 1359893119, 2600822924, 528734635, 1541459225]
def roundL : List Int := [1116352408, 1899447441, 3049323471, 3921009573, 961987163, 1508970993, 2453635748, 2870763221, 3624381080, 310598401, 607225278, 1426881987, 1925078388, 2162078206, 2614888103, 3248222580, 3835390401, 4022224774, 264347078, 604807628, 770255983, 1249150122, 1555081692, 1996064986, 2554220882, 2821834349, 2952996808, 3210313671, 3336571891, 3584528711, 113926993, 338241895, 666307205, 773529912, 1294757372, 1396182291, 1695183700, 1986661051, 2177026350, 2456956037, 2730485921, 2820302411, 3259730800, 3345764771, 3516065817, 3600352804, 4094571909, 275423344, 430227734, 506948616, 659060556, 883997877, 958139571, 1322822218, 1537002063, 1747873779, 1955562222, 2024104815, 2227730452, 2361852424, 2428436474, 2756734187, 3204031479, 3329325298]
theorem startL_len : startL.length = 8 := rfl
theorem roundL_len : roundL.length = 64 := rfl
/-- The package variables, by their numbers in this program: start, roundWords. -/
def gm : Nat → Option Nat := gam [1, 2]
def w32 (x : Int) : Int := IntKind.u32.wrap x
def rt (e s5 s6 s7 k w : Int) : Int := w32 (w32 (w32 (w32 (s7 + sigF e 6 11 25) + bitsOf .xor .u32 (bitsOf .and .u32 e s5) (bitsOf .and .u32 (bitsOf .xor .u32 4294967295 e) s6)) + k) + w)
def ru (s0 s1 s2 : Int) : Int := w32 (sigF s0 2 13 22 + bitsOf .xor .u32 (bitsOf .xor .u32 (bitsOf .and .u32 s0 s1) (bitsOf .and .u32 s0 s2)) (bitsOf .and .u32 s1 s2))
/-- One round. -/
def rnd (s : List Int) (k w : Int) : List Int :=
  [w32 (rt (s.getD 4 0) (s.getD 5 0) (s.getD 6 0) (s.getD 7 0) k w + ru (s.getD 0 0) (s.getD 1 0) (s.getD 2 0)), s.getD 0 0, s.getD 1 0, s.getD 2 0, w32 (s.getD 3 0 + rt (s.getD 4 0) (s.getD 5 0) (s.getD 6 0) (s.getD 7 0) k w), s.getD 4 0, s.getD 5 0, s.getD 6 0]
def rn (st ws : List Int) : Nat → List Int
  | 0 => st
  | i + 1 => rnd (rn st ws i) (roundL.getD i 0) (ws.getD i 0)
def ad (st s : List Int) : Nat → List Int
  | 0 => st
  | i + 1 => (ad st s i).set i (w32 ((ad st s i).getD i 0 + s.getD i 0))
theorem rn_len (st ws : List Int) (h : st.length = 8) : ∀ i, (rn st ws i).length = 8
  | 0 => h
  | i + 1 => rfl
theorem ad_len (st s : List Int) (h : st.length = 8) : ∀ i, (ad st s i).length = 8
  | 0 => h
  | i + 1 => by simp [ad, ad_len st s h i]
def st0 (st : List Int) (n : Int) : List Int := if n = 64 then startL else st
def compF (st rs : List Int) (n : Int) : List Int := ad (st0 st n) (rn (st0 st n) (w64 rs 48) 64) 8
theorem st0_len (st : List Int) (n : Int) (h : st.length = 8) : (st0 st n).length = 8 := by unfold st0; split <;> first | exact h | rfl
theorem compF_len (st rs : List Int) (n : Int) (h : st.length = 8) : (compF st rs n).length = 8 := ad_len _ _ (st0_len st n h) 8
theorem setR_head (l r xs : List Value) (h : xs.length = l.length) : setR (l ++ r) 0 xs = xs ++ r := by
  apply List.ext_getElem?
  intro j
  rw [setR_get _ _ _ _ (by simp; omega)]
  split
  · rw [List.getElem?_append_left (by omega), Nat.sub_zero]
  · rw [List.getElem?_append_right (by omega), List.getElem?_append_right (by omega), h]
theorem hcells_setst (st st' rs : List Int) (n : Int) (hs : st.length = 8) (hs' : st'.length = 8) : setR (hcells st rs n) 0 (iv .u32 st') = hcells st' rs n := by
  unfold hcells
  exact setR_head _ _ _ (by simp [hs, hs'])
theorem hcells_set1 (st rs : List Int) (n : Int) (i : Nat) (x : Int) (hi : i < st.length) : (hcells st rs n).set i (.int .u32 x) = hcells (st.set i x) rs n := by
  unfold hcells
  rw [List.set_append_left _ _ (by simp; omega), iv_set]
theorem hcells_take (st rs : List Int) (n : Int) (hs : st.length = 8) : (hcells st rs n).take 8 = iv .u32 st := by
  unfold hcells
  rw [List.take_append_of_le_length (by simp; omega), List.take_of_length_le (by simp; omega)]
theorem set_self {H : AH} {b : Nat} {k : Blk} (h : hget H b = some k) : H.set b (some k) = H := by
  have h2 := hget_some h
  apply List.ext_getElem?
  intro i
  rw [List.getElem?_set]
  split
  · rename_i e; subst e
    split
    · exact h2.symm
    · rename_i hlt; rw [List.getElem?_eq_none (by omega)] at h2; cases h2
  · rfl
theorem ad_zero (st s : List Int) : ad st s 0 = st := rfl
theorem ad_succ (st s : List Int) (i : Nat) : ad st s (i + 1) = (ad st s i).set i (w32 ((ad st s i).getD i 0 + s.getD i 0)) := rfl
theorem rn_succ (st ws : List Int) (i : Nat) : rn st ws (i + 1) = rnd (rn st ws i) (roundL.getD i 0) (ws.getD i 0) := rfl
theorem list8 (l : List Int) (h : l.length = 8) : ∃ a b c d e f g k, l = [a, b, c, d, e, f, g, k] := by
  match l, h with
  | [a, b, c, d, e, f, g, k], _ => exact ⟨a, b, c, d, e, f, g, k, rfl⟩
attribute [local irreducible] hcells w64 rn ad zl sigF roundL startL rt ru st0
theorem compress_ac {nro : Nat} {H : AH} (st rs : List Int) (n : Int) (hs : st.length = 8) (hr : rs.length = 64) (hb : ∀ p, 0 ≤ rs.getD p 0 ∧ rs.getD p 0 ≤ 255) (hn : nro ≤ H.length) (b : Nat) (hbn : nro ≤ b) (ty ty0 ty1 : TypeId) (hg : hget H b = some ⟨hcells st rs n, ty, none⟩)
    (h2b : 2 ≤ b) (hg0 : hget H 0 = some ⟨iv .u32 startL, ty0, none⟩) (hg1 : hget H 1 = some ⟨iv .u32 roundL, ty1, none⟩) :
    AC Tryz.prog nro gm 100 #[.pointer (some ⟨b, 0, none⟩)] H (fun v' H' => ∃ L, H' = H.set b (some ⟨hcells (compF st rs n) rs n, ty, none⟩) ++ L) := by
  refine ac_of_aw Tryz.func100 rfl Tryz.ntmps100 Tryz.results100 (by simp) ?_
  have hbl := hget_lt hg
  have hln := hcells_len st rs n
  have hlt := hcells_len st rs n
  rw [hs, hr] at hln
  have c72 := hcells_n st rs n hs hr
  have ctk := hcells_take st rs n hs
  have hγ0 : gm 1 = some 0 := rfl
  have hγ1 : gm 2 = some 1 := rfl
  have hsl := startL_len
  have hset := hcells_setst st startL rs n hs startL_len
  refine aw_seq ?_
  refine aw_cut (fun α H' => α 0 = .pointer (some ⟨b, 0, none⟩) ∧ H' = H.set b (some ⟨hcells (st0 st n) rs n, ty, none⟩)) ?_ ?_
  · refine aw_seq ?_
    by_cases h64 : n = 64
    · have h0 : st0 st n = startL := by unfold st0; exact if_pos h64
      rw [h0]
      have h64' : (n == 64) = true := by simpa using h64
      (refine aw_ops (by kernel_rfl) (fun K hK => ?_); simp [wb_bool, wb_undef, XL_nil, XL_cons, XLc_val, XLc_call, step1_eq, stepW_t, stepW_f, stepC_n, stepC_s, stepX_s, stepX_n, stepN_s, calleeX, oneV, xop_eq, xopR_s, xopR_n, wantedA_eq, wantedG_n, wantedG_s, plain1_int, plain1_bool, plain1_string, bits_i64, bits_u64, bits_u32, bits_u16, bits_u8, xeqA, xagg, xcmp, xarr, allK_iv, num_iv, calleeOf, xread, xeff, xbin, xint, xnil, xun, xstr, xload, xconv, xpart, xfield, xfieldAddr, xindexAddr, xindex, bnd, asInt?, xslice, xlen, xmin, xmax, xbuild, xfill, xappend, xapp2, xappstr, xappmk, xcap, xcopy, xcells, eval_tmp, eval_const, put_at, put_none, fr0_at, cells_agg, cells_int, cells_bool, cells_string, cells_ptr, cells_slice, notTuple, tab, iv_all, okD, isAggD, hget_app, hget_app0, hget_cons0, hget_cons, set_app, set_app0, setR, setR_one, QL_nil, QL_cons, QLc_val, stepQ_t, stepQ_f, stepQC_n, stepQC_s, stepQX_s, SL_nil, SL_cons, SLc_val, stepS_t, stepS_f, hg, c72, h64']; refine hK _ _ ?_; clear hK K)
      refine aw_t (by simp [eval_tmp, put_at]) (by kernel_rfl) ?_
      (refine aw_ops (by kernel_rfl) (fun K hK => ?_); simp [wb_bool, wb_undef, XL_nil, XL_cons, XLc_val, XLc_call, step1_eq, stepW_t, stepW_f, stepC_n, stepC_s, stepX_s, stepX_n, stepN_s, calleeX, oneV, xop_eq, xopR_s, xopR_n, wantedA_eq, wantedG_n, wantedG_s, plain1_int, plain1_bool, plain1_string, bits_i64, bits_u64, bits_u32, bits_u16, bits_u8, xeqA, xagg, xcmp, xarr, allK_iv, num_iv, calleeOf, xread, xeff, xbin, xint, xnil, xun, xstr, xload, xconv, xpart, xfield, xfieldAddr, xindexAddr, xindex, bnd, asInt?, xslice, xlen, xmin, xmax, xbuild, xfill, xappend, xapp2, xappstr, xappmk, xcap, xcopy, xcells, eval_tmp, eval_const, put_at, put_none, fr0_at, cells_agg, cells_int, cells_bool, cells_string, cells_ptr, cells_slice, notTuple, tab, iv_all, okD, isAggD, hget_app, hget_app0, hget_cons0, hget_cons, set_app, set_app0, setR, setR_one, QL_nil, QL_cons, QLc_val, stepQ_t, stepQ_f, stepQC_n, stepQC_s, stepQX_s, SL_nil, SL_cons, SLc_val, stepS_t, stepS_f, hg, hg0, hln, eval_global, hγ0, hsl, hset, hbn, List.take_of_length_le]; refine hK _ _ ?_; clear hK K)
      exact ⟨rfl, rfl⟩
    · have h0 : st0 st n = st := by unfold st0; exact if_neg h64
      rw [h0, set_self hg]
      have h64' : (n == 64) = false := by simpa using h64
      (refine aw_ops (by kernel_rfl) (fun K hK => ?_); simp [wb_bool, wb_undef, XL_nil, XL_cons, XLc_val, XLc_call, step1_eq, stepW_t, stepW_f, stepC_n, stepC_s, stepX_s, stepX_n, stepN_s, calleeX, oneV, xop_eq, xopR_s, xopR_n, wantedA_eq, wantedG_n, wantedG_s, plain1_int, plain1_bool, plain1_string, bits_i64, bits_u64, bits_u32, bits_u16, bits_u8, xeqA, xagg, xcmp, xarr, allK_iv, num_iv, calleeOf, xread, xeff, xbin, xint, xnil, xun, xstr, xload, xconv, xpart, xfield, xfieldAddr, xindexAddr, xindex, bnd, asInt?, xslice, xlen, xmin, xmax, xbuild, xfill, xappend, xapp2, xappstr, xappmk, xcap, xcopy, xcells, eval_tmp, eval_const, put_at, put_none, fr0_at, cells_agg, cells_int, cells_bool, cells_string, cells_ptr, cells_slice, notTuple, tab, iv_all, okD, isAggD, hget_app, hget_app0, hget_cons0, hget_cons, set_app, set_app0, setR, setR_one, QL_nil, QL_cons, QLc_val, stepQ_t, stepQ_f, stepQC_n, stepQC_s, stepQX_s, SL_nil, SL_cons, SLc_val, stepS_t, stepS_f, hg, c72, h64']; refine hK _ _ ?_; clear hK K)
      refine aw_f (by simp [eval_tmp, put_at]) (by kernel_rfl) ?_
      refine aw_skip ?_
      exact ⟨rfl, rfl⟩
  · rintro α H1 ⟨h0, hH1⟩
    have hS := st0_len st n hs
    have hend : ∀ x, H1.set b x = H.set b x := fun x => by rw [hH1, List.set_set]
    have hgb : hget H1 b = some ⟨hcells (st0 st n) rs n, ty, none⟩ := by rw [hH1]; exact hget_set_eq hbl
    have hg01 : hget H1 0 = some ⟨iv .u32 startL, ty0, none⟩ := by rw [hH1, hget_set_ne (by omega)]; exact hg0
    have hg11 : hget H1 1 = some ⟨iv .u32 roundL, ty1, none⟩ := by rw [hH1, hget_set_ne (by omega)]; exact hg1
    have hl1 : H1.length = H.length := by rw [hH1]; simp
    have hn1 : nro ≤ H1.length := by omega
    have hn2 : nro ≤ H1.length + 1 := by omega
    have hb1 : b < H1.length := by omega
    have hlnS := hcells_len (st0 st n) rs n
    rw [hS, hr] at hlnS
    have ctkS := hcells_take (st0 st n) rs n hS
    have hcomp : compF st rs n = ad (st0 st n) (rn (st0 st n) (w64 rs 48) 64) 8 := rfl
    rw [hcomp]
    generalize st0 st n = S at *
    clear hg hg0 hg1 hset c72 ctk hln hlt
    have hwl := w64_len rs 48
    have W := words_ac (nro := H1.length) (γ := gm) (H := H1) S rs n hS hr hb (Nat.le_refl _) b ty hgb
    generalize w64 rs 48 = ws at *
    have hgb1 : ∀ x, hget (H1 ++ [x]) b = some ⟨hcells S rs n, ty, none⟩ := fun x => hget_left' hgb
    have hgb2 : ∀ x y, hget (H1 ++ [x, y]) b = some ⟨hcells S rs n, ty, none⟩ := fun x y => hget_left' hgb
    have hgr2 : ∀ x y, hget (H1 ++ [x, y]) 1 = some ⟨iv .u32 roundL, ty1, none⟩ := fun x y => hget_left' hg11
    have hrl := roundL_len
    refine aw_seq ?_
    refine aw_ops (by kernel_rfl) (fun K hK => ?_)
    simp [wb_bool, wb_undef, XL_nil, XL_cons, XLc_val, XLc_call, step1_eq, stepW_t, stepW_f, stepC_n, stepC_s, stepX_s, stepX_n, stepN_s, calleeX, oneV, xop_eq, xopR_s, xopR_n, wantedA_eq, wantedG_n, wantedG_s, plain1_int, plain1_bool, plain1_string, bits_i64, bits_u64, bits_u32, bits_u16, bits_u8, xeqA, xagg, xcmp, xarr, allK_iv, num_iv, calleeOf, xread, xeff, xbin, xint, xnil, xun, xstr, xload, xconv, xpart, xfield, xfieldAddr, xindexAddr, xindex, bnd, asInt?, xslice, xlen, xmin, xmax, xbuild, xfill, xappend, xapp2, xappstr, xappmk, xcap, xcopy, xcells, eval_tmp, eval_const, put_at, put_none, fr0_at, cells_agg, cells_int, cells_bool, cells_string, cells_ptr, cells_slice, notTuple, tab, iv_all, okD, isAggD, hget_app, hget_app0, hget_cons0, hget_cons, set_app, set_app0, setR, setR_one, QL_nil, QL_cons, QLc_val, stepQ_t, stepQ_f, stepQC_n, stepQC_s, stepQX_s, SL_nil, SL_cons, SLc_val, stepS_t, stepS_f, h0]
    refine ⟨by kernel_rfl, ac_of_rc W (by simp [pv_iv, pv_int, pv_bool, pv_string, pv_tup2, pv_tup3, iv_plain, p2_int, p2_bool, p2_string]) ?_⟩
    simp [wb_bool, wb_undef, XL_nil, XL_cons, XLc_val, XLc_call, step1_eq, stepW_t, stepW_f, stepC_n, stepC_s, stepX_s, stepX_n, stepN_s, calleeX, oneV, xop_eq, xopR_s, xopR_n, wantedA_eq, wantedG_n, wantedG_s, plain1_int, plain1_bool, plain1_string, bits_i64, bits_u64, bits_u32, bits_u16, bits_u8, xeqA, xagg, xcmp, xarr, allK_iv, num_iv, calleeOf, xread, xeff, xbin, xint, xnil, xun, xstr, xload, xconv, xpart, xfield, xfieldAddr, xindexAddr, xindex, bnd, asInt?, xslice, xlen, xmin, xmax, xbuild, xfill, xappend, xapp2, xappstr, xappmk, xcap, xcopy, xcells, eval_tmp, eval_const, put_at, put_none, fr0_at, cells_agg, cells_int, cells_bool, cells_string, cells_ptr, cells_slice, notTuple, tab, iv_all, okD, isAggD, hget_app, hget_app0, hget_cons0, hget_cons, set_app, set_app0, setR, setR_one, QL_nil, QL_cons, QLc_val, stepQ_t, stepQ_f, stepQC_n, stepQC_s, stepQX_s, SL_nil, SL_cons, SLc_val, stepS_t, stepS_f, hwl, hn1, setR_all, List.take_of_length_le]
    refine hK _ _ ?_; clear hK K
    refine aw_seq ?_
    (refine aw_ops (by kernel_rfl) (fun K hK => ?_); simp [wb_bool, wb_undef, XL_nil, XL_cons, XLc_val, XLc_call, step1_eq, stepW_t, stepW_f, stepC_n, stepC_s, stepX_s, stepX_n, stepN_s, calleeX, oneV, xop_eq, xopR_s, xopR_n, wantedA_eq, wantedG_n, wantedG_s, plain1_int, plain1_bool, plain1_string, bits_i64, bits_u64, bits_u32, bits_u16, bits_u8, xeqA, xagg, xcmp, xarr, allK_iv, num_iv, calleeOf, xread, xeff, xbin, xint, xnil, xun, xstr, xload, xconv, xpart, xfield, xfieldAddr, xindexAddr, xindex, bnd, asInt?, xslice, xlen, xmin, xmax, xbuild, xfill, xappend, xapp2, xappstr, xappmk, xcap, xcopy, xcells, eval_tmp, eval_const, put_at, put_none, fr0_at, cells_agg, cells_int, cells_bool, cells_string, cells_ptr, cells_slice, notTuple, tab, iv_all, okD, isAggD, hget_app, hget_app0, hget_cons0, hget_cons, set_app, set_app0, setR, setR_one, QL_nil, QL_cons, QLc_val, stepQ_t, stepQ_f, stepQC_n, stepQC_s, stepQX_s, SL_nil, SL_cons, SLc_val, stepS_t, stepS_f, h0, hgb1, hlnS, ctkS, hS, hn1, hn2, setR_all, List.take_of_length_le]; refine hK _ _ ?_; clear hK K)
    refine aw_seq ?_
    refine aw_seq ?_
    (refine aw_ops (by kernel_rfl) (fun K hK => ?_); simp [wb_bool, wb_undef, XL_nil, XL_cons, XLc_val, XLc_call, step1_eq, stepW_t, stepW_f, stepC_n, stepC_s, stepX_s, stepX_n, stepN_s, calleeX, oneV, xop_eq, xopR_s, xopR_n, wantedA_eq, wantedG_n, wantedG_s, plain1_int, plain1_bool, plain1_string, bits_i64, bits_u64, bits_u32, bits_u16, bits_u8, xeqA, xagg, xcmp, xarr, allK_iv, num_iv, calleeOf, xread, xeff, xbin, xint, xnil, xun, xstr, xload, xconv, xpart, xfield, xfieldAddr, xindexAddr, xindex, bnd, asInt?, xslice, xlen, xmin, xmax, xbuild, xfill, xappend, xapp2, xappstr, xappmk, xcap, xcopy, xcells, eval_tmp, eval_const, put_at, put_none, fr0_at, cells_agg, cells_int, cells_bool, cells_string, cells_ptr, cells_slice, notTuple, tab, iv_all, okD, isAggD, hget_app, hget_app0, hget_cons0, hget_cons, set_app, set_app0, setR, setR_one, QL_nil, QL_cons, QLc_val, stepQ_t, stepQ_f, stepQC_n, stepQC_s, stepQX_s, SL_nil, SL_cons, SLc_val, stepS_t, stepS_f, hwl, List.take_of_length_le]; refine hK _ _ ?_; clear hK K)
    refine aw_block ?_
    refine aw_loop (fun q α H' => ∃ i : Nat, i + q = 64 ∧ α 27 = .int .i64 i ∧ α 26 = .agg (iv .u32 ws).toArray ∧ α 0 = .pointer (some ⟨b, 0, none⟩) ∧ α 3 = .pointer (some ⟨H1.length + 1, 0, none⟩) ∧
      H' = H1 ++ [some ⟨iv .u32 ws, 149, none⟩, some ⟨iv .u32 (rn S ws i), 132, none⟩]) 64 ?_ ?_
    · exact ⟨0, rfl, rfl, by simp [put_at, put_none], by simp [put_at, put_none, h0], by simp [put_at, put_none], by unfold rn; simp⟩
    clear h0
    rintro q α H' ⟨i, hi, h27, h26, h0, h3, rfl⟩
    have hrnl := rn_len S ws hS i
    have hrs := rn_succ S ws i
    refine aw_seq ?_
    (refine aw_ops (by kernel_rfl) (fun K hK => ?_); simp [wb_bool, wb_undef, XL_nil, XL_cons, XLc_val, XLc_call, step1_eq, stepW_t, stepW_f, stepC_n, stepC_s, stepX_s, stepX_n, stepN_s, calleeX, oneV, xop_eq, xopR_s, xopR_n, wantedA_eq, wantedG_n, wantedG_s, plain1_int, plain1_bool, plain1_string, bits_i64, bits_u64, bits_u32, bits_u16, bits_u8, xeqA, xagg, xcmp, xarr, allK_iv, num_iv, calleeOf, xread, xeff, xbin, xint, xnil, xun, xstr, xload, xconv, xpart, xfield, xfieldAddr, xindexAddr, xindex, bnd, asInt?, xslice, xlen, xmin, xmax, xbuild, xfill, xappend, xapp2, xappstr, xappmk, xcap, xcopy, xcells, eval_tmp, eval_const, put_at, put_none, fr0_at, cells_agg, cells_int, cells_bool, cells_string, cells_ptr, cells_slice, notTuple, tab, iv_all, okD, isAggD, hget_app, hget_app0, hget_cons0, hget_cons, set_app, set_app0, setR, setR_one, QL_nil, QL_cons, QLc_val, stepQ_t, stepQ_f, stepQC_n, stepQC_s, stepQX_s, SL_nil, SL_cons, SLc_val, stepS_t, stepS_f, h27]; refine hK _ _ ?_; clear hK K)
    refine aw_seq ?_
    by_cases hlt : (i : Int) < 64
    · refine aw_t (by simp [eval_tmp, put_at, hlt]) (by kernel_rfl) ?_
      refine aw_skip ?_
      refine aw_seq ?_
      refine aw_block ?_
      have hi64 : i < 64 := by omega
      have gw : (iv .u32 ws)[i]? = some (.int .u32 (ws.getD i 0)) := iv_get _ _ _ (by omega)
      have gk : (iv .u32 roundL)[i]? = some (.int .u32 (roundL.getD i 0)) := iv_get _ _ _ (by omega)
      obtain ⟨s0, s1, s2, s3, s4, s5, s6, s7, hl⟩ := list8 _ hrnl
      rw [hl] at hrs ⊢
      generalize roundL.getD i 0 = kk at *
      generalize ws.getD i 0 = wv at *
      have w7 : IntKind.i64.wrap ((i : Int) + 1) = i + 1 := wrap64_in (by omega)
      have hmax : IntKind.u32.max = 4294967295 := rfl
      have hsg : IntKind.u32.signed = false := rfl
      have hki : ∀ h, (iv .u32 roundL)[i]'h = .int .u32 kk := fun h => get_of gk h
      have hwi : ∀ h, (iv .u32 ws)[i]'h = .int .u32 wv := fun h => get_of gw h
      obtain ⟨t, ht⟩ : ∃ t, t = rt s4 s5 s6 s7 kk wv := ⟨_, rfl⟩
      obtain ⟨u, hu⟩ : ∃ u, u = ru s0 s1 s2 := ⟨_, rfl⟩
      have ht' := ht
      have hu' := hu
      unfold rt w32 at ht'
      unfold ru w32 at hu'
      refine aw_seq ?_
      (refine aw_ops (by kernel_rfl) (fun K hK => ?_); simp [wb_bool, wb_undef, XL_nil, XL_cons, XLc_val, XLc_call, step1_eq, stepW_t, stepW_f, stepC_n, stepC_s, stepX_s, stepX_n, stepN_s, calleeX, oneV, xop_eq, xopR_s, xopR_n, wantedA_eq, wantedG_n, wantedG_s, plain1_int, plain1_bool, plain1_string, bits_i64, bits_u64, bits_u32, bits_u16, bits_u8, xeqA, xagg, xcmp, xarr, allK_iv, num_iv, calleeOf, xread, xeff, xbin, xint, xnil, xun, xstr, xload, xconv, xpart, xfield, xfieldAddr, xindexAddr, xindex, bnd, asInt?, xslice, xlen, xmin, xmax, xbuild, xfill, xappend, xapp2, xappstr, xappmk, xcap, xcopy, xcells, eval_tmp, eval_const, put_at, put_none, fr0_at, cells_agg, cells_int, cells_bool, cells_string, cells_ptr, cells_slice, notTuple, tab, iv_all, okD, isAggD, hget_app, hget_app0, hget_cons0, hget_cons, set_app, set_app0, setR, setR_one, QL_nil, QL_cons, QLc_val, stepQ_t, stepQ_f, stepQC_n, stepQC_s, stepQX_s, SL_nil, SL_cons, SLc_val, stepS_t, stepS_f, h27, h26, gw, hwi, hlt, hi64, hwl]; refine hK _ _ ?_; clear hK K)
      refine aw_seq ?_
      have hiv8 : iv .u32 [s0, s1, s2, s3, s4, s5, s6, s7] = [.int .u32 s0, .int .u32 s1, .int .u32 s2, .int .u32 s3, .int .u32 s4, .int .u32 s5, .int .u32 s6, .int .u32 s7] := rfl
      (refine aw_ops (by kernel_rfl) (fun K hK => ?_); simp [wb_bool, wb_undef, XL_nil, XL_cons, XLc_val, XLc_call, step1_eq, stepW_t, stepW_f, stepC_n, stepC_s, stepX_s, stepX_n, stepN_s, calleeX, oneV, xop_eq, xopR_s, xopR_n, wantedA_eq, wantedG_n, wantedG_s, plain1_int, plain1_bool, plain1_string, bits_i64, bits_u64, bits_u32, bits_u16, bits_u8, xeqA, xagg, xcmp, xarr, allK_iv, num_iv, calleeOf, xread, xeff, xbin, xint, xnil, xun, xstr, xload, xconv, xpart, xfield, xfieldAddr, xindexAddr, xindex, bnd, asInt?, xslice, xlen, xmin, xmax, xbuild, xfill, xappend, xapp2, xappstr, xappmk, xcap, xcopy, xcells, eval_tmp, eval_const, put_at, put_none, fr0_at, cells_agg, cells_int, cells_bool, cells_string, cells_ptr, cells_slice, notTuple, tab, iv_all, okD, isAggD, hget_app, hget_app0, hget_cons0, hget_cons, set_app, set_app0, setR, setR_one, QL_nil, QL_cons, QLc_val, stepQ_t, stepQ_f, stepQC_n, stepQC_s, stepQX_s, SL_nil, SL_cons, SLc_val, stepS_t, stepS_f, h3, hiv8]; refine hK _ _ ?_; clear hK K)
      refine aw_seq ?_
      refine aw_quietM (by kernel_rfl) (by kernel_rfl) (by kernel_rfl) (fun K hK => ?_)
      simp [wb_bool, wb_undef, XL_nil, XL_cons, XLc_val, XLc_call, step1_eq, stepW_t, stepW_f, stepC_n, stepC_s, stepX_s, stepX_n, stepN_s, calleeX, oneV, xop_eq, xopR_s, xopR_n, wantedA_eq, wantedG_n, wantedG_s, plain1_int, plain1_bool, plain1_string, bits_i64, bits_u64, bits_u32, bits_u16, bits_u8, xeqA, xagg, xcmp, xarr, allK_iv, num_iv, calleeOf, xread, xeff, xbin, xint, xnil, xun, xstr, xload, xconv, xpart, xfield, xfieldAddr, xindexAddr, xindex, bnd, asInt?, xslice, xlen, xmin, xmax, xbuild, xfill, xappend, xapp2, xappstr, xappmk, xcap, xcopy, xcells, eval_tmp, eval_const, put_at, put_none, fr0_at, cells_agg, cells_int, cells_bool, cells_string, cells_ptr, cells_slice, notTuple, tab, iv_all, okD, isAggD, hget_app, hget_app0, hget_cons0, hget_cons, set_app, set_app0, setR, setR_one, QL_nil, QL_cons, QLc_val, stepQ_t, stepQ_f, stepQC_n, stepQC_s, stepQX_s, SL_nil, SL_cons, SLc_val, stepS_t, stepS_f, QM_nil, QM_cons, QMc_val, hiv8, h3, eval_global, hγ1, hgr2, gk, hlt, hi64, hmax, hsg]
      refine QMc_call (by kernel_rfl) (ac_of_vc (by simp [pv_iv, pv_int, pv_bool, pv_string, pv_tup2, pv_tup3, iv_plain, p2_int, p2_bool, p2_string]) (sigma_vc s4 6 11 25 (by omega) (by omega) (by omega)) rfl) rfl ?_
      simp [wb_bool, wb_undef, XL_nil, XL_cons, XLc_val, XLc_call, step1_eq, stepW_t, stepW_f, stepC_n, stepC_s, stepX_s, stepX_n, stepN_s, calleeX, oneV, xop_eq, xopR_s, xopR_n, wantedA_eq, wantedG_n, wantedG_s, plain1_int, plain1_bool, plain1_string, bits_i64, bits_u64, bits_u32, bits_u16, bits_u8, xeqA, xagg, xcmp, xarr, allK_iv, num_iv, calleeOf, xread, xeff, xbin, xint, xnil, xun, xstr, xload, xconv, xpart, xfield, xfieldAddr, xindexAddr, xindex, bnd, asInt?, xslice, xlen, xmin, xmax, xbuild, xfill, xappend, xapp2, xappstr, xappmk, xcap, xcopy, xcells, eval_tmp, eval_const, put_at, put_none, fr0_at, cells_agg, cells_int, cells_bool, cells_string, cells_ptr, cells_slice, notTuple, tab, iv_all, okD, isAggD, hget_app, hget_app0, hget_cons0, hget_cons, set_app, set_app0, setR, setR_one, QL_nil, QL_cons, QLc_val, stepQ_t, stepQ_f, stepQC_n, stepQC_s, stepQX_s, SL_nil, SL_cons, SLc_val, stepS_t, stepS_f, QM_nil, QM_cons, QMc_val, hiv8, h3, eval_global, hγ1, hgr2, gk, hki, hrl, hlt, hi64, hmax, hsg, ← ht']
      refine hK _ ?_; clear hK K
      refine aw_seq ?_
      refine aw_quietM (by kernel_rfl) (by kernel_rfl) (by kernel_rfl) (fun K hK => ?_)
      simp [wb_bool, wb_undef, XL_nil, XL_cons, XLc_val, XLc_call, step1_eq, stepW_t, stepW_f, stepC_n, stepC_s, stepX_s, stepX_n, stepN_s, calleeX, oneV, xop_eq, xopR_s, xopR_n, wantedA_eq, wantedG_n, wantedG_s, plain1_int, plain1_bool, plain1_string, bits_i64, bits_u64, bits_u32, bits_u16, bits_u8, xeqA, xagg, xcmp, xarr, allK_iv, num_iv, calleeOf, xread, xeff, xbin, xint, xnil, xun, xstr, xload, xconv, xpart, xfield, xfieldAddr, xindexAddr, xindex, bnd, asInt?, xslice, xlen, xmin, xmax, xbuild, xfill, xappend, xapp2, xappstr, xappmk, xcap, xcopy, xcells, eval_tmp, eval_const, put_at, put_none, fr0_at, cells_agg, cells_int, cells_bool, cells_string, cells_ptr, cells_slice, notTuple, tab, iv_all, okD, isAggD, hget_app, hget_app0, hget_cons0, hget_cons, set_app, set_app0, setR, setR_one, QL_nil, QL_cons, QLc_val, stepQ_t, stepQ_f, stepQC_n, stepQC_s, stepQX_s, SL_nil, SL_cons, SLc_val, stepS_t, stepS_f, QM_nil, QM_cons, QMc_val, hiv8, h3]
      refine QMc_call (by kernel_rfl) (ac_of_vc (by simp [pv_iv, pv_int, pv_bool, pv_string, pv_tup2, pv_tup3, iv_plain, p2_int, p2_bool, p2_string]) (sigma_vc s0 2 13 22 (by omega) (by omega) (by omega)) rfl) rfl ?_
      simp [wb_bool, wb_undef, XL_nil, XL_cons, XLc_val, XLc_call, step1_eq, stepW_t, stepW_f, stepC_n, stepC_s, stepX_s, stepX_n, stepN_s, calleeX, oneV, xop_eq, xopR_s, xopR_n, wantedA_eq, wantedG_n, wantedG_s, plain1_int, plain1_bool, plain1_string, bits_i64, bits_u64, bits_u32, bits_u16, bits_u8, xeqA, xagg, xcmp, xarr, allK_iv, num_iv, calleeOf, xread, xeff, xbin, xint, xnil, xun, xstr, xload, xconv, xpart, xfield, xfieldAddr, xindexAddr, xindex, bnd, asInt?, xslice, xlen, xmin, xmax, xbuild, xfill, xappend, xapp2, xappstr, xappmk, xcap, xcopy, xcells, eval_tmp, eval_const, put_at, put_none, fr0_at, cells_agg, cells_int, cells_bool, cells_string, cells_ptr, cells_slice, notTuple, tab, iv_all, okD, isAggD, hget_app, hget_app0, hget_cons0, hget_cons, set_app, set_app0, setR, setR_one, QL_nil, QL_cons, QLc_val, stepQ_t, stepQ_f, stepQC_n, stepQC_s, stepQX_s, SL_nil, SL_cons, SLc_val, stepS_t, stepS_f, QM_nil, QM_cons, QMc_val, hiv8, h3, ← hu']
      refine hK _ ?_; clear hK K
      have hr' : rn S ws (i + 1) = [IntKind.u32.wrap (t + u), s0, s1, s2, IntKind.u32.wrap (s3 + t), s4, s5, s6] := by
        rw [hrs, ht, hu]; simp [rnd, w32]
      have hz : (((((((((zl 8).set 0 (IntKind.u32.wrap (t + u))).set 1 s0).set 2 s1).set 3 s2).set 4 (IntKind.u32.wrap (s3 + t))).set 5 s4).set 6 s5).set 7 s6) = rn S ws (i + 1) := by
        rw [hr']; unfold zl; rfl
      have hiv : iv .u32 (rn S ws (i + 1)) = [.int .u32 (IntKind.u32.wrap (t + u)), .int .u32 s0, .int .u32 s1, .int .u32 s2, .int .u32 (IntKind.u32.wrap (s3 + t)), .int .u32 s4, .int .u32 s5, .int .u32 s6] := by
        rw [hr']; rfl
      (refine aw_ops (by kernel_rfl) (fun K hK => ?_); simp [wb_bool, wb_undef, XL_nil, XL_cons, XLc_val, XLc_call, step1_eq, stepW_t, stepW_f, stepC_n, stepC_s, stepX_s, stepX_n, stepN_s, calleeX, oneV, xop_eq, xopR_s, xopR_n, wantedA_eq, wantedG_n, wantedG_s, plain1_int, plain1_bool, plain1_string, bits_i64, bits_u64, bits_u32, bits_u16, bits_u8, xeqA, xagg, xcmp, xarr, allK_iv, num_iv, calleeOf, xread, xeff, xbin, xint, xnil, xun, xstr, xload, xconv, xpart, xfield, xfieldAddr, xindexAddr, xindex, bnd, asInt?, xslice, xlen, xmin, xmax, xbuild, xfill, xappend, xapp2, xappstr, xappmk, xcap, xcopy, xcells, eval_tmp, eval_const, put_at, put_none, fr0_at, cells_agg, cells_int, cells_bool, cells_string, cells_ptr, cells_slice, notTuple, tab, iv_all, okD, isAggD, hget_app, hget_app0, hget_cons0, hget_cons, set_app, set_app0, setR, setR_one, QL_nil, QL_cons, QLc_val, stepQ_t, stepQ_f, stepQC_n, stepQC_s, stepQX_s, SL_nil, SL_cons, SLc_val, stepS_t, stepS_f, h3, hn2, hiv8, setR_all, iv_set, hz, rn_len S ws hS]; refine hK _ _ ?_; clear hK K)
      (refine aw_ops (by kernel_rfl) (fun K hK => ?_); simp [wb_bool, wb_undef, XL_nil, XL_cons, XLc_val, XLc_call, step1_eq, stepW_t, stepW_f, stepC_n, stepC_s, stepX_s, stepX_n, stepN_s, calleeX, oneV, xop_eq, xopR_s, xopR_n, wantedA_eq, wantedG_n, wantedG_s, plain1_int, plain1_bool, plain1_string, bits_i64, bits_u64, bits_u32, bits_u16, bits_u8, xeqA, xagg, xcmp, xarr, allK_iv, num_iv, calleeOf, xread, xeff, xbin, xint, xnil, xun, xstr, xload, xconv, xpart, xfield, xfieldAddr, xindexAddr, xindex, bnd, asInt?, xslice, xlen, xmin, xmax, xbuild, xfill, xappend, xapp2, xappstr, xappmk, xcap, xcopy, xcells, eval_tmp, eval_const, put_at, put_none, fr0_at, cells_agg, cells_int, cells_bool, cells_string, cells_ptr, cells_slice, notTuple, tab, iv_all, okD, isAggD, hget_app, hget_app0, hget_cons0, hget_cons, set_app, set_app0, setR, setR_one, QL_nil, QL_cons, QLc_val, stepQ_t, stepQ_f, stepQC_n, stepQC_s, stepQX_s, SL_nil, SL_cons, SLc_val, stepS_t, stepS_f, h27, w7]; refine hK _ _ ?_; clear hK K)
      refine ⟨q - 1, by omega, i + 1, by omega, by simp [put_at, put_none], by simp [put_at, put_none, h26], by simp [put_at, put_none, h0], by simp [put_at, put_none, h3], ?_⟩
      rfl
    · refine aw_f (by simp [eval_tmp, put_at, hlt]) (by kernel_rfl) ?_
      obtain rfl : i = 64 := by omega
      refine aw_exit ?_
      refine aw_seq ?_
      clear hrs
      generalize rn S ws 64 = fin at *
      (refine aw_ops (by kernel_rfl) (fun K hK => ?_); simp [wb_bool, wb_undef, XL_nil, XL_cons, XLc_val, XLc_call, step1_eq, stepW_t, stepW_f, stepC_n, stepC_s, stepX_s, stepX_n, stepN_s, calleeX, oneV, xop_eq, xopR_s, xopR_n, wantedA_eq, wantedG_n, wantedG_s, plain1_int, plain1_bool, plain1_string, bits_i64, bits_u64, bits_u32, bits_u16, bits_u8, xeqA, xagg, xcmp, xarr, allK_iv, num_iv, calleeOf, xread, xeff, xbin, xint, xnil, xun, xstr, xload, xconv, xpart, xfield, xfieldAddr, xindexAddr, xindex, bnd, asInt?, xslice, xlen, xmin, xmax, xbuild, xfill, xappend, xapp2, xappstr, xappmk, xcap, xcopy, xcells, eval_tmp, eval_const, put_at, put_none, fr0_at, cells_agg, cells_int, cells_bool, cells_string, cells_ptr, cells_slice, notTuple, tab, iv_all, okD, isAggD, hget_app, hget_app0, hget_cons0, hget_cons, set_app, set_app0, setR, setR_one, QL_nil, QL_cons, QLc_val, stepQ_t, stepQ_f, stepQC_n, stepQC_s, stepQX_s, SL_nil, SL_cons, SLc_val, stepS_t, stepS_f, h3, hrnl, List.take_of_length_le]; refine hK _ _ ?_; clear hK K)
      refine aw_block ?_
      have hgX : ∀ x L, hget (H1.set b x ++ L) b = x := fun x L => by rw [hget_left (by simp; omega), hget_set_eq hb1]
      have hsX : ∀ x y L, (H1.set b x ++ L).set b y = H1.set b y ++ L := fun x y L => by rw [List.set_append_left _ _ (by simp; omega), List.set_set]
      refine aw_loop (fun q α H' => ∃ i : Nat, i + q = 8 ∧ α 98 = .int .i64 i ∧ α 97 = .agg (iv .u32 fin).toArray ∧ α 0 = .pointer (some ⟨b, 0, none⟩) ∧ ∃ L, H' = H1.set b (some ⟨hcells (ad S fin i) rs n, ty, none⟩) ++ L) 8 ?_ ?_
      · exact ⟨0, rfl, rfl, by simp [put_at, put_none], by simp [put_at, put_none, h0], _, by rw [ad_zero, set_self hgb]⟩
      clear h27 h26 h0 h3 hi hlt
      rintro q α H' ⟨i, hi, h98, h97, h0, L, rfl⟩
      have hal := ad_len S fin hS i
      have has := ad_succ S fin i
      have hlA := hcells_len (ad S fin i) rs n
      rw [hal, hr] at hlA
      refine aw_seq ?_
      (refine aw_ops (by kernel_rfl) (fun K hK => ?_); simp [wb_bool, wb_undef, XL_nil, XL_cons, XLc_val, XLc_call, step1_eq, stepW_t, stepW_f, stepC_n, stepC_s, stepX_s, stepX_n, stepN_s, calleeX, oneV, xop_eq, xopR_s, xopR_n, wantedA_eq, wantedG_n, wantedG_s, plain1_int, plain1_bool, plain1_string, bits_i64, bits_u64, bits_u32, bits_u16, bits_u8, xeqA, xagg, xcmp, xarr, allK_iv, num_iv, calleeOf, xread, xeff, xbin, xint, xnil, xun, xstr, xload, xconv, xpart, xfield, xfieldAddr, xindexAddr, xindex, bnd, asInt?, xslice, xlen, xmin, xmax, xbuild, xfill, xappend, xapp2, xappstr, xappmk, xcap, xcopy, xcells, eval_tmp, eval_const, put_at, put_none, fr0_at, cells_agg, cells_int, cells_bool, cells_string, cells_ptr, cells_slice, notTuple, tab, iv_all, okD, isAggD, hget_app, hget_app0, hget_cons0, hget_cons, set_app, set_app0, setR, setR_one, QL_nil, QL_cons, QLc_val, stepQ_t, stepQ_f, stepQC_n, stepQC_s, stepQX_s, SL_nil, SL_cons, SLc_val, stepS_t, stepS_f, h98]; refine hK _ _ ?_; clear hK K)
      refine aw_seq ?_
      by_cases hlt : (i : Int) < 8
      · refine aw_t (by simp [eval_tmp, put_at, hlt]) (by kernel_rfl) ?_
        refine aw_skip ?_
        refine aw_seq ?_
        refine aw_block ?_
        have hi8 : i < 8 := by omega
        have hi7 : i ≤ 7 := by omega
        have hi73 : i < 73 := by omega
        have hi72 : i ≤ 72 := by omega
        have gf : (iv .u32 fin)[i]? = some (.int .u32 (fin.getD i 0)) := iv_get _ _ _ (by omega)
        have ga := hcells_st (ad S fin i) rs n i (by omega)
        have hs1 : ∀ x, (hcells (ad S fin i) rs n).set i (.int .u32 x) = hcells ((ad S fin i).set i x) rs n := fun x => hcells_set1 _ rs n i x (by omega)
        generalize fin.getD i 0 = xf at *
        generalize (ad S fin i).getD i 0 = xa at *
        have hgf : ∀ h, (iv .u32 fin)[i]'h = .int .u32 xf := fun h => get_of gf h
        have hga : ∀ h, (hcells (ad S fin i) rs n)[i]'h = .int .u32 xa := fun h => get_of ga h
        have w7 : IntKind.i64.wrap ((i : Int) + 1) = i + 1 := wrap64_in (by omega)
        refine aw_seq ?_
        (refine aw_ops (by kernel_rfl) (fun K hK => ?_); simp [wb_bool, wb_undef, XL_nil, XL_cons, XLc_val, XLc_call, step1_eq, stepW_t, stepW_f, stepC_n, stepC_s, stepX_s, stepX_n, stepN_s, calleeX, oneV, xop_eq, xopR_s, xopR_n, wantedA_eq, wantedG_n, wantedG_s, plain1_int, plain1_bool, plain1_string, bits_i64, bits_u64, bits_u32, bits_u16, bits_u8, xeqA, xagg, xcmp, xarr, allK_iv, num_iv, calleeOf, xread, xeff, xbin, xint, xnil, xun, xstr, xload, xconv, xpart, xfield, xfieldAddr, xindexAddr, xindex, bnd, asInt?, xslice, xlen, xmin, xmax, xbuild, xfill, xappend, xapp2, xappstr, xappmk, xcap, xcopy, xcells, eval_tmp, eval_const, put_at, put_none, fr0_at, cells_agg, cells_int, cells_bool, cells_string, cells_ptr, cells_slice, notTuple, tab, iv_all, okD, isAggD, hget_app, hget_app0, hget_cons0, hget_cons, set_app, set_app0, setR, setR_one, QL_nil, QL_cons, QLc_val, stepQ_t, stepQ_f, stepQC_n, stepQC_s, stepQX_s, SL_nil, SL_cons, SLc_val, stepS_t, stepS_f, h98, h97, gf, hgf, hlt, hi8, hrnl]; refine hK _ _ ?_; clear hK K)
        unfold w32 at has
        (refine aw_tail 11 (by kernel_rfl) (by kernel_rfl) (by kernel_rfl) (fun K hK => ?_); simp [wb_bool, wb_undef, XL_nil, XL_cons, XLc_val, XLc_call, step1_eq, stepW_t, stepW_f, stepC_n, stepC_s, stepX_s, stepX_n, stepN_s, calleeX, oneV, xop_eq, xopR_s, xopR_n, wantedA_eq, wantedG_n, wantedG_s, plain1_int, plain1_bool, plain1_string, bits_i64, bits_u64, bits_u32, bits_u16, bits_u8, xeqA, xagg, xcmp, xarr, allK_iv, num_iv, calleeOf, xread, xeff, xbin, xint, xnil, xun, xstr, xload, xconv, xpart, xfield, xfieldAddr, xindexAddr, xindex, bnd, asInt?, xslice, xlen, xmin, xmax, xbuild, xfill, xappend, xapp2, xappstr, xappmk, xcap, xcopy, xcells, eval_tmp, eval_const, put_at, put_none, fr0_at, cells_agg, cells_int, cells_bool, cells_string, cells_ptr, cells_slice, notTuple, tab, iv_all, okD, isAggD, hget_app, hget_app0, hget_cons0, hget_cons, set_app, set_app0, setR, setR_one, QL_nil, QL_cons, QLc_val, stepQ_t, stepQ_f, stepQC_n, stepQC_s, stepQX_s, SL_nil, SL_cons, SLc_val, stepS_t, stepS_f, h0, hgX, hsX, ga, hga, hlA, hlt, hi8, hi7, hi73, hi72, hbn, hs1, ← has]; refine hK _ _ ?_; clear hK K)
        (refine aw_ops (by kernel_rfl) (fun K hK => ?_); simp [wb_bool, wb_undef, XL_nil, XL_cons, XLc_val, XLc_call, step1_eq, stepW_t, stepW_f, stepC_n, stepC_s, stepX_s, stepX_n, stepN_s, calleeX, oneV, xop_eq, xopR_s, xopR_n, wantedA_eq, wantedG_n, wantedG_s, plain1_int, plain1_bool, plain1_string, bits_i64, bits_u64, bits_u32, bits_u16, bits_u8, xeqA, xagg, xcmp, xarr, allK_iv, num_iv, calleeOf, xread, xeff, xbin, xint, xnil, xun, xstr, xload, xconv, xpart, xfield, xfieldAddr, xindexAddr, xindex, bnd, asInt?, xslice, xlen, xmin, xmax, xbuild, xfill, xappend, xapp2, xappstr, xappmk, xcap, xcopy, xcells, eval_tmp, eval_const, put_at, put_none, fr0_at, cells_agg, cells_int, cells_bool, cells_string, cells_ptr, cells_slice, notTuple, tab, iv_all, okD, isAggD, hget_app, hget_app0, hget_cons0, hget_cons, set_app, set_app0, setR, setR_one, QL_nil, QL_cons, QLc_val, stepQ_t, stepQ_f, stepQC_n, stepQC_s, stepQX_s, SL_nil, SL_cons, SLc_val, stepS_t, stepS_f, h98, w7]; refine hK _ _ ?_; clear hK K)
        exact ⟨q - 1, by omega, i + 1, by omega, by simp [put_at, put_none], by simp [put_at, put_none, h97], by simp [put_at, put_none, h0], L, rfl⟩
      · refine aw_f (by simp [eval_tmp, put_at, hlt]) (by kernel_rfl) ?_
        obtain rfl : i = 8 := by omega
        refine aw_exit ?_
        rw [hend]
        simp only [thenQ, inBlockQ, if_true, RQ]
        exact ⟨[], .tuple #[], rfl, rfl, L, rfl⟩
end
section
def put4 (C : List Value) (off : Nat) (x : Int) : List Value :=
  (((C.set off (.int .u8 (IntKind.u8.wrap (x.fdiv 16777216)))).set (off + 1) (.int .u8 (IntKind.u8.wrap (x.fdiv 65536)))).set (off + 2) (.int .u8 (IntKind.u8.wrap (x.fdiv 256)))).set (off + 3) (.int .u8 (IntKind.u8.wrap x))
theorem put_ac {nro : Nat} {γ : Nat → Option Nat} {H : AH} (C : List Value) (off len : Nat) (x : Int) (hl : 4 ≤ len) (hC : off + 4 ≤ C.length) (b : Nat) (hbn : nro ≤ b) (ty : TypeId) (es : Option Nat) (hg : hget H b = some ⟨C, ty, es⟩) :
    AC Tryz.prog nro γ 102 #[.slice (some ⟨b, off, none⟩) len len, .int .u32 x] H (fun v' H' => H' = H.set b (some ⟨put4 C off x, ty, es⟩)) := by
  refine ac_of_aw Tryz.func102 rfl Tryz.ntmps102 Tryz.results102 (by simp) ?_
  have hbl := hget_lt hg
  have hgX : ∀ x, hget (H.set b x) b = x := fun x => hget_set_eq hbl
  have l0 : 0 < len := by omega
  have l1 : 1 < len := by omega
  have l2 : 2 < len := by omega
  have l3 : 3 < len := by omega
  have k0 : (0 : Int) < len ∧ (1 : Int) < len ∧ (2 : Int) < len ∧ (3 : Int) < len := by omega
  have c0 : off < C.length := by omega
  have c1 : off + 1 < C.length := by omega
  have c2 : off + 2 < C.length := by omega
  have c3 : off + 3 < C.length := by omega
  refine aw_ops (by kernel_rfl) (fun K hK => ?_)
  simp [wb_bool, wb_undef, XL_nil, XL_cons, XLc_val, XLc_call, step1_eq, stepW_t, stepW_f, stepC_n, stepC_s, stepX_s, stepX_n, stepN_s, calleeX, oneV, xop_eq, xopR_s, xopR_n, wantedA_eq, wantedG_n, wantedG_s, plain1_int, plain1_bool, plain1_string, bits_i64, bits_u64, bits_u32, bits_u16, bits_u8, xeqA, xagg, xcmp, xarr, allK_iv, num_iv, calleeOf, xread, xeff, xbin, xint, xnil, xun, xstr, xload, xconv, xpart, xfield, xfieldAddr, xindexAddr, xindex, bnd, asInt?, xslice, xlen, xmin, xmax, xbuild, xfill, xappend, xapp2, xappstr, xappmk, xcap, xcopy, xcells, eval_tmp, eval_const, put_at, put_none, fr0_at, cells_agg, cells_int, cells_bool, cells_string, cells_ptr, cells_slice, notTuple, tab, iv_all, okD, isAggD, hget_app, hget_app0, hget_cons0, hget_cons, set_app, set_app0, setR, setR_one, QL_nil, QL_cons, QLc_val, stepQ_t, stepQ_f, stepQC_n, stepQC_s, stepQX_s, SL_nil, SL_cons, SLc_val, stepS_t, stepS_f, hg, hgX, hbn, l0, l1, l2, l3, k0, c0, c1, c2, c3, Nat.succ_le_of_lt, List.set_set]
  refine hK _ _ ?_; clear hK K
  simp only [RQ]
  exact ⟨[], .tuple #[], rfl, rfl, rfl⟩
end
section
/-- State, block, size. -/
structure HS where
  st : List Int
  rs : List Int
  n : Int
def hc (s : HS) : List Value := hcells s.st s.rs s.n
def stepB (s : HS) (x : Int) : HS :=
  if IntKind.u64.wrap (s.n + 1) % 64 = 0 then ⟨compF s.st (s.rs.set (s.n % 64).toNat x) (IntKind.u64.wrap (s.n + 1)), s.rs.set (s.n % 64).toNat x, IntKind.u64.wrap (s.n + 1)⟩
  else ⟨s.st, s.rs.set (s.n % 64).toNat x, IntKind.u64.wrap (s.n + 1)⟩
def takeB (s : HS) (l : List Int) : HS := l.foldl stepB s
theorem takeB_nil (s : HS) : takeB s [] = s := rfl
theorem takeB_cons (s : HS) (x : Int) (l : List Int) : takeB s (x :: l) = takeB (stepB s x) l := rfl
theorem takeB_append (s : HS) (l r : List Int) : takeB s (l ++ r) = takeB (takeB s l) r := by unfold takeB; rw [List.foldl_append]
structure HS.wf (s : HS) : Prop where
  hs : s.st.length = 8
  hr : s.rs.length = 64
  hb : ∀ p, 0 ≤ s.rs.getD p 0 ∧ s.rs.getD p 0 ≤ 255
  hn : 0 ≤ s.n ∧ s.n < 18446744073709551616
theorem getD_set (l : List Int) (i : Nat) (x : Int) (p : Nat) : (l.set i x).getD p 0 = if i = p ∧ p < l.length then x else l.getD p 0 := by
  rw [List.getD_eq_getElem?_getD, List.getElem?_set, List.getD_eq_getElem?_getD]
  by_cases h : i = p
  · subst h
    by_cases h2 : i < l.length
    · simp [h2]
    · simp [h2]
  · simp [h]
theorem stepB_wf (s : HS) (x : Int) (h : s.wf) (hx : 0 ≤ x ∧ x ≤ 255) : (stepB s x).wf := by
  have hb : ∀ p, 0 ≤ (s.rs.set (s.n % 64).toNat x).getD p 0 ∧ (s.rs.set (s.n % 64).toNat x).getD p 0 ≤ 255 := by
    intro p
    rw [getD_set]
    split
    · exact hx
    · exact h.hb p
  have hn : 0 ≤ IntKind.u64.wrap (s.n + 1) ∧ IntKind.u64.wrap (s.n + 1) < 18446744073709551616 := by rw [wrapU64]; omega
  unfold stepB
  split
  · exact ⟨compF_len _ _ _ h.hs, by simp [h.hr], hb, hn⟩
  · exact ⟨h.hs, by simp [h.hr], hb, hn⟩
theorem takeB_wf (l : List Int) : ∀ (s : HS), s.wf → (∀ x ∈ l, 0 ≤ x ∧ x ≤ 255) → (takeB s l).wf := by
  induction l with
  | nil => intro s h _; exact h
  | cons x l ih => intro s h hl; exact ih _ (stepB_wf s x h (hl x (by simp))) fun y hy => hl y (by simp [hy])
/-- Numbers laid over others from a place on. -/
def setI : List Int → Nat → List Int → List Int
  | l, _, [] => l
  | l, i, x :: xs => setI (l.set i x) (i + 1) xs
theorem iv_setI (k : IntKind) (xs : List Int) : ∀ (l : List Int) (i : Nat), setR (iv k l) i (iv k xs) = iv k (setI l i xs) := by
  induction xs with
  | nil => intro l i; rfl
  | cons x xs ih =>
    intro l i
    show setR ((iv k l).set i (.int k x)) (i + 1) (iv k xs) = _
    rw [iv_set, ih]
    rfl
theorem setI_len (xs : List Int) : ∀ (l : List Int) (i : Nat), (setI l i xs).length = l.length := by
  induction xs with
  | nil => intro l i; rfl
  | cons x xs ih => intro l i; show (setI (l.set i x) (i + 1) xs).length = _; rw [ih]; simp
/-- A piece that fits into the block. -/
theorem takeB_chunk (l : List Int) : ∀ (s : HS), (0 ≤ s.n ∧ s.n < 18446744073709551616) → 0 < l.length → (s.n % 64).toNat + l.length ≤ 64 →
    takeB s l = if IntKind.u64.wrap (s.n + l.length) % 64 = 0 then ⟨compF s.st (setI s.rs (s.n % 64).toNat l) (IntKind.u64.wrap (s.n + l.length)), setI s.rs (s.n % 64).toNat l, IntKind.u64.wrap (s.n + l.length)⟩
      else ⟨s.st, setI s.rs (s.n % 64).toNat l, IntKind.u64.wrap (s.n + l.length)⟩ := by
  induction l with
  | nil => intro s _ h; simp at h
  | cons x t ih =>
    intro s hn _ hl
    rw [takeB_cons]
    cases t with
    | nil => simp only [takeB_nil, List.length_cons, List.length_nil]; rfl
    | cons y t =>
      simp only [List.length_cons] at hl
      have hne : ¬ IntKind.u64.wrap (s.n + 1) % 64 = 0 := by rw [wrapU64]; omega
      have e : stepB s x = ⟨s.st, s.rs.set (s.n % 64).toNat x, IntKind.u64.wrap (s.n + 1)⟩ := by unfold stepB; rw [if_neg hne]
      have e1 : (IntKind.u64.wrap (s.n + 1) % 64).toNat = (s.n % 64).toNat + 1 := by rw [wrapU64]; omega
      have e2 : IntKind.u64.wrap (IntKind.u64.wrap (s.n + 1) + ((y :: t).length : Nat)) = IntKind.u64.wrap (s.n + ((x :: y :: t).length : Nat)) := by
        simp only [wrapU64, List.length_cons]; omega
      rw [e]
      rw [ih _ (by simp only [wrapU64]; omega) (by simp) (by simp only [e1, List.length_cons]; omega)]
      simp only [e1, e2]
      rfl
/-- The bytes of a text. -/
theorem nums_extract (s : ByteArray) (a b : Nat) : nums (s.extract a b) = ((nums s).drop a).take (b - a) := by
  unfold nums
  rw [Lib.extract_data, List.map_take, List.map_drop]
theorem nums_drop (s : ByteArray) (a : Nat) : nums (s.extract a s.size) = (nums s).drop a := by
  rw [nums_extract, List.take_of_length_le (by rw [List.length_drop, nums_len]; omega)]
/-- Parts as one text. -/
def cat : List ByteArray → List Int
  | [] => []
  | p :: r => nums p ++ cat r
theorem cat_bd (l : List ByteArray) : ∀ x ∈ cat l, 0 ≤ x ∧ x ≤ 255 := by
  induction l with
  | nil => intro x hx; cases hx
  | cons p l ih =>
    intro x hx
    rcases List.mem_append.1 hx with h | h
    · exact nums_bd p x h
    · exact ih x h
end
section
attribute [local simp] wb_bool wb_undef XL_nil XL_cons XLc_val XLc_call step1_eq stepW_t stepW_f stepC_n stepC_s stepX_s stepX_n stepN_s calleeX oneV xop_eq xopR_s xopR_n wantedA_eq wantedG_n wantedG_s plain1_int plain1_bool plain1_string bits_i64 bits_u64 bits_u32 bits_u16 bits_u8 xeqA xagg xcmp xarr allK_iv num_iv calleeOf xread xeff xbin xint xnil xun xstr xload xconv xpart xfield xfieldAddr xindexAddr xindex bnd asInt? xslice xlen xmin xmax xbuild xfill xappend xapp2 xappstr xappmk xcap xcopy xcells eval_tmp eval_const put_at put_none fr0_at cells_agg cells_int cells_bool cells_string cells_ptr cells_slice notTuple tab iv_all hget_app hget_app0 hget_cons0 hget_cons set_app set_app0 setR setR_one QL_nil QL_cons QLc_val stepQ_t stepQ_f stepQC_n stepQC_s stepQX_s SL_nil SL_cons SLc_val stepS_t stepS_f ltT ltF leT leF eqT eqF ltTn ltFn leTn leFn eqTn eqFn beqT beqF bneT bneF wi64 wu64 wu32 wu16 wu8 tmodP tdivP hgetL hgetNe hgetEq setL nums_def nums_len Nat.succ_le_of_lt List.getElem?_cons_zero List.getElem?_cons_succ Option.getD_some Int.toNat_add Int.toNat_mul agB agI agS agP agL agA okB okI okS okP okSl okA
/-- A slice of strings that lies apart from block b. -/
def SlSd (H : AH) (b : Nat) (v : Value) (ps : List ByteArray) : Prop :=
  (∃ a, v = .slice a 0 0 ∧ ps = []) ∨ ∃ j off k, v = .slice (some ⟨j, off, none⟩) ps.length ps.length ∧ j ≠ b ∧ hget H j = some k ∧ ∀ i p, ps[i]? = some p → k.cells[off + i]? = some (.string p)
theorem hcells_setrs (st rs l : List Int) (n : Int) (o : Nat) (hs : st.length = 8) (ho : o + l.length ≤ rs.length) : setR (hcells st rs n) (8 + o) (iv .u8 l) = hcells st (setI rs o l) n := by
  unfold hcells
  rw [← iv_setI]
  apply List.ext_getElem?
  intro j
  rw [setR_get _ _ _ _ (by simp; omega)]
  simp only [iv_length]
  by_cases h : j < 8
  · rw [if_neg (by omega), List.getElem?_append_left (by simp; omega), List.getElem?_append_left (by simp; omega)]
  · rw [List.getElem?_append_right (l₁ := iv .u32 st) (by simp; omega), List.getElem?_append_right (l₁ := iv .u32 st) (by simp; omega), iv_length, hs]
    by_cases h2 : j - 8 < rs.length
    · rw [List.getElem?_append_left (by simp; omega), List.getElem?_append_left (by simp; omega), setR_get _ _ _ _ (by simp; omega)]
      simp only [iv_length]
      by_cases h3 : o ≤ j - 8 ∧ j - 8 < o + l.length
      · rw [if_pos (by omega), if_pos h3, show j - (8 + o) = j - 8 - o by omega]
      · rw [if_neg (by omega), if_neg h3]
    · rw [List.getElem?_append_right (by simp; omega), List.getElem?_append_right (by simp; omega), if_neg (by omega)]
      simp
theorem hcells_setn (st rs : List Int) (n x : Int) (hs : st.length = 8) (hr : rs.length = 64) : (hcells st rs n).set 72 (.int .u64 x) = hcells st rs x := by
  unfold hcells
  rw [List.set_append_right _ _ (by simp; omega), iv_length, hs, List.set_append_right _ _ (by simp; omega), iv_length, hr]
  rfl
theorem setI_bd (xs : List Int) (hx : ∀ x ∈ xs, 0 ≤ x ∧ x ≤ 255) : ∀ (l : List Int) (i : Nat), (∀ p, 0 ≤ l.getD p 0 ∧ l.getD p 0 ≤ 255) → ∀ p, 0 ≤ (setI l i xs).getD p 0 ∧ (setI l i xs).getD p 0 ≤ 255 := by
  induction xs with
  | nil => intro l i h; exact h
  | cons x xs ih =>
    intro l i h
    refine ih (fun y hy => hx y (by simp [hy])) (l.set i x) (i + 1) ?_
    intro p
    rw [getD_set]
    split
    · exact hx x (by simp)
    · exact h p
attribute [local irreducible] hcells compF setI
theorem hwrite_ac {nro : Nat} {H : AH} (s : HS) (hw : s.wf) (hn : nro ≤ H.length) (b : Nat) (hbn : nro ≤ b) (ty ty0 ty1 : TypeId) (hg : hget H b = some ⟨hc s, ty, none⟩)
    (h2b : 2 ≤ b) (hg0 : hget H 0 = some ⟨iv .u32 startL, ty0, none⟩) (hg1 : hget H 1 = some ⟨iv .u32 roundL, ty1, none⟩) (ps : List ByteArray) (v : Value) (hv : SlSd H b v ps) (hlen : ps.length ≤ 4611686018427387904) :
    AC Tryz.prog nro gm 93 #[.pointer (some ⟨b, 0, none⟩), v] H (fun v' H' => ∃ L, H' = H.set b (some ⟨hc (takeB s (cat ps)), ty, none⟩) ++ L) := by
  refine ac_of_aw Tryz.func93 rfl Tryz.ntmps93 Tryz.results93 (by simp) ?_
  have hbl := hget_lt hg
  have hgX : ∀ x L, hget (H.set b x ++ L) b = x := fun x L => by rw [hget_left (by simp; omega), hget_set_eq hbl]
  have hsX : ∀ x y L, (H.set b x ++ L).set b y = H.set b y ++ L := fun x y L => by rw [List.set_append_left _ _ (by simp; omega), List.set_set]
  have hxl : xlen Tryz.prog 36 v = some (.int .i64 ps.length) := by
    rcases hv with ⟨a, rfl, rfl⟩ | ⟨j, off, k, rfl, _⟩
    · simp [xlen, tab]
    · simp [xlen, tab]
  refine aw_seq ?_
  refine aw_seq ?_
  (refine aw_ops (by kernel_rfl) (fun K hK => ?_); simp (disch := first | omega | (simp only [lnS]; try omega; done)) [-getElem?_pos, -getElem?_neg]; refine hK _ _ ?_; clear hK K)
  refine aw_f (by (first | (simp [eval_tmp, put_at]; done) | (simp [eval_tmp, put_at]; omega))) (by kernel_rfl) ?_
  refine aw_skip ?_
  refine aw_seq ?_
  (refine aw_ops (by kernel_rfl) (fun K hK => ?_); simp (disch := first | omega | (simp only [lnS]; try omega; done)) [-getElem?_pos, -getElem?_neg, -xlen, hxl]; refine hK _ _ ?_; clear hK K)
  refine aw_block ?_
  refine aw_loop (fun q α H' => ∃ i S L, i + q = ps.length ∧ α 11 = .int .i64 (i : Nat) ∧ α 10 = .int .i64 ps.length ∧ α 9 = v ∧ α 0 = .pointer (some ⟨b, 0, none⟩) ∧ HS.wf S ∧ takeB S (cat (ps.drop i)) = takeB s (cat ps) ∧
    H' = H.set b (some ⟨hc S, ty, none⟩) ++ L) ps.length ?_ ?_
  · exact ⟨0, s, [], by omega, by (first | (simp [put_at, put_none, fr0_at]; done) | rfl), by (first | (simp [put_at, put_none, fr0_at]; done) | rfl), by (first | (simp [put_at, put_none, fr0_at]; done) | rfl), by (first | (simp [put_at, put_none, fr0_at]; done) | rfl), hw, by simp, by rw [set_self hg]; simp⟩
  rintro q α H' ⟨i, S, L, hi, h11, h10, h9, h0, hS, hT, rfl⟩
  refine aw_seq ?_
  (refine aw_ops (by kernel_rfl) (fun K hK => ?_); simp (disch := first | omega | (simp only [lnS]; try omega; done)) [-getElem?_pos, -getElem?_neg, h11, h10]; refine hK _ _ ?_; clear hK K)
  refine aw_seq ?_
  by_cases hlt : (i : Int) < ps.length
  · refine aw_t (by (first | (simp [eval_tmp, put_at, hlt]; done) | (simp [eval_tmp, put_at, hlt]; omega))) (by kernel_rfl) ?_
    refine aw_skip ?_
    refine aw_seq ?_
    refine aw_block ?_
    refine aw_seq ?_
    have hi' : i < ps.length := by omega
    rcases hv with ⟨a, rfl, rfl⟩ | ⟨j, off, k, rfl, hjb, hj, hk⟩
    · simp at hi'
    have hjl := hget_lt hj
    have hki := hk i ps[i] (List.getElem?_eq_getElem hi')
    rw [List.drop_eq_getElem_cons hi'] at hT
    obtain ⟨pt, hpt⟩ : ∃ p, p = ps[i] := ⟨_, rfl⟩
    rw [← hpt] at hT hki
    (refine aw_ops (by kernel_rfl) (fun K hK => ?_); simp (disch := first | omega | (simp only [lnS]; try omega; done)) [-getElem?_pos, -getElem?_neg, h9, h11, hj, hki]; refine hK _ _ ?_; clear hK K)
    refine aw_block ?_
    refine aw_loop (fun q α H' => ∃ p S L, q = p.size ∧ α 5 = .string p ∧ α 11 = .int .i64 (i : Nat) ∧ α 10 = .int .i64 ps.length ∧ α 9 = .slice (some ⟨j, off, none⟩) ps.length ps.length ∧ α 0 = .pointer (some ⟨b, 0, none⟩) ∧ HS.wf S ∧ takeB S (nums p ++ cat (ps.drop (i + 1))) = takeB s (cat ps) ∧
      H' = H.set b (some ⟨hc S, ty, none⟩) ++ L) pt.size ?_ ?_
    · exact ⟨pt, S, L, rfl, by (first | (simp [put_at, put_none, fr0_at]; done) | rfl), by (first | (simp [put_at, put_none, fr0_at, h11]; done) | rfl), by (first | (simp [put_at, put_none, fr0_at, h10]; done) | rfl), by (first | (simp [put_at, put_none, fr0_at, h9]; done) | rfl), by (first | (simp [put_at, put_none, fr0_at, h0]; done) | rfl), hS, hT, rfl⟩
    clear h11 h10 h9 h0 hT hS S L hki
    rintro q' α H' ⟨p, S, L, rfl, h5, h11, h10, h9, h0, hS, hT, rfl⟩
    refine aw_seq ?_
    refine aw_seq ?_
    (refine aw_ops (by kernel_rfl) (fun K hK => ?_); simp (disch := first | omega | (simp only [lnS]; try omega; done)) [-getElem?_pos, -getElem?_neg, h5]; refine hK _ _ ?_; clear hK K)
    by_cases hp : 0 < p.size
    · have hp' : (0 : Int) < p.size := by omega
      refine aw_t (by (first | (simp [eval_tmp, put_at, hp']; done) | (simp [eval_tmp, put_at, hp']; omega))) (by kernel_rfl) ?_
      refine aw_skip ?_
      refine aw_block ?_
      refine aw_seq ?_
      have hSn := hS.hn
      have hSs := hS.hs
      have hSr := hS.hr
      obtain ⟨o, ho⟩ : ∃ o : Nat, (o : Int) = S.n % 64 := ⟨(S.n % 64).toNat, by omega⟩
      have ho2 : (S.n % 64).toNat = o := by omega
      have o0 : o < 64 := by omega
      obtain ⟨k, hk⟩ : ∃ k : Nat, k = min p.size (64 - o) := ⟨_, rfl⟩
      have hk0 : 0 < k := by omega
      have hk1 : k ≤ p.size := by omega
      have hlt1 : ((nums p).take k).length = k := by rw [List.length_take, nums_len]; omega
      have hsr := hcells_setrs S.st S.rs ((nums p).take k) S.n o hSs (by omega)
      have hcl := hcells_len S.st S.rs S.n
      rw [hSs, hSr] at hcl
      have c72 := hcells_n S.st S.rs S.n hSs hSr
      have hc1 : hc S = hcells S.st S.rs S.n := rfl
      have hok : 8 + o + (64 - o) ≤ 73 := by omega
      (refine aw_tail 10 (by kernel_rfl) (by kernel_rfl) (by kernel_rfl) (fun K hK => ?_); simp (disch := first | omega | (simp only [lnS]; try omega; done)) [-getElem?_pos, -getElem?_neg, h0, h5, hc1, c72, hcl, ← ho, ← hk, iv_take, hsr]; refine hK _ _ ?_; clear hK K)
      refine aw_seq ?_
      (refine aw_ops (by kernel_rfl) (fun K hK => ?_); simp (disch := first | omega | (simp only [lnS]; try omega; done)) [-getElem?_pos, -getElem?_neg, h5]; refine hK _ _ ?_; clear hK K)
      refine aw_seq ?_
      have hrl : (setI S.rs o ((nums p).take k)).length = 64 := by rw [setI_len]; exact hSr
      have hrb := setI_bd ((nums p).take k) (fun x hx => nums_bd p x (List.mem_of_mem_take hx)) S.rs o hS.hb
      have c72' := hcells_n S.st (setI S.rs o ((nums p).take k)) S.n hSs hrl
      have hcl' := hcells_len S.st (setI S.rs o ((nums p).take k)) S.n
      rw [hSs, hrl] at hcl'
      have hsn := fun x => hcells_setn S.st (setI S.rs o ((nums p).take k)) S.n x hSs hrl
      have hkk : ((nums p).take k).length = k := hlt1
      have hch := takeB_chunk ((nums p).take k) S hSn (by omega) (by omega)
      rw [ho2, hkk] at hch
      have hTT : takeB (takeB S ((nums p).take k)) (nums (p.extract k p.size) ++ cat (ps.drop (i + 1))) = takeB s (cat ps) := by
        rw [← takeB_append, ← List.append_assoc, nums_drop, List.take_append_drop]; exact hT
      have hwf' := takeB_wf ((nums p).take k) S hS (fun x hx => nums_bd p x (List.mem_of_mem_take hx))
      generalize setI S.rs o ((nums p).take k) = R at *
      obtain ⟨n', hn'⟩ : ∃ n', n' = IntKind.u64.wrap (S.n + (k : Int)) := ⟨_, rfl⟩
      rw [← hn'] at hch
      have hcl2 := hcells_len S.st R n'
      rw [hSs, hrl] at hcl2
      have c72n := hcells_n S.st R n' hSs hrl
      have hn0 : 0 ≤ n' ∧ n' < 18446744073709551616 := by rw [hn', wrapU64]; omega
      (refine aw_ops (by kernel_rfl) (fun K hK => ?_); simp (disch := first | omega | (simp only [lnS]; try omega; done)) [-getElem?_pos, -getElem?_neg, h0, c72', hcl', ← hn', hsn, hbn]; refine hK _ _ ?_; clear hK K)
      refine aw_seq ?_
      by_cases hz : n' % 64 = 0
      · rw [if_pos hz] at hch
        (refine aw_ops (by kernel_rfl) (fun K hK => ?_); simp (disch := first | omega | (simp only [lnS]; try omega; done)) [-getElem?_pos, -getElem?_neg, h0, c72n, hz]; refine hK _ _ ?_; clear hK K)
        refine aw_t (by (first | (simp [eval_tmp, put_at]; done) | (simp [eval_tmp, put_at]; omega))) (by kernel_rfl) ?_
        have C := compress_ac (nro := nro) (H := H.set b (some ⟨hcells S.st R n', ty, none⟩) ++ L) S.st R n' hSs hrl hrb (by simp; omega) b hbn ty ty0 ty1 (by rw [hget_left (by simp; omega), hget_set_eq hbl]) h2b
          (by rw [hget_left (by simp; omega), hget_set_ne (by omega)]; exact hg0) (by rw [hget_left (by simp; omega), hget_set_ne (by omega)]; exact hg1)
        refine aw_ops (by kernel_rfl) (fun K hK => ?_)
        simp (disch := first | omega | (simp only [lnS]; try omega; done)) [-getElem?_pos, -getElem?_neg, h0]
        refine ⟨by kernel_rfl, AC.mono C ?_⟩
        rintro v' H'' ⟨L', rfl⟩
        try simp (disch := first | omega | (simp only [lnS]; try omega; done)) [-getElem?_pos, -getElem?_neg]
        refine hK _ _ ?_; clear hK K
        have hps : (p.extract k p.size).size = p.size - k := by rw [← nums_len, nums_drop, List.length_drop, nums_len]
        refine ⟨(p.extract k p.size).size, by omega, p.extract k p.size, takeB S ((nums p).take k), L ++ L', rfl, by (first | (simp [put_at, put_none, fr0_at]; done) | rfl), by (first | (simp [put_at, put_none, fr0_at, h11]; done) | rfl), by (first | (simp [put_at, put_none, fr0_at, h10]; done) | rfl), by (first | (simp [put_at, put_none, fr0_at, h9]; done) | rfl), by (first | (simp [put_at, put_none, fr0_at, h0]; done) | rfl), hwf', hTT, ?_⟩
        rw [hch]
        rfl
      · rw [if_neg hz] at hch
        (refine aw_ops (by kernel_rfl) (fun K hK => ?_); simp (disch := first | omega | (simp only [lnS]; try omega; done)) [-getElem?_pos, -getElem?_neg, h0, c72n, hz]; refine hK _ _ ?_; clear hK K)
        refine aw_f (by (first | (simp [eval_tmp, put_at]; done) | (simp [eval_tmp, put_at]; omega))) (by kernel_rfl) ?_
        refine aw_skip ?_
        have hps : (p.extract k p.size).size = p.size - k := by rw [← nums_len, nums_drop, List.length_drop, nums_len]
        refine ⟨(p.extract k p.size).size, by omega, p.extract k p.size, takeB S ((nums p).take k), L, rfl, by (first | (simp [put_at, put_none, fr0_at]; done) | rfl), by (first | (simp [put_at, put_none, fr0_at, h11]; done) | rfl), by (first | (simp [put_at, put_none, fr0_at, h10]; done) | rfl), by (first | (simp [put_at, put_none, fr0_at, h9]; done) | rfl), by (first | (simp [put_at, put_none, fr0_at, h0]; done) | rfl), hwf', hTT, ?_⟩
        rw [hch]
        rfl
    · have hp' : ¬ (0 : Int) < p.size := by omega
      have hp2 : p.size = 0 := by omega
      have hp3 : p = ByteArray.empty := ByteArray.size_eq_zero_iff.1 hp2
      refine aw_f (by (first | (simp [eval_tmp, put_at, hp', hp2, hp3]; done) | (simp [eval_tmp, put_at, hp', hp2, hp3]; omega))) (by kernel_rfl) ?_
      refine aw_exit ?_
      (refine aw_ops (by kernel_rfl) (fun K hK => ?_); simp (disch := first | omega | (simp only [lnS]; try omega; done)) [-getElem?_pos, -getElem?_neg, h11]; refine hK _ _ ?_; clear hK K)
      refine ⟨q - 1, by omega, i + 1, S, L, by omega, by (first | (simp [put_at, put_none, fr0_at]; done) | rfl), by (first | (simp [put_at, put_none, fr0_at, h10]; done) | rfl), by (first | (simp [put_at, put_none, fr0_at, h9]; done) | rfl), by (first | (simp [put_at, put_none, fr0_at, h0]; done) | rfl), hS, ?_, rfl⟩
      rw [← hT]
      have : nums p = [] := List.eq_nil_of_length_eq_zero (by rw [nums_len]; omega)
      rw [this]; rfl
  · refine aw_f (by (first | (simp [eval_tmp, put_at, hlt]; done) | (simp [eval_tmp, put_at, hlt]; omega))) (by kernel_rfl) ?_
    obtain rfl : i = ps.length := by omega
    refine aw_exit ?_
    simp only [thenQ, inBlockQ, if_true, RQ]
    refine ⟨[], .tuple #[], rfl, rfl, L, ?_⟩
    rw [List.drop_of_length_le (Nat.le_refl _)] at hT
    rw [← hT]
    rfl
end
section
attribute [local simp] wb_bool wb_undef XL_nil XL_cons XLc_val XLc_call step1_eq stepW_t stepW_f stepC_n stepC_s stepX_s stepX_n stepN_s calleeX oneV xop_eq xopR_s xopR_n wantedA_eq wantedG_n wantedG_s plain1_int plain1_bool plain1_string bits_i64 bits_u64 bits_u32 bits_u16 bits_u8 xeqA xagg xcmp xarr allK_iv num_iv calleeOf xread xeff xbin xint xnil xun xstr xload xconv xpart xfield xfieldAddr xindexAddr xindex bnd asInt? xslice xlen xmin xmax xbuild xfill xappend xapp2 xappstr xappmk xcap xcopy xcells eval_tmp eval_const put_at put_none fr0_at cells_agg cells_int cells_bool cells_string cells_ptr cells_slice notTuple tab iv_all hget_app hget_app0 hget_cons0 hget_cons set_app set_app0 setR setR_one QL_nil QL_cons QLc_val stepQ_t stepQ_f stepQC_n stepQC_s stepQX_s SL_nil SL_cons SLc_val stepS_t stepS_f ltT ltF leT leF eqT eqF ltTn ltFn leTn leFn eqTn eqFn beqT beqF bneT bneF wi64 wu64 wu32 wu16 wu8 tmodP tdivP hgetL hgetNe hgetEq setL nums_def nums_len Nat.succ_le_of_lt List.getElem?_cons_zero List.getElem?_cons_succ Option.getD_some Int.toNat_add Int.toNat_mul agB agI agS agP agL agA okB okI okS okP okSl okA
/-- A word's four bytes. -/
def b4 (x : Int) : List Int := [IntKind.u8.wrap (x.fdiv 16777216), IntKind.u8.wrap (x.fdiv 65536), IntKind.u8.wrap (x.fdiv 256), IntKind.u8.wrap x]
theorem b4_len (x : Int) : (b4 x).length = 4 := rfl
theorem put4_at (A B : List Int) (a b c d x : Int) (n : Nat) (hn : n = A.length) : put4 (iv .u8 (A ++ ([a, b, c, d] ++ B))) n x = iv .u8 (A ++ (b4 x ++ B)) := by
  subst hn
  unfold put4
  simp only [iv_set]
  congr 1
  rw [List.set_append_right _ _ (Nat.le_refl _)]
  rw [List.set_append_right _ _ (by omega), List.set_append_right _ _ (by omega), List.set_append_right _ _ (by omega)]
  simp [b4]
/-- How long the noughts are. -/
def zn (n : Int) : Nat := ((119 - n % 64) % 64).toNat
def len8 (n : Int) : List Int := b4 (IntKind.u32.wrap ((IntKind.u64.wrap (n * 8)).fdiv 4294967296)) ++ b4 (IntKind.u32.wrap (IntKind.u64.wrap (n * 8)))
/-- What stands behind a text of n bytes. -/
def padL (n : Int) : List Int := 128 :: (List.replicate (zn n) 0 ++ len8 n)
def outL (st : List Int) : List Int := st.flatMap b4
def dig (s : HS) : List Int := outL (takeB s (padL s.n)).st
def hs0 : HS := ⟨zl 8, zl 64, 0⟩
theorem hs0_wf : hs0.wf := ⟨by simp [hs0], by simp [hs0], by
  intro p
  unfold hs0 zl
  simp only [List.getD_eq_getElem?_getD, List.getElem?_replicate]
  split <;> simp, by simp [hs0]⟩
theorem repeat_vc (c : Nat) (hc : c ≤ 1000) : VC Tryz.prog 48 #[.string ⟨#[0]⟩, .int .i64 c] (.string ⟨(List.replicate c (0 : UInt8)).toArray⟩) := by
  intro w
  have := Tryz.strings_Repeat ⟨#[0]⟩ c w (by omega) (by show 1 * c ≤ _; omega)
  rw [show (⟨#[0]⟩ : ByteArray).data.toList = List.replicate 1 0 from rfl, Lib.repeatL_replicate, Nat.mul_one] at this
  exact .inl ⟨by kernel_rfl, this⟩
theorem nums_rep (c : Nat) : nums ⟨(List.replicate c (0 : UInt8)).toArray⟩ = List.replicate c 0 := by
  unfold nums
  simp
/-- The package's tables, as the blocks 0 and 1. -/
def GG (H : AH) : Prop := (∃ ty0, hget H 0 = some ⟨iv .u32 startL, ty0, none⟩) ∧ ∃ ty1, hget H 1 = some ⟨iv .u32 roundL, ty1, none⟩
theorem GG.app {H : AH} (h : GG H) (L : AH) : GG (H ++ L) := by
  obtain ⟨⟨t0, h0⟩, t1, h1⟩ := h
  exact ⟨⟨t0, hget_left' h0⟩, t1, hget_left' h1⟩
theorem GG.set {H : AH} (h : GG H) {b : Nat} (hb : 2 ≤ b) (x : Option Blk) : GG (H.set b x) := by
  obtain ⟨⟨t0, h0⟩, t1, h1⟩ := h
  exact ⟨⟨t0, by rw [hget_set_ne (by omega)]; exact h0⟩, t1, by rw [hget_set_ne (by omega)]; exact h1⟩
theorem GG.len {H : AH} (h : GG H) : 2 ≤ H.length := by
  obtain ⟨_, t1, h1⟩ := h
  exact hget_lt h1
theorem write_gg {nro : Nat} {H : AH} (s : HS) (hw : s.wf) (hn : nro ≤ H.length) (b : Nat) (hbn : nro ≤ b) (ty : TypeId) (hg : hget H b = some ⟨hc s, ty, none⟩)
    (h2b : 2 ≤ b) (hG : GG H) (ps : List ByteArray) (v : Value) (hv : SlSd H b v ps) (hlen : ps.length ≤ 4611686018427387904) :
    AC Tryz.prog nro gm 93 #[.pointer (some ⟨b, 0, none⟩), v] H (fun v' H' => ∃ L, H' = H.set b (some ⟨hc (takeB s (cat ps)), ty, none⟩) ++ L) := by
  obtain ⟨⟨t0, h0⟩, t1, h1⟩ := hG
  exact hwrite_ac s hw hn b hbn ty t0 t1 hg h2b h0 h1 ps v hv hlen
attribute [local irreducible] hcells takeB len8 zn
theorem pad_ac {nro : Nat} {H : AH} (s : HS) (hw : s.wf) (hn : nro ≤ H.length) (b : Nat) (hbn : nro ≤ b) (ty : TypeId) (hg : hget H b = some ⟨hc s, ty, none⟩) (h2b : 2 ≤ b) (hG : GG H) :
    AC Tryz.prog nro gm 101 #[.pointer (some ⟨b, 0, none⟩)] H (fun v' H' => ∃ L, H' = H.set b (some ⟨hc (takeB s (padL s.n)), ty, none⟩) ++ L) := by
  refine ac_of_aw Tryz.func101 rfl Tryz.ntmps101 Tryz.results101 (by simp) ?_
  have hbl := hget_lt hg
  have hSn := hw.hn
  have hcl := hcells_len s.st s.rs s.n
  rw [hw.hs, hw.hr] at hcl
  have c72 := hcells_n s.st s.rs s.n hw.hs hw.hr
  have hc1 : hc s = hcells s.st s.rs s.n := rfl
  obtain ⟨x1, hx1⟩ : ∃ x, x = IntKind.u32.wrap ((IntKind.u64.wrap (s.n * 8)).fdiv 4294967296) := ⟨_, rfl⟩
  obtain ⟨x2, hx2⟩ : ∃ x, x = IntKind.u32.wrap (IntKind.u64.wrap (s.n * 8)) := ⟨_, rfl⟩
  have hl8 : len8 s.n = b4 x1 ++ b4 x2 := by rw [hx1, hx2]; unfold len8; rfl
  have hz : ((zn s.n : Nat) : Int) = (119 - s.n % 64) % 64 := by unfold zn; omega
  have hz2 : zn s.n ≤ 63 := by omega
  refine aw_seq ?_
  (refine aw_ops (by kernel_rfl) (fun K hK => ?_); simp (disch := first | omega | (simp only [lnS]; try omega; done)) [-getElem?_pos, -getElem?_neg, hg, hc1, c72]; refine hK _ _ ?_; clear hK K)
  refine aw_seq ?_
  (refine aw_ops (by kernel_rfl) (fun K hK => ?_); simp (disch := first | omega | (simp only [lnS]; try omega; done)) [-getElem?_pos, -getElem?_neg, ← hz]; refine hK _ _ ?_; clear hK K)
  refine aw_seq ?_
  (refine aw_ops (by kernel_rfl) (fun K hK => ?_); simp (disch := first | omega | (simp only [lnS]; try omega; done)) [-getElem?_pos, -getElem?_neg]; refine hK _ _ ?_; clear hK K)
  refine aw_seq ?_
  refine aw_ops (by kernel_rfl) (fun K hK => ?_)
  simp (disch := first | omega | (simp only [lnS]; try omega; done)) [-getElem?_pos, -getElem?_neg, -wu64, -wu32, -wu16, ← hx1]
  have hiv1 : put4 (iv .u8 (zl 8)) 0 x1 = iv .u8 (b4 x1 ++ [0, 0, 0, 0]) := put4_at [] [0, 0, 0, 0] 0 0 0 0 x1 0 rfl
  have hiv2 : put4 (iv .u8 (b4 x1 ++ [0, 0, 0, 0])) 4 x2 = iv .u8 (len8 s.n) := by
    rw [hl8]
    have := put4_at (b4 x1) [] 0 0 0 0 x2 4 rfl
    simpa using this
  have hz8 : (iv .u8 (zl 8)).length = 8 := by simp
  have hz8' : (iv .u8 (b4 x1 ++ [0, 0, 0, 0])).length = 8 := by simp [b4_len]
  have hl88 : (len8 s.n).length = 8 := by rw [hl8]; rfl
  refine ⟨by kernel_rfl, AC.mono (put_ac (iv .u8 (zl 8)) 0 4 x1 (by omega) (by omega) H.length hn 148 none (by simp [hget_app0, hget_cons0])) ?_⟩
  rintro v H' rfl
  rw [hiv1]
  try simp (disch := first | omega | (simp only [lnS]; try omega; done)) [-getElem?_pos, -getElem?_neg]
  refine hK _ _ ?_; clear hK K
  refine aw_seq ?_
  refine aw_ops (by kernel_rfl) (fun K hK => ?_)
  simp (disch := first | omega | (simp only [lnS]; try omega; done)) [-getElem?_pos, -getElem?_neg, -wu64, -wu32, -wu16, ← hx2]
  refine ⟨by kernel_rfl, AC.mono (put_ac (iv .u8 (b4 x1 ++ [0, 0, 0, 0])) 4 4 x2 (by omega) (by omega) H.length hn 148 none (by simp [hget_app0, hget_cons0])) ?_⟩
  rintro v H' rfl
  rw [hiv2]
  try simp (disch := first | omega | (simp only [lnS]; try omega; done)) [-getElem?_pos, -getElem?_neg]
  refine hK _ _ ?_; clear hK K
  have hk8 : byteList ((iv .u8 (len8 s.n)).take 8) = some (len8 s.n) := by rw [List.take_of_length_le (by simp [hl88])]; exact byteList_iv _
  generalize hL8 : len8 s.n = l8 at *
  (refine aw_floatQ [0] [1, 2, 3, 4, 5] 6 1 (by kernel_rfl) (by kernel_rfl) (by kernel_rfl) (fun K hK => ?_)); simp only [sel, List.getElem?_cons_succ, List.getElem?_cons_zero, List.drop_succ_cons, List.drop_zero]; simp (disch := first | omega | (simp only [lnS]; try omega; done)) [-getElem?_pos, -getElem?_neg, hl88, List.take_of_length_le, byteList_iv, QM_nil, QM_cons, QMc_val]
  refine QMc_call (by kernel_rfl) (ac_of_vc (by simp [pv_iv, pv_int, pv_bool, pv_string, pv_tup2, pv_tup3, iv_plain, p2_int, p2_bool, p2_string]) (repeat_vc (zn s.n) (by omega)) rfl) rfl ?_
  simp (disch := first | omega | (simp only [lnS]; try omega; done)) [-getElem?_pos, -getElem?_neg, hl88, List.take_of_length_le, byteList_iv, QM_nil, QM_cons, QMc_val]
  have hb8 : By l8 := by
    rw [hl8]
    exact By.app (By.cons (by_u8 _) (By.cons (by_u8 _) (By.cons (by_u8 _) (By.cons (by_u8 _) By.nil)))) (By.cons (by_u8 _) (By.cons (by_u8 _) (By.cons (by_u8 _) (By.cons (by_u8 _) By.nil))))
  have hcat : cat [⟨#[128]⟩, ⟨Array.replicate (zn s.n) 0⟩, strOfNums l8] = padL s.n := by
    have e := nums_rep (zn s.n)
    rw [List.toArray_replicate] at e
    simp only [cat, e, nums_of l8 hb8, padL, hL8, List.append_nil]
    rfl
  refine ⟨by kernel_rfl, AC.mono (write_gg s hw (by simp; omega) b hbn ty (by rw [hget_left (by omega)]; exact hg) h2b (hG.app _) [⟨#[128]⟩, ⟨Array.replicate (zn s.n) 0⟩, strOfNums l8] _
    (.inr ⟨H.length + 1, 0, _, rfl, by omega, by rw [hget_app]; rfl, ?_⟩) (by simp)) ?_⟩
  · intro i p hp
    match i, hp with
    | 0, hp => simp at hp; subst hp; rfl
    | 1, hp => simp at hp; subst hp; rfl
    | 2, hp => simp at hp; subst hp; rfl
    | i + 3, hp => simp at hp
  rintro v' H'' ⟨L, rfl⟩
  rw [hcat]
  try simp (disch := first | omega | (simp only [lnS]; try omega; done)) [-getElem?_pos, -getElem?_neg, QM_nil, QM_cons, QMc_val]
  refine hK _ _ ?_; clear hK K
  simp only [RQ]
  refine ⟨[], .tuple #[], rfl, rfl, ?_⟩
  exact ⟨_, rfl⟩
/-- The hash behind its end. -/
theorem padL_by (n : Int) : By (padL n) := by
  have h4 : ∀ x, By (b4 x) := fun x => By.cons (by_u8 _) (By.cons (by_u8 _) (By.cons (by_u8 _) (By.cons (by_u8 _) By.nil)))
  unfold padL
  refine By.cons (by omega) (By.app (fun x hx => ?_) ?_)
  · have := List.eq_of_mem_replicate hx; omega
  · unfold len8; exact By.app (h4 _) (h4 _)
theorem outL_len (st : List Int) : (outL st).length = 4 * st.length := by
  unfold outL
  induction st with
  | nil => rfl
  | cons x st ih => rw [List.flatMap_cons, List.length_append, ih, b4_len, List.length_cons]; omega
theorem dig_len (s : HS) (h : s.wf) : (dig s).length = 32 := by
  unfold dig
  rw [outL_len, (takeB_wf _ s h (padL_by _)).hs]
theorem outL_by (st : List Int) : By (outL st) := by
  unfold outL
  intro x hx
  obtain ⟨y, _, hy⟩ := List.mem_flatMap.1 hx
  exact (By.cons (by_u8 _) (By.cons (by_u8 _) (By.cons (by_u8 _) (By.cons (by_u8 _) By.nil)))) x hy
theorem outL_take (st : List Int) (i : Nat) (h : i < st.length) : outL (st.take (i + 1)) = outL (st.take i) ++ b4 (st.getD i 0) := by
  unfold outL
  rw [List.take_add_one, List.flatMap_append, List.getElem?_eq_getElem h, List.getD_eq_getElem?_getD, List.getElem?_eq_getElem h]
  simp
theorem zl_succ4 (n : Nat) : zl (n + 4) = [0, 0, 0, 0] ++ zl n := rfl
theorem hc0 : hcells (zl 8) (zl 64) 0 = hc hs0 := rfl
theorem z73 : iv .u32 (zl 8) ++ (iv .u8 (zl 64) ++ [.int .u64 0]) = hc hs0 := by kernel_rfl
attribute [local irreducible] padL
theorem sum_gen {nro : Nat} {H : AH} (s : HS) (hw : s.wf) (hn : nro ≤ H.length) (hG : GG H) (v : Value)
    (hv : (v = .pointer none ∧ s = hs0) ∨ ∃ b ty, v = .pointer (some ⟨b, 0, none⟩) ∧ hget H b = some ⟨hc s, ty, none⟩) :
    AC Tryz.prog nro gm 94 #[v] H (fun v' H' => v' = .agg (iv .u8 (dig s)).toArray ∧ ∃ L, H' = H ++ L) := by
  refine ac_of_aw Tryz.func94 rfl Tryz.ntmps94 Tryz.results94 (by simp) ?_
  have hlen0 := hcells_len (zl 8) (zl 64) 0
  have hcl := hcells_len s.st s.rs s.n
  rw [hw.hs, hw.hr] at hcl
  have hc1 : hc s = hcells s.st s.rs s.n := rfl
  refine aw_seq ?_
  (refine aw_ops (by kernel_rfl) (fun K hK => ?_); simp (disch := first | omega | (simp only [lnS]; try omega; done)) [-getElem?_pos, -getElem?_neg]; refine hK _ _ ?_; clear hK K)
  have hpl : ∀ x ∈ hc hs0, plain1 x = true := by
    intro x hx
    have : ((hc hs0).all plain1) = true := by kernel_rfl
    exact List.all_eq_true.1 this x hx
  refine aw_seq ?_
  refine aw_ops (by kernel_rfl) (fun K hK => ?_)
  simp (disch := first | omega | (simp only [lnS]; try omega; done)) [-getElem?_pos, -getElem?_neg, z73]
  try rw [if_pos hpl]
  try simp (disch := first | omega | (simp only [lnS]; try omega; done)) [-getElem?_pos, -getElem?_neg]
  refine hK _ _ ?_; clear hK K
  refine aw_seq ?_
  refine aw_cut (fun α H' => α 2 = .pointer (some ⟨H.length, 0, none⟩) ∧ α 3 = .pointer (some ⟨H.length + 1, 0, none⟩) ∧ H' = H ++ [some ⟨iv .u8 (zl 32), 103, none⟩, some ⟨hc s, 144, none⟩]) ?_ ?_
  · refine aw_seq ?_
    rcases hv with ⟨rfl, rfl⟩ | ⟨b, ty, rfl, hb⟩
    · (refine aw_ops (by kernel_rfl) (fun K hK => ?_); simp (disch := first | omega | (simp only [lnS]; try omega; done)) [-getElem?_pos, -getElem?_neg]; refine hK _ _ ?_; clear hK K)
      refine aw_f (by (first | (simp [eval_tmp, put_at]; done) | (simp [eval_tmp, put_at]; omega))) (by kernel_rfl) ?_
      refine aw_skip ?_
      exact ⟨rfl, rfl, rfl⟩
    · have hbl := hget_lt hb
      (refine aw_ops (by kernel_rfl) (fun K hK => ?_); simp (disch := first | omega | (simp only [lnS]; try omega; done)) [-getElem?_pos, -getElem?_neg]; refine hK _ _ ?_; clear hK K)
      refine aw_t (by (first | (simp [eval_tmp, put_at]; done) | (simp [eval_tmp, put_at]; omega))) (by kernel_rfl) ?_
      have hh0 : (hc hs0).length = 73 := by kernel_rfl
      have ht73 : (hcells s.st s.rs s.n).take 73 = hcells s.st s.rs s.n := List.take_of_length_le (by omega)
      have hs73 : setR (hc hs0) 0 (hcells s.st s.rs s.n) = hcells s.st s.rs s.n := setR_all _ _ (by omega)
      (refine aw_ops (by kernel_rfl) (fun K hK => ?_); simp (disch := first | omega | (simp only [lnS]; try omega; done)) [-getElem?_pos, -getElem?_neg, hb, hc1, hcl, hh0, ht73, hs73]; refine hK _ _ ?_; clear hK K)
      exact ⟨rfl, rfl, rfl⟩
  · rintro α H1 ⟨h2, h3, rfl⟩
    clear hv
    have hP := pad_ac (nro := nro) (H := H ++ [some ⟨iv .u8 (zl 32), 103, none⟩, some ⟨hc s, 144, none⟩]) s hw (by simp; omega) (H.length + 1) (by omega) 144 (by rw [hget_app]; rfl) (by have := hG.len; omega) (hG.app _)
    have hwf := takeB_wf (padL s.n) s hw (padL_by _)
    have hd : dig s = outL (takeB s (padL s.n)).st := rfl
    rw [hd]
    generalize takeB s (padL s.n) = T at *
    have hcT := hcells_len T.st T.rs T.n
    rw [hwf.hs, hwf.hr] at hcT
    have hcT1 : hc T = hcells T.st T.rs T.n := rfl
    have htk := hcells_take T.st T.rs T.n hwf.hs
    refine aw_seq ?_
    refine aw_ops (by kernel_rfl) (fun K hK => ?_)
    simp (disch := first | omega | (simp only [lnS]; try omega; done)) [-getElem?_pos, -getElem?_neg, h3]
    refine ⟨by kernel_rfl, AC.mono hP ?_⟩
    rintro v' H2 ⟨L, rfl⟩
    try simp (disch := first | omega | (simp only [lnS]; try omega; done)) [-getElem?_pos, -getElem?_neg]
    refine hK _ _ ?_; clear hK K
    refine aw_seq ?_
    (refine aw_ops (by kernel_rfl) (fun K hK => ?_); simp (disch := first | omega | (simp only [lnS]; try omega; done)) [-getElem?_pos, -getElem?_neg]; refine hK _ _ ?_; clear hK K)
    refine aw_seq ?_
    refine aw_seq ?_
    (refine aw_ops (by kernel_rfl) (fun K hK => ?_); simp (disch := first | omega | (simp only [lnS]; try omega; done)) [-getElem?_pos, -getElem?_neg, h3, hcT1, hcT, htk]; refine hK _ _ ?_; clear hK K)
    refine aw_block ?_
    refine aw_loop (fun q α H' => ∃ i : Nat, i + q = 8 ∧ α 15 = .int .i64 (i : Nat) ∧ α 14 = .agg (iv .u32 T.st).toArray ∧ α 2 = .pointer (some ⟨H.length, 0, none⟩) ∧ α 4 = .pointer (some ⟨H.length + (L.length + 2), 0, none⟩) ∧
      H' = H ++ (some ⟨iv .u8 (zl 32), 103, none⟩ :: some ⟨hc T, 144, none⟩ :: (L ++ [some ⟨iv .u8 (outL (T.st.take i) ++ zl (32 - 4 * i)), 103, none⟩]))) 8 ?_ ?_
    · refine ⟨0, rfl, by (first | (simp [put_at, put_none, fr0_at]; done) | rfl), by (first | (simp [put_at, put_none, fr0_at]; done) | rfl), by (first | (simp [put_at, put_none, fr0_at, h2]; done) | rfl), by (first | (simp [put_at, put_none, fr0_at]; done) | rfl), by simp [outL, hcT1]⟩
    clear h2 h3
    rintro q α H' ⟨i, hi, h15, h14, h2, h4, rfl⟩
    refine aw_seq ?_
    (refine aw_ops (by kernel_rfl) (fun K hK => ?_); simp (disch := first | omega | (simp only [lnS]; try omega; done)) [-getElem?_pos, -getElem?_neg, h15]; refine hK _ _ ?_; clear hK K)
    refine aw_seq ?_
    by_cases hlt : (i : Int) < 8
    · refine aw_t (by (first | (simp [eval_tmp, put_at, hlt]; done) | (simp [eval_tmp, put_at, hlt]; omega))) (by kernel_rfl) ?_
      refine aw_skip ?_
      refine aw_seq ?_
      refine aw_block ?_
      refine aw_seq ?_
      have hTs := hwf.hs
      have gi : (iv .u32 T.st)[i]? = some (.int .u32 (T.st.getD i 0)) := iv_get _ _ _ (by omega)
      obtain ⟨o, ho⟩ : ∃ o : Nat, o = 4 * i := ⟨_, rfl⟩
      have ho' : (4 : Int) * (i : Int) = (o : Int) := by omega
      (refine aw_ops (by kernel_rfl) (fun K hK => ?_); simp (disch := first | omega | (simp only [lnS]; try omega; done)) [-getElem?_pos, -getElem?_neg, h15, h14, gi, hTs]; refine hK _ _ ?_; clear hK K)
      refine aw_ops (by kernel_rfl) (fun K hK => ?_)
      simp (disch := first | omega | (simp only [lnS]; try omega; done)) [-getElem?_pos, -getElem?_neg, h4, ho']
      have hgi : (T.st)[i]?.getD 0 = T.st.getD i 0 := (List.getD_eq_getElem?_getD).symm
      have hot := outL_take T.st i (by omega)
      have hol : (outL (T.st.take i)).length = o := by rw [outL_len, List.length_take]; omega
      have hz4 : zl (32 - o) = [0, 0, 0, 0] ++ zl (28 - o) := by rw [show 32 - o = (28 - o) + 4 by omega]; exact zl_succ4 _
      have hput := put4_at (outL (T.st.take i)) (zl (28 - o)) 0 0 0 0 (T.st.getD i 0) o hol.symm
      have hlen : (outL (T.st.take i) ++ ([0, 0, 0, 0] ++ zl (28 - o))).length = 32 := by simp [hol]; omega
      have hn1 : nro ≤ H.length + (L.length + 2) := by omega
      have e32 : 32 - 4 * i = 32 - o := by omega
      have e28 : 32 - 4 * (i + 1) = 28 - o := by omega
      rw [hgi, e32, hz4]
      refine ⟨by kernel_rfl, AC.mono (put_ac (iv .u8 (outL (T.st.take i) ++ ([0, 0, 0, 0] ++ zl (28 - o)))) o (32 - o) (T.st.getD i 0) (by omega) (by rw [iv_length, hlen]; omega) (H.length + (L.length + 2)) hn1 103 none
        (by rw [hget_app, show L.length + 2 = (L.length + 1) + 1 by omega, hget_cons, hget_cons, show L.length = L.length + 0 by omega, hget_app]; rfl)) ?_⟩
      rintro v' H3 rfl
      rw [hput]
      try simp (disch := first | omega | (simp only [lnS]; try omega; done)) [-getElem?_pos, -getElem?_neg]
      refine hK _ _ ?_; clear hK K
      (refine aw_ops (by kernel_rfl) (fun K hK => ?_); simp (disch := first | omega | (simp only [lnS]; try omega; done)) [-getElem?_pos, -getElem?_neg, h15]; refine hK _ _ ?_; clear hK K)
      refine ⟨q - 1, by omega, i + 1, by omega, by (first | (simp [put_at, put_none, fr0_at]; done) | rfl), by (first | (simp [put_at, put_none, fr0_at, h14]; done) | rfl), by (first | (simp [put_at, put_none, fr0_at, h2]; done) | rfl), by (first | (simp [put_at, put_none, fr0_at, h4]; done) | rfl), ?_⟩
      rw [hot, e28, List.append_assoc, ← hgi]
    · refine aw_f (by (first | (simp [eval_tmp, put_at, hlt]; done) | (simp [eval_tmp, put_at, hlt]; omega))) (by kernel_rfl) ?_
      obtain rfl : i = 8 := by omega
      refine aw_exit ?_
      have hou : outL (T.st.take 8) = outL T.st := by rw [List.take_of_length_le (by rw [hwf.hs]; omega)]
      have hlo : (outL T.st).length = 32 := by rw [outL_len, hwf.hs]
      rw [hou]
      refine aw_seq ?_
      have hz0 : zl (32 - 4 * 8) = [] := rfl
      have hz1 : zl 0 = [] := rfl
      have hsx : setR (iv .u8 (zl 32)) 0 (iv .u8 (outL T.st)) = iv .u8 (outL T.st) := setR_all _ _ (by simp [hlo])
      have htx : (iv .u8 (outL T.st)).take 32 = iv .u8 (outL T.st) := List.take_of_length_le (by simp [hlo])
      rw [hz0, List.append_nil]
      (refine aw_ops (by kernel_rfl) (fun K hK => ?_); simp (disch := first | omega | (simp only [lnS]; try omega; done)) [-getElem?_pos, -getElem?_neg, h2, h4, hlo, htx, hsx]; refine hK _ _ ?_; clear hK K)
      (refine aw_ret ?_; simp [thenQ_ret, inBlockQ_ret, RQ, resL, resV, xload, tab, okD, isAggD, hget_app, hget_app0, hget_cons0, hget_cons, notTuple, put_at, put_none, h2, hlo, htx])
theorem SlSd.app {H : AH} {b : Nat} {v : Value} {ps : List ByteArray} (h : SlSd H b v ps) (L : AH) (b' : Nat) (hb : H.length ≤ b') : SlSd (H ++ L) b' v ps := by
  rcases h with ⟨a, h1, h2⟩ | ⟨j, off, k, h1, h2, h3, h4⟩
  · exact .inl ⟨a, h1, h2⟩
  · exact .inr ⟨j, off, k, h1, by have := hget_lt h3; omega, hget_left' h3, h4⟩
theorem digest_ac {nro : Nat} {H : AH} (hn : nro ≤ H.length) (hG : GG H) (v : Value) (ps : List ByteArray) (hv : SlSd H H.length v ps) (hlen : ps.length ≤ 4611686018427387904) :
    AC Tryz.prog nro gm 76 #[v] H (fun v' H' => v' = .agg (iv .u8 (dig (takeB hs0 (cat ps)))).toArray ∧ ∃ L, H' = H ++ L) := by
  refine ac_of_aw Tryz.func76 rfl Tryz.ntmps76 Tryz.results76 (by simp) ?_
  have hpl : ∀ x ∈ hc hs0, plain1 x = true := by
    intro x hx
    have : ((hc hs0).all plain1) = true := by kernel_rfl
    exact List.all_eq_true.1 this x hx
  have hwf := takeB_wf (cat ps) hs0 hs0_wf (cat_bd ps)
  have hdl := dig_len _ hwf
  refine aw_seq ?_
  (refine aw_ops (by kernel_rfl) (fun K hK => ?_); simp (disch := first | omega | (simp only [lnS]; try omega; done)) [-getElem?_pos, -getElem?_neg]; refine hK _ _ ?_; clear hK K)
  refine aw_seq ?_
  refine aw_ops (by kernel_rfl) (fun K hK => ?_)
  simp (disch := first | omega | (simp only [lnS]; try omega; done)) [-getElem?_pos, -getElem?_neg, z73]
  try rw [if_pos hpl]
  try simp (disch := first | omega | (simp only [lnS]; try omega; done)) [-getElem?_pos, -getElem?_neg]
  refine hK _ _ ?_; clear hK K
  refine aw_seq ?_
  refine aw_ops (by kernel_rfl) (fun K hK => ?_)
  simp (disch := first | omega | (simp only [lnS]; try omega; done)) [-getElem?_pos, -getElem?_neg]
  refine ⟨by kernel_rfl, AC.mono (write_gg hs0 hs0_wf (by simp; omega) (H.length + 1) (by omega) 144 (by rw [hget_app]; rfl) (by have := hG.len; omega) (hG.app _) ps v (hv.app _ _ (by omega)) hlen) ?_⟩
  rintro v' H2 ⟨L, rfl⟩
  try simp (disch := first | omega | (simp only [lnS]; try omega; done)) [-getElem?_pos, -getElem?_neg]
  refine hK _ _ ?_; clear hK K
  generalize takeB hs0 (cat ps) = T at *
  refine aw_seq ?_
  refine aw_ops (by kernel_rfl) (fun K hK => ?_)
  simp (disch := first | omega | (simp only [lnS]; try omega; done)) [-getElem?_pos, -getElem?_neg]
  refine ⟨by kernel_rfl, AC.mono (sum_gen T hwf (by simp; omega) (hG.app _) _ (.inr ⟨H.length + 1, 144, rfl, by rw [hget_app]; rfl⟩)) ?_⟩
  rintro v' H2 ⟨rfl, L2, rfl⟩
  have hsx : setR (iv .u8 (zl 32)) 0 (iv .u8 (dig T)) = iv .u8 (dig T) := setR_all _ _ (by simp [hdl])
  have htx : (iv .u8 (dig T)).take 32 = iv .u8 (dig T) := List.take_of_length_le (by simp [hdl])
  simp (disch := first | omega | (simp only [lnS]; try omega; done)) [-getElem?_pos, -getElem?_neg, hdl, hsx]
  refine hK _ _ ?_; clear hK K
  (refine aw_ret ?_; simp [thenQ_ret, inBlockQ_ret, RQ, resL, resV, xload, tab, okD, isAggD, hget_app, hget_app0, hget_cons0, hget_cons, notTuple, put_at, put_none, hdl, htx])
end
section
/-- An own slice: nil, or the whole of a block, its only footprint. -/
def OwnF (H : AH) (v : Value) (e : TypeId) (sz : Nat) (cells : List Value) (F : List Nat) : Prop :=
  (v = .slice none 0 0 ∧ cells = [] ∧ F = []) ∨ ∃ j len, v = .slice (some ⟨j, 0, none⟩) len len ∧ hget H j = some ⟨cells, e, some sz⟩ ∧ cells.length = len * sz ∧ F = [j]
theorem OwnF.low {H H' : AH} {v : Value} {e : TypeId} {sz : Nat} {cells : List Value} {F : List Nat} (h : OwnF H v e sz cells F) (hl : ∀ j ∈ F, hget H' j = hget H j) : OwnF H' v e sz cells F := by
  rcases h with h | ⟨j, len, h1, h2, h3, rfl⟩
  · exact .inl h
  · exact .inr ⟨j, len, h1, by rw [hl j (by simp)]; exact h2, h3, rfl⟩
theorem OwnF.len {P : Program} {H : AH} {v : Value} {e t : TypeId} {sz : Nat} {cells : List Value} {F : List Nat} (h : OwnF H v e sz cells F) (ht : und P t = .slice e) {n : Nat} (hn : cells.length = n * sz) (h0 : 0 < sz) : xlen P t v = some (.int .i64 n) := by
  rcases h with ⟨rfl, rfl, rfl⟩ | ⟨j, len, rfl, h2, h3, rfl⟩
  · have : n = 0 := by
      have : n * sz = 0 := hn.symm
      rcases Nat.mul_eq_zero.1 this with h | h <;> omega
    subst this
    simp [xlen, ht]
  · have : len = n := Nat.eq_of_mul_eq_mul_right h0 (h3.symm.trans hn)
    subst this
    simp [xlen, ht]
theorem ownF_append {P : Program} {nro : Nat} {t e : TypeId} {H : AH} {v x : Value} {sz : Nat} {cells news : List Value} {F : List Nat} (hu : und P t = .slice e) (hs : szt P e = sz) (h0 : 0 < sz) (hz : (zer P e).map (·.cells.size) = some sz)
    (hv : OwnF H v e sz cells F) (hnro : ∀ j ∈ F, nro ≤ j) (hstr : ∀ s, x ≠ .string s) (hx : xcells sz x H = some news) (hn : news ≠ []) (hd : news.length % sz = 0) (hb : (cells.length + news.length) * byt P e ≤ 140737488355328) (hm : cells.length + news.length ≤ maxLen) :
    ∃ v' H', xappend P nro t v x H = some (v', H') ∧ OwnF H' v' e sz (cells ++ news) [H.length] ∧ H'.length = H.length + 1 ∧ ∀ j, j < H.length → j ∉ F → hget H' j = hget H j := by
  subst hs
  have hdm : news.length / szt P e * szt P e = news.length := Nat.div_mul_cancel (Nat.dvd_of_mod_eq_zero hd)
  rcases hv with ⟨rfl, rfl, rfl⟩ | ⟨j, len, rfl, h3, h4, rfl⟩
  · refine ⟨.slice (some ⟨H.length, 0, none⟩) (news.length / szt P e) (news.length / szt P e), H ++ [some ⟨news, e, some (szt P e)⟩], ?_, .inr ⟨H.length, news.length / szt P e, rfl, ?_, ?_, rfl⟩, by simp, fun i hi _ => hget_left hi⟩
    · simp only [List.length_nil, Nat.zero_add] at hb hm
      unfold xappend
      cases x <;> first | (exact absurd rfl (hstr _)) | (simp only [hu, hx]; rw [if_pos ⟨h0, hz, hb, hm⟩, if_neg hn])
    · rw [hget_app0, hget_cons0]; rfl
    · rw [hdm]; rfl
  · have hj := hget_lt h3
    refine ⟨.slice (some ⟨H.length, 0, none⟩) (len + news.length / szt P e) (len + news.length / szt P e), H.set j none ++ [some ⟨cells ++ news, e, some (szt P e)⟩], ?_, .inr ⟨H.length, len + news.length / szt P e, rfl, ?_, ?_, rfl⟩, by simp, fun i hi hni => ?_⟩
    · have hc : True ∧ 0 < szt P e ∧ (zer P e).map (·.cells.size) = some (szt P e) ∧ nro ≤ j ∧ True ∧ True ∧ len * szt P e ≤ cells.length ∧ (len * szt P e + news.length) * byt P e ≤ 140737488355328 ∧ len * szt P e + news.length ≤ maxLen :=
        ⟨trivial, h0, hz, hnro j (by simp), trivial, trivial, by omega, by rw [← h4]; exact hb, by rw [← h4]; exact hm⟩
      unfold xappend
      cases x <;> first | (exact absurd rfl (hstr _)) | (simp only [hu, hx, h3]; rw [if_pos hc, ← h4, List.take_length])
    · have : (H.set j none).length = H.length := by simp
      rw [← this, hget_app0, hget_cons0]
    · rw [List.length_append, Nat.add_mul, ← h4, hdm]
    · rw [hget_left (by simp; omega), hget_set_ne (fun e => hni (by simp [e]))]
theorem OwnF.new {H : AH} {v : Value} {e : TypeId} {sz j : Nat} {cells : List Value} (h : OwnF H v e sz cells [j]) : ∃ len, v = .slice (some ⟨j, 0, none⟩) len len := by
  rcases h with ⟨_, _, h⟩ | ⟨i, len, rfl, _, _, h⟩
  · cases h
  · cases h; exact ⟨len, rfl⟩
theorem OwnF.lt {H : AH} {v : Value} {e : TypeId} {sz : Nat} {cells : List Value} {F : List Nat} (h : OwnF H v e sz cells F) : ∀ j ∈ F, j < H.length := by
  rcases h with ⟨_, _, rfl⟩ | ⟨i, len, _, h2, _, rfl⟩
  · intro j hj; cases hj
  · intro j hj; rw [List.mem_singleton] at hj; subst hj; exact hget_lt h2
end
section
theorem ownF_str {P : Program} {nro : Nat} {t e : TypeId} {H : AH} {v : Value} {b : ByteArray} {cells : List Value} {F : List Nat} (hu : und P t = .slice e) (hz : zer P e = some (.int .u8 0)) (hs : szt P e = 1) (hby : byt P e = 1)
    (hv : OwnF H v e 1 cells F) (hnro : ∀ j ∈ F, nro ≤ j) (hb : cells.length + b.size ≤ 140737488355328) (hm : cells.length + b.size ≤ maxLen) :
    ∃ v' H' F', xappstr P nro t v (.string b) H = some (v', H') ∧ OwnF H' v' e 1 (cells ++ iv .u8 (nums b)) F' ∧ H.length ≤ H'.length ∧ (∀ j ∈ F', H.length ≤ j) ∧ ∀ j, j < H.length → j ∉ F → hget H' j = hget H j := by
  have hnl : (iv .u8 (nums b)).length = b.size := by rw [iv_length]; simp [nums]
  rcases hv with ⟨rfl, rfl, rfl⟩ | ⟨j, len, rfl, h3, h4, rfl⟩
  · simp only [List.length_nil, Nat.zero_add] at hb hm
    by_cases h0 : b.size = 0
    · refine ⟨.slice none 0 0, H, [], ?_, .inl ⟨rfl, List.eq_nil_of_length_eq_zero (by simp [hnl, h0]), rfl⟩, Nat.le_refl _, (by simp), fun _ _ _ => rfl⟩
      unfold xappstr
      simp only [hu, hz]
      rw [if_pos ⟨trivial, hs, hby⟩, if_pos ⟨hb, hm⟩, if_pos h0]
    · refine ⟨.slice (some ⟨H.length, 0, none⟩) b.size b.size, H ++ [some ⟨iv .u8 (nums b), e, some 1⟩], [H.length], ?_, .inr ⟨H.length, b.size, rfl, ?_, by simp [hnl], rfl⟩, by simp, by simp, fun i hi _ => hget_left hi⟩
      · unfold xappstr
        simp only [hu, hz]
        rw [if_pos ⟨trivial, hs, hby⟩, if_pos ⟨hb, hm⟩, if_neg h0]
      · rw [hget_app0, hget_cons0]; rfl
  · have hj := hget_lt h3
    refine ⟨.slice (some ⟨H.length, 0, none⟩) (len + b.size) (len + b.size), H.set j none ++ [some ⟨cells ++ iv .u8 (nums b), e, some 1⟩], [H.length], ?_, .inr ⟨H.length, len + b.size, rfl, ?_, by simp [hnl]; omega, rfl⟩, by simp, by simp, fun i hi hni => ?_⟩
    · unfold xappstr
      simp only [hu, hz, h3]
      rw [if_pos ⟨trivial, hs, hby⟩, if_pos ⟨trivial, hnro j (by simp), trivial, trivial, by omega, by omega, by omega⟩, show len = cells.length by omega, List.take_length]
    · have : (H.set j none).length = H.length := by simp
      rw [← this, hget_app0, hget_cons0]
    · rw [hget_left (by simp; omega), hget_set_ne (fun e => hni (by simp [e]))]
attribute [local simp] wb_bool wb_undef XL_nil XL_cons XLc_val XLc_call step1_eq stepW_t stepW_f stepC_n stepC_s stepX_s stepX_n stepN_s calleeX oneV xop_eq xopR_s xopR_n wantedA_eq wantedG_n wantedG_s plain1_int plain1_bool plain1_string bits_i64 bits_u64 bits_u32 bits_u16 bits_u8 xeqA xagg xcmp xarr allK_iv num_iv calleeOf xread xeff xbin xint xnil xun xstr xload xconv xpart xfield xfieldAddr xindexAddr xindex bnd asInt? xslice xlen xmin xmax xbuild xfill xappend xapp2 xappstr xappmk xcap xcopy xcells eval_tmp eval_const put_at put_none fr0_at cells_agg cells_int cells_bool cells_string cells_ptr cells_slice notTuple tab iv_all hget_app hget_app0 hget_cons0 hget_cons set_app set_app0 setR setR_one QL_nil QL_cons QLc_val stepQ_t stepQ_f stepQC_n stepQC_s stepQX_s SL_nil SL_cons SLc_val stepS_t stepS_f ltT ltF leT leF eqT eqF ltTn ltFn leTn leFn eqTn eqFn beqT beqF bneT bneF wi64 wu64 wu32 wu16 wu8 tmodP tdivP hgetL hgetNe hgetEq setL nums_def nums_len Nat.succ_le_of_lt List.getElem?_cons_zero List.getElem?_cons_succ Option.getD_some Int.toNat_add Int.toNat_mul agB agI agS agP agL agA okB okI okS okP okSl okA
theorem L240 : Lays.n240 Tryz.prog Tryz.lays105_ren := { Tryz.lays105 with }
/-- A builder: its own block and its row's. -/
def Bl (H : AH) (i : Nat) (s : ByteArray) (F : List Nat) : Prop :=
  ∃ p v, (p = .pointer none ∨ p = .pointer (some ⟨i, 0, none⟩)) ∧ hget H i = some ⟨[p, v], 97, none⟩ ∧ OwnF H v 5 1 (iv .u8 (nums s)) F ∧ i ∉ F ∧ (s.size = 0 → v = .slice none 0 0)
theorem Bl.low {H H' : AH} {i : Nat} {s : ByteArray} {F : List Nat} (h : Bl H i s F) (h1 : hget H' i = hget H i) (hl : ∀ j ∈ F, hget H' j = hget H j) : Bl H' i s F := by
  obtain ⟨p, v, hp, hg, ho, hn, hz⟩ := h
  exact ⟨p, v, hp, h1.trans hg, ho.low hl, hn, hz⟩
theorem Bl.lt {H : AH} {i : Nat} {s : ByteArray} {F : List Nat} (h : Bl H i s F) : i < H.length ∧ ∀ j ∈ F, j < H.length := by
  obtain ⟨p, v, hp, hg, ho, hn, hz⟩ := h
  exact ⟨hget_lt hg, ho.lt⟩
theorem ownF_shape {H : AH} {v : Value} {e : TypeId} {cells : List Value} {F : List Nat} (h : OwnF H v e 1 cells F) : notTuple v = true ∧ v.cells = #[v] := by
  rcases h with ⟨rfl, _, _⟩ | ⟨j, len, rfl, _, _, _⟩ <;> exact ⟨rfl, rfl⟩
theorem bl_len {nro : Nat} {γ : Nat → Option Nat} {H : AH} {i : Nat} {s : ByteArray} {F : List Nat} (h : Bl H i s F) : AC Tryz.prog nro γ 55 #[.pointer (some ⟨i, 0, none⟩)] H (fun v' H' => v' = .int .i64 s.size ∧ H' = H) := by
  obtain ⟨p, v, hp, hg, ho, hn, hz⟩ := h
  have hl : xlen Tryz.prog 37 v = some (.int .i64 s.size) := ho.len (by simp) (by rw [iv_length, nums_len]; omega) (by omega)
  have hs := ownF_shape ho
  refine ac_of_aw Tryz.func55 rfl Tryz.ntmps55 Tryz.results55 (by simp) ?_
  refine aw_seq ?_
  (refine aw_ops (by kernel_rfl) (fun K hK => ?_); simp (disch := first | omega | (simp only [lnS]; try omega; done)) [-getElem?_pos, -getElem?_neg]; refine hK _ _ ?_; clear hK K)
  refine aw_seq ?_
  (refine aw_ops (by kernel_rfl) (fun K hK => ?_); simp (disch := first | omega | (simp only [lnS]; try omega; done)) [-getElem?_pos, -getElem?_neg, hg, -xlen, hl, -notTuple, hs.1]; refine hK _ _ ?_; clear hK K)
  (refine aw_ret ?_; simp (disch := first | omega | (simp only [lnS]; try omega; done)) [-getElem?_pos, -getElem?_neg, thenQ_ret, scopeQ_ret, inBlockQ_ret, RQ, resL, resV])
theorem set_same {H : AH} {i : Nat} {k : Blk} (h : hget H i = some k) : H.set i (some k) = H := by
  obtain ⟨h1, h2⟩ := List.getElem?_eq_some_iff.1 (hget_some h)
  have h3 := List.set_getElem_self h1
  rw [h2] at h3
  exact h3
theorem bl_check {nro : Nat} {γ : Nat → Option Nat} {H : AH} {i : Nat} {p v : Value} (hp : p = .pointer none ∨ p = .pointer (some ⟨i, 0, none⟩)) (hg : hget H i = some ⟨[p, v], 97, none⟩) (hi : nro ≤ i) :
    AC Tryz.prog nro γ 79 #[.pointer (some ⟨i, 0, none⟩)] H (fun v' H' => v' = .tuple #[] ∧ H' = H.set i (some ⟨[.pointer (some ⟨i, 0, none⟩), v], 97, none⟩)) := by
  rcases hp with rfl | rfl
  · exact check_fresh_ac L240 Tryz.Builder_Extra_105.toX72 hi hg
  · refine AC.mono (check_used_ac L240 Tryz.Builder_Extra_105.toX72 hi hg) ?_
    rintro v' H' ⟨h1, h2⟩
    exact ⟨h1, by rw [h2, set_same hg]⟩
theorem bl_write {nro : Nat} {γ : Nat → Option Nat} {H : AH} {i : Nat} {s t : ByteArray} {F : List Nat} (h : Bl H i s F) (hi : nro ≤ i) (hF : ∀ j ∈ F, nro ≤ j) (hb : s.size + t.size ≤ 1000000000) :
    AC Tryz.prog nro γ 56 #[.pointer (some ⟨i, 0, none⟩), .string t] H (fun v' H' => v' = .tuple #[.int .i64 t.size, .nilIface] ∧ ∃ F', Bl H' i (s ++ t) F' ∧ H.length ≤ H'.length ∧ (∀ j ∈ F', H.length ≤ j) ∧ ∀ j, j < H.length → j ≠ i → j ∉ F → hget H' j = hget H j) := by
  have hlt := h.lt
  obtain ⟨p, v, hp, hg, ho, hn, hz⟩ := h
  obtain ⟨H1, hH1⟩ : ∃ H1, H1 = H.set i (some ⟨[.pointer (some ⟨i, 0, none⟩), v], 97, none⟩) := ⟨_, rfl⟩
  have hl1 : H1.length = H.length := by rw [hH1]; simp
  have hg1 : hget H1 i = some ⟨[.pointer (some ⟨i, 0, none⟩), v], 97, none⟩ := by rw [hH1]; exact hget_set_eq hlt.1
  have k1 : ∀ j, j ≠ i → hget H1 j = hget H j := fun j hj => by rw [hH1]; exact hget_set_ne (Ne.symm hj)
  have ho1 := ho.low (H' := H1) (fun j hj => k1 j (fun e => hn (e ▸ hj)))
  obtain ⟨v', H2, F', hap, ho2, hl2, hnew, hk⟩ := ownF_str (P := Tryz.prog) (nro := nro) (t := 37) (e := 5) (H := H1) (v := v) (b := t) (cells := iv .u8 (nums s)) (F := F) (by simp) (by simp) (by simp) (by simp) ho1 hF
    (by rw [iv_length, nums_len]; omega) (by rw [iv_length, nums_len]; simp [maxLen]; omega)
  have hs := ownF_shape ho
  have hs' := ownF_shape ho2
  have hg2 : hget H2 i = some ⟨[.pointer (some ⟨i, 0, none⟩), v], 97, none⟩ := (hk i (by omega) hn).trans hg1
  have hiF : i ∉ F' := fun hm => by have := hnew i hm; omega
  have hz2 : (s ++ t).size = 0 → v' = .slice none 0 0 := fun h0 => by
    have h1 : s.size = 0 ∧ t.size = 0 := by
      rw [ByteArray.size_append] at h0
      omega
    have := hz h1.1
    subst this
    simp [xappstr, h1.2, maxLen] at hap
    exact hap.1.symm
  refine ac_of_aw Tryz.func56 rfl Tryz.ntmps56 Tryz.results56 (by simp) ?_
  refine aw_seq ?_
  (refine aw_ops (by kernel_rfl) (fun K hK => ?_); simp (disch := first | omega | (simp only [lnS]; try omega; done)) [-getElem?_pos, -getElem?_neg]; refine hK _ _ ?_; clear hK K)
  refine aw_seq ?_
  refine aw_ops (by kernel_rfl) (fun K hK => ?_)
  simp (disch := first | omega | (simp only [lnS]; try omega; done)) [-getElem?_pos, -getElem?_neg]
  refine ⟨by kernel_rfl, AC.mono (bl_check hp hg hi) ?_⟩
  rintro v1 G ⟨rfl, e⟩
  rw [← hH1] at e
  subst e
  clear hH1
  try simp (disch := first | omega | (simp only [lnS]; try omega; done)) [-getElem?_pos, -getElem?_neg]
  refine hK _ _ ?_; clear hK K
  refine aw_seq ?_
  (refine aw_ops (by kernel_rfl) (fun K hK => ?_); simp (disch := first | omega | (simp only [lnS]; try omega; done)) [-getElem?_pos, -getElem?_neg, hg1, hg2, hs.1, hs'.1, hs'.2, -notTuple, -xappstr, hap]; refine hK _ _ ?_; clear hK K)
  refine aw_seq ?_
  (refine aw_ops (by kernel_rfl) (fun K hK => ?_); simp (disch := first | omega | (simp only [lnS]; try omega; done)) [-getElem?_pos, -getElem?_neg]; refine hK _ _ ?_; clear hK K)
  have hi2 : i < H2.length := hget_lt hg2
  have fin : ∃ F', Bl (H2.set i (some ⟨[.pointer (some ⟨i, 0, none⟩), v'], 97, none⟩)) i (s ++ t) F' ∧ H.length ≤ (H2.set i (some ⟨[.pointer (some ⟨i, 0, none⟩), v'], 97, none⟩)).length ∧ (∀ j ∈ F', H.length ≤ j) ∧ ∀ j, j < H.length → j ≠ i → j ∉ F → hget (H2.set i (some ⟨[.pointer (some ⟨i, 0, none⟩), v'], 97, none⟩)) j = hget H j := by
   refine ⟨F', ⟨.pointer (some ⟨i, 0, none⟩), v', .inr rfl, hget_set_eq hi2, ?_, hiF, hz2⟩, by simp; omega, fun j hj => by have := hnew j hj; omega, fun j hj hji hjF => ?_⟩
   · have : nums (s ++ t) = nums s ++ nums t := by simp [nums_appF]
     rw [this, iv_append]
     exact ho2.low (fun j hj => hget_set_ne (fun e => hiF (e ▸ hj)))
   · rw [hget_set_ne (Ne.symm hji), hk j (by omega) hjF, k1 j hji]
  generalize H2.set i (some ⟨[.pointer (some ⟨i, 0, none⟩), v'], 97, none⟩) = H3 at *
  (refine aw_ret ?_; simp (disch := first | omega | (simp only [lnS]; try omega; done)) [-getElem?_pos, -getElem?_neg, thenQ_ret, scopeQ_ret, inBlockQ_ret, RQ, resL, resV])
  obtain ⟨F2, f1, f2, f3, f4⟩ := fin
  exact ⟨F2, f1, f3, f4⟩
/-- The text; the row is forgotten. -/
theorem bl_string {nro : Nat} {γ : Nat → Option Nat} {H : AH} {i : Nat} {s : ByteArray} {F : List Nat} (h : Bl H i s F) (hi : nro ≤ i) (hF : ∀ j ∈ F, nro ≤ j) :
    AC Tryz.prog nro γ 57 #[.pointer (some ⟨i, 0, none⟩)] H (fun v' H' => v' = .string s ∧ H'.length = H.length ∧ ∀ j, j ∉ F → hget H' j = hget H j) := by
  obtain ⟨p, v, hp, hg, ho, hn, hz⟩ := h
  have hsz : (nums s).length = s.size := nums_len s
  have nilc : ∀ c, v = .slice none 0 0 → s.size = 0 → c → AC Tryz.prog nro γ 57 #[.pointer (some ⟨i, 0, none⟩)] H (fun v' H' => v' = .string s ∧ H'.length = H.length ∧ ∀ j, j ∉ F → hget H' j = hget H j) := by
    intro c hv h0 _
    subst hv
    refine AC.mono (string_nil_ac Tryz.lays169 Tryz.Builder_Extra_169 hi hg) ?_
    rintro v' H' ⟨rfl, rfl⟩
    refine ⟨?_, rfl, fun _ _ => rfl⟩
    congr 1
    apply ByteArray.ext
    have : s.data.size = 0 := h0
    exact (Array.eq_empty_of_size_eq_zero this).symm
  rcases ho with ⟨hv, hc, hF0⟩ | ⟨j, len, rfl, h2, h3, rfl⟩
  · refine nilc True hv ?_ trivial
    have := congrArg List.length hc
    rw [iv_length, hsz] at this
    exact this
  · rw [iv_length, hsz] at h3
    by_cases h0 : len = 0
    · have := hz (by omega)
      cases this
    · refine AC.mono (string_ac Tryz.lays169 Tryz.Builder_Extra_169 hi hg (hF j (by simp)) h2 (by omega) h0) ?_
      rintro v' H' ⟨rfl, rfl⟩
      exact ⟨rfl, by simp, fun q hq => hget_set_ne (fun e => hq (by simp [e]))⟩
end
section
attribute [local simp] wb_bool wb_undef XL_nil XL_cons XLc_val XLc_call step1_eq stepW_t stepW_f stepC_n stepC_s stepX_s stepX_n stepN_s calleeX oneV xop_eq xopR_s xopR_n wantedA_eq wantedG_n wantedG_s plain1_int plain1_bool plain1_string bits_i64 bits_u64 bits_u32 bits_u16 bits_u8 xeqA xagg xcmp xarr allK_iv num_iv calleeOf xread xeff xbin xint xnil xun xstr xload xconv xpart xfield xfieldAddr xindexAddr xindex bnd asInt? xslice xlen xmin xmax xbuild xfill xappend xapp2 xappstr xappmk xcap xcopy xcells eval_tmp eval_const put_at put_none fr0_at cells_agg cells_int cells_bool cells_string cells_ptr cells_slice notTuple tab iv_all hget_app hget_app0 hget_cons0 hget_cons set_app set_app0 setR setR_one QL_nil QL_cons QLc_val stepQ_t stepQ_f stepQC_n stepQC_s stepQX_s SL_nil SL_cons SLc_val stepS_t stepS_f ltT ltF leT leF eqT eqF ltTn ltFn leTn leFn eqTn eqFn beqT beqF bneT bneF wi64 wu64 wu32 wu16 wu8 tmodP tdivP hgetL hgetNe hgetEq setL nums_def nums_len Nat.succ_le_of_lt List.getElem?_cons_zero List.getElem?_cons_succ Option.getD_some Int.toNat_add Int.toNat_mul agB agI agS agP agL agA okB okI okS okP okSl okA
theorem SlSd.mk1 {H : AH} {b j : Nat} {k : Blk} {p : ByteArray} (hj : hget H j = some k) (hb : j ≠ b) (h : k.cells[0]? = some (.string p)) : SlSd H b (.slice (some ⟨j, 0, none⟩) 1 1) [p] :=
  .inr ⟨j, 0, k, rfl, hb, hj, fun i q hq => by
    match i, hq with
    | 0, hq => simp at hq; subst hq; exact h
    | i + 1, hq => simp at hq⟩
theorem digest_rc {H : AH} (hG : GG H) (v : Value) (ps : List ByteArray) (hv : SlSd H H.length v ps) (hlen : ps.length ≤ 4611686018427387904) :
    AC Tryz.prog H.length gm 76 #[v] H (fun v' _ => v' = .agg (iv .u8 (dig (takeB hs0 (cat ps)))).toArray) :=
  (digest_ac (Nat.le_refl _) hG v ps hv hlen).mono fun v' H' h => h.1
theorem zl_by (n : Nat) : By (zl n) := fun x hx => by
  rw [zl, List.mem_replicate] at hx
  omega
theorem zs_eq (n : Nat) : zs n = strOfNums (zl n) := by
  unfold zs strOfNums zl
  simp
theorem zeros_vc (n : Nat) (hn : n ≤ 1000) : VC Tryz.prog 26 #[.int .i64 (n : Nat)] (.string (strOfNums (zl n))) := by
  refine vc_of_ac (by simp [pv_iv, pv_int, pv_bool, pv_string, pv_tup2, pv_tup3, iv_plain, p2_int, p2_bool, p2_string]) (by simp [pv_iv, pv_int, pv_bool, pv_string, pv_tup2, pv_tup3, iv_plain, p2_int, p2_bool, p2_string]) ?_
  refine ac_of_aw Tryz.func26 rfl Tryz.ntmps26 Tryz.results26 (by simp) ?_
  refine aw_seq ?_
  (refine aw_ops (by kernel_rfl) (fun K hK => ?_); simp (disch := first | omega | (simp only [lnS]; try omega; done)) [-getElem?_pos, -getElem?_neg]; refine hK _ _ ?_; clear hK K)
  refine aw_seq ?_
  refine aw_ops (by kernel_rfl) (fun K hK => ?_)
  simp (disch := first | omega | (simp only [lnS]; try omega; done)) [-getElem?_pos, -getElem?_neg]
  refine ⟨by kernel_rfl, ac_of_vc (by simp [pv_iv, pv_int, pv_bool, pv_string, pv_tup2, pv_tup3, iv_plain, p2_int, p2_bool, p2_string]) (repeat_vc n hn) ?_⟩
  rw [show (⟨(List.replicate n (0 : UInt8)).toArray⟩ : ByteArray) = zs n from rfl, zs_eq]
  try simp (disch := first | omega | (simp only [lnS]; try omega; done)) [-getElem?_pos, -getElem?_neg]
  refine hK _ _ ?_; clear hK K
  (refine aw_ret ?_; simp (disch := first | omega | (simp only [lnS]; try omega; done)) [-getElem?_pos, -getElem?_neg, thenQ_ret, scopeQ_ret, inBlockQ_ret, RQ, resL, resV])
/-- A block that begins with some bytes. -/
def fillB (l : List Int) : List Int := l ++ zl (256 - l.length)
theorem fillB_len {l : List Int} (h : l.length ≤ 256) : (fillB l).length = 256 := by
  unfold fillB
  rw [List.length_append, zl_length]
  omega
theorem fillB_by {l : List Int} (h : By l) : By (fillB l) := h.app (zl_by _)
theorem filled_vc (l : List Int) (hl : l.length ≤ 256) : VC Tryz.prog 65 #[.string (strOfNums l)] (.string (strOfNums (fillB l))) := by
  refine vc_of_ac (by simp [pv_iv, pv_int, pv_bool, pv_string, pv_tup2, pv_tup3, iv_plain, p2_int, p2_bool, p2_string]) (by simp [pv_iv, pv_int, pv_bool, pv_string, pv_tup2, pv_tup3, iv_plain, p2_int, p2_bool, p2_string]) ?_
  refine ac_of_aw Tryz.func65 rfl Tryz.ntmps65 Tryz.results65 (by simp) ?_
  have h1 : (strOfNums l).size = l.length := sn_size l
  have h2 : (256 : Int) - (l.length : Nat) = ((256 - l.length : Nat) : Int) := by omega
  have h3 : (strOfNums (zl (256 - l.length))).size = 256 - l.length := by rw [sn_size, zl_length]
  refine aw_seq ?_
  (refine aw_ops (by kernel_rfl) (fun K hK => ?_); simp (disch := first | omega | (simp only [lnS]; try omega; done)) [-getElem?_pos, -getElem?_neg]; refine hK _ _ ?_; clear hK K)
  refine aw_seq ?_
  refine aw_ops (by kernel_rfl) (fun K hK => ?_)
  simp (disch := first | omega | (simp only [lnS]; try omega; done)) [-getElem?_pos, -getElem?_neg, h1, h2]
  refine ⟨by kernel_rfl, ac_of_vc (by simp [pv_iv, pv_int, pv_bool, pv_string, pv_tup2, pv_tup3, iv_plain, p2_int, p2_bool, p2_string]) (zeros_vc (256 - l.length) (by omega)) ?_⟩
  simp (disch := first | omega | (simp only [lnS]; try omega; done)) [-getElem?_pos, -getElem?_neg, h1, h3, sn_app]
  refine hK _ _ ?_; clear hK K
  (refine aw_ret ?_; simp (disch := first | omega | (simp only [lnS]; try omega; done)) [-getElem?_pos, -getElem?_neg, thenQ_ret, scopeQ_ret, inBlockQ_ret, RQ, resL, resV])
  rfl
/-- The mark's head. -/
def headL (a n : Nat) : List Int := [109, 97, 114, 107, (a : Int) % 256, (n : Int) / 16777216 % 256, (n : Int) / 65536 % 256, (n : Int) / 256 % 256, (n : Int) % 256]
def markL (a n : Nat) : List Int := headL a n ++ ((dig (takeB hs0 (headL a n))).take 8 ++ zl 47)
theorem headL_by (a n : Nat) : By (headL a n) := by
  intro x hx
  simp only [headL, List.mem_cons, List.not_mem_nil, or_false] at hx
  omega
theorem headL_len (a n : Nat) : (headL a n).length = 9 := rfl
theorem markL_len (a n : Nat) : (markL a n).length = 64 := by
  have := dig_len _ (takeB_wf (headL a n) hs0 hs0_wf (headL_by a n))
  unfold markL
  simp only [List.length_append, List.length_take, headL_len, zl_length, this]
  omega
theorem dig_by (s : HS) : By (dig s) := by unfold dig; exact outL_by _
theorem markL_by (a n : Nat) : By (markL a n) := (headL_by a n).app (((dig_by _).take 8).app (zl_by _))
attribute [local irreducible] markL
theorem num_int (k : IntKind) (x : Int) : num (.int k x) = x := rfl
theorem mark_rc {H : AH} (hG : GG H) (a n : Nat) (ha : a < 256) (hn : n < 4294967296) :
    AC Tryz.prog H.length gm 49 #[.int .i64 (a : Nat), .int .i64 (n : Nat)] H (fun v' _ => v' = .string (strOfNums (markL a n))) := by
  refine ac_of_aw Tryz.func49 rfl Tryz.ntmps49 Tryz.results49 (by simp) ?_
  have w1 : IntKind.u8.wrap (((n : Nat) : Int).fdiv 16777216) = (n : Int) / 16777216 % 256 := by simp only [IntKind.wrap_u8', Int.fdiv_eq_ediv_of_nonneg _ (by omega : (0 : Int) ≤ 16777216)]
  have w2 : IntKind.u8.wrap (((n : Nat) : Int).fdiv 65536) = (n : Int) / 65536 % 256 := by simp only [IntKind.wrap_u8', Int.fdiv_eq_ediv_of_nonneg _ (by omega : (0 : Int) ≤ 65536)]
  have w3 : IntKind.u8.wrap (((n : Nat) : Int).fdiv 256) = (n : Int) / 256 % 256 := by simp only [IntKind.wrap_u8', Int.fdiv_eq_ediv_of_nonneg _ (by omega : (0 : Int) ≤ 256)]
  have w4 : IntKind.u8.wrap ((n : Nat) : Int) = (n : Int) % 256 := by simp only [IntKind.wrap_u8']
  have r5 : List.range 5 = [0, 1, 2, 3, 4] := rfl
  have hh : (⟨#[109, 97, 114, 107]⟩ : ByteArray) ++ strOfNums [(a : Int), (n : Int) / 16777216 % 256, (n : Int) / 65536 % 256, (n : Int) / 256 % 256, (n : Int) % 256] = strOfNums (headL a n) := by
    rw [show (⟨#[109, 97, 114, 107]⟩ : ByteArray) = strOfNums [109, 97, 114, 107] from rfl, sn_app]
    have : (a : Int) % 256 = a := by omega
    simp [headL, this]
  have hm : markL a n = headL a n ++ ((dig (takeB hs0 (headL a n))).take 8 ++ zl 47) := by with_unfolding_all rfl
  have hb := headL_by a n
  have hl := headL_len a n
  have hdl := dig_len _ (takeB_wf (headL a n) hs0 hs0_wf (headL_by a n))
  have hnh : nums (strOfNums (headL a n)) = headL a n := nums_of _ hb
  generalize headL a n = h at *
  refine aw_seq ?_
  (refine aw_ops (by kernel_rfl) (fun K hK => ?_); simp (disch := first | omega | (simp only [lnS]; try omega; done)) [-getElem?_pos, -getElem?_neg]; refine hK _ _ ?_; clear hK K)
  refine aw_seq ?_
  have hbb := byteList_iv [(a : Int), (n : Int) / 16777216 % 256, (n : Int) / 65536 % 256, (n : Int) / 256 % 256, (n : Int) % 256]
  simp only [iv, List.map_cons, List.map_nil] at hbb
  (refine aw_ops (by kernel_rfl) (fun K hK => ?_); simp (disch := first | omega | (simp only [lnS]; try omega; done)) [-getElem?_pos, -getElem?_neg, w1, w2, w3, w4, r5, hbb, hh]; refine hK _ _ ?_; clear hK K)
  refine aw_seq ?_
  refine aw_ops (by kernel_rfl) (fun K hK => ?_)
  simp (disch := first | omega | (simp only [lnS]; try omega; done)) [-getElem?_pos, -getElem?_neg]
  refine ⟨by kernel_rfl, ac_of_rc (digest_rc (hG.app _) _ [strOfNums h] (SlSd.mk1 (by rw [hget_app]; rfl) (by simp) rfl) (by simp)) (by simp [pv_iv, pv_int, pv_bool, pv_string, pv_tup2, pv_tup3, iv_plain, p2_int, p2_bool, p2_string]) ?_⟩
  rw [show cat [strOfNums h] = h by simp [cat, hnh]]
  generalize dig (takeB hs0 h) = D at *
  have hsx : setR (iv .u8 (zl 32)) 0 (iv .u8 D) = iv .u8 D := setR_all _ _ (by simp [hdl])
  simp (disch := first | omega | (simp only [lnS]; try omega; done)) [-getElem?_pos, -getElem?_neg, hdl, hsx]
  refine hK _ _ ?_; clear hK K
  refine aw_seq ?_
  have htk : (iv .u8 D).take 8 = iv .u8 (D.take 8) := by rw [iv_take]
  have z1 : (strOfNums (zl 47)).size = 47 := by rw [sn_size, zl_length]
  have z2 : (strOfNums (D.take 8)).size = 8 := by rw [sn_size, List.length_take, hdl]; omega
  have z3 : (strOfNums h).size = 9 := by rw [sn_size, hl]
  have z4 : (strOfNums (h ++ D.take 8)).size = 17 := by rw [sn_size, List.length_append, List.length_take, hdl, hl]; omega
  (refine aw_plan [] [] [0, 1, 2, 3, 4, 5, 6] 7 0 (by kernel_rfl) (by kernel_rfl) (by kernel_rfl) (fun K hK => ?_)); simp only [sel, List.getElem?_cons_succ, List.getElem?_cons_zero, List.drop_succ_cons, List.drop_zero]; simp (disch := first | omega | (simp only [lnS]; try omega; done)) [-getElem?_pos, -getElem?_neg, hdl, htk, byteList_iv, z1, z2, z3, z4, sn_app, PL_nil, PL_cons, PLc_val, PLc_new, stepP_t, stepP_f, stepPC_n, stepPC_s, stepPX_s, stepPX_n, stepPA_t, stepPA_c, stepPA_l, stepPN_s, allocOp, reloc_sl, reloc_ptr, List.map_cons, List.map_nil, List.nil_append, List.append_assoc, List.cons_append, Nat.add_assoc]
  refine PLc_call (v := .string (strOfNums (zl 47))) (by kernel_rfl) (fun L hL => ac_of_vc (by simp [pv_iv, pv_int, pv_bool, pv_string, pv_tup2, pv_tup3, iv_plain, p2_int, p2_bool, p2_string]) (zeros_vc 47 (by omega)) rfl) (by simp [pv_iv, pv_int, pv_bool, pv_string, pv_tup2, pv_tup3, iv_plain, p2_int, p2_bool, p2_string]) ?_
  try simp (disch := first | omega | (simp only [lnS]; try omega; done)) [-getElem?_pos, -getElem?_neg, hdl, htk, byteList_iv, z1, z2, z3, z4, sn_app, PL_nil, PL_cons, PLc_val, PLc_new, stepP_t, stepP_f, stepPC_n, stepPC_s, stepPX_s, stepPX_n, stepPA_t, stepPA_c, stepPA_l, stepPN_s, allocOp, reloc_sl, reloc_ptr, List.map_cons, List.map_nil, List.nil_append, List.append_assoc, List.cons_append, Nat.add_assoc]
  refine hK _ _ ?_; clear hK K
  (refine aw_ret ?_; simp (disch := first | omega | (simp only [lnS]; try omega; done)) [-getElem?_pos, -getElem?_neg, thenQ_ret, scopeQ_ret, inBlockQ_ret, RQ, resL, resV])
  rw [hm]
end
section
attribute [local simp] wb_bool wb_undef XL_nil XL_cons XLc_val XLc_call step1_eq stepW_t stepW_f stepC_n stepC_s stepX_s stepX_n stepN_s calleeX oneV xop_eq xopR_s xopR_n wantedA_eq wantedG_n wantedG_s plain1_int plain1_bool plain1_string bits_i64 bits_u64 bits_u32 bits_u16 bits_u8 xeqA xagg xcmp xarr allK_iv num_iv calleeOf xread xeff xbin xint xnil xun xstr xload xconv xpart xfield xfieldAddr xindexAddr xindex bnd asInt? xslice xlen xmin xmax xbuild xfill xappend xapp2 xappstr xappmk xcap xcopy xcells eval_tmp eval_const put_at put_none fr0_at cells_agg cells_int cells_bool cells_string cells_ptr cells_slice notTuple tab iv_all hget_app hget_app0 hget_cons0 hget_cons set_app set_app0 setR setR_one QL_nil QL_cons QLc_val stepQ_t stepQ_f stepQC_n stepQC_s stepQX_s SL_nil SL_cons SLc_val stepS_t stepS_f ltT ltF leT leF eqT eqF ltTn ltFn leTn leFn eqTn eqFn beqT beqF bneT bneF wi64 wu64 wu32 wu16 wu8 tmodP tdivP hgetL hgetNe hgetEq setL nums_def nums_len Nat.succ_le_of_lt List.getElem?_cons_zero List.getElem?_cons_succ Option.getD_some Int.toNat_add Int.toNat_mul agB agI agS agP agL agA okB okI okS okP okSl okA
theorem or32 {c w : Int} (n : Nat) (m : Int) (hm : m = 2 ^ n) (hw : 0 ≤ w ∧ w < m) (hc : 0 ≤ c ∧ c % m = 0) (h : c + w < 4294967296) : bitsOf .or .u32 c w = c + w := by
  obtain ⟨w, rfl⟩ := Int.eq_ofNat_of_zero_le hw.1
  obtain ⟨c, rfl⟩ := Int.eq_ofNat_of_zero_le hc.1
  have e3 : ((2 ^ n : Nat) : Int) = 2 ^ n := by simp
  obtain ⟨M, hM⟩ : ∃ M : Nat, M = 2 ^ n := ⟨_, rfl⟩
  rw [← hM] at e3
  rw [← e3] at hm
  subst hm
  have hw2 : w < M := by have := hw.2; omega
  have hc2 : c = c / M * M := by
    have h1 : c % M = 0 := by have := hc.2; omega
    have := Nat.div_add_mod c M
    rw [h1, Nat.mul_comm] at this
    omega
  have e2 : ((BitVec.ofInt 32 (c : Int)) ||| (BitVec.ofInt 32 (w : Int))).toNat = c + w := by
    rw [BitVec.toNat_or, BitVec.toNat_ofInt, BitVec.toNat_ofInt]
    have a1 : ((w : Int) % ((2 ^ 32 : Nat) : Int)).toNat = w := by omega
    have a2 : ((c : Int) % ((2 ^ 32 : Nat) : Int)).toNat = c := by omega
    rw [a1, a2]
    generalize c / M = q at hc2
    rw [hc2, hM, Nat.mul_comm q, ← Nat.two_pow_add_eq_or_of_lt (by rw [← hM]; exact hw2)]
  show IntKind.u32.wrap (((BitVec.ofInt 32 (c : Int)) ||| (BitVec.ofInt 32 (w : Int))).toNat : Int) = _
  rw [e2, IntKind.wrap_u32']
  omega
def mArea (l : List Int) : Nat := (l.getD 4 0).toNat
def mSize (l : List Int) : Nat := (l.getD 5 0 * 16777216 + l.getD 6 0 * 65536 + l.getD 7 0 * 256 + l.getD 8 0).toNat
def isMark (l : List Int) : Bool := decide (mArea l < 2) && decide (markL (mArea l) (mSize l) = l)
theorem readMark_rc {H : AH} (hG : GG H) (l : List Int) (hl : l.length = 64) (hb : By l) :
    AC Tryz.prog H.length gm 27 #[.string (strOfNums l)] H (fun v' _ => v' = .tuple #[.int .i64 (mArea l : Nat), .int .i64 (mSize l : Nat), .bool (isMark l)]) := by
  refine ac_of_aw Tryz.func27 rfl Tryz.ntmps27 Tryz.results27 (by simp) ?_
  have gd : ∀ k, 0 ≤ l.getD k 0 ∧ l.getD k 0 ≤ 255 := fun k => by
    rcases Nat.lt_or_ge k l.length with h | h
    · rw [List.getD_eq_getElem?_getD, List.getElem?_eq_getElem h]
      exact hb _ (List.getElem_mem h)
    · rw [List.getD_eq_getElem?_getD, List.getElem?_eq_none h]
      simp
  have hbb : By ((l.take 9).drop 4) := (hb.take 9).drop 4
  have gg : ∀ k, k < 5 → gb (strOfNums ((l.take 9).drop 4)) k = l.getD (4 + k) 0 := fun k hk => by
    rw [gb_sn hbb, List.getD_eq_getElem?_getD, List.getElem?_drop, List.getElem?_take_of_lt (by omega), ← List.getD_eq_getElem?_getD]
  have g0 := gg 0 (by omega)
  have g1 := gg 1 (by omega)
  have g2 := gg 2 (by omega)
  have g3 := gg 3 (by omega)
  have g4 := gg 4 (by omega)
  have b0 := gd 4
  have b1 := gd 5
  have b2 := gd 6
  have b3 := gd 7
  have b4 := gd 8
  have hA : ((mArea l : Nat) : Int) = l.getD 4 0 := by unfold mArea; omega
  have hS : ((mSize l : Nat) : Int) = l.getD 5 0 * 16777216 + l.getD 6 0 * 65536 + l.getD 7 0 * 256 + l.getD 8 0 := by unfold mSize; omega
  have hmk := hb
  have hx : (strOfNums l).extract 4 9 = strOfNums ((l.take 9).drop 4) := ex_range l 4 9
  have hs : (strOfNums l).size = 64 := by rw [sn_size, hl]
  have hs5 : (strOfNums ((l.take 9).drop 4)).size = 5 := by rw [sn_size, List.length_drop, List.length_take, hl]; rfl
  have hm : isMark l = (decide (mArea l < 2) && decide (markL (mArea l) (mSize l) = l)) := rfl
  have hmb := markL_by (mArea l) (mSize l)
  have hA2 : mArea l < 256 := by omega
  have hS2 : mSize l < 4294967296 := by omega
  simp only [Nat.add_zero, Nat.reduceAdd] at g0 g1 g2 g3 g4
  generalize mArea l = A at *
  generalize mSize l = S at *
  generalize l.getD 4 0 = x0 at *
  generalize l.getD 5 0 = x1 at *
  generalize l.getD 6 0 = x2 at *
  generalize l.getD 7 0 = x3 at *
  generalize l.getD 8 0 = x4 at *
  have o1 : bitsOf .or .u32 (x1 * 16777216) (x2 * 65536) = x1 * 16777216 + x2 * 65536 := or32 24 16777216 (by decide) (by omega) (by omega) (by omega)
  have o2 : bitsOf .or .u32 (x1 * 16777216 + x2 * 65536) (x3 * 256) = x1 * 16777216 + x2 * 65536 + x3 * 256 := or32 16 65536 (by decide) (by omega) (by omega) (by omega)
  have o3 : bitsOf .or .u32 (x1 * 16777216 + x2 * 65536 + x3 * 256) x4 = x1 * 16777216 + x2 * 65536 + x3 * 256 + x4 := or32 8 256 (by decide) (by omega) (by omega) (by omega)
  refine aw_seq ?_
  (refine aw_ops (by kernel_rfl) (fun K hK => ?_); simp (disch := first | omega | (simp only [lnS]; try omega; done)) [-getElem?_pos, -getElem?_neg]; refine hK _ _ ?_; clear hK K)
  refine aw_seq ?_
  (refine aw_ops (by kernel_rfl) (fun K hK => ?_); simp (disch := first | omega | (simp only [lnS]; try omega; done)) [-getElem?_pos, -getElem?_neg, hx, hs]; refine hK _ _ ?_; clear hK K)
  refine aw_seq ?_
  (refine aw_ops (by kernel_rfl) (fun K hK => ?_); simp (disch := first | omega | (simp only [lnS]; try omega; done)) [-getElem?_pos, -getElem?_neg, hs5, g0]; refine hK _ _ ?_; clear hK K)
  refine aw_seq ?_
  (refine aw_quiet (by kernel_rfl) (by kernel_rfl) (by kernel_rfl) (fun K hK => ?_); simp (disch := first | omega | (simp only [lnS]; try omega; done)) [-getElem?_pos, -getElem?_neg, hs5, g1, g2, g3, g4, o1, o2, o3]; refine hK _ ?_; clear hK K)
  refine aw_seq ?_
  rw [← hS] at o3
  by_cases hlt : A < 2
  · refine aw_ops (by kernel_rfl) (fun K hK => ?_)
    have hlt2 : x0 < 2 := by omega
    simp (disch := first | omega | (simp only [lnS]; try omega; done)) [-getElem?_pos, -getElem?_neg, hlt2]
    rw [← hA, ← hS]
    refine ⟨by kernel_rfl, ac_of_rc (mark_rc hG A S hA2 hS2) (by simp [pv_iv, pv_int, pv_bool, pv_string, pv_tup2, pv_tup3, iv_plain, p2_int, p2_bool, p2_string]) ?_⟩
    have he := sn_eq hmb hb
    simp (disch := first | omega | (simp only [lnS]; try omega; done)) [-getElem?_pos, -getElem?_neg, he]
    refine hK _ _ ?_; clear hK K
    (refine aw_ret ?_; simp (disch := first | omega | (simp only [lnS]; try omega; done)) [-getElem?_pos, -getElem?_neg, thenQ_ret, scopeQ_ret, inBlockQ_ret, RQ, resL, resV])
    rw [hm]
    simp only [hlt, decide_true, Bool.true_and]
    by_cases h : markL A S = l
    · rw [h]; simp
    · have : (strOfNums (markL A S)).toList ≠ (strOfNums l).toList := fun hc => h (he.1 hc)
      simp [h, this]
  · have hlt2 : ¬ x0 < 2 := by omega
    (refine aw_ops (by kernel_rfl) (fun K hK => ?_); simp (disch := first | omega | (simp only [lnS]; try omega; done)) [-getElem?_pos, -getElem?_neg, hlt2]; refine hK _ _ ?_; clear hK K)
    (refine aw_ret ?_; simp (disch := first | omega | (simp only [lnS]; try omega; done)) [-getElem?_pos, -getElem?_neg, thenQ_ret, scopeQ_ret, inBlockQ_ret, RQ, resL, resV])
    rw [hm]
    simp [hlt]
end
section
def Wr (H : AH) (p : Nat) (F : List Nat) (bs : List Int) : Prop := ∃ v FU, F = p :: FU ∧ hget H p = some ⟨[v], 109, none⟩ ∧ OwnF H v 5 1 (iv .u8 bs) FU ∧ p ∉ FU
theorem Wr.lt {H : AH} {p : Nat} {F : List Nat} {bs : List Int} (h : Wr H p F bs) : ∀ j ∈ F, j < H.length := by
  obtain ⟨v, FU, rfl, h1, h2, h3⟩ := h
  intro j hj
  rcases List.mem_cons.1 hj with rfl | hj
  · exact hget_lt h1
  · exact h2.lt j hj
theorem Wr.low {H H' : AH} {p : Nat} {F : List Nat} {bs : List Int} (h : Wr H p F bs) (hl : ∀ j ∈ F, hget H' j = hget H j) : Wr H' p F bs := by
  obtain ⟨v, FU, rfl, h1, h2, h3⟩ := h
  exact ⟨v, FU, rfl, by rw [hl p (by simp)]; exact h1, h2.low (fun j hj => hl j (by simp [hj])), h3⟩
theorem own_shape {H : AH} {v : Value} {e : TypeId} {sz : Nat} {cells : List Value} {F : List Nat} (h : OwnF H v e sz cells F) : notTuple v = true ∧ v.cells = #[v] := by
  rcases h with ⟨rfl, _⟩ | ⟨j, len, rfl, _⟩ <;> exact ⟨rfl, rfl⟩
attribute [local simp] wb_bool wb_undef XL_nil XL_cons XLc_val XLc_call step1_eq stepW_t stepW_f stepC_n stepC_s stepX_s stepX_n stepN_s calleeX oneV xop_eq xopR_s xopR_n wantedA_eq wantedG_n wantedG_s plain1_int plain1_bool plain1_string bits_i64 bits_u64 bits_u32 bits_u16 bits_u8 xeqA xagg xcmp xarr allK_iv num_iv calleeOf xread xeff xbin xint xnil xun xstr xload xconv xpart xfield xfieldAddr xindexAddr xindex bnd asInt? xslice xlen xmin xmax xbuild xfill xappend xapp2 xappstr xappmk xcap xcopy xcells eval_tmp eval_const put_at put_none fr0_at cells_agg cells_int cells_bool cells_string cells_ptr cells_slice notTuple tab iv_all hget_app hget_app0 hget_cons0 hget_cons set_app set_app0 setR setR_one QL_nil QL_cons QLc_val stepQ_t stepQ_f stepQC_n stepQC_s stepQX_s SL_nil SL_cons SLc_val stepS_t stepS_f ltT ltF leT leF eqT eqF ltTn ltFn leTn leFn eqTn eqFn beqT beqF bneT bneF wi64 wu64 wu32 wu16 wu8 tmodP tdivP hgetL hgetNe hgetEq setL nums_def nums_len Nat.succ_le_of_lt List.getElem?_cons_zero List.getElem?_cons_succ Option.getD_some Int.toNat_add Int.toNat_mul agB agI agS agP agL agA okB okI okS okP okSl okA
/-- More bytes: those that x shows. -/
theorem wr_append {nro : Nat} {H G : AH} {p : Nat} {F : List Nat} {bs news : List Int} {x : Value} (h : Wr H p F bs) (hnro : ∀ j ∈ F, nro ≤ j) (hG : H.length ≤ G.length) (hl : ∀ j, j < H.length → hget G j = hget H j) (hstr : ∀ s, x ≠ .string s) (hx : xcells 1 x G = some (iv .u8 news)) (hn : news ≠ []) (hb : bs.length + news.length ≤ 1000000) :
    ∃ v v' H', hget H p = some ⟨[v], 109, none⟩ ∧ notTuple v = true ∧ xappend Tryz.prog nro 37 v x G = some (v', H') ∧ notTuple v' = true ∧ v'.cells = #[v'] ∧ hget H' p = some ⟨[v], 109, none⟩ ∧
      Wr (H'.set p (some ⟨[v'], 109, none⟩)) p [p, G.length] (bs ++ news) ∧ Fr H (H'.set p (some ⟨[v'], 109, none⟩)) F [p, G.length] := by
  have hlt := h.lt
  obtain ⟨v, FU, rfl, h1, h2, h3⟩ := h
  have hpl := hget_lt h1
  have hivn : (iv .u8 news).length = news.length := iv_length _ _
  have hivb : (iv .u8 bs).length = bs.length := iv_length _ _
  have hnn : iv .u8 news ≠ [] := fun e => hn (by have := congrArg List.length e; rw [hivn] at this; exact List.eq_nil_of_length_eq_zero this)
  obtain ⟨v', H', hap, ho, hlen, hk⟩ := ownF_append (P := Tryz.prog) (nro := nro) (t := 37) (e := 5) (H := G) (v := v) (x := x) (sz := 1) (cells := iv .u8 bs) (news := iv .u8 news) (F := FU) (by simp) (by simp) (by omega) (by simp) (h2.low (fun j hj => hl j (h2.lt j hj)))
    (fun j hj => hnro j (by simp [hj])) hstr hx hnn (Nat.mod_one _) (by rw [hivn, hivb]; simp; omega) (by rw [hivn, hivb]; simp [maxLen]; omega)
  have hp' : hget H' p = some ⟨[v], 109, none⟩ := (hk p (by omega) h3).trans ((hl p hpl).trans h1)
  have hs := own_shape h2
  have hs' := own_shape ho
  have hpg : p < G.length := by omega
  refine ⟨v, v', H', h1, hs.1, hap, hs'.1, hs'.2, hp', ⟨v', [G.length], rfl, hget_set_eq (by omega), ?_, by simp; omega⟩, ⟨by simp; omega, fun j hj hn => ?_, fun j hj => ?_⟩⟩
  · rw [iv_append]
    exact ho.low (fun j hj => hget_set_ne (by rw [List.mem_singleton] at hj; omega))
  · rw [hget_set_ne (fun e => hn (by simp [e])), hk j (by omega) (fun hm => hn (by simp [hm])), hl j hj]
  · simp only [List.mem_cons, List.not_mem_nil, or_false] at hj
    rcases hj with rfl | rfl
    · exact .inl (by simp)
    · exact .inr hG
end
section
theorem or128 : ∀ a : Nat, a < 128 → bitsOf .or .u8 (a : Int) 128 = (a : Int) + 128 := by decide +kernel
theorem and_nat (m : Nat) (hm : m < 4294967296) : bitsOf .and .u32 (m : Int) 127 = ((m % 128 : Nat) : Int) := by
  show IntKind.u32.wrap ((BitVec.ofInt 32 (m : Int) &&& BitVec.ofInt 32 127).toNat : Int) = _
  have h : (BitVec.ofInt 32 (m : Int) &&& BitVec.ofInt 32 127).toNat = m % 128 := by
    rw [BitVec.toNat_and]
    have h1 : (BitVec.ofInt 32 (m : Int)).toNat = m := by
      rw [BitVec.toNat_ofInt]; omega
    rw [h1]
    show m &&& 127 = _
    exact Nat.and_two_pow_sub_one_eq_mod m 7
  rw [h]
  simp only [IntKind.wrap_u32']
  omega
/-- The groups of a number from the g-th on down to the first. -/
def hiG (n : Nat) : Nat → List Int
  | 0 => []
  | g + 1 => (if n / 128 ^ (g + 1) = 0 then [] else [((n / 128 ^ (g + 1) % 128 : Nat) : Int) + 128]) ++ hiG n g
/-- A number's bytes. -/
def numB (n : Nat) : List Int := hiG n 4 ++ [((n % 128 : Nat) : Int)]
theorem hiG_len (n : Nat) : ∀ g, (hiG n g).length ≤ g
  | 0 => by simp [hiG]
  | g + 1 => by
    have := hiG_len n g
    unfold hiG
    split <;> simp <;> omega
theorem numB_len (n : Nat) : (numB n).length ≤ 5 := by
  have := hiG_len n 4
  simp [numB]; omega
end
section
theorem nt_int (k : IntKind) (x : Int) : notTuple (.int k x) = true := rfl
theorem nt_sl (a : Option Addr) (n c : Nat) : notTuple (.slice a n c) = true := rfl
def numsB (l : List Int) : List Int := l.flatMap fun x => numB x.toNat
theorem numsB_next {l : List Int} {i : Nat} {x : Int} (h : l[i]? = some x) : numsB (l.take (i + 1)) = numsB (l.take i) ++ numB x.toNat := by
  unfold numsB
  rw [List.take_add_one, h, List.flatMap_append]
  simp
theorem numsB_len (l : List Int) : (numsB l).length ≤ 5 * l.length := by
  induction l with
  | nil => simp [numsB]
  | cons x l ih =>
    have := numB_len x.toNat
    simp only [numsB, List.flatMap_cons, List.length_append, List.length_cons] at ih ⊢
    omega
attribute [local simp] wb_bool wb_undef XL_nil XL_cons XLc_val XLc_call step1_eq stepW_t stepW_f stepC_n stepC_s stepX_s stepX_n stepN_s calleeX oneV xop_eq xopR_s xopR_n wantedA_eq wantedG_n wantedG_s plain1_int plain1_bool plain1_string bits_i64 bits_u64 bits_u32 bits_u16 bits_u8 xeqA xagg xcmp xarr allK_iv num_iv calleeOf xread xeff xbin xint xnil xun xstr xload xconv xpart xfield xfieldAddr xindexAddr xindex bnd asInt? xslice xlen xmin xmax xbuild xfill xappend xapp2 xappstr xappmk xcap xcopy xcells eval_tmp eval_const put_at put_none fr0_at cells_agg cells_int cells_bool cells_string cells_ptr cells_slice notTuple tab iv_all hget_app hget_app0 hget_cons0 hget_cons set_app set_app0 setR setR_one QL_nil QL_cons QLc_val stepQ_t stepQ_f stepQC_n stepQC_s stepQX_s SL_nil SL_cons SLc_val stepS_t stepS_f ltT ltF leT leF eqT eqF ltTn ltFn leTn leFn eqTn eqFn beqT beqF bneT bneF wi64 wu64 wu32 wu16 wu8 tmodP tdivP hgetL hgetNe hgetEq setL nums_def nums_len Nat.succ_le_of_lt List.getElem?_cons_zero List.getElem?_cons_succ Option.getD_some Int.toNat_add Int.toNat_mul agB agI agS agP agL agA okB okI okS okP okSl okA
theorem numbers_ac {H : AH} {γ : Nat → Option Nat} {nro p : Nat} {F : List Nat} {bs l : List Int} {v : Value} (h : Wr H p F bs) (hlo : ∀ j ∈ F, nro ≤ j) (hnl : nro ≤ H.length) (hv : SlS H F v (iv .u32 l)) (hl : ∀ x ∈ l, 0 ≤ x ∧ x ≤ 4294967295) (hlen : bs.length + 5 * l.length ≤ 100000) :
    AC Tryz.prog nro γ 84 #[.pointer (some ⟨p, 0, none⟩), v] H (fun v' H' => ∃ F', Wr H' p F' (bs ++ numsB l) ∧ Fr H H' F F') := by
  have hno : notTuple v = true := by rcases hv.now with ⟨a, rfl, _⟩ | ⟨j, off, k, rfl, _⟩ <;> rfl
  have hxl := hv.now.len (P := Tryz.prog) (t := 152) (e := 92) (by simp)
  have hil : (iv .u32 l).length = l.length := iv_length _ _
  rw [hil] at hxl
  have hnp : nro ≤ p := hlo p (by obtain ⟨v, FU, rfl, _⟩ := h; simp)
  refine ac_of_aw Tryz.func84 rfl Tryz.ntmps84 Tryz.results84 (by simp) ?_
  refine aw_seq ?_
  (refine aw_ops (by kernel_rfl) (fun K hK => ?_); simp (disch := first | omega | (simp only [lnS]; try omega; done)) [-getElem?_pos, -getElem?_neg, -xlen, hxl]; refine hK _ _ ?_; clear hK K)
  refine aw_block ?_
  refine aw_loop (fun c α G => ∃ i : Nat, i + c = l.length ∧ α 10 = .int .i64 (i : Nat) ∧ α 9 = .int .i64 (l.length : Nat) ∧ α 8 = v ∧ α 0 = .pointer (some ⟨p, 0, none⟩) ∧ ∃ F', Wr G p F' (bs ++ numsB (l.take i)) ∧ Fr H G F F') l.length ?_ ?_
  · exact ⟨0, by omega, by (first | (simp [put_at, put_none, fr0_at]; done) | rfl), by (first | (simp [put_at, put_none, fr0_at]; done) | rfl), by (first | (simp [put_at, put_none, fr0_at]; done) | rfl), by (first | (simp [put_at, put_none, fr0_at]; done) | rfl), F, by simpa [numsB] using h, .refl _ _⟩
  rintro c α G ⟨i, hic, h10, h9, h8, h0, F1, hw, hf⟩
  refine aw_seq ?_
  (refine aw_ops (by kernel_rfl) (fun K hK => ?_); simp (disch := first | omega | (simp only [lnS]; try omega; done)) [-getElem?_pos, -getElem?_neg, h10, h9]; refine hK _ _ ?_; clear hK K)
  refine aw_seq ?_
  by_cases hi : i < l.length
  case neg =>
    refine aw_f (by (first | (simp [eval_tmp, put_at, hi]; done) | (simp [eval_tmp, put_at, hi]; omega))) (by kernel_rfl) ?_
    refine aw_exit ?_
    refine ⟨_, _, rfl, rfl, F1, ?_, hf⟩
    obtain rfl : i = l.length := by omega
    rwa [List.take_length] at hw
  refine aw_t (by (first | (simp [eval_tmp, put_at, hi]; done) | (simp [eval_tmp, put_at, hi]; omega))) (by kernel_rfl) ?_
  refine aw_skip ?_
  refine aw_seq ?_
  refine aw_block ?_
  obtain ⟨x, hx⟩ : ∃ x, l[i]? = some x := ⟨_, List.getElem?_eq_getElem hi⟩
  obtain ⟨hx0, hx1⟩ := hl x (List.mem_of_getElem? hx)
  obtain ⟨n, rfl⟩ : ∃ n : Nat, x = (n : Nat) := ⟨x.toNat, by omega⟩
  have hvG := hv.fr hf
  have hcx : (iv .u32 l)[i]? = some (.int .u32 (n : Nat)) := by simp [iv, hx]
  obtain ⟨px, hpx, hlx⟩ := hvG.now.cell (P := Tryz.prog) (t := 152) (e := 92) (by simp) (by simp) (by simp) (by simp) hcx
  have hxa : xindexAddr Tryz.prog 152 v (.int .i64 (i : Nat)) = some px := hpx
  have hnpx : notTuple px = true := by
    unfold xload at hlx
    cases px <;> first | rfl | (simp at hlx)
  refine aw_seq ?_
  (refine aw_ops (by kernel_rfl) (fun K hK => ?_); simp (disch := first | omega | (simp only [lnS]; try omega; done)) [-getElem?_pos, -getElem?_neg, h8, h10, -xindexAddr, hxa, -xload, hlx, hnpx]; refine hK _ _ ?_; clear hK K)
  have hn32 : n < 4294967296 := by omega
  have hft : (numsB (l.take i)).length ≤ 5 * i := by
    have := numsB_len (l.take i)
    rw [List.length_take] at this; omega
  have lt2 : ∀ {G : AH} {F' : List Nat}, Fr H G F F' → ∀ j ∈ F', nro ≤ j := fun hf j hj => by
    rcases hf.new j hj with h1 | h1
    · exact hlo j h1
    · omega
  refine aw_seq ?_
  refine aw_seq ?_
  (refine aw_ops (by kernel_rfl) (fun K hK => ?_); simp (disch := first | omega | (simp only [lnS]; try omega; done)) [-getElem?_pos, -getElem?_neg]; refine hK _ _ ?_; clear hK K)
  refine aw_cut (fun α G2 => α 5 = .int .u32 (n : Nat) ∧ α 10 = .int .i64 (i : Nat) ∧ α 9 = .int .i64 (l.length : Nat) ∧ α 8 = v ∧ α 0 = .pointer (some ⟨p, 0, none⟩) ∧ ∃ F', Wr G2 p F' (bs ++ numsB (l.take i) ++ hiG n 4) ∧ Fr H G2 F F') ?_ ?_
  · refine aw_block ?_
    refine aw_loop (fun c α G2 => ∃ part : List Int, c ≤ 4 ∧ hiG n 4 = part ++ hiG n c ∧ part.length + c ≤ 4 ∧ α 6 = .int .i64 (c : Nat) ∧ α 5 = .int .u32 (n : Nat) ∧ α 10 = .int .i64 (i : Nat) ∧ α 9 = .int .i64 (l.length : Nat) ∧ α 8 = v ∧ α 0 = .pointer (some ⟨p, 0, none⟩) ∧ ∃ F', Wr G2 p F' (bs ++ numsB (l.take i) ++ part) ∧ Fr H G2 F F') 4 ?_ ?_
    · exact ⟨[], by omega, by simp, by simp, by (first | (simp [put_at, put_none, fr0_at]; done) | rfl), by (first | (simp [put_at, put_none, fr0_at]; done) | rfl), by (first | (simp [put_at, put_none, fr0_at, h10]; done) | rfl), by (first | (simp [put_at, put_none, fr0_at, h9]; done) | rfl), by (first | (simp [put_at, put_none, fr0_at, h8]; done) | rfl), by (first | (simp [put_at, put_none, fr0_at, h0]; done) | rfl), F1, by simpa using hw, hf⟩
    clear h10 h9 h8 h0 hw hf
    rintro g α G2 ⟨part, hg4, hpart, hpl, h6, h5, h10, h9, h8, h0, F2, hw, hf⟩
    refine aw_seq ?_
    refine aw_seq ?_
    cases g with
    | zero =>
      (refine aw_ops (by kernel_rfl) (fun K hK => ?_); simp (disch := first | omega | (simp only [lnS]; try omega; done)) [-getElem?_pos, -getElem?_neg, h6]; refine hK _ _ ?_; clear hK K)
      refine aw_f (by (first | (simp [eval_tmp, put_at]; done) | (simp [eval_tmp, put_at]; omega))) (by kernel_rfl) ?_
      refine aw_exit ?_
      refine ⟨by (first | (simp [put_at, put_none, fr0_at, h5]; done) | rfl), by (first | (simp [put_at, put_none, fr0_at, h10]; done) | rfl), by (first | (simp [put_at, put_none, fr0_at, h9]; done) | rfl), by (first | (simp [put_at, put_none, fr0_at, h8]; done) | rfl), by (first | (simp [put_at, put_none, fr0_at, h0]; done) | rfl), F2, ?_, hf⟩
      rw [hpart]
      simpa [hiG] using hw
    | succ g =>
      (refine aw_ops (by kernel_rfl) (fun K hK => ?_); simp (disch := first | omega | (simp only [lnS]; try omega; done)) [-getElem?_pos, -getElem?_neg, h6]; refine hK _ _ ?_; clear hK K)
      refine aw_t (by (first | (simp [eval_tmp, put_at]; done) | (simp [eval_tmp, put_at]; omega))) (by kernel_rfl) ?_
      refine aw_skip ?_
      refine aw_seq ?_
      refine aw_block ?_
      refine aw_seq ?_
      refine aw_cut (fun α G3 => G3 = G2 ∧ α 7 = .int .u32 ((n / 128 ^ (g + 1) : Nat) : Int) ∧ α 6 = .int .i64 ((g + 1 : Nat) : Int) ∧ α 5 = .int .u32 (n : Nat) ∧ α 10 = .int .i64 (i : Nat) ∧ α 9 = .int .i64 (l.length : Nat) ∧ α 8 = v ∧ α 0 = .pointer (some ⟨p, 0, none⟩)) ?_ ?_
      · have hgs : g = 0 ∨ g = 1 ∨ g = 2 ∨ g = 3 := by omega
        rcases hgs with rfl | rfl | rfl | rfl
        · (refine aw_ops (by kernel_rfl) (fun K hK => ?_); simp (disch := first | omega | (simp only [lnS]; try omega; done)) [-getElem?_pos, -getElem?_neg, h5, h6, fdivP]; refine hK _ _ ?_; clear hK K)
          exact ⟨rfl, by simp [put_at], by (first | (simp [put_at, put_none, fr0_at, h6]; done) | rfl), by (first | (simp [put_at, put_none, fr0_at, h5]; done) | rfl), by (first | (simp [put_at, put_none, fr0_at, h10]; done) | rfl), by (first | (simp [put_at, put_none, fr0_at, h9]; done) | rfl), by (first | (simp [put_at, put_none, fr0_at, h8]; done) | rfl), by (first | (simp [put_at, put_none, fr0_at, h0]; done) | rfl)⟩
        · (refine aw_ops (by kernel_rfl) (fun K hK => ?_); simp (disch := first | omega | (simp only [lnS]; try omega; done)) [-getElem?_pos, -getElem?_neg, h5, h6, fdivP]; refine hK _ _ ?_; clear hK K)
          exact ⟨rfl, by simp [put_at], by (first | (simp [put_at, put_none, fr0_at, h6]; done) | rfl), by (first | (simp [put_at, put_none, fr0_at, h5]; done) | rfl), by (first | (simp [put_at, put_none, fr0_at, h10]; done) | rfl), by (first | (simp [put_at, put_none, fr0_at, h9]; done) | rfl), by (first | (simp [put_at, put_none, fr0_at, h8]; done) | rfl), by (first | (simp [put_at, put_none, fr0_at, h0]; done) | rfl)⟩
        · (refine aw_ops (by kernel_rfl) (fun K hK => ?_); simp (disch := first | omega | (simp only [lnS]; try omega; done)) [-getElem?_pos, -getElem?_neg, h5, h6, fdivP]; refine hK _ _ ?_; clear hK K)
          exact ⟨rfl, by simp [put_at], by (first | (simp [put_at, put_none, fr0_at, h6]; done) | rfl), by (first | (simp [put_at, put_none, fr0_at, h5]; done) | rfl), by (first | (simp [put_at, put_none, fr0_at, h10]; done) | rfl), by (first | (simp [put_at, put_none, fr0_at, h9]; done) | rfl), by (first | (simp [put_at, put_none, fr0_at, h8]; done) | rfl), by (first | (simp [put_at, put_none, fr0_at, h0]; done) | rfl)⟩
        · (refine aw_ops (by kernel_rfl) (fun K hK => ?_); simp (disch := first | omega | (simp only [lnS]; try omega; done)) [-getElem?_pos, -getElem?_neg, h5, h6, fdivP]; refine hK _ _ ?_; clear hK K)
          exact ⟨rfl, by simp [put_at], by (first | (simp [put_at, put_none, fr0_at, h6]; done) | rfl), by (first | (simp [put_at, put_none, fr0_at, h5]; done) | rfl), by (first | (simp [put_at, put_none, fr0_at, h10]; done) | rfl), by (first | (simp [put_at, put_none, fr0_at, h9]; done) | rfl), by (first | (simp [put_at, put_none, fr0_at, h8]; done) | rfl), by (first | (simp [put_at, put_none, fr0_at, h0]; done) | rfl)⟩
      clear h10 h9 h8 h0 h6 h5
      rintro α G3 ⟨rfl, h7, h6, h5, h10, h9, h8, h0⟩
      obtain ⟨m, hm⟩ : ∃ m, m = n / 128 ^ (g + 1) := ⟨_, rfl⟩
      have hm32 : m < 4294967296 := by
        have := Nat.div_le_self n (128 ^ (g + 1)); omega
      rw [← hm] at h7
      refine aw_seq ?_
      by_cases hz : m = 0
      · (refine aw_ops (by kernel_rfl) (fun K hK => ?_); simp (disch := first | omega | (simp only [lnS]; try omega; done)) [-getElem?_pos, -getElem?_neg, h7, hz]; refine hK _ _ ?_; clear hK K)
        refine aw_f (by (first | (simp [eval_tmp, put_at]; done) | (simp [eval_tmp, put_at]; omega))) (by kernel_rfl) ?_
        refine aw_skip ?_
        (refine aw_ops (by kernel_rfl) (fun K hK => ?_); simp (disch := first | omega | (simp only [lnS]; try omega; done)) [-getElem?_pos, -getElem?_neg, h6]; refine hK _ _ ?_; clear hK K)
        refine ⟨g, by omega, part, by omega, ?_, by omega, by simp [put_at], by (first | (simp [put_at, put_none, fr0_at, h5]; done) | rfl), by (first | (simp [put_at, put_none, fr0_at, h10]; done) | rfl), by (first | (simp [put_at, put_none, fr0_at, h9]; done) | rfl), by (first | (simp [put_at, put_none, fr0_at, h8]; done) | rfl), by (first | (simp [put_at, put_none, fr0_at, h0]; done) | rfl), F2, hw, hf⟩
        rw [hpart, hiG, ← hm, if_pos hz, List.nil_append]
      · obtain ⟨b0, hb0⟩ : ∃ b0 : Int, b0 = ((m % 128 : Nat) : Int) + 128 := ⟨_, rfl⟩
        have hmm : m % 128 < 128 := Nat.mod_lt _ (by omega)
        have hor := or128 (m % 128) hmm
        rw [← hb0] at hor
        have hand := and_nat m hm32
        have hwrp : IntKind.u8.wrap ((m % 128 : Nat) : Int) = ((m % 128 : Nat) : Int) := wrap8_in (by omega)
        obtain ⟨m7, hm7⟩ : ∃ m7 : Int, m7 = ((m % 128 : Nat) : Int) := ⟨_, rfl⟩
        rw [← hm7] at hor hand hwrp
        have hxc : xcells 1 (.slice (some ⟨G3.length, 0, none⟩) 1 1) (G3 ++ [some ⟨[.int .u8 b0], 5, some 1⟩]) = some (iv .u8 [b0]) := by simp [xcells, iv, hget_app0]
        obtain ⟨w, w', H', hgw, hnw, hap, hnw', hcw', hgw', hwr, hfr⟩ := wr_append (nro := nro) (G := G3 ++ [some ⟨[.int .u8 b0], 5, some 1⟩]) hw (lt2 hf) (by simp) (fun j hj => hget_left hj) (fun s e => by cases e) hxc (by simp) (by simp; omega)
        (refine aw_ops (by kernel_rfl) (fun K hK => ?_); simp (disch := first | omega | (simp only [lnS]; try omega; done)) [-getElem?_pos, -getElem?_neg, h7, hz]; refine hK _ _ ?_; clear hK K)
        refine aw_t (by (first | (simp [eval_tmp, put_at, hz]; done) | (simp [eval_tmp, put_at, hz]; omega))) (by kernel_rfl) ?_
        (refine aw_ops (by kernel_rfl) (fun K hK => ?_); simp (disch := first | omega | (simp only [lnS]; try omega; done)) [-getElem?_pos, -getElem?_neg, h7, h0, hand, hwrp, hor, hgw, hgw', hnw, hnw', hcw', -notTuple, nt_int, nt_sl, -xappend, hap, hget_left, hnp]; refine hK _ _ ?_; clear hK K)
        (refine aw_ops (by kernel_rfl) (fun K hK => ?_); simp (disch := first | omega | (simp only [lnS]; try omega; done)) [-getElem?_pos, -getElem?_neg, h6]; refine hK _ _ ?_; clear hK K)
        refine ⟨g, by omega, part ++ [b0], by omega, ?_, by simp; omega, by simp [put_at], by (first | (simp [put_at, put_none, fr0_at, h5]; done) | rfl), by (first | (simp [put_at, put_none, fr0_at, h10]; done) | rfl), by (first | (simp [put_at, put_none, fr0_at, h9]; done) | rfl), by (first | (simp [put_at, put_none, fr0_at, h8]; done) | rfl), by (first | (simp [put_at, put_none, fr0_at, h0]; done) | rfl), _, ?_, hf.trans hfr⟩
        · rw [hpart, hiG, ← hm, if_neg hz, ← hb0, List.append_assoc]
        · rw [← List.append_assoc]; exact hwr
  clear h10 h9 h8 h0 hw hf
  rintro α GG ⟨h5, h10, h9, h8, h0, F2, hw, hf⟩
  obtain ⟨m7, hm7⟩ : ∃ m7 : Int, m7 = ((n % 128 : Nat) : Int) := ⟨_, rfl⟩
  have hand := and_nat n hn32
  have hmm : n % 128 < 128 := Nat.mod_lt _ (by omega)
  have hwrp : IntKind.u8.wrap m7 = m7 := wrap8_in (by omega)
  rw [← hm7] at hand
  have hhl := hiG_len n 4
  have hxc : xcells 1 (.slice (some ⟨GG.length, 0, none⟩) 1 1) (GG ++ [some ⟨[.int .u8 m7], 5, some 1⟩]) = some (iv .u8 [m7]) := by simp [xcells, iv, hget_app0]
  obtain ⟨w, w', H', hgw, hnw, hap, hnw', hcw', hgw', hwr, hfr⟩ := wr_append (nro := nro) (G := GG ++ [some ⟨[.int .u8 m7], 5, some 1⟩]) hw (lt2 hf) (by simp) (fun j hj => hget_left hj) (fun s e => by cases e) hxc (by simp) (by simp; omega)
  (refine aw_ops (by kernel_rfl) (fun K hK => ?_); simp (disch := first | omega | (simp only [lnS]; try omega; done)) [-getElem?_pos, -getElem?_neg, h5, h0, hand, hwrp, hgw, hgw', hnw, hnw', hcw', -notTuple, nt_int, nt_sl, -xappend, hap, hget_left, hnp]; refine hK _ _ ?_; clear hK K)
  (refine aw_ops (by kernel_rfl) (fun K hK => ?_); simp (disch := first | omega | (simp only [lnS]; try omega; done)) [-getElem?_pos, -getElem?_neg, h10]; refine hK _ _ ?_; clear hK K)
  refine ⟨c - 1, by omega, i + 1, by omega, by (first | (simp [put_at, put_none, fr0_at]; done) | rfl), by (first | (simp [put_at, put_none, fr0_at, h9]; done) | rfl), by (first | (simp [put_at, put_none, fr0_at, h8]; done) | rfl), by (first | (simp [put_at, put_none, fr0_at, h0]; done) | rfl), _, ?_, hf.trans hfr⟩
  rw [numsB_next hx]
  simp only [numB, Int.toNat_natCast]
  rw [hm7] at hwr
  rw [← List.append_assoc, ← List.append_assoc]
  rw [hm7]
  exact hwr
end
section
attribute [local simp] wb_bool wb_undef XL_nil XL_cons XLc_val XLc_call step1_eq stepW_t stepW_f stepC_n stepC_s stepX_s stepX_n stepN_s calleeX oneV xop_eq xopR_s xopR_n wantedA_eq wantedG_n wantedG_s plain1_int plain1_bool plain1_string bits_i64 bits_u64 bits_u32 bits_u16 bits_u8 xeqA xagg xcmp xarr allK_iv num_iv calleeOf xread xeff xbin xint xnil xun xstr xload xconv xpart xfield xfieldAddr xindexAddr xindex bnd asInt? xslice xlen xmin xmax xbuild xfill xappend xapp2 xappstr xappmk xcap xcopy xcells eval_tmp eval_const put_at put_none fr0_at cells_agg cells_int cells_bool cells_string cells_ptr cells_slice notTuple tab iv_all hget_app hget_app0 hget_cons0 hget_cons set_app set_app0 setR setR_one QL_nil QL_cons QLc_val stepQ_t stepQ_f stepQC_n stepQC_s stepQX_s SL_nil SL_cons SLc_val stepS_t stepS_f ltT ltF leT leF eqT eqF ltTn ltFn leTn leFn eqTn eqFn beqT beqF bneT bneF wi64 wu64 wu32 wu16 wu8 tmodP tdivP hgetL hgetNe hgetEq setL nums_def nums_len Nat.succ_le_of_lt List.getElem?_cons_zero List.getElem?_cons_succ Option.getD_some Int.toNat_add Int.toNat_mul agB agI agS agP agL agA okB okI okS okP okSl okA
/-- A slice of one number that lies fresh. -/
theorem one_sls {G : AH} {F : List Nat} {x : Int} (hF : ∀ j ∈ F, j < G.length) : ∀ G1 : AH, G1 = G ++ [some ⟨[.int .u32 x], 92, some 1⟩] → SlS G1 F (.slice (some ⟨G.length, 0, none⟩) 1 1) (iv .u32 [x]) := by
  rintro G1 rfl G2 hg
  have e : hget G2 G.length = some ⟨[.int .u32 x], 92, some 1⟩ := (hg G.length (by rw [List.length_append]; exact Nat.lt_succ_self _) (fun hm => by have := hF _ hm; omega)).trans (by rw [hget_app0]; rfl)
  refine .inr ⟨G.length, 0, _, rfl, e, fun i x hi => ?_⟩
  simpa [iv] using hi
theorem wstring_ac {H : AH} {γ : Nat → Option Nat} {nro p : Nat} {F : List Nat} {bs : List Int} (h : Wr H p F bs) :
    AC Tryz.prog nro γ 64 #[.pointer (some ⟨p, 0, none⟩)] H (fun v' H' => v' = .string (strOfNums bs) ∧ H' = H) := by
  obtain ⟨v, FU, rfl, h1, h2, h3⟩ := h
  have hno := (own_shape h2).1
  refine ac_of_aw Tryz.func64 rfl Tryz.ntmps64 Tryz.results64 (by simp) ?_
  refine aw_seq ?_
  (refine aw_ops (by kernel_rfl) (fun K hK => ?_); simp (disch := first | omega | (simp only [lnS]; try omega; done)) [-getElem?_pos, -getElem?_neg]; refine hK _ _ ?_; clear hK K)
  refine aw_seq ?_
  rcases h2 with ⟨rfl, hb, _⟩ | ⟨j, len, rfl, hg, hl, _⟩
  · obtain rfl : bs = [] := by cases bs with
      | nil => rfl
      | cons x l => simp [iv] at hb
    (refine aw_ops (by kernel_rfl) (fun K hK => ?_); simp (disch := first | omega | (simp only [lnS]; try omega; done)) [-getElem?_pos, -getElem?_neg, h1, hno]; refine hK _ _ ?_; clear hK K)
    (refine aw_ret ?_; simp (disch := first | omega | (simp only [lnS]; try omega; done)) [-getElem?_pos, -getElem?_neg, thenQ_ret, scopeQ_ret, inBlockQ_ret, RQ, resL, resV])
    rfl
  · have hbl := byteList_iv bs
    have hll : len = bs.length := by rw [iv_length] at hl; omega
    subst hll
    have htk : (iv .u8 bs).take bs.length = iv .u8 bs := by rw [List.take_of_length_le]; rw [iv_length]; exact Nat.le_refl _
    (refine aw_ops (by kernel_rfl) (fun K hK => ?_); simp (disch := first | omega | (simp only [lnS]; try omega; done)) [-getElem?_pos, -getElem?_neg, h1, hno, hg, htk, hbl]; refine hK _ _ ?_; clear hK K)
    (refine aw_ret ?_; simp (disch := first | omega | (simp only [lnS]; try omega; done)) [-getElem?_pos, -getElem?_neg, thenQ_ret, scopeQ_ret, inBlockQ_ret, RQ, resL, resV])
end
section
theorem ownF_appstr {P : Program} {nro : Nat} {t e : TypeId} {H : AH} {v : Value} {b : ByteArray} {cells : List Value} {F : List Nat} (hu : und P t = .slice e) (hz : zer P e = some (.int .u8 0)) (hs : szt P e = 1) (hby : byt P e = 1)
    (hv : OwnF H v e 1 cells F) (hnro : ∀ j ∈ F, nro ≤ j) (hb : cells.length + b.size ≤ 140737488355328) (hm : cells.length + b.size ≤ maxLen) :
    ∃ v' H' F', xappstr P nro t v (.string b) H = some (v', H') ∧ OwnF H' v' e 1 (cells ++ iv .u8 (nums b)) F' ∧ H.length ≤ H'.length ∧ (∀ j ∈ F', H.length ≤ j) ∧ ∀ j, j < H.length → j ∉ F → hget H' j = hget H j := by
  have hnl : (iv .u8 (nums b)).length = b.size := by rw [iv_length]; simp [nums]
  rcases hv with ⟨rfl, rfl, rfl⟩ | ⟨j, len, rfl, h3, h4, rfl⟩
  · simp only [List.length_nil, Nat.zero_add] at hb hm
    by_cases h0 : b.size = 0
    · refine ⟨.slice none 0 0, H, [], ?_, .inl ⟨rfl, List.eq_nil_of_length_eq_zero (by simp [hnl, h0]), rfl⟩, Nat.le_refl _, (by simp), fun _ _ _ => rfl⟩
      unfold xappstr
      simp only [hu, hz]
      rw [if_pos ⟨trivial, hs, hby⟩, if_pos ⟨hb, hm⟩, if_pos h0]
    · refine ⟨.slice (some ⟨H.length, 0, none⟩) b.size b.size, H ++ [some ⟨iv .u8 (nums b), e, some 1⟩], [H.length], ?_, .inr ⟨H.length, b.size, rfl, ?_, by simp [hnl], rfl⟩, by simp, by simp, fun i hi _ => hget_left hi⟩
      · unfold xappstr
        simp only [hu, hz]
        rw [if_pos ⟨trivial, hs, hby⟩, if_pos ⟨hb, hm⟩, if_neg h0]
      · rw [hget_app0, hget_cons0]; rfl
  · have hj := hget_lt h3
    refine ⟨.slice (some ⟨H.length, 0, none⟩) (len + b.size) (len + b.size), H.set j none ++ [some ⟨cells ++ iv .u8 (nums b), e, some 1⟩], [H.length], ?_, .inr ⟨H.length, len + b.size, rfl, ?_, by simp [hnl]; omega, rfl⟩, by simp, by simp, fun i hi hni => ?_⟩
    · unfold xappstr
      simp only [hu, hz, h3]
      rw [if_pos ⟨trivial, hs, hby⟩, if_pos ⟨trivial, hnro j (by simp), trivial, trivial, by omega, by omega, by omega⟩, show len = cells.length by omega, List.take_length]
    · have : (H.set j none).length = H.length := by simp
      rw [← this, hget_app0, hget_cons0]
    · rw [hget_left (by simp; omega), hget_set_ne (fun e => hni (by simp [e]))]
theorem nums_size (s : ByteArray) : (nums s).length = s.size := by simp [nums]
attribute [local simp] wb_bool wb_undef XL_nil XL_cons XLc_val XLc_call step1_eq stepW_t stepW_f stepC_n stepC_s stepX_s stepX_n stepN_s calleeX oneV xop_eq xopR_s xopR_n wantedA_eq wantedG_n wantedG_s plain1_int plain1_bool plain1_string bits_i64 bits_u64 bits_u32 bits_u16 bits_u8 xeqA xagg xcmp xarr allK_iv num_iv calleeOf xread xeff xbin xint xnil xun xstr xload xconv xpart xfield xfieldAddr xindexAddr xindex bnd asInt? xslice xlen xmin xmax xbuild xfill xappend xapp2 xappstr xappmk xcap xcopy xcells eval_tmp eval_const put_at put_none fr0_at cells_agg cells_int cells_bool cells_string cells_ptr cells_slice notTuple tab iv_all hget_app hget_app0 hget_cons0 hget_cons set_app set_app0 setR setR_one QL_nil QL_cons QLc_val stepQ_t stepQ_f stepQC_n stepQC_s stepQX_s SL_nil SL_cons SLc_val stepS_t stepS_f ltT ltF leT leF eqT eqF ltTn ltFn leTn leFn eqTn eqFn beqT beqF bneT bneF wi64 wu64 wu32 wu16 wu8 tmodP tdivP hgetL hgetNe hgetEq setL nums_def nums_len Nat.succ_le_of_lt List.getElem?_cons_zero List.getElem?_cons_succ Option.getD_some Int.toNat_add Int.toNat_mul agB agI agS agP agL agA okB okI okS okP okSl okA
/-- A text's bytes more. -/
theorem wr_appstr {nro : Nat} {H : AH} {p : Nat} {F : List Nat} {bs : List Int} {s : ByteArray} (h : Wr H p F bs) (hnro : ∀ j ∈ F, nro ≤ j) (hb : bs.length + s.size ≤ 1000000) :
    ∃ v v' H' F', hget H p = some ⟨[v], 109, none⟩ ∧ notTuple v = true ∧ xappstr Tryz.prog nro 37 v (.string s) H = some (v', H') ∧ notTuple v' = true ∧ v'.cells = #[v'] ∧ hget H' p = some ⟨[v], 109, none⟩ ∧
      Wr (H'.set p (some ⟨[v'], 109, none⟩)) p F' (bs ++ nums s) ∧ Fr H (H'.set p (some ⟨[v'], 109, none⟩)) F F' := by
  have hlt := h.lt
  obtain ⟨v, FU, rfl, h1, h2, h3⟩ := h
  have hpl := hget_lt h1
  have hivb : (iv .u8 bs).length = bs.length := iv_length _ _
  obtain ⟨v', H', F', hap, ho, hlen, hnew, hk⟩ := ownF_appstr (P := Tryz.prog) (nro := nro) (t := 37) (e := 5) (H := H) (v := v) (b := s) (cells := iv .u8 bs) (F := FU) (by simp) (by simp) (by simp) (by simp) h2
    (fun j hj => hnro j (by simp [hj])) (by rw [hivb]; omega) (by rw [hivb]; simp [maxLen]; omega)
  have hp' : hget H' p = some ⟨[v], 109, none⟩ := (hk p hpl h3).trans h1
  have hs := own_shape h2
  have hs' := own_shape ho
  have hpF : p ∉ F' := fun hm => by have := hnew p hm; omega
  refine ⟨v, v', H', p :: F', h1, hs.1, hap, hs'.1, hs'.2, hp', ⟨v', F', rfl, hget_set_eq (by omega), ?_, hpF⟩, ⟨by simp; omega, fun j hj hn => ?_, fun j hj => ?_⟩⟩
  · rw [iv_append]
    exact ho.low (fun j hj => hget_set_ne (fun e => hpF (e ▸ hj)))
  · rw [hget_set_ne (fun e => hn (by simp [e])), hk j (by omega) (fun hm => hn (by simp [hm]))]
  · rcases List.mem_cons.1 hj with rfl | hj
    · exact .inl (by simp)
    · exact .inr (hnew j hj)
def textB (s : ByteArray) : List Int := numB s.size ++ nums s
def textsB (ps : List ByteArray) : List Int := ps.flatMap textB
theorem textsB_next {ps : List ByteArray} {i : Nat} {s : ByteArray} (h : ps[i]? = some s) : textsB (ps.take (i + 1)) = textsB (ps.take i) ++ textB s := by
  unfold textsB
  rw [List.take_add_one, h, List.flatMap_append]
  simp
theorem textB_len (s : ByteArray) : (textB s).length ≤ 5 + s.size := by
  have := numB_len s.size
  simp only [textB, List.length_append, nums_size]; omega
theorem textsB_len {ps : List ByteArray} (h : ∀ s ∈ ps, s.size ≤ 3000) : (textsB ps).length ≤ 3005 * ps.length := by
  induction ps with
  | nil => simp [textsB]
  | cons s l ih =>
    have := textB_len s
    have := h s (by simp)
    have := ih (fun x hx => h x (by simp [hx]))
    simp only [textsB, List.flatMap_cons, List.length_append, List.length_cons] at this ⊢
    omega
theorem texts_ac {H : AH} {γ : Nat → Option Nat} {nro p : Nat} {F : List Nat} {bs : List Int} {ps : List ByteArray} {v : Value} (h : Wr H p F bs) (hlo : ∀ j ∈ F, nro ≤ j) (hnl : nro ≤ H.length) (hv : SlS H F v (ps.map .string)) (hps : ∀ s ∈ ps, s.size ≤ 3000) (hlen : bs.length + 3005 * ps.length ≤ 90000) :
    AC Tryz.prog nro γ 63 #[.pointer (some ⟨p, 0, none⟩), v] H (fun v' H' => ∃ F', Wr H' p F' (bs ++ textsB ps) ∧ Fr H H' F F') := by
  have hno : notTuple v = true := by rcases hv.now with ⟨a, rfl, _⟩ | ⟨j, off, k, rfl, _⟩ <;> rfl
  have hxl := hv.now.len (P := Tryz.prog) (t := 36) (e := 9) (by simp)
  rw [List.length_map] at hxl
  have hnp : nro ≤ p := hlo p (by obtain ⟨v, FU, rfl, _⟩ := h; simp)
  refine ac_of_aw Tryz.func63 rfl Tryz.ntmps63 Tryz.results63 (by simp) ?_
  refine aw_seq ?_
  (refine aw_ops (by kernel_rfl) (fun K hK => ?_); simp (disch := first | omega | (simp only [lnS]; try omega; done)) [-getElem?_pos, -getElem?_neg, -xlen, hxl]; refine hK _ _ ?_; clear hK K)
  refine aw_block ?_
  refine aw_loop (fun c α G => ∃ i : Nat, i + c = ps.length ∧ α 8 = .int .i64 (i : Nat) ∧ α 7 = .int .i64 (ps.length : Nat) ∧ α 6 = v ∧ α 0 = .pointer (some ⟨p, 0, none⟩) ∧ ∃ F', Wr G p F' (bs ++ textsB (ps.take i)) ∧ Fr H G F F') ps.length ?_ ?_
  · exact ⟨0, by omega, by (first | (simp [put_at, put_none, fr0_at]; done) | rfl), by (first | (simp [put_at, put_none, fr0_at]; done) | rfl), by (first | (simp [put_at, put_none, fr0_at]; done) | rfl), by (first | (simp [put_at, put_none, fr0_at]; done) | rfl), F, by simpa [textsB] using h, .refl _ _⟩
  rintro c α G ⟨i, hic, h8, h7, h6, h0, F1, hw, hf⟩
  refine aw_seq ?_
  (refine aw_ops (by kernel_rfl) (fun K hK => ?_); simp (disch := first | omega | (simp only [lnS]; try omega; done)) [-getElem?_pos, -getElem?_neg, h8, h7]; refine hK _ _ ?_; clear hK K)
  refine aw_seq ?_
  by_cases hi : i < ps.length
  case neg =>
    refine aw_f (by (first | (simp [eval_tmp, put_at, hi]; done) | (simp [eval_tmp, put_at, hi]; omega))) (by kernel_rfl) ?_
    refine aw_exit ?_
    refine ⟨_, _, rfl, rfl, F1, ?_, hf⟩
    obtain rfl : i = ps.length := by omega
    rwa [List.take_length] at hw
  refine aw_t (by (first | (simp [eval_tmp, put_at, hi]; done) | (simp [eval_tmp, put_at, hi]; omega))) (by kernel_rfl) ?_
  refine aw_skip ?_
  refine aw_seq ?_
  refine aw_block ?_
  obtain ⟨s, hx⟩ : ∃ s, ps[i]? = some s := ⟨_, List.getElem?_eq_getElem hi⟩
  have hs1 := hps s (List.mem_of_getElem? hx)
  have hvG := hv.fr hf
  have hcx : (ps.map Value.string)[i]? = some (.string s) := by simp [hx]
  obtain ⟨px, hpx, hlx⟩ := hvG.now.cell (P := Tryz.prog) (t := 36) (e := 9) (by simp) (by simp) (by simp) (by simp) hcx
  have hxa : xindexAddr Tryz.prog 36 v (.int .i64 (i : Nat)) = some px := hpx
  have hnpx : notTuple px = true := by
    unfold xload at hlx
    cases px <;> first | rfl | (simp at hlx)
  refine aw_seq ?_
  (refine aw_ops (by kernel_rfl) (fun K hK => ?_); simp (disch := first | omega | (simp only [lnS]; try omega; done)) [-getElem?_pos, -getElem?_neg, h6, h8, -xindexAddr, hxa, -xload, hlx, hnpx]; refine hK _ _ ?_; clear hK K)
  have lt2 : ∀ {G : AH} {F' : List Nat}, Fr H G F F' → ∀ j ∈ F', nro ≤ j := fun hf j hj => by
    rcases hf.new j hj with h1 | h1
    · exact hlo j h1
    · omega
  have hft : (textsB (ps.take i)).length ≤ 3005 * i := by
    have := textsB_len (ps := ps.take i) (fun s hs => hps s (List.mem_of_mem_take hs))
    rw [List.length_take] at this; omega
  have hwl : IntKind.u32.wrap (s.size : Nat) = (s.size : Nat) := by simp only [IntKind.wrap_u32']; omega
  have hwlt := hw.lt
  have hs1' := one_sls (x := (s.size : Nat)) hwlt _ rfl
  have hf0 : Fr G (G ++ [some ⟨[.int .u32 (s.size : Nat)], 92, some 1⟩]) F1 F1 := Fr.mk (by simp) (fun j hj _ => hget_left hj) (fun j hj => .inl hj)
  have hw1 := hw.low (H' := G ++ [some ⟨[.int .u32 (s.size : Nat)], 92, some 1⟩]) (fun j hj => hget_left (hwlt j hj))
  have hn5 := numB_len s.size
  have hbl : (bs ++ textsB (ps.take i)).length = bs.length + (textsB (ps.take i)).length := List.length_append ..
  refine aw_seq ?_
  refine aw_ops (by kernel_rfl) (fun K hK => ?_)
  simp (disch := first | omega | (simp only [lnS]; try omega; done)) [-getElem?_pos, -getElem?_neg, h0, hwl]
  have hfl := hf.len
  refine ⟨by kernel_rfl, (numbers_ac hw1 (lt2 (hf.trans hf0)) (by rw [List.length_append]; omega) hs1' (by simp; omega) (by simp; omega)).mono ?_⟩
  rintro v1 H1 ⟨F2, hw2, hf2⟩
  try simp (disch := first | omega | (simp only [lnS]; try omega; done)) [-getElem?_pos, -getElem?_neg]
  refine hK _ _ ?_; clear hK K
  have e1 : numsB [((s.size : Nat) : Int)] = numB s.size := by simp [numsB]
  rw [e1] at hw2
  have hf3 := hf.trans (hf0.trans hf2)
  obtain ⟨w, w', H', F3, hgw, hnw, hap, hnw', hcw', hgw', hwr, hfr⟩ := wr_appstr (nro := nro) (s := s) hw2 (lt2 hf3) (by rw [List.length_append]; omega)
  (refine aw_ops (by kernel_rfl) (fun K hK => ?_); simp (disch := first | omega | (simp only [lnS]; try omega; done)) [-getElem?_pos, -getElem?_neg, h0, hgw, hgw', hnw, hnw', hcw', -notTuple, nt_sl, -xappstr, hap, hnp]; refine hK _ _ ?_; clear hK K)
  (refine aw_ops (by kernel_rfl) (fun K hK => ?_); simp (disch := first | omega | (simp only [lnS]; try omega; done)) [-getElem?_pos, -getElem?_neg, h8]; refine hK _ _ ?_; clear hK K)
  refine ⟨c - 1, by omega, i + 1, by omega, by (first | (simp [put_at, put_none, fr0_at]; done) | rfl), by (first | (simp [put_at, put_none, fr0_at, h7]; done) | rfl), by (first | (simp [put_at, put_none, fr0_at, h6]; done) | rfl), by (first | (simp [put_at, put_none, fr0_at, h0]; done) | rfl), _, ?_, hf3.trans hfr⟩
  rw [textsB_next hx, textB]
  simp only [← List.append_assoc] at hwr ⊢
  exact hwr
end
section
theorem hiG_cut {n k : Nat} (h : n / 128 ^ (k + 1) = 0) : ∀ {g : Nat}, k ≤ g → hiG n g = hiG n k := by
  intro g
  induction g with
  | zero => intro hk; obtain rfl : k = 0 := by omega
            rfl
  | succ g ih =>
    intro hk
    rcases Nat.eq_or_lt_of_le hk with rfl | hk
    · rfl
    · have hz : n / 128 ^ (g + 1) = 0 := by
        have h1 : n < 128 ^ (k + 1) := by
          rcases Nat.div_eq_zero_iff.1 h with h2 | h2
          · have : 0 < 128 ^ (k + 1) := Nat.pow_pos (by omega); omega
          · exact h2
        exact Nat.div_eq_of_lt (Nat.lt_of_lt_of_le h1 (Nat.pow_le_pow_right (by omega) (by omega)))
      rw [hiG, if_pos hz, List.nil_append]
      exact ih (by omega)
/-- The bytes from the k-th group on down. -/
def lowB (n k : Nat) : List Int := hiG n k ++ [((n % 128 : Nat) : Int)]
theorem lowB_next {n k : Nat} (h : n / 128 ^ (k + 1) ≠ 0) : lowB n (k + 1) = (((n / 128 ^ (k + 1) % 128 : Nat) : Int) + 128) :: lowB n k := by
  simp [lowB, hiG, h]
theorem lowB_len (n k : Nat) : (lowB n k).length ≤ k + 1 := by
  have := hiG_len n k
  simp [lowB]; omega
attribute [local simp] wb_bool wb_undef XL_nil XL_cons XLc_val XLc_call step1_eq stepW_t stepW_f stepC_n stepC_s stepX_s stepX_n stepN_s calleeX oneV xop_eq xopR_s xopR_n wantedA_eq wantedG_n wantedG_s plain1_int plain1_bool plain1_string bits_i64 bits_u64 bits_u32 bits_u16 bits_u8 xeqA xagg xcmp xarr allK_iv num_iv calleeOf xread xeff xbin xint xnil xun xstr xload xconv xpart xfield xfieldAddr xindexAddr xindex bnd asInt? xslice xlen xmin xmax xbuild xfill xappend xapp2 xappstr xappmk xcap xcopy xcells eval_tmp eval_const put_at put_none fr0_at cells_agg cells_int cells_bool cells_string cells_ptr cells_slice notTuple tab iv_all hget_app hget_app0 hget_cons0 hget_cons set_app set_app0 setR setR_one QL_nil QL_cons QLc_val stepQ_t stepQ_f stepQC_n stepQC_s stepQX_s SL_nil SL_cons SLc_val stepS_t stepS_f ltT ltF leT leF eqT eqF ltTn ltFn leTn leFn eqTn eqFn beqT beqF bneT bneF wi64 wu64 wu32 wu16 wu8 tmodP tdivP hgetL hgetNe hgetEq setL nums_def nums_len Nat.succ_le_of_lt List.getElem?_cons_zero List.getElem?_cons_succ Option.getD_some Int.toNat_add Int.toNat_mul agB agI agS agP agL agA okB okI okS okP okSl okA
theorem refNumber_ac {H : AH} {γ : Nat → Option Nat} {nro n : Nat} (hn : n < 4294967296) (hnl : nro ≤ H.length) :
    AC Tryz.prog nro γ 72 #[.int .u32 (n : Nat)] H (fun v' H' => v' = .string (strOfNums (numB n)) ∧ ∃ L, H' = H ++ L) := by
  have hmm : n % 128 < 128 := Nat.mod_lt _ (by omega)
  have hw0 : IntKind.u8.wrap ((n : Int) % 128) = (n : Int) % 128 := wrap8_in (by omega)
  obtain ⟨x0, hx0⟩ : ∃ x0 : Int, x0 = (n : Int) % 128 := ⟨_, rfl⟩
  rw [← hx0] at hw0
  have hb0 : byteList [.int .u8 x0] = some [x0] := byteList_iv [x0]
  refine ac_of_aw Tryz.func72 rfl Tryz.ntmps72 Tryz.results72 (by simp) ?_
  refine aw_seq ?_
  (refine aw_ops (by kernel_rfl) (fun K hK => ?_); simp (disch := first | omega | (simp only [lnS]; try omega; done)) [-getElem?_pos, -getElem?_neg]; refine hK _ _ ?_; clear hK K)
  refine aw_seq ?_
  (refine aw_ops (by kernel_rfl) (fun K hK => ?_); simp (disch := first | omega | (simp only [lnS]; try omega; done)) [-getElem?_pos, -getElem?_neg, ← hx0, hw0, hb0]; refine hK _ _ ?_; clear hK K)
  refine aw_seq ?_
  refine aw_seq ?_
  (refine aw_ops (by kernel_rfl) (fun K hK => ?_); simp (disch := first | omega | (simp only [lnS]; try omega; done)) [-getElem?_pos, -getElem?_neg]; refine hK _ _ ?_; clear hK K)
  refine aw_cut (fun α G => α 3 = .string (strOfNums (numB n)) ∧ ∃ L, G = H ++ L) ?_ ?_
  · refine aw_block ?_
    refine aw_loop (fun c α G => ∃ k : Nat, k + c = 4 ∧ α 0 = .int .u32 ((n / 128 ^ (k + 1) : Nat) : Int) ∧ α 3 = .string (strOfNums (lowB n k)) ∧ ∃ L, G = H ++ L) 4 ?_ ?_
    · refine ⟨0, by omega, by simp [put_at], ?_, _, rfl⟩
      simp [put_at, lowB, hiG, hx0]
    rintro c α G ⟨k, hkc, h0, h3, L, rfl⟩
    obtain ⟨m, hm⟩ : ∃ m, m = n / 128 ^ (k + 1) := ⟨_, rfl⟩
    rw [← hm] at h0
    have hmn : m ≤ n := by rw [hm]; exact Nat.div_le_self _ _
    refine aw_seq ?_
    refine aw_seq ?_
    by_cases hz : m = 0
    · (refine aw_ops (by kernel_rfl) (fun K hK => ?_); simp (disch := first | omega | (simp only [lnS]; try omega; done)) [-getElem?_pos, -getElem?_neg, h0, hz]; refine hK _ _ ?_; clear hK K)
      refine aw_f (by (first | (simp [eval_tmp, put_at, hz]; done) | (simp [eval_tmp, put_at, hz]; omega))) (by kernel_rfl) ?_
      refine aw_exit ?_
      refine ⟨?_, _, rfl⟩
      have e : numB n = lowB n k := by
        unfold numB lowB
        rw [hiG_cut (by rw [← hm]; exact hz) (by omega : k ≤ 4)]
      rw [e]
      simp [put_at, h3]
    · have hk4 : k < 4 := by
        rcases Nat.lt_or_ge k 4 with h | h
        · exact h
        · exfalso
          obtain rfl : k = 4 := by omega
          apply hz; rw [hm]; exact Nat.div_eq_of_lt (by omega)
      have hpos : 0 < m := by omega
      have hmm : m % 128 < 128 := Nat.mod_lt _ (by omega)
      have hw2 : IntKind.u32.wrap ((m : Int) % 128 + 128) = (m : Int) % 128 + 128 := by simp only [IntKind.wrap_u32']; omega
      have hw1 : IntKind.u8.wrap ((m : Int) % 128 + 128) = (m : Int) % 128 + 128 := wrap8_in (by omega)
      obtain ⟨x1, hx1⟩ : ∃ x1 : Int, x1 = (m : Int) % 128 + 128 := ⟨_, rfl⟩
      rw [← hx1] at hw1 hw2
      have hb1 : byteList [.int .u8 x1] = some [x1] := byteList_iv [x1]
      have hsz : (strOfNums [x1]).size + (strOfNums (lowB n k)).size ≤ 9223372036854775807 := by
        rw [sn_size, sn_size]
        have := lowB_len n k
        simp; omega
      (refine aw_ops (by kernel_rfl) (fun K hK => ?_); simp (disch := first | omega | (simp only [lnS]; try omega; done)) [-getElem?_pos, -getElem?_neg, h0, hpos]; refine hK _ _ ?_; clear hK K)
      refine aw_t (by (first | (simp [eval_tmp, put_at, hpos]; done) | (simp [eval_tmp, put_at, hpos]; omega))) (by kernel_rfl) ?_
      refine aw_skip ?_
      refine aw_seq ?_
      refine aw_block ?_
      (refine aw_ops (by kernel_rfl) (fun K hK => ?_); simp (disch := first | omega | (simp only [lnS]; try omega; done)) [-getElem?_pos, -getElem?_neg, h0, h3, ← hx1, hw1, hw2, hb1, hsz, sn_app]; refine hK _ _ ?_; clear hK K)
      (refine aw_ops (by kernel_rfl) (fun K hK => ?_); simp (disch := first | omega | (simp only [lnS]; try omega; done)) [-getElem?_pos, -getElem?_neg, h0]; refine hK _ _ ?_; clear hK K)
      refine ⟨c - 1, by omega, k + 1, by omega, ?_, ?_, ?_⟩
      · have e : n / 128 ^ (k + 1 + 1) = m / 128 := by rw [hm, Nat.div_div_eq_div_mul, ← Nat.pow_succ]
        rw [e]
        simp [put_at]
      · have e := lowB_next (n := n) (k := k) (by rw [← hm]; exact hz)
        rw [e, ← hm]
        simp [put_at, hx1]
      · exact ⟨_, rfl⟩
  · rintro α G ⟨h3, L, rfl⟩
    refine aw_seq ?_
    (refine aw_ops (by kernel_rfl) (fun K hK => ?_); simp (disch := first | omega | (simp only [lnS]; try omega; done)) [-getElem?_pos, -getElem?_neg, h3]; refine hK _ _ ?_; clear hK K)
    (refine aw_ret ?_; simp (disch := first | omega | (simp only [lnS]; try omega; done)) [-getElem?_pos, -getElem?_neg, thenQ_ret, scopeQ_ret, inBlockQ_ret, RQ, resL, resV])
end
section
/-- A reader's cells. -/
def rdC (l : List Int) (e : Int) : Blk := ⟨[.string (strOfNums l), .int .i64 e], 127, none⟩
theorem and127 : ∀ a : Nat, a < 256 → bitsOf .and .u8 (a : Int) 127 = ((a % 128 : Nat) : Int) := by decide +kernel
theorem or_low (n b : Nat) (hn : n < 4294967296) (hb : b < 128) : bitsOf .or .u64 ((n * 128 : Nat) : Int) (b : Int) = ((n * 128 + b : Nat) : Int) := by
  show IntKind.u64.wrap ((BitVec.ofInt 64 ((n * 128 : Nat) : Int) ||| BitVec.ofInt 64 (b : Int)).toNat : Int) = _
  have h : (BitVec.ofInt 64 ((n * 128 : Nat) : Int) ||| BitVec.ofInt 64 (b : Int)).toNat = n * 128 + b := by
    rw [BitVec.toNat_or]
    have h1 : (BitVec.ofInt 64 ((n * 128 : Nat) : Int)).toNat = n * 128 := by rw [BitVec.toNat_ofInt]; omega
    have h2 : (BitVec.ofInt 64 (b : Int)).toNat = b := by rw [BitVec.toNat_ofInt]; omega
    rw [h1, h2]
    have := Nat.shiftLeft_add_eq_or_of_lt (i := 7) (b := b) (by omega) n
    rw [Nat.shiftLeft_eq] at this
    exact this.symm
  rw [h]
  exact wu64 ⟨by omega, by omega⟩
/-- A number of at most so many bytes behind those that make n: it, what is left, the error. -/
def rdN : Nat → Nat → List Int → Nat × List Int × Int
  | 0, _, l => (0, l, 4)
  | _ + 1, _, [] => (0, [], 3)
  | g + 1, n, b :: l => if (g = 4 ∧ b = 128) ∨ 4294967295 < n * 128 + b.toNat % 128 then (0, l, 4) else if b < 128 then (n * 128 + b.toNat % 128, l, 0) else rdN g (n * 128 + b.toNat % 128) l
def rdNum (l : List Int) : Nat × List Int × Int := if (rdN 5 0 l).2.2 = 0 then rdN 5 0 l else (0, l, (rdN 5 0 l).2.2)
theorem rdN_cons {l : List Int} {i g n : Nat} {b : Int} (hb : l[i]? = some b) : rdN (g + 1) n (l.drop i) = if (g = 4 ∧ b = 128) ∨ 4294967295 < n * 128 + b.toNat % 128 then (0, l.drop (i + 1), 4) else if b < 128 then (n * 128 + b.toNat % 128, l.drop (i + 1), 0) else rdN g (n * 128 + b.toNat % 128) (l.drop (i + 1)) := by
  obtain ⟨hi, he⟩ := List.getElem?_eq_some_iff.1 hb
  rw [List.drop_eq_getElem_cons hi, he, rdN]
attribute [local simp] wb_bool wb_undef XL_nil XL_cons XLc_val XLc_call step1_eq stepW_t stepW_f stepC_n stepC_s stepX_s stepX_n stepN_s calleeX oneV xop_eq xopR_s xopR_n wantedA_eq wantedG_n wantedG_s plain1_int plain1_bool plain1_string bits_i64 bits_u64 bits_u32 bits_u16 bits_u8 xeqA xagg xcmp xarr allK_iv num_iv calleeOf xread xeff xbin xint xnil xun xstr xload xconv xpart xfield xfieldAddr xindexAddr xindex bnd asInt? xslice xlen xmin xmax xbuild xfill xappend xapp2 xappstr xappmk xcap xcopy xcells eval_tmp eval_const put_at put_none fr0_at cells_agg cells_int cells_bool cells_string cells_ptr cells_slice notTuple tab iv_all hget_app hget_app0 hget_cons0 hget_cons set_app set_app0 setR setR_one QL_nil QL_cons QLc_val stepQ_t stepQ_f stepQC_n stepQC_s stepQX_s SL_nil SL_cons SLc_val stepS_t stepS_f ltT ltF leT leF eqT eqF ltTn ltFn leTn leFn eqTn eqFn beqT beqF bneT bneF wi64 wu64 wu32 wu16 wu8 tmodP tdivP hgetL hgetNe hgetEq setL nums_def nums_len Nat.succ_le_of_lt List.getElem?_cons_zero List.getElem?_cons_succ Option.getD_some Int.toNat_add Int.toNat_mul agB agI agS agP agL agA okB okI okS okP okSl okA
theorem number_ac {H : AH} {γ : Nat → Option Nat} {nro p : Nat} {l : List Int} (hp : nro ≤ p) (h : hget H p = some (rdC l 0)) (hb : By l) (hl : l.length ≤ 1000000) :
    AC Tryz.prog nro γ 95 #[.pointer (some ⟨p, 0, none⟩)] H (fun v' H' => v' = .int .u32 ((rdNum l).1 : Nat) ∧ H' = H.set p (some (rdC (rdNum l).2.1 (rdNum l).2.2))) := by
  unfold rdC at h ⊢
  have hsz := sn_size l
  refine ac_of_aw Tryz.func95 rfl Tryz.ntmps95 Tryz.results95 (by simp) ?_
  refine aw_seq ?_
  (refine aw_ops (by kernel_rfl) (fun K hK => ?_); simp (disch := first | omega | (simp only [lnS]; try omega; done)) [-getElem?_pos, -getElem?_neg]; refine hK _ _ ?_; clear hK K)
  refine aw_scope ?_
  refine aw_seq ?_
  refine aw_seq ?_
  (refine aw_ops (by kernel_rfl) (fun K hK => ?_); simp (disch := first | omega | (simp only [lnS]; try omega; done)) [-getElem?_pos, -getElem?_neg, h]; refine hK _ _ ?_; clear hK K)
  refine aw_f (by (first | (simp [eval_tmp, put_at]; done) | (simp [eval_tmp, put_at]; omega))) (by kernel_rfl) ?_
  refine aw_skip ?_
  refine aw_seq ?_
  (refine aw_ops (by kernel_rfl) (fun K hK => ?_); simp (disch := first | omega | (simp only [lnS]; try omega; done)) [-getElem?_pos, -getElem?_neg]; refine hK _ _ ?_; clear hK K)
  refine aw_seq ?_
  (refine aw_ops (by kernel_rfl) (fun K hK => ?_); simp (disch := first | omega | (simp only [lnS]; try omega; done)) [-getElem?_pos, -getElem?_neg]; refine hK _ _ ?_; clear hK K)
  refine aw_seq ?_
  refine aw_label ?_
  refine aw_seq ?_
  refine aw_cut (fun α G => G = H ∧ α 0 = .pointer (some ⟨p, 0, none⟩) ∧ (rdN 5 0 l).2.2 ≠ 0 ∧ α 3 = .int .i64 (rdN 5 0 l).2.2) ?_ ?_
  case refine_2 =>
    rintro α G ⟨rfl, h0, hne, h3⟩
    have hr : rdNum l = (0, l, (rdN 5 0 l).2.2) := if_neg hne
    rw [hr]
    generalize (rdN 5 0 l).2.2 = e at h3
    refine aw_seq ?_
    (refine aw_ops (by kernel_rfl) (fun K hK => ?_); simp (disch := first | omega | (simp only [lnS]; try omega; done)) [-getElem?_pos, -getElem?_neg, h0, h3, h]; refine hK _ _ ?_; clear hK K)
    refine aw_seq ?_
    (refine aw_ops (by kernel_rfl) (fun K hK => ?_); simp (disch := first | omega | (simp only [lnS]; try omega; done)) [-getElem?_pos, -getElem?_neg]; refine hK _ _ ?_; clear hK K)
    (refine aw_ret ?_; simp (disch := first | omega | (simp only [lnS]; try omega; done)) [-getElem?_pos, -getElem?_neg, thenQ_ret, scopeQ_ret, inBlockQ_ret, RQ, resL, resV])
  refine aw_seq ?_
  (refine aw_ops (by kernel_rfl) (fun K hK => ?_); simp (disch := first | omega | (simp only [lnS]; try omega; done)) [-getElem?_pos, -getElem?_neg]; refine hK _ _ ?_; clear hK K)
  refine aw_block ?_
  refine aw_loop (fun c α G => G = H ∧ ∃ i n : Nat, i + c = 5 ∧ α 12 = .int .i64 (i : Nat) ∧ α 4 = .int .u64 (n : Nat) ∧ α 3 = .int .i64 4 ∧ α 0 = .pointer (some ⟨p, 0, none⟩) ∧ n ≤ 4294967295 ∧ i ≤ l.length ∧ rdN 5 0 l = rdN c n (l.drop i)) 5 ?_ ?_
  · exact ⟨rfl, 0, 0, by omega, by (first | (simp [put_at, put_none, fr0_at]; done) | rfl), by (first | (simp [put_at, put_none, fr0_at]; done) | rfl), by (first | (simp [put_at, put_none, fr0_at]; done) | rfl), by (first | (simp [put_at, put_none, fr0_at]; done) | rfl), by omega, by omega, rfl⟩
  rintro c α G ⟨rfl, i, n, hic, h12, h4, h3, h0, hn, hil, hrd⟩
  refine aw_seq ?_
  (refine aw_ops (by kernel_rfl) (fun K hK => ?_); simp (disch := first | omega | (simp only [lnS]; try omega; done)) [-getElem?_pos, -getElem?_neg, h12]; refine hK _ _ ?_; clear hK K)
  refine aw_seq ?_
  by_cases hi : i < 5
  case neg =>
    refine aw_f (by (first | (simp [eval_tmp, put_at, hi]; done) | (simp [eval_tmp, put_at, hi]; omega))) (by kernel_rfl) ?_
    refine aw_exit ?_
    obtain rfl : c = 0 := by omega
    rw [hrd]
    exact ⟨rfl, by (first | (simp [put_at, put_none, fr0_at, h0]; done) | rfl), by simp [rdN], by (first | (simp [put_at, put_none, fr0_at, h3, rdN]; done) | rfl)⟩
  refine aw_t (by (first | (simp [eval_tmp, put_at, hi]; done) | (simp [eval_tmp, put_at, hi]; omega))) (by kernel_rfl) ?_
  refine aw_skip ?_
  refine aw_seq ?_
  refine aw_block ?_
  refine aw_seq ?_
  (refine aw_ops (by kernel_rfl) (fun K hK => ?_); simp (disch := first | omega | (simp only [lnS]; try omega; done)) [-getElem?_pos, -getElem?_neg, h12]; refine hK _ _ ?_; clear hK K)
  refine aw_seq ?_
  refine aw_seq ?_
  obtain ⟨g, rfl⟩ : ∃ g, c = g + 1 := ⟨c - 1, by omega⟩
  (refine aw_ops (by kernel_rfl) (fun K hK => ?_); simp (disch := first | omega | (simp only [lnS]; try omega; done)) [-getElem?_pos, -getElem?_neg, h0, h, hsz]; refine hK _ _ ?_; clear hK K)
  by_cases hlast : i = l.length
  · refine aw_t (by (first | (simp [eval_tmp, put_at, hlast]; done) | (simp [eval_tmp, put_at, hlast]; omega))) (by kernel_rfl) ?_
    refine aw_seq ?_
    (refine aw_ops (by kernel_rfl) (fun K hK => ?_); simp (disch := first | omega | (simp only [lnS]; try omega; done)) [-getElem?_pos, -getElem?_neg]; refine hK _ _ ?_; clear hK K)
    refine aw_exit ?_
    have : rdN (g + 1) n (l.drop i) = (0, [], 3) := by rw [hlast, List.drop_length]; rfl
    rw [hrd, this]
    exact ⟨rfl, by (first | (simp [put_at, put_none, fr0_at, h0]; done) | rfl), by simp, by (first | (simp [put_at, put_none, fr0_at]; done) | rfl)⟩
  refine aw_f (by (first | (simp [eval_tmp, put_at, hlast]; done) | (simp [eval_tmp, put_at, hlast]; omega))) (by kernel_rfl) ?_
  refine aw_skip ?_
  have hil' : i < l.length := by omega
  obtain ⟨b, hbi⟩ : ∃ b, l[i]? = some b := ⟨_, List.getElem?_eq_getElem hil'⟩
  have hb2 := hb b (List.mem_of_getElem? hbi)
  have hgb : gb (strOfNums l) i = b := by rw [gb_sn hb, List.getD_eq_getElem?_getD, hbi]; rfl
  rw [rdN_cons hbi] at hrd
  obtain ⟨k, rfl⟩ : ∃ k : Nat, b = (k : Nat) := ⟨b.toNat, by omega⟩
  refine aw_seq ?_
  (refine aw_ops (by kernel_rfl) (fun K hK => ?_); simp (disch := first | omega | (simp only [lnS]; try omega; done)) [-getElem?_pos, -getElem?_neg, h0, h, hsz, hgb]; refine hK _ _ ?_; clear hK K)
  have hand := and127 k (by omega)
  obtain ⟨m, hm⟩ : ∃ m, m = k % 128 := ⟨_, rfl⟩
  have hm128 : m < 128 := by omega
  have hor := or_low n m (by omega) hm128
  simp only [Int.toNat_natCast] at hrd
  rw [← hm] at hand hrd
  obtain ⟨n2, hn2⟩ : ∃ n2, n2 = n * 128 + m := ⟨_, rfl⟩
  rw [← hn2] at hor hrd
  rw [Int.natCast_mul] at hor
  have hor : bitsOf .or .u64 ((n : Int) * 128) (m : Int) = (n2 : Int) := hor
  refine aw_seq ?_
  (refine aw_ops (by kernel_rfl) (fun K hK => ?_); simp (disch := first | omega | (simp only [lnS]; try omega; done)) [-getElem?_pos, -getElem?_neg, h4, hand, hor]; refine hK _ _ ?_; clear hK K)
  have hbad : ∀ q : (g = 4 ∧ ((k : Nat) : Int) = 128) ∨ 4294967295 < n2, rdN 5 0 l = (0, l.drop (i + 1), 4) := fun q => by rw [hrd, if_pos q]
  have hgood : ¬ ((g = 4 ∧ ((k : Nat) : Int) = 128) ∨ 4294967295 < n2) → k < 128 → rdNum l = (n2, l.drop (i + 1), 0) := fun q q2 => by
    have : rdN 5 0 l = (n2, l.drop (i + 1), 0) := by rw [hrd, if_neg q, if_pos (by omega)]
    unfold rdNum
    rw [this]
    rfl
  have hnext : ¬ ((g = 4 ∧ ((k : Nat) : Int) = 128) ∨ 4294967295 < n2) → ¬ k < 128 → rdN 5 0 l = rdN g n2 (l.drop (i + 1)) := fun q q2 => by
    rw [hrd, if_neg q, if_neg (by omega)]
  have hex := ex_drop l (i + 1)
  refine aw_block ?_
  refine aw_seq ?_
  obtain ⟨bad, hbd⟩ : ∃ bad : Bool, bad = decide ((g = 4 ∧ ((k : Nat) : Int) = 128) ∨ 4294967295 < n2) := ⟨_, rfl⟩
  refine aw_cut (fun α2 G2 => G2 = G ∧ α2 34 = .bool bad ∧ α2 0 = .pointer (some ⟨p, 0, none⟩) ∧ α2 3 = .int .i64 4 ∧ α2 4 = .int .u64 (n2 : Nat) ∧ α2 5 = .int .i64 (i : Nat) ∧ α2 6 = .int .u8 (k : Nat) ∧ α2 12 = .int .i64 (i : Nat)) ?_ ?_
  · refine aw_seq ?_
    by_cases q1 : i = 0 ∧ k = 128
    · obtain ⟨rfl, rfl⟩ := q1
      have : bad = true := by rw [hbd]; exact decide_eq_true (.inl ⟨by omega, rfl⟩)
      rw [this]
      (refine aw_ops (by kernel_rfl) (fun K hK => ?_); simp (disch := first | omega | (simp only [lnS]; try omega; done)) [-getElem?_pos, -getElem?_neg]; refine hK _ _ ?_; clear hK K)
      refine aw_t (by (first | (simp [eval_tmp, put_at]; done) | (simp [eval_tmp, put_at]; omega))) (by kernel_rfl) ?_
      refine aw_skip ?_
      exact ⟨rfl, by (first | (simp [put_at, put_none, fr0_at]; done) | rfl), by (first | (simp [put_at, put_none, fr0_at, h0]; done) | rfl), by (first | (simp [put_at, put_none, fr0_at, h3]; done) | rfl), by (first | (simp [put_at, put_none, fr0_at]; done) | rfl), by (first | (simp [put_at, put_none, fr0_at]; done) | rfl), by (first | (simp [put_at, put_none, fr0_at]; done) | rfl), by (first | (simp [put_at, put_none, fr0_at, h12]; done) | rfl)⟩
    have q4 : ¬ (g = 4 ∧ ((k : Nat) : Int) = 128) := by omega
    have hbd : bad = decide (4294967295 < n2) := hbd.trans (decide_eq_decide.2 ⟨fun h => h.resolve_left q4, .inr⟩)
    by_cases q0 : i = 0
    · subst q0
      have q6 : ¬ k = 128 := by omega
      (refine aw_ops (by kernel_rfl) (fun K hK => ?_); simp (disch := first | omega | (simp only [lnS]; try omega; done)) [-getElem?_pos, -getElem?_neg, q6]; refine hK _ _ ?_; clear hK K)
      refine aw_f (by (first | (simp [eval_tmp, put_at, q6]; done) | (simp [eval_tmp, put_at, q6]; omega))) (by kernel_rfl) ?_
      (refine aw_ops (by kernel_rfl) (fun K hK => ?_); simp (disch := first | omega | (simp only [lnS]; try omega; done)) [-getElem?_pos, -getElem?_neg]; refine hK _ _ ?_; clear hK K)
      exact ⟨rfl, by simp [put_at, hbd]; omega, by (first | (simp [put_at, put_none, fr0_at, h0]; done) | rfl), by (first | (simp [put_at, put_none, fr0_at, h3]; done) | rfl), by (first | (simp [put_at, put_none, fr0_at]; done) | rfl), by (first | (simp [put_at, put_none, fr0_at]; done) | rfl), by (first | (simp [put_at, put_none, fr0_at]; done) | rfl), by (first | (simp [put_at, put_none, fr0_at, h12]; done) | rfl)⟩
    · (refine aw_ops (by kernel_rfl) (fun K hK => ?_); simp (disch := first | omega | (simp only [lnS]; try omega; done)) [-getElem?_pos, -getElem?_neg, q0]; refine hK _ _ ?_; clear hK K)
      refine aw_f (by (first | (simp [eval_tmp, put_at, q0]; done) | (simp [eval_tmp, put_at, q0]; omega))) (by kernel_rfl) ?_
      (refine aw_ops (by kernel_rfl) (fun K hK => ?_); simp (disch := first | omega | (simp only [lnS]; try omega; done)) [-getElem?_pos, -getElem?_neg]; refine hK _ _ ?_; clear hK K)
      exact ⟨rfl, by simp [put_at, hbd]; omega, by (first | (simp [put_at, put_none, fr0_at, h0]; done) | rfl), by (first | (simp [put_at, put_none, fr0_at, h3]; done) | rfl), by (first | (simp [put_at, put_none, fr0_at]; done) | rfl), by (first | (simp [put_at, put_none, fr0_at]; done) | rfl), by (first | (simp [put_at, put_none, fr0_at]; done) | rfl), by (first | (simp [put_at, put_none, fr0_at, h12]; done) | rfl)⟩
  clear h0 h3 h4 h12
  rintro α2 G2 ⟨rfl, h34, h0, h3, h4, h5, h6, h12⟩
  by_cases q : (g = 4 ∧ ((k : Nat) : Int) = 128) ∨ 4294967295 < n2
  · rw [decide_eq_true q] at hbd
    subst hbd
    refine aw_t (by (first | (simp [eval_tmp, put_at, h34]; done) | (simp [eval_tmp, put_at, h34]; omega))) (by kernel_rfl) ?_
    refine aw_exit ?_
    have := hbad q
    refine ⟨rfl, by (first | (simp [put_at, put_none, fr0_at, h0]; done) | rfl), by rw [this]; simp, by rw [this]; exact h3⟩
  rw [decide_eq_false q] at hbd
  subst hbd
  refine aw_f (by (first | (simp [eval_tmp, put_at, h34]; done) | (simp [eval_tmp, put_at, h34]; omega))) (by kernel_rfl) ?_
  refine aw_seq ?_
  (refine aw_ops (by kernel_rfl) (fun K hK => ?_); simp (disch := first | omega | (simp only [lnS]; try omega; done)) [-getElem?_pos, -getElem?_neg, h6]; refine hK _ _ ?_; clear hK K)
  by_cases q2 : k < 128
  · refine aw_t (by (first | (simp [eval_tmp, put_at, q2]; done) | (simp [eval_tmp, put_at, q2]; omega))) (by kernel_rfl) ?_
    refine aw_seq ?_
    (refine aw_ops (by kernel_rfl) (fun K hK => ?_); simp (disch := first | omega | (simp only [lnS]; try omega; done)) [-getElem?_pos, -getElem?_neg, h0, h, h5, hsz, hex]; refine hK _ _ ?_; clear hK K)
    refine aw_seq ?_
    (refine aw_ops (by kernel_rfl) (fun K hK => ?_); simp (disch := first | omega | (simp only [lnS]; try omega; done)) [-getElem?_pos, -getElem?_neg, h4]; refine hK _ _ ?_; clear hK K)
    (refine aw_ret ?_; simp (disch := first | omega | (simp only [lnS]; try omega; done)) [-getElem?_pos, -getElem?_neg, thenQ_ret, scopeQ_ret, inBlockQ_ret, RQ, resL, resV, hgood q q2])
  refine aw_f (by (first | (simp [eval_tmp, put_at, q2]; done) | (simp [eval_tmp, put_at, q2]; omega))) (by kernel_rfl) ?_
  refine aw_skip ?_
  (refine aw_ops (by kernel_rfl) (fun K hK => ?_); simp (disch := first | omega | (simp only [lnS]; try omega; done)) [-getElem?_pos, -getElem?_neg, h12]; refine hK _ _ ?_; clear hK K)
  exact ⟨g, by omega, rfl, i + 1, n2, by omega, by (first | (simp [put_at, put_none, fr0_at]; done) | rfl), by (first | (simp [put_at, put_none, fr0_at, h4]; done) | rfl), by (first | (simp [put_at, put_none, fr0_at, h3]; done) | rfl), by (first | (simp [put_at, put_none, fr0_at, h0]; done) | rfl), by omega, by omega, hnext q q2⟩
end
end Go.Proofs.YtgamobjfeaeddaaGreatDoor
