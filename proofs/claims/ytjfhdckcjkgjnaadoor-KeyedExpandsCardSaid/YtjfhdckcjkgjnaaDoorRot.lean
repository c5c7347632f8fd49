/-
  Words turned: RotateLeft32, sigma, spread, as plain functions.
-/
import Derived.Test.YtjfhdckcjkgjnaaDoorXn
import Derived.Test.YtjfhdckcjkgjnaaDoorXd
import Derived.Test.YtjfhdckcjkgjnaaDoorTab
namespace Go.Proofs.YtjfhdckcjkgjnaaDoor
open Go Go.RowKit
set_option linter.unusedSimpArgs false
set_option linter.unusedVariables false
set_option maxRecDepth 100000
set_option maxHeartbeats 1000000

theorem wrapU64 (n : Int) : IntKind.u64.wrap n = n % 18446744073709551616 := by simp [IntKind.wrap, IntKind.bits, IntKind.signed]
theorem wrapU32 (n : Int) : IntKind.u32.wrap n = n % 4294967296 := by simp [IntKind.wrap, IntKind.bits, IntKind.signed]
/-- A word turned right. -/
def rr (x a : Int) : Int := bitsOf .or .u32 (IntKind.u32.wrap (x * 2 ^ (min (32 - a).toNat 32))) (x.fdiv (2 ^ (min a.toNat 32)))
def sigF (x a b c : Int) : Int := bitsOf .xor .u32 (bitsOf .xor .u32 (rr x a) (rr x b)) (rr x c)
def sprF (x a b c : Int) : Int := bitsOf .xor .u32 (bitsOf .xor .u32 (rr x a) (rr x b)) (x.fdiv (2 ^ (min c.toNat 32)))
theorem and31 : ∀ a : Nat, a < 31 → bitsOf .and .u64 (18446744073709551616 - ((a : Int) + 1)) 31 = 32 - ((a : Int) + 1) := by decide +kernel
theorem rot_vc (x a : Int) (ha : 1 ≤ a ∧ a ≤ 31) : VC Tryd.prog 43 #[.int .u32 x, .int .i64 (-a)] (.int .u32 (rr x a)) := by
  refine vc_of_ac (by simp [pv_iv, pv_int, pv_bool, pv_string, pv_tup2, pv_tup3, iv_plain, p2_int, p2_bool, p2_string]) (by simp [pv_iv, pv_int, pv_bool, pv_string, pv_tup2, pv_tup3, iv_plain, p2_int, p2_bool, p2_string]) ?_
  refine ac_of_aw Tryd.func43 rfl Tryd.ntmps43 Tryd.results43 (by simp) ?_
  have e1 : IntKind.u64.wrap (-a) = 18446744073709551616 - a := by simp only [wrapU64]; omega
  have e2 : bitsOf .and .u64 (18446744073709551616 - a) 31 = 32 - a := by
    have := and31 (a.toNat - 1) (by omega)
    rw [show ((a.toNat - 1 : Nat) : Int) + 1 = a by omega] at this
    exact this
  obtain ⟨s, hs⟩ : ∃ s : Int, s = 32 - a := ⟨_, rfl⟩
  rw [← hs] at e2
  have e3 : IntKind.u64.wrap (32 - s) = a := by simp only [wrapU64]; omega
  have h1 : ¬ s < 0 := by omega
  have h2 : ¬ a < 0 := by omega
  have hr : rr x a = bitsOf .or .u32 (IntKind.u32.wrap (x * 2 ^ (min s.toNat 32))) (x.fdiv (2 ^ (min a.toNat 32))) := by rw [rr, hs]
  rw [hr]
  refine aw_seq ?_
  (refine aw_ops (by kernel_rfl) (fun K hK => ?_); simp [wb_bool, wb_undef, XL_nil, XL_cons, XLc_val, XLc_call, step1_eq, stepW_t, stepW_f, stepC_n, stepC_s, stepX_s, stepX_n, stepN_s, calleeX, oneV, xop_eq, xopR_s, xopR_n, wantedA_eq, wantedG_n, wantedG_s, plain1_int, plain1_bool, plain1_string, bits_i64, bits_u64, bits_u32, bits_u16, bits_u8, xeqA, xagg, xcmp, xarr, allK_iv, num_iv, calleeOf, xread, xeff, xbin, xint, xnil, xun, xstr, xload, xconv, xpart, xfield, xfieldAddr, xindexAddr, xindex, bnd, asInt?, xslice, xlen, xmin, xmax, xbuild, xfill, xappend, xapp2, xappstr, xappmk, xcap, xcopy, xcells, eval_tmp, eval_const, put_at, put_none, fr0_at, cells_agg, cells_int, cells_bool, cells_string, cells_ptr, cells_slice, notTuple, tab, iv_all, okD, isAggD, hget_app, hget_app0, hget_cons0, hget_cons, set_app, set_app0, setR, setR_one, QL_nil, QL_cons, QLc_val, stepQ_t, stepQ_f, stepQC_n, stepQC_s, stepQX_s, SL_nil, SL_cons, SLc_val, stepS_t, stepS_f]; refine hK _ _ ?_; clear hK K)
  refine aw_seq ?_
  (refine aw_ops (by kernel_rfl) (fun K hK => ?_); simp [wb_bool, wb_undef, XL_nil, XL_cons, XLc_val, XLc_call, step1_eq, stepW_t, stepW_f, stepC_n, stepC_s, stepX_s, stepX_n, stepN_s, calleeX, oneV, xop_eq, xopR_s, xopR_n, wantedA_eq, wantedG_n, wantedG_s, plain1_int, plain1_bool, plain1_string, bits_i64, bits_u64, bits_u32, bits_u16, bits_u8, xeqA, xagg, xcmp, xarr, allK_iv, num_iv, calleeOf, xread, xeff, xbin, xint, xnil, xun, xstr, xload, xconv, xpart, xfield, xfieldAddr, xindexAddr, xindex, bnd, asInt?, xslice, xlen, xmin, xmax, xbuild, xfill, xappend, xapp2, xappstr, xappmk, xcap, xcopy, xcells, eval_tmp, eval_const, put_at, put_none, fr0_at, cells_agg, cells_int, cells_bool, cells_string, cells_ptr, cells_slice, notTuple, tab, iv_all, okD, isAggD, hget_app, hget_app0, hget_cons0, hget_cons, set_app, set_app0, setR, setR_one, QL_nil, QL_cons, QLc_val, stepQ_t, stepQ_f, stepQC_n, stepQC_s, stepQX_s, SL_nil, SL_cons, SLc_val, stepS_t, stepS_f, e1, e2]; refine hK _ _ ?_; clear hK K)
  refine aw_seq ?_
  (refine aw_ops (by kernel_rfl) (fun K hK => ?_); simp [wb_bool, wb_undef, XL_nil, XL_cons, XLc_val, XLc_call, step1_eq, stepW_t, stepW_f, stepC_n, stepC_s, stepX_s, stepX_n, stepN_s, calleeX, oneV, xop_eq, xopR_s, xopR_n, wantedA_eq, wantedG_n, wantedG_s, plain1_int, plain1_bool, plain1_string, bits_i64, bits_u64, bits_u32, bits_u16, bits_u8, xeqA, xagg, xcmp, xarr, allK_iv, num_iv, calleeOf, xread, xeff, xbin, xint, xnil, xun, xstr, xload, xconv, xpart, xfield, xfieldAddr, xindexAddr, xindex, bnd, asInt?, xslice, xlen, xmin, xmax, xbuild, xfill, xappend, xapp2, xappstr, xappmk, xcap, xcopy, xcells, eval_tmp, eval_const, put_at, put_none, fr0_at, cells_agg, cells_int, cells_bool, cells_string, cells_ptr, cells_slice, notTuple, tab, iv_all, okD, isAggD, hget_app, hget_app0, hget_cons0, hget_cons, set_app, set_app0, setR, setR_one, QL_nil, QL_cons, QLc_val, stepQ_t, stepQ_f, stepQC_n, stepQC_s, stepQX_s, SL_nil, SL_cons, SLc_val, stepS_t, stepS_f, e3, h1, h2]; refine hK _ _ ?_; clear hK K)
  (refine aw_ret ?_; simp [thenQ_ret, inBlockQ_ret, RQ, resL, resV, xload, tab, okD, isAggD, hget_app, hget_app0, hget_cons0, hget_cons, notTuple, put_at, put_none])
theorem sigma_vc (x a b c : Int) (ha : 1 ≤ a ∧ a ≤ 31) (hb : 1 ≤ b ∧ b ≤ 31) (hc : 1 ≤ c ∧ c ≤ 31) : VC Tryd.prog 37 #[.int .u32 x, .int .i64 a, .int .i64 b, .int .i64 c] (.int .u32 (sigF x a b c)) := by
  refine vc_of_ac (by simp [pv_iv, pv_int, pv_bool, pv_string, pv_tup2, pv_tup3, iv_plain, p2_int, p2_bool, p2_string]) (by simp [pv_iv, pv_int, pv_bool, pv_string, pv_tup2, pv_tup3, iv_plain, p2_int, p2_bool, p2_string]) ?_
  refine ac_of_aw Tryd.func37 rfl Tryd.ntmps37 Tryd.results37 (by simp) ?_
  have e1 : IntKind.i64.wrap (-a) = -a := wrap64_in (by omega)
  have e2 : IntKind.i64.wrap (-b) = -b := wrap64_in (by omega)
  have e3 : IntKind.i64.wrap (-c) = -c := wrap64_in (by omega)
  refine aw_seq ?_
  (refine aw_ops (by kernel_rfl) (fun K hK => ?_); simp [wb_bool, wb_undef, XL_nil, XL_cons, XLc_val, XLc_call, step1_eq, stepW_t, stepW_f, stepC_n, stepC_s, stepX_s, stepX_n, stepN_s, calleeX, oneV, xop_eq, xopR_s, xopR_n, wantedA_eq, wantedG_n, wantedG_s, plain1_int, plain1_bool, plain1_string, bits_i64, bits_u64, bits_u32, bits_u16, bits_u8, xeqA, xagg, xcmp, xarr, allK_iv, num_iv, calleeOf, xread, xeff, xbin, xint, xnil, xun, xstr, xload, xconv, xpart, xfield, xfieldAddr, xindexAddr, xindex, bnd, asInt?, xslice, xlen, xmin, xmax, xbuild, xfill, xappend, xapp2, xappstr, xappmk, xcap, xcopy, xcells, eval_tmp, eval_const, put_at, put_none, fr0_at, cells_agg, cells_int, cells_bool, cells_string, cells_ptr, cells_slice, notTuple, tab, iv_all, okD, isAggD, hget_app, hget_app0, hget_cons0, hget_cons, set_app, set_app0, setR, setR_one, QL_nil, QL_cons, QLc_val, stepQ_t, stepQ_f, stepQC_n, stepQC_s, stepQX_s, SL_nil, SL_cons, SLc_val, stepS_t, stepS_f]; refine hK _ _ ?_; clear hK K)
  refine aw_seq ?_
  refine aw_ops (by kernel_rfl) (fun K hK => ?_)
  simp [wb_bool, wb_undef, XL_nil, XL_cons, XLc_val, XLc_call, step1_eq, stepW_t, stepW_f, stepC_n, stepC_s, stepX_s, stepX_n, stepN_s, calleeX, oneV, xop_eq, xopR_s, xopR_n, wantedA_eq, wantedG_n, wantedG_s, plain1_int, plain1_bool, plain1_string, bits_i64, bits_u64, bits_u32, bits_u16, bits_u8, xeqA, xagg, xcmp, xarr, allK_iv, num_iv, calleeOf, xread, xeff, xbin, xint, xnil, xun, xstr, xload, xconv, xpart, xfield, xfieldAddr, xindexAddr, xindex, bnd, asInt?, xslice, xlen, xmin, xmax, xbuild, xfill, xappend, xapp2, xappstr, xappmk, xcap, xcopy, xcells, eval_tmp, eval_const, put_at, put_none, fr0_at, cells_agg, cells_int, cells_bool, cells_string, cells_ptr, cells_slice, notTuple, tab, iv_all, okD, isAggD, hget_app, hget_app0, hget_cons0, hget_cons, set_app, set_app0, setR, setR_one, QL_nil, QL_cons, QLc_val, stepQ_t, stepQ_f, stepQC_n, stepQC_s, stepQX_s, SL_nil, SL_cons, SLc_val, stepS_t, stepS_f, e1, e2, e3]
  refine ⟨by kernel_rfl, ac_of_vc (by simp [pv_iv, pv_int, pv_bool, pv_string, pv_tup2, pv_tup3, iv_plain, p2_int, p2_bool, p2_string]) (rot_vc x a ha) ?_⟩
  refine ⟨by kernel_rfl, ac_of_vc (by simp [pv_iv, pv_int, pv_bool, pv_string, pv_tup2, pv_tup3, iv_plain, p2_int, p2_bool, p2_string]) (rot_vc x b hb) ?_⟩
  try simp [wb_bool, wb_undef, XL_nil, XL_cons, XLc_val, XLc_call, step1_eq, stepW_t, stepW_f, stepC_n, stepC_s, stepX_s, stepX_n, stepN_s, calleeX, oneV, xop_eq, xopR_s, xopR_n, wantedA_eq, wantedG_n, wantedG_s, plain1_int, plain1_bool, plain1_string, bits_i64, bits_u64, bits_u32, bits_u16, bits_u8, xeqA, xagg, xcmp, xarr, allK_iv, num_iv, calleeOf, xread, xeff, xbin, xint, xnil, xun, xstr, xload, xconv, xpart, xfield, xfieldAddr, xindexAddr, xindex, bnd, asInt?, xslice, xlen, xmin, xmax, xbuild, xfill, xappend, xapp2, xappstr, xappmk, xcap, xcopy, xcells, eval_tmp, eval_const, put_at, put_none, fr0_at, cells_agg, cells_int, cells_bool, cells_string, cells_ptr, cells_slice, notTuple, tab, iv_all, okD, isAggD, hget_app, hget_app0, hget_cons0, hget_cons, set_app, set_app0, setR, setR_one, QL_nil, QL_cons, QLc_val, stepQ_t, stepQ_f, stepQC_n, stepQC_s, stepQX_s, SL_nil, SL_cons, SLc_val, stepS_t, stepS_f, e1, e2, e3]
  refine ⟨by kernel_rfl, ac_of_vc (by simp [pv_iv, pv_int, pv_bool, pv_string, pv_tup2, pv_tup3, iv_plain, p2_int, p2_bool, p2_string]) (rot_vc x c hc) ?_⟩
  try simp [wb_bool, wb_undef, XL_nil, XL_cons, XLc_val, XLc_call, step1_eq, stepW_t, stepW_f, stepC_n, stepC_s, stepX_s, stepX_n, stepN_s, calleeX, oneV, xop_eq, xopR_s, xopR_n, wantedA_eq, wantedG_n, wantedG_s, plain1_int, plain1_bool, plain1_string, bits_i64, bits_u64, bits_u32, bits_u16, bits_u8, xeqA, xagg, xcmp, xarr, allK_iv, num_iv, calleeOf, xread, xeff, xbin, xint, xnil, xun, xstr, xload, xconv, xpart, xfield, xfieldAddr, xindexAddr, xindex, bnd, asInt?, xslice, xlen, xmin, xmax, xbuild, xfill, xappend, xapp2, xappstr, xappmk, xcap, xcopy, xcells, eval_tmp, eval_const, put_at, put_none, fr0_at, cells_agg, cells_int, cells_bool, cells_string, cells_ptr, cells_slice, notTuple, tab, iv_all, okD, isAggD, hget_app, hget_app0, hget_cons0, hget_cons, set_app, set_app0, setR, setR_one, QL_nil, QL_cons, QLc_val, stepQ_t, stepQ_f, stepQC_n, stepQC_s, stepQX_s, SL_nil, SL_cons, SLc_val, stepS_t, stepS_f]
  refine hK _ _ ?_; clear hK K
  (refine aw_ret ?_; simp [thenQ_ret, inBlockQ_ret, RQ, resL, resV, xload, tab, okD, isAggD, hget_app, hget_app0, hget_cons0, hget_cons, notTuple, put_at, put_none])
  rfl
theorem spread_vc (x a b c : Int) (ha : 1 ≤ a ∧ a ≤ 31) (hb : 1 ≤ b ∧ b ≤ 31) (hc : 1 ≤ c ∧ c ≤ 31) : VC Tryd.prog 42 #[.int .u32 x, .int .i64 a, .int .i64 b, .int .i64 c] (.int .u32 (sprF x a b c)) := by
  refine vc_of_ac (by simp [pv_iv, pv_int, pv_bool, pv_string, pv_tup2, pv_tup3, iv_plain, p2_int, p2_bool, p2_string]) (by simp [pv_iv, pv_int, pv_bool, pv_string, pv_tup2, pv_tup3, iv_plain, p2_int, p2_bool, p2_string]) ?_
  refine ac_of_aw Tryd.func42 rfl Tryd.ntmps42 Tryd.results42 (by simp) ?_
  have e1 : IntKind.i64.wrap (-a) = -a := wrap64_in (by omega)
  have e2 : IntKind.i64.wrap (-b) = -b := wrap64_in (by omega)
  have h2 : ¬ c < 0 := by omega
  refine aw_seq ?_
  (refine aw_ops (by kernel_rfl) (fun K hK => ?_); simp [wb_bool, wb_undef, XL_nil, XL_cons, XLc_val, XLc_call, step1_eq, stepW_t, stepW_f, stepC_n, stepC_s, stepX_s, stepX_n, stepN_s, calleeX, oneV, xop_eq, xopR_s, xopR_n, wantedA_eq, wantedG_n, wantedG_s, plain1_int, plain1_bool, plain1_string, bits_i64, bits_u64, bits_u32, bits_u16, bits_u8, xeqA, xagg, xcmp, xarr, allK_iv, num_iv, calleeOf, xread, xeff, xbin, xint, xnil, xun, xstr, xload, xconv, xpart, xfield, xfieldAddr, xindexAddr, xindex, bnd, asInt?, xslice, xlen, xmin, xmax, xbuild, xfill, xappend, xapp2, xappstr, xappmk, xcap, xcopy, xcells, eval_tmp, eval_const, put_at, put_none, fr0_at, cells_agg, cells_int, cells_bool, cells_string, cells_ptr, cells_slice, notTuple, tab, iv_all, okD, isAggD, hget_app, hget_app0, hget_cons0, hget_cons, set_app, set_app0, setR, setR_one, QL_nil, QL_cons, QLc_val, stepQ_t, stepQ_f, stepQC_n, stepQC_s, stepQX_s, SL_nil, SL_cons, SLc_val, stepS_t, stepS_f]; refine hK _ _ ?_; clear hK K)
  refine aw_seq ?_
  refine aw_quietM (by kernel_rfl) (by kernel_rfl) (by kernel_rfl) (fun K hK => ?_)
  simp [wb_bool, wb_undef, XL_nil, XL_cons, XLc_val, XLc_call, step1_eq, stepW_t, stepW_f, stepC_n, stepC_s, stepX_s, stepX_n, stepN_s, calleeX, oneV, xop_eq, xopR_s, xopR_n, wantedA_eq, wantedG_n, wantedG_s, plain1_int, plain1_bool, plain1_string, bits_i64, bits_u64, bits_u32, bits_u16, bits_u8, xeqA, xagg, xcmp, xarr, allK_iv, num_iv, calleeOf, xread, xeff, xbin, xint, xnil, xun, xstr, xload, xconv, xpart, xfield, xfieldAddr, xindexAddr, xindex, bnd, asInt?, xslice, xlen, xmin, xmax, xbuild, xfill, xappend, xapp2, xappstr, xappmk, xcap, xcopy, xcells, eval_tmp, eval_const, put_at, put_none, fr0_at, cells_agg, cells_int, cells_bool, cells_string, cells_ptr, cells_slice, notTuple, tab, iv_all, okD, isAggD, hget_app, hget_app0, hget_cons0, hget_cons, set_app, set_app0, setR, setR_one, QL_nil, QL_cons, QLc_val, stepQ_t, stepQ_f, stepQC_n, stepQC_s, stepQX_s, SL_nil, SL_cons, SLc_val, stepS_t, stepS_f, QM_nil, QM_cons, QMc_val, e1, e2, h2]
  refine QMc_call (by kernel_rfl) (ac_of_vc (by simp [pv_iv, pv_int, pv_bool, pv_string, pv_tup2, pv_tup3, iv_plain, p2_int, p2_bool, p2_string]) (rot_vc x a ha) rfl) rfl ?_
  simp [wb_bool, wb_undef, XL_nil, XL_cons, XLc_val, XLc_call, step1_eq, stepW_t, stepW_f, stepC_n, stepC_s, stepX_s, stepX_n, stepN_s, calleeX, oneV, xop_eq, xopR_s, xopR_n, wantedA_eq, wantedG_n, wantedG_s, plain1_int, plain1_bool, plain1_string, bits_i64, bits_u64, bits_u32, bits_u16, bits_u8, xeqA, xagg, xcmp, xarr, allK_iv, num_iv, calleeOf, xread, xeff, xbin, xint, xnil, xun, xstr, xload, xconv, xpart, xfield, xfieldAddr, xindexAddr, xindex, bnd, asInt?, xslice, xlen, xmin, xmax, xbuild, xfill, xappend, xapp2, xappstr, xappmk, xcap, xcopy, xcells, eval_tmp, eval_const, put_at, put_none, fr0_at, cells_agg, cells_int, cells_bool, cells_string, cells_ptr, cells_slice, notTuple, tab, iv_all, okD, isAggD, hget_app, hget_app0, hget_cons0, hget_cons, set_app, set_app0, setR, setR_one, QL_nil, QL_cons, QLc_val, stepQ_t, stepQ_f, stepQC_n, stepQC_s, stepQX_s, SL_nil, SL_cons, SLc_val, stepS_t, stepS_f, QM_nil, QM_cons, QMc_val, e1, e2, h2]
  refine QMc_call (by kernel_rfl) (ac_of_vc (by simp [pv_iv, pv_int, pv_bool, pv_string, pv_tup2, pv_tup3, iv_plain, p2_int, p2_bool, p2_string]) (rot_vc x b hb) rfl) rfl ?_
  simp [wb_bool, wb_undef, XL_nil, XL_cons, XLc_val, XLc_call, step1_eq, stepW_t, stepW_f, stepC_n, stepC_s, stepX_s, stepX_n, stepN_s, calleeX, oneV, xop_eq, xopR_s, xopR_n, wantedA_eq, wantedG_n, wantedG_s, plain1_int, plain1_bool, plain1_string, bits_i64, bits_u64, bits_u32, bits_u16, bits_u8, xeqA, xagg, xcmp, xarr, allK_iv, num_iv, calleeOf, xread, xeff, xbin, xint, xnil, xun, xstr, xload, xconv, xpart, xfield, xfieldAddr, xindexAddr, xindex, bnd, asInt?, xslice, xlen, xmin, xmax, xbuild, xfill, xappend, xapp2, xappstr, xappmk, xcap, xcopy, xcells, eval_tmp, eval_const, put_at, put_none, fr0_at, cells_agg, cells_int, cells_bool, cells_string, cells_ptr, cells_slice, notTuple, tab, iv_all, okD, isAggD, hget_app, hget_app0, hget_cons0, hget_cons, set_app, set_app0, setR, setR_one, QL_nil, QL_cons, QLc_val, stepQ_t, stepQ_f, stepQC_n, stepQC_s, stepQX_s, SL_nil, SL_cons, SLc_val, stepS_t, stepS_f, QM_nil, QM_cons, QMc_val, e1, e2, h2]
  refine hK _ ?_; clear hK K
  (refine aw_ret ?_; simp [thenQ_ret, inBlockQ_ret, RQ, resL, resV, xload, tab, okD, isAggD, hget_app, hget_app0, hget_cons0, hget_cons, notTuple, put_at, put_none])
  rfl
end Go.Proofs.YtjfhdckcjkgjnaaDoor
