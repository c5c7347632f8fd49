/-
  CodeReads' walk, by the statement text.
-/
import Derived.Test.YtmnkbdclnaekkaaRefRead
import Derived.Test.YtmnkbdclnaekkaaBack
namespace Go.Proofs.Ytmnkbdclnaekkaa
open Go Go.RowKit
set_option linter.unusedSimpArgs false
set_option linter.unusedVariables false
set_option maxRecDepth 100000
set_option maxHeartbeats 1000000

attribute [local irreducible] rd outK fits outD tx checkedF zl digitsF
theorem read_tells (s : ByteArray) : ∃ (m : List Int) (f : Int), readV s = .tuple #[.agg (iv .u8 m).toArray, .int .i64 f] ∧ m.length = 32 ∧ 0 ≤ f ∧ f ≤ 4 := by
  rcases read_cases s with ⟨f, e, hf⟩ | ⟨m, e, hm, _, _⟩
  · exact ⟨zl 32, f, e, by simp, by omega, by omega⟩
  · exact ⟨m, 0, e, hm, by omega, by omega⟩
theorem reads_law (s : ByteArray) : VC Try.prog 3 #[.string s] (.bool true) := by
  refine vc_of_ac (by simp [pv_iv, pv_int, pv_bool, pv_string, pv_tup2, pv_tup3, iv_plain, p2_int, p2_bool, p2_string]) (by simp [pv_iv, pv_int, pv_bool, pv_string, pv_tup2, pv_tup3, iv_plain, p2_int, p2_bool, p2_string]) ?_
  refine ac_of_aw Try.func3 rfl Try.ntmps3 Try.results3 (by simp) ?_
  have A := alive_vc
  have R1 := read_vc s
  have R2 := ref_read_vc s
  obtain ⟨m, f, e, hm, hf⟩ := read_tells s
  rw [e] at R1 R2
  have hw : IntKind.i64.wrap f = f := wrap64_in (by omega)
  refine aw_seq ?_
  (refine aw_ops (by kernel_rfl) (fun K hK => ?_); simp [wb_bool, wb_undef, XL_nil, XL_cons, XLc_val, XLc_call, step1_eq, stepW_t, stepW_f, stepC_n, stepC_s, stepX_s, xop_eq, xopR_s, xopR_n, wantedA_eq, wantedG_n, wantedG_s, plain1_int, plain1_bool, plain1_string, bits_i64, bits_u64, bits_u32, bits_u16, bits_u8, xeqA, xarr, allK_iv, num_iv, calleeOf, xread, xeff, xbin, xint, xun, xstr, xload, xconv, xpart, xfield, xfieldAddr, xindexAddr, xindex, bnd, asInt?, xslice, xlen, xmin, xmax, xbuild, xfill, xappend, xcopy, xcells, eval_tmp, eval_const, put_at, put_none, fr0_at, cells_agg, cells_int, cells_bool, cells_string, cells_ptr, cells_slice, notTuple, tab, iv_all, okD, isAggD, hget_app, hget_app0, hget_cons0, hget_cons, set_app, set_app0, setR, setR_one, QL_nil, QL_cons, QLc_val, stepQ_t, stepQ_f, stepQC_n, stepQC_s, stepQX_s, SL_nil, SL_cons, SLc_val, stepS_t, stepS_f]; refine hK _ _ ?_; clear hK K)
  refine aw_seq ?_
  refine aw_seq ?_
  refine aw_ops (by kernel_rfl) (fun K hK => ?_)
  simp [wb_bool, wb_undef, XL_nil, XL_cons, XLc_val, XLc_call, step1_eq, stepW_t, stepW_f, stepC_n, stepC_s, stepX_s, xop_eq, xopR_s, xopR_n, wantedA_eq, wantedG_n, wantedG_s, plain1_int, plain1_bool, plain1_string, bits_i64, bits_u64, bits_u32, bits_u16, bits_u8, xeqA, xarr, allK_iv, num_iv, calleeOf, xread, xeff, xbin, xint, xun, xstr, xload, xconv, xpart, xfield, xfieldAddr, xindexAddr, xindex, bnd, asInt?, xslice, xlen, xmin, xmax, xbuild, xfill, xappend, xcopy, xcells, eval_tmp, eval_const, put_at, put_none, fr0_at, cells_agg, cells_int, cells_bool, cells_string, cells_ptr, cells_slice, notTuple, tab, iv_all, okD, isAggD, hget_app, hget_app0, hget_cons0, hget_cons, set_app, set_app0, setR, setR_one, QL_nil, QL_cons, QLc_val, stepQ_t, stepQ_f, stepQC_n, stepQC_s, stepQX_s, SL_nil, SL_cons, SLc_val, stepS_t, stepS_f]
  refine ⟨by kernel_rfl, ac_of_vc (by simp [pv_iv, pv_int, pv_bool, pv_string, pv_tup2, pv_tup3, iv_plain, p2_int, p2_bool, p2_string]) A ?_⟩
  simp [wb_bool, wb_undef, XL_nil, XL_cons, XLc_val, XLc_call, step1_eq, stepW_t, stepW_f, stepC_n, stepC_s, stepX_s, xop_eq, xopR_s, xopR_n, wantedA_eq, wantedG_n, wantedG_s, plain1_int, plain1_bool, plain1_string, bits_i64, bits_u64, bits_u32, bits_u16, bits_u8, xeqA, xarr, allK_iv, num_iv, calleeOf, xread, xeff, xbin, xint, xun, xstr, xload, xconv, xpart, xfield, xfieldAddr, xindexAddr, xindex, bnd, asInt?, xslice, xlen, xmin, xmax, xbuild, xfill, xappend, xcopy, xcells, eval_tmp, eval_const, put_at, put_none, fr0_at, cells_agg, cells_int, cells_bool, cells_string, cells_ptr, cells_slice, notTuple, tab, iv_all, okD, isAggD, hget_app, hget_app0, hget_cons0, hget_cons, set_app, set_app0, setR, setR_one, QL_nil, QL_cons, QLc_val, stepQ_t, stepQ_f, stepQC_n, stepQC_s, stepQX_s, SL_nil, SL_cons, SLc_val, stepS_t, stepS_f]
  refine hK _ _ ?_; clear hK K
  refine aw_f (by simp [eval_tmp, put_at]) (by kernel_rfl) ?_
  refine aw_skip ?_
  refine aw_seq ?_
  refine aw_seq ?_
  by_cases hlong : 1000 < s.size
  · have hlong' : (1000 : Int) < s.size := by omega
    (refine aw_ops (by kernel_rfl) (fun K hK => ?_); simp [wb_bool, wb_undef, XL_nil, XL_cons, XLc_val, XLc_call, step1_eq, stepW_t, stepW_f, stepC_n, stepC_s, stepX_s, xop_eq, xopR_s, xopR_n, wantedA_eq, wantedG_n, wantedG_s, plain1_int, plain1_bool, plain1_string, bits_i64, bits_u64, bits_u32, bits_u16, bits_u8, xeqA, xarr, allK_iv, num_iv, calleeOf, xread, xeff, xbin, xint, xun, xstr, xload, xconv, xpart, xfield, xfieldAddr, xindexAddr, xindex, bnd, asInt?, xslice, xlen, xmin, xmax, xbuild, xfill, xappend, xcopy, xcells, eval_tmp, eval_const, put_at, put_none, fr0_at, cells_agg, cells_int, cells_bool, cells_string, cells_ptr, cells_slice, notTuple, tab, iv_all, okD, isAggD, hget_app, hget_app0, hget_cons0, hget_cons, set_app, set_app0, setR, setR_one, QL_nil, QL_cons, QLc_val, stepQ_t, stepQ_f, stepQC_n, stepQC_s, stepQX_s, SL_nil, SL_cons, SLc_val, stepS_t, stepS_f, hlong, hlong']; refine hK _ _ ?_; clear hK K)
    refine aw_t (by simp [eval_tmp, put_at]) (by kernel_rfl) ?_
    refine aw_seq ?_
    refine aw_ops (by kernel_rfl) (fun K hK => ?_)
    simp [wb_bool, wb_undef, XL_nil, XL_cons, XLc_val, XLc_call, step1_eq, stepW_t, stepW_f, stepC_n, stepC_s, stepX_s, xop_eq, xopR_s, xopR_n, wantedA_eq, wantedG_n, wantedG_s, plain1_int, plain1_bool, plain1_string, bits_i64, bits_u64, bits_u32, bits_u16, bits_u8, xeqA, xarr, allK_iv, num_iv, calleeOf, xread, xeff, xbin, xint, xun, xstr, xload, xconv, xpart, xfield, xfieldAddr, xindexAddr, xindex, bnd, asInt?, xslice, xlen, xmin, xmax, xbuild, xfill, xappend, xcopy, xcells, eval_tmp, eval_const, put_at, put_none, fr0_at, cells_agg, cells_int, cells_bool, cells_string, cells_ptr, cells_slice, notTuple, tab, iv_all, okD, isAggD, hget_app, hget_app0, hget_cons0, hget_cons, set_app, set_app0, setR, setR_one, QL_nil, QL_cons, QLc_val, stepQ_t, stepQ_f, stepQC_n, stepQC_s, stepQX_s, SL_nil, SL_cons, SLc_val, stepS_t, stepS_f]
    refine ⟨by kernel_rfl, ac_of_vc (by simp [pv_iv, pv_int, pv_bool, pv_string, pv_tup2, pv_tup3, iv_plain, p2_int, p2_bool, p2_string]) A ?_⟩
    refine hK _ _ ?_; clear hK K
    (refine aw_ret ?_; simp [thenQ_ret, inBlockQ_ret, RQ, resL, resV, xload, tab, okD, isAggD, hget_app, hget_app0, hget_cons0, hget_cons, notTuple, put_at, put_none])
  have hlong' : ¬ (1000 : Int) < s.size := by omega
  (refine aw_ops (by kernel_rfl) (fun K hK => ?_); simp [wb_bool, wb_undef, XL_nil, XL_cons, XLc_val, XLc_call, step1_eq, stepW_t, stepW_f, stepC_n, stepC_s, stepX_s, xop_eq, xopR_s, xopR_n, wantedA_eq, wantedG_n, wantedG_s, plain1_int, plain1_bool, plain1_string, bits_i64, bits_u64, bits_u32, bits_u16, bits_u8, xeqA, xarr, allK_iv, num_iv, calleeOf, xread, xeff, xbin, xint, xun, xstr, xload, xconv, xpart, xfield, xfieldAddr, xindexAddr, xindex, bnd, asInt?, xslice, xlen, xmin, xmax, xbuild, xfill, xappend, xcopy, xcells, eval_tmp, eval_const, put_at, put_none, fr0_at, cells_agg, cells_int, cells_bool, cells_string, cells_ptr, cells_slice, notTuple, tab, iv_all, okD, isAggD, hget_app, hget_app0, hget_cons0, hget_cons, set_app, set_app0, setR, setR_one, QL_nil, QL_cons, QLc_val, stepQ_t, stepQ_f, stepQC_n, stepQC_s, stepQX_s, SL_nil, SL_cons, SLc_val, stepS_t, stepS_f, hlong, hlong']; refine hK _ _ ?_; clear hK K)
  refine aw_f (by simp [eval_tmp, put_at]) (by kernel_rfl) ?_
  refine aw_skip ?_
  refine aw_seq ?_
  refine aw_ops (by kernel_rfl) (fun K hK => ?_)
  simp [wb_bool, wb_undef, XL_nil, XL_cons, XLc_val, XLc_call, step1_eq, stepW_t, stepW_f, stepC_n, stepC_s, stepX_s, xop_eq, xopR_s, xopR_n, wantedA_eq, wantedG_n, wantedG_s, plain1_int, plain1_bool, plain1_string, bits_i64, bits_u64, bits_u32, bits_u16, bits_u8, xeqA, xarr, allK_iv, num_iv, calleeOf, xread, xeff, xbin, xint, xun, xstr, xload, xconv, xpart, xfield, xfieldAddr, xindexAddr, xindex, bnd, asInt?, xslice, xlen, xmin, xmax, xbuild, xfill, xappend, xcopy, xcells, eval_tmp, eval_const, put_at, put_none, fr0_at, cells_agg, cells_int, cells_bool, cells_string, cells_ptr, cells_slice, notTuple, tab, iv_all, okD, isAggD, hget_app, hget_app0, hget_cons0, hget_cons, set_app, set_app0, setR, setR_one, QL_nil, QL_cons, QLc_val, stepQ_t, stepQ_f, stepQC_n, stepQC_s, stepQX_s, SL_nil, SL_cons, SLc_val, stepS_t, stepS_f]
  refine ⟨by kernel_rfl, ac_of_vc (by simp [pv_iv, pv_int, pv_bool, pv_string, pv_tup2, pv_tup3, iv_plain, p2_int, p2_bool, p2_string]) R1 ?_⟩
  simp [wb_bool, wb_undef, XL_nil, XL_cons, XLc_val, XLc_call, step1_eq, stepW_t, stepW_f, stepC_n, stepC_s, stepX_s, xop_eq, xopR_s, xopR_n, wantedA_eq, wantedG_n, wantedG_s, plain1_int, plain1_bool, plain1_string, bits_i64, bits_u64, bits_u32, bits_u16, bits_u8, xeqA, xarr, allK_iv, num_iv, calleeOf, xread, xeff, xbin, xint, xun, xstr, xload, xconv, xpart, xfield, xfieldAddr, xindexAddr, xindex, bnd, asInt?, xslice, xlen, xmin, xmax, xbuild, xfill, xappend, xcopy, xcells, eval_tmp, eval_const, put_at, put_none, fr0_at, cells_agg, cells_int, cells_bool, cells_string, cells_ptr, cells_slice, notTuple, tab, iv_all, okD, isAggD, hget_app, hget_app0, hget_cons0, hget_cons, set_app, set_app0, setR, setR_one, QL_nil, QL_cons, QLc_val, stepQ_t, stepQ_f, stepQC_n, stepQC_s, stepQX_s, SL_nil, SL_cons, SLc_val, stepS_t, stepS_f, hm, setR_all]
  refine hK _ _ ?_; clear hK K
  refine aw_seq ?_
  refine aw_ops (by kernel_rfl) (fun K hK => ?_)
  simp [wb_bool, wb_undef, XL_nil, XL_cons, XLc_val, XLc_call, step1_eq, stepW_t, stepW_f, stepC_n, stepC_s, stepX_s, xop_eq, xopR_s, xopR_n, wantedA_eq, wantedG_n, wantedG_s, plain1_int, plain1_bool, plain1_string, bits_i64, bits_u64, bits_u32, bits_u16, bits_u8, xeqA, xarr, allK_iv, num_iv, calleeOf, xread, xeff, xbin, xint, xun, xstr, xload, xconv, xpart, xfield, xfieldAddr, xindexAddr, xindex, bnd, asInt?, xslice, xlen, xmin, xmax, xbuild, xfill, xappend, xcopy, xcells, eval_tmp, eval_const, put_at, put_none, fr0_at, cells_agg, cells_int, cells_bool, cells_string, cells_ptr, cells_slice, notTuple, tab, iv_all, okD, isAggD, hget_app, hget_app0, hget_cons0, hget_cons, set_app, set_app0, setR, setR_one, QL_nil, QL_cons, QLc_val, stepQ_t, stepQ_f, stepQC_n, stepQC_s, stepQX_s, SL_nil, SL_cons, SLc_val, stepS_t, stepS_f]
  refine ⟨by kernel_rfl, ac_of_vc (by simp [pv_iv, pv_int, pv_bool, pv_string, pv_tup2, pv_tup3, iv_plain, p2_int, p2_bool, p2_string]) R2 ?_⟩
  simp [wb_bool, wb_undef, XL_nil, XL_cons, XLc_val, XLc_call, step1_eq, stepW_t, stepW_f, stepC_n, stepC_s, stepX_s, xop_eq, xopR_s, xopR_n, wantedA_eq, wantedG_n, wantedG_s, plain1_int, plain1_bool, plain1_string, bits_i64, bits_u64, bits_u32, bits_u16, bits_u8, xeqA, xarr, allK_iv, num_iv, calleeOf, xread, xeff, xbin, xint, xun, xstr, xload, xconv, xpart, xfield, xfieldAddr, xindexAddr, xindex, bnd, asInt?, xslice, xlen, xmin, xmax, xbuild, xfill, xappend, xcopy, xcells, eval_tmp, eval_const, put_at, put_none, fr0_at, cells_agg, cells_int, cells_bool, cells_string, cells_ptr, cells_slice, notTuple, tab, iv_all, okD, isAggD, hget_app, hget_app0, hget_cons0, hget_cons, set_app, set_app0, setR, setR_one, QL_nil, QL_cons, QLc_val, stepQ_t, stepQ_f, stepQC_n, stepQC_s, stepQX_s, SL_nil, SL_cons, SLc_val, stepS_t, stepS_f, hm, setR_all]
  refine hK _ _ ?_; clear hK K
  refine aw_seq ?_
  refine aw_ops (by kernel_rfl) (fun K hK => ?_)
  simp [wb_bool, wb_undef, XL_nil, XL_cons, XLc_val, XLc_call, step1_eq, stepW_t, stepW_f, stepC_n, stepC_s, stepX_s, xop_eq, xopR_s, xopR_n, wantedA_eq, wantedG_n, wantedG_s, plain1_int, plain1_bool, plain1_string, bits_i64, bits_u64, bits_u32, bits_u16, bits_u8, xeqA, xarr, allK_iv, num_iv, calleeOf, xread, xeff, xbin, xint, xun, xstr, xload, xconv, xpart, xfield, xfieldAddr, xindexAddr, xindex, bnd, asInt?, xslice, xlen, xmin, xmax, xbuild, xfill, xappend, xcopy, xcells, eval_tmp, eval_const, put_at, put_none, fr0_at, cells_agg, cells_int, cells_bool, cells_string, cells_ptr, cells_slice, notTuple, tab, iv_all, okD, isAggD, hget_app, hget_app0, hget_cons0, hget_cons, set_app, set_app0, setR, setR_one, QL_nil, QL_cons, QLc_val, stepQ_t, stepQ_f, stepQC_n, stepQC_s, stepQX_s, SL_nil, SL_cons, SLc_val, stepS_t, stepS_f]
  refine ⟨by kernel_rfl, ac_of_vc (by simp [pv_iv, pv_int, pv_bool, pv_string, pv_tup2, pv_tup3, iv_plain, p2_int, p2_bool, p2_string]) A ?_⟩
  simp [wb_bool, wb_undef, XL_nil, XL_cons, XLc_val, XLc_call, step1_eq, stepW_t, stepW_f, stepC_n, stepC_s, stepX_s, xop_eq, xopR_s, xopR_n, wantedA_eq, wantedG_n, wantedG_s, plain1_int, plain1_bool, plain1_string, bits_i64, bits_u64, bits_u32, bits_u16, bits_u8, xeqA, xarr, allK_iv, num_iv, calleeOf, xread, xeff, xbin, xint, xun, xstr, xload, xconv, xpart, xfield, xfieldAddr, xindexAddr, xindex, bnd, asInt?, xslice, xlen, xmin, xmax, xbuild, xfill, xappend, xcopy, xcells, eval_tmp, eval_const, put_at, put_none, fr0_at, cells_agg, cells_int, cells_bool, cells_string, cells_ptr, cells_slice, notTuple, tab, iv_all, okD, isAggD, hget_app, hget_app0, hget_cons0, hget_cons, set_app, set_app0, setR, setR_one, QL_nil, QL_cons, QLc_val, stepQ_t, stepQ_f, stepQC_n, stepQC_s, stepQX_s, SL_nil, SL_cons, SLc_val, stepS_t, stepS_f, hm, hw, List.take_of_length_le]
  refine hK _ _ ?_; clear hK K
  (refine aw_ret ?_; simp [thenQ_ret, inBlockQ_ret, RQ, resL, resV, xload, tab, okD, isAggD, hget_app, hget_app0, hget_cons0, hget_cons, notTuple, put_at, put_none])
end Go.Proofs.Ytmnkbdclnaekkaa
