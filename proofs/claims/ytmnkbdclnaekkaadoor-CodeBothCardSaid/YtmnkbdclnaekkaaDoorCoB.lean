/-
  Write and Read, by the Go text.
  Numbers in one base turned into another one, digit by digit: plain numbers and lists.
  What was written is read, and what is read is that text, written again: plain numbers and lists.
-/
import Derived.Test.YtmnkbdclnaekkaaDoorCoA
namespace Go.Proofs.YtmnkbdclnaekkaaDoor
section
open Go Go.RowKit
set_option linter.unusedSimpArgs false
set_option maxRecDepth 100000
set_option maxHeartbeats 1000000

theorem checkedF_dig {d : List Int} (h : Dig d) : Dig (checkedF d) := by
  have := checkF_bd d
  exact (h.set 78 (by omega)).set 79 (by omega)
def writeF (k : List Int) : ByteArray := strOfNums (tx (digitsF k) 80)
theorem write_vc (k : List Int) (hk : k.length = 32) (hb : Byte k) : VC Tryd.prog 6 #[.agg (iv .u8 k).toArray] (.string (writeF k)) := by
  refine vc_of_ac (by simp [pv_iv, pv_int, pv_bool, pv_string, pv_tup2, pv_tup3, iv_plain, p2_int, p2_bool, p2_string]) (by simp [pv_iv, pv_int, pv_bool, pv_string, pv_tup2, pv_tup3, iv_plain, p2_int, p2_bool, p2_string]) ?_
  refine ac_of_aw Tryd.func6 rfl Tryd.ntmps6 Tryd.results6 (by simp) ?_
  obtain ⟨h1, h2⟩ := outD_spec k hb 32
  refine aw_seq ?_
  (refine aw_ops (by kernel_rfl) (fun K hK => ?_); simp [wb_bool, wb_undef, XL_nil, XL_cons, XLc_val, XLc_call, step1_eq, stepW_t, stepW_f, stepC_n, stepC_s, stepX_s, stepX_n, stepN_s, calleeX, oneV, xop_eq, xopR_s, xopR_n, wantedA_eq, wantedG_n, wantedG_s, plain1_int, plain1_bool, plain1_string, bits_i64, bits_u64, bits_u32, bits_u16, bits_u8, xeqA, xagg, xcmp, xarr, allK_iv, num_iv, calleeOf, xread, xeff, xbin, xint, xnil, xun, xstr, xload, xconv, xpart, xfield, xfieldAddr, xindexAddr, xindex, bnd, asInt?, xslice, xlen, xmin, xmax, xbuild, xfill, xappend, xapp2, xappstr, xappmk, xcap, xcopy, xcells, eval_tmp, eval_const, put_at, put_none, fr0_at, cells_agg, cells_int, cells_bool, cells_string, cells_ptr, cells_slice, notTuple, tab, iv_all, okD, isAggD, hget_app, hget_app0, hget_cons0, hget_cons, set_app, set_app0, setR, setR_one, QL_nil, QL_cons, QLc_val, stepQ_t, stepQ_f, stepQC_n, stepQC_s, stepQX_s, SL_nil, SL_cons, SLc_val, stepS_t, stepS_f]; refine hK _ _ ?_; clear hK K)
  refine aw_seq ?_
  refine aw_ops (by kernel_rfl) (fun K hK => ?_)
  simp [wb_bool, wb_undef, XL_nil, XL_cons, XLc_val, XLc_call, step1_eq, stepW_t, stepW_f, stepC_n, stepC_s, stepX_s, stepX_n, stepN_s, calleeX, oneV, xop_eq, xopR_s, xopR_n, wantedA_eq, wantedG_n, wantedG_s, plain1_int, plain1_bool, plain1_string, bits_i64, bits_u64, bits_u32, bits_u16, bits_u8, xeqA, xagg, xcmp, xarr, allK_iv, num_iv, calleeOf, xread, xeff, xbin, xint, xnil, xun, xstr, xload, xconv, xpart, xfield, xfieldAddr, xindexAddr, xindex, bnd, asInt?, xslice, xlen, xmin, xmax, xbuild, xfill, xappend, xapp2, xappstr, xappmk, xcap, xcopy, xcells, eval_tmp, eval_const, put_at, put_none, fr0_at, cells_agg, cells_int, cells_bool, cells_string, cells_ptr, cells_slice, notTuple, tab, iv_all, okD, isAggD, hget_app, hget_app0, hget_cons0, hget_cons, set_app, set_app0, setR, setR_one, QL_nil, QL_cons, QLc_val, stepQ_t, stepQ_f, stepQC_n, stepQC_s, stepQX_s, SL_nil, SL_cons, SLc_val, stepS_t, stepS_f, hk, List.take_of_length_le]
  refine ⟨by kernel_rfl, ac_of_vc (by simp [pv_iv, pv_int, pv_bool, pv_string, pv_tup2, pv_tup3, iv_plain, p2_int, p2_bool, p2_string]) (digits_vc k hk hb) ?_⟩
  refine ⟨by kernel_rfl, ac_of_vc (by simp [pv_iv, pv_int, pv_bool, pv_string, pv_tup2, pv_tup3, iv_plain, p2_int, p2_bool, p2_string]) (text_vc (digitsF k) (by rw [digitsF, checkedF_len, h2]) (checkedF_dig h1)) ?_⟩
  refine hK _ _ ?_; clear hK K
  (refine aw_ret ?_; simp [thenQ_ret, inBlockQ_ret, RQ, resL, resV, xload, tab, okD, isAggD, hget_app, hget_app0, hget_cons0, hget_cons, notTuple, put_at, put_none])
  rfl
theorem rd_byte (s : ByteArray) (i : Nat) (h : allOk s i = true) : Dig (rd s i) := by
  induction i with
  | zero => intro j; show 0 ≤ (zl 80).getD j 0 ∧ _; rw [rd, zl_get]; omega
  | succ i ih =>
    simp only [allOk, Bool.and_eq_true] at h
    have h2 := h.2
    simp only [okAt, Bool.and_eq_true, decide_eq_true_eq] at h2
    exact (ih h.1).set i (by omega)
/-- What Read comes to, of digits. -/
def readOf (d : List Int) : Value :=
  if d = checkedF d then (if fits d 78 = true then .tuple #[.agg (iv .u8 (outK d 78)).toArray, .int .i64 0] else .tuple #[.agg (iv .u8 (zl 32)).toArray, .int .i64 4])
  else .tuple #[.agg (iv .u8 (zl 32)).toArray, .int .i64 2]
def readNo : Value := .tuple #[.agg (iv .u8 (zl 32)).toArray, .int .i64 4]
attribute [local irreducible] rd outK fits outD tx checkedF zl
theorem read_no (s : ByteArray) (e : rdV s = .tuple #[.agg (iv .u8 (zl 80)).toArray, .bool false]) : VC Tryd.prog 10 #[.string s] readNo := by
  refine vc_of_ac (by simp [pv_iv, pv_int, pv_bool, pv_string, pv_tup2, pv_tup3, iv_plain, p2_int, p2_bool, p2_string]) (by unfold readNo; simp [pv_iv, pv_int, pv_bool, pv_string, pv_tup2, pv_tup3, iv_plain, p2_int, p2_bool, p2_string]) ?_
  refine ac_of_aw Tryd.func10 rfl Tryd.ntmps10 Tryd.results10 (by simp) ?_
  refine aw_seq ?_
  (refine aw_ops (by kernel_rfl) (fun K hK => ?_); simp [wb_bool, wb_undef, XL_nil, XL_cons, XLc_val, XLc_call, step1_eq, stepW_t, stepW_f, stepC_n, stepC_s, stepX_s, stepX_n, stepN_s, calleeX, oneV, xop_eq, xopR_s, xopR_n, wantedA_eq, wantedG_n, wantedG_s, plain1_int, plain1_bool, plain1_string, bits_i64, bits_u64, bits_u32, bits_u16, bits_u8, xeqA, xagg, xcmp, xarr, allK_iv, num_iv, calleeOf, xread, xeff, xbin, xint, xnil, xun, xstr, xload, xconv, xpart, xfield, xfieldAddr, xindexAddr, xindex, bnd, asInt?, xslice, xlen, xmin, xmax, xbuild, xfill, xappend, xapp2, xappstr, xappmk, xcap, xcopy, xcells, eval_tmp, eval_const, put_at, put_none, fr0_at, cells_agg, cells_int, cells_bool, cells_string, cells_ptr, cells_slice, notTuple, tab, iv_all, okD, isAggD, hget_app, hget_app0, hget_cons0, hget_cons, set_app, set_app0, setR, setR_one, QL_nil, QL_cons, QLc_val, stepQ_t, stepQ_f, stepQC_n, stepQC_s, stepQX_s, SL_nil, SL_cons, SLc_val, stepS_t, stepS_f]; refine hK _ _ ?_; clear hK K)
  refine aw_seq ?_
  refine aw_ops (by kernel_rfl) (fun K hK => ?_)
  simp [wb_bool, wb_undef, XL_nil, XL_cons, XLc_val, XLc_call, step1_eq, stepW_t, stepW_f, stepC_n, stepC_s, stepX_s, stepX_n, stepN_s, calleeX, oneV, xop_eq, xopR_s, xopR_n, wantedA_eq, wantedG_n, wantedG_s, plain1_int, plain1_bool, plain1_string, bits_i64, bits_u64, bits_u32, bits_u16, bits_u8, xeqA, xagg, xcmp, xarr, allK_iv, num_iv, calleeOf, xread, xeff, xbin, xint, xnil, xun, xstr, xload, xconv, xpart, xfield, xfieldAddr, xindexAddr, xindex, bnd, asInt?, xslice, xlen, xmin, xmax, xbuild, xfill, xappend, xapp2, xappstr, xappmk, xcap, xcopy, xcells, eval_tmp, eval_const, put_at, put_none, fr0_at, cells_agg, cells_int, cells_bool, cells_string, cells_ptr, cells_slice, notTuple, tab, iv_all, okD, isAggD, hget_app, hget_app0, hget_cons0, hget_cons, set_app, set_app0, setR, setR_one, QL_nil, QL_cons, QLc_val, stepQ_t, stepQ_f, stepQC_n, stepQC_s, stepQX_s, SL_nil, SL_cons, SLc_val, stepS_t, stepS_f]
  refine ⟨by kernel_rfl, ac_of_vc (by rw [e]; simp [pv_iv, pv_int, pv_bool, pv_string, pv_tup2, pv_tup3, iv_plain, p2_int, p2_bool, p2_string]) (rdd_vc s) ?_⟩
  rw [e]
  simp [wb_bool, wb_undef, XL_nil, XL_cons, XLc_val, XLc_call, step1_eq, stepW_t, stepW_f, stepC_n, stepC_s, stepX_s, stepX_n, stepN_s, calleeX, oneV, xop_eq, xopR_s, xopR_n, wantedA_eq, wantedG_n, wantedG_s, plain1_int, plain1_bool, plain1_string, bits_i64, bits_u64, bits_u32, bits_u16, bits_u8, xeqA, xagg, xcmp, xarr, allK_iv, num_iv, calleeOf, xread, xeff, xbin, xint, xnil, xun, xstr, xload, xconv, xpart, xfield, xfieldAddr, xindexAddr, xindex, bnd, asInt?, xslice, xlen, xmin, xmax, xbuild, xfill, xappend, xapp2, xappstr, xappmk, xcap, xcopy, xcells, eval_tmp, eval_const, put_at, put_none, fr0_at, cells_agg, cells_int, cells_bool, cells_string, cells_ptr, cells_slice, notTuple, tab, iv_all, okD, isAggD, hget_app, hget_app0, hget_cons0, hget_cons, set_app, set_app0, setR, setR_one, QL_nil, QL_cons, QLc_val, stepQ_t, stepQ_f, stepQC_n, stepQC_s, stepQX_s, SL_nil, SL_cons, SLc_val, stepS_t, stepS_f, setR_all]
  refine hK _ _ ?_; clear hK K
  refine aw_seq ?_
  refine aw_seq ?_
  (refine aw_ops (by kernel_rfl) (fun K hK => ?_); simp [wb_bool, wb_undef, XL_nil, XL_cons, XLc_val, XLc_call, step1_eq, stepW_t, stepW_f, stepC_n, stepC_s, stepX_s, stepX_n, stepN_s, calleeX, oneV, xop_eq, xopR_s, xopR_n, wantedA_eq, wantedG_n, wantedG_s, plain1_int, plain1_bool, plain1_string, bits_i64, bits_u64, bits_u32, bits_u16, bits_u8, xeqA, xagg, xcmp, xarr, allK_iv, num_iv, calleeOf, xread, xeff, xbin, xint, xnil, xun, xstr, xload, xconv, xpart, xfield, xfieldAddr, xindexAddr, xindex, bnd, asInt?, xslice, xlen, xmin, xmax, xbuild, xfill, xappend, xapp2, xappstr, xappmk, xcap, xcopy, xcells, eval_tmp, eval_const, put_at, put_none, fr0_at, cells_agg, cells_int, cells_bool, cells_string, cells_ptr, cells_slice, notTuple, tab, iv_all, okD, isAggD, hget_app, hget_app0, hget_cons0, hget_cons, set_app, set_app0, setR, setR_one, QL_nil, QL_cons, QLc_val, stepQ_t, stepQ_f, stepQC_n, stepQC_s, stepQX_s, SL_nil, SL_cons, SLc_val, stepS_t, stepS_f]; refine hK _ _ ?_; clear hK K)
  refine aw_t (by simp [eval_tmp, put_at]) (by kernel_rfl) ?_
  refine aw_seq ?_
  (refine aw_ops (by kernel_rfl) (fun K hK => ?_); simp [wb_bool, wb_undef, XL_nil, XL_cons, XLc_val, XLc_call, step1_eq, stepW_t, stepW_f, stepC_n, stepC_s, stepX_s, stepX_n, stepN_s, calleeX, oneV, xop_eq, xopR_s, xopR_n, wantedA_eq, wantedG_n, wantedG_s, plain1_int, plain1_bool, plain1_string, bits_i64, bits_u64, bits_u32, bits_u16, bits_u8, xeqA, xagg, xcmp, xarr, allK_iv, num_iv, calleeOf, xread, xeff, xbin, xint, xnil, xun, xstr, xload, xconv, xpart, xfield, xfieldAddr, xindexAddr, xindex, bnd, asInt?, xslice, xlen, xmin, xmax, xbuild, xfill, xappend, xapp2, xappstr, xappmk, xcap, xcopy, xcells, eval_tmp, eval_const, put_at, put_none, fr0_at, cells_agg, cells_int, cells_bool, cells_string, cells_ptr, cells_slice, notTuple, tab, iv_all, okD, isAggD, hget_app, hget_app0, hget_cons0, hget_cons, set_app, set_app0, setR, setR_one, QL_nil, QL_cons, QLc_val, stepQ_t, stepQ_f, stepQC_n, stepQC_s, stepQX_s, SL_nil, SL_cons, SLc_val, stepS_t, stepS_f, setR_all]; refine hK _ _ ?_; clear hK K)
  (refine aw_ret ?_; simp [thenQ_ret, inBlockQ_ret, RQ, resL, resV, xload, tab, okD, isAggD, hget_app, hget_app0, hget_cons0, hget_cons, notTuple, put_at, put_none, List.take_of_length_le])
  rfl
theorem read_ok (s : ByteArray) (d : List Int) (e : rdV s = .tuple #[.agg (iv .u8 d).toArray, .bool true]) (hl : d.length = 80) (hdg : Dig d) : VC Tryd.prog 10 #[.string s] (readOf d) := by
  have hpl : plainV (readOf d) = true := by unfold readOf; split <;> (try split) <;> simp [pv_iv, pv_int, pv_bool, pv_string, pv_tup2, pv_tup3, iv_plain, p2_int, p2_bool, p2_string]
  refine vc_of_ac (by simp [pv_iv, pv_int, pv_bool, pv_string, pv_tup2, pv_tup3, iv_plain, p2_int, p2_bool, p2_string]) hpl ?_
  refine ac_of_aw Tryd.func10 rfl Tryd.ntmps10 Tryd.results10 (by simp) ?_
  refine aw_seq ?_
  (refine aw_ops (by kernel_rfl) (fun K hK => ?_); simp [wb_bool, wb_undef, XL_nil, XL_cons, XLc_val, XLc_call, step1_eq, stepW_t, stepW_f, stepC_n, stepC_s, stepX_s, stepX_n, stepN_s, calleeX, oneV, xop_eq, xopR_s, xopR_n, wantedA_eq, wantedG_n, wantedG_s, plain1_int, plain1_bool, plain1_string, bits_i64, bits_u64, bits_u32, bits_u16, bits_u8, xeqA, xagg, xcmp, xarr, allK_iv, num_iv, calleeOf, xread, xeff, xbin, xint, xnil, xun, xstr, xload, xconv, xpart, xfield, xfieldAddr, xindexAddr, xindex, bnd, asInt?, xslice, xlen, xmin, xmax, xbuild, xfill, xappend, xapp2, xappstr, xappmk, xcap, xcopy, xcells, eval_tmp, eval_const, put_at, put_none, fr0_at, cells_agg, cells_int, cells_bool, cells_string, cells_ptr, cells_slice, notTuple, tab, iv_all, okD, isAggD, hget_app, hget_app0, hget_cons0, hget_cons, set_app, set_app0, setR, setR_one, QL_nil, QL_cons, QLc_val, stepQ_t, stepQ_f, stepQC_n, stepQC_s, stepQX_s, SL_nil, SL_cons, SLc_val, stepS_t, stepS_f]; refine hK _ _ ?_; clear hK K)
  refine aw_seq ?_
  refine aw_ops (by kernel_rfl) (fun K hK => ?_)
  simp [wb_bool, wb_undef, XL_nil, XL_cons, XLc_val, XLc_call, step1_eq, stepW_t, stepW_f, stepC_n, stepC_s, stepX_s, stepX_n, stepN_s, calleeX, oneV, xop_eq, xopR_s, xopR_n, wantedA_eq, wantedG_n, wantedG_s, plain1_int, plain1_bool, plain1_string, bits_i64, bits_u64, bits_u32, bits_u16, bits_u8, xeqA, xagg, xcmp, xarr, allK_iv, num_iv, calleeOf, xread, xeff, xbin, xint, xnil, xun, xstr, xload, xconv, xpart, xfield, xfieldAddr, xindexAddr, xindex, bnd, asInt?, xslice, xlen, xmin, xmax, xbuild, xfill, xappend, xapp2, xappstr, xappmk, xcap, xcopy, xcells, eval_tmp, eval_const, put_at, put_none, fr0_at, cells_agg, cells_int, cells_bool, cells_string, cells_ptr, cells_slice, notTuple, tab, iv_all, okD, isAggD, hget_app, hget_app0, hget_cons0, hget_cons, set_app, set_app0, setR, setR_one, QL_nil, QL_cons, QLc_val, stepQ_t, stepQ_f, stepQC_n, stepQC_s, stepQX_s, SL_nil, SL_cons, SLc_val, stepS_t, stepS_f]
  refine ⟨by kernel_rfl, ac_of_vc (by rw [e]; simp [pv_iv, pv_int, pv_bool, pv_string, pv_tup2, pv_tup3, iv_plain, p2_int, p2_bool, p2_string]) (rdd_vc s) ?_⟩
  rw [e]
  simp [wb_bool, wb_undef, XL_nil, XL_cons, XLc_val, XLc_call, step1_eq, stepW_t, stepW_f, stepC_n, stepC_s, stepX_s, stepX_n, stepN_s, calleeX, oneV, xop_eq, xopR_s, xopR_n, wantedA_eq, wantedG_n, wantedG_s, plain1_int, plain1_bool, plain1_string, bits_i64, bits_u64, bits_u32, bits_u16, bits_u8, xeqA, xagg, xcmp, xarr, allK_iv, num_iv, calleeOf, xread, xeff, xbin, xint, xnil, xun, xstr, xload, xconv, xpart, xfield, xfieldAddr, xindexAddr, xindex, bnd, asInt?, xslice, xlen, xmin, xmax, xbuild, xfill, xappend, xapp2, xappstr, xappmk, xcap, xcopy, xcells, eval_tmp, eval_const, put_at, put_none, fr0_at, cells_agg, cells_int, cells_bool, cells_string, cells_ptr, cells_slice, notTuple, tab, iv_all, okD, isAggD, hget_app, hget_app0, hget_cons0, hget_cons, set_app, set_app0, setR, setR_one, QL_nil, QL_cons, QLc_val, stepQ_t, stepQ_f, stepQC_n, stepQC_s, stepQX_s, SL_nil, SL_cons, SLc_val, stepS_t, stepS_f, hl, setR_all]
  refine hK _ _ ?_; clear hK K
  refine aw_seq ?_
  refine aw_seq ?_
  (refine aw_ops (by kernel_rfl) (fun K hK => ?_); simp [wb_bool, wb_undef, XL_nil, XL_cons, XLc_val, XLc_call, step1_eq, stepW_t, stepW_f, stepC_n, stepC_s, stepX_s, stepX_n, stepN_s, calleeX, oneV, xop_eq, xopR_s, xopR_n, wantedA_eq, wantedG_n, wantedG_s, plain1_int, plain1_bool, plain1_string, bits_i64, bits_u64, bits_u32, bits_u16, bits_u8, xeqA, xagg, xcmp, xarr, allK_iv, num_iv, calleeOf, xread, xeff, xbin, xint, xnil, xun, xstr, xload, xconv, xpart, xfield, xfieldAddr, xindexAddr, xindex, bnd, asInt?, xslice, xlen, xmin, xmax, xbuild, xfill, xappend, xapp2, xappstr, xappmk, xcap, xcopy, xcells, eval_tmp, eval_const, put_at, put_none, fr0_at, cells_agg, cells_int, cells_bool, cells_string, cells_ptr, cells_slice, notTuple, tab, iv_all, okD, isAggD, hget_app, hget_app0, hget_cons0, hget_cons, set_app, set_app0, setR, setR_one, QL_nil, QL_cons, QLc_val, stepQ_t, stepQ_f, stepQC_n, stepQC_s, stepQX_s, SL_nil, SL_cons, SLc_val, stepS_t, stepS_f]; refine hK _ _ ?_; clear hK K)
  refine aw_f (by simp [eval_tmp, put_at]) (by kernel_rfl) ?_
  refine aw_skip ?_
  refine aw_seq ?_
  refine aw_seq ?_
  refine aw_quiet (by kernel_rfl) (by kernel_rfl) (by kernel_rfl) (fun K hK => ?_)
  simp [wb_bool, wb_undef, XL_nil, XL_cons, XLc_val, XLc_call, step1_eq, stepW_t, stepW_f, stepC_n, stepC_s, stepX_s, stepX_n, stepN_s, calleeX, oneV, xop_eq, xopR_s, xopR_n, wantedA_eq, wantedG_n, wantedG_s, plain1_int, plain1_bool, plain1_string, bits_i64, bits_u64, bits_u32, bits_u16, bits_u8, xeqA, xagg, xcmp, xarr, allK_iv, num_iv, calleeOf, xread, xeff, xbin, xint, xnil, xun, xstr, xload, xconv, xpart, xfield, xfieldAddr, xindexAddr, xindex, bnd, asInt?, xslice, xlen, xmin, xmax, xbuild, xfill, xappend, xapp2, xappstr, xappmk, xcap, xcopy, xcells, eval_tmp, eval_const, put_at, put_none, fr0_at, cells_agg, cells_int, cells_bool, cells_string, cells_ptr, cells_slice, notTuple, tab, iv_all, okD, isAggD, hget_app, hget_app0, hget_cons0, hget_cons, set_app, set_app0, setR, setR_one, QL_nil, QL_cons, QLc_val, stepQ_t, stepQ_f, stepQC_n, stepQC_s, stepQX_s, SL_nil, SL_cons, SLc_val, stepS_t, stepS_f, hl, List.take_of_length_le]
  refine QLc_call (by kernel_rfl) (checked_vc d hl hdg.byte) (by simp [pv_iv, pv_int, pv_bool, pv_string, pv_tup2, pv_tup3, iv_plain, p2_int, p2_bool, p2_string]) ?_
  have hcl : (checkedF d).length = 80 := by rw [checkedF_len, hl]
  by_cases hck : d = checkedF d
  · have hckb : (d == checkedF d) = true := beq_iff_eq.2 hck
    have hr : readOf d = (if fits d 78 = true then .tuple #[.agg (iv .u8 (outK d 78)).toArray, .int .i64 0] else .tuple #[.agg (iv .u8 (zl 32)).toArray, .int .i64 4]) := if_pos hck
    rw [hr] at hK
    clear hr hpl hck
    generalize checkedF d = c at *
    simp [wb_bool, wb_undef, XL_nil, XL_cons, XLc_val, XLc_call, step1_eq, stepW_t, stepW_f, stepC_n, stepC_s, stepX_s, stepX_n, stepN_s, calleeX, oneV, xop_eq, xopR_s, xopR_n, wantedA_eq, wantedG_n, wantedG_s, plain1_int, plain1_bool, plain1_string, bits_i64, bits_u64, bits_u32, bits_u16, bits_u8, xeqA, xagg, xcmp, xarr, allK_iv, num_iv, calleeOf, xread, xeff, xbin, xint, xnil, xun, xstr, xload, xconv, xpart, xfield, xfieldAddr, xindexAddr, xindex, bnd, asInt?, xslice, xlen, xmin, xmax, xbuild, xfill, xappend, xapp2, xappstr, xappmk, xcap, xcopy, xcells, eval_tmp, eval_const, put_at, put_none, fr0_at, cells_agg, cells_int, cells_bool, cells_string, cells_ptr, cells_slice, notTuple, tab, iv_all, okD, isAggD, hget_app, hget_app0, hget_cons0, hget_cons, set_app, set_app0, setR, setR_one, QL_nil, QL_cons, QLc_val, stepQ_t, stepQ_f, stepQC_n, stepQC_s, stepQX_s, SL_nil, SL_cons, SLc_val, stepS_t, stepS_f, hl, hcl, hckb]
    refine hK _ ?_; clear hK K
    refine aw_f (by simp [eval_tmp, put_at]) (by kernel_rfl) ?_
    refine aw_skip ?_
    refine aw_seq ?_
    refine aw_ops (by kernel_rfl) (fun K hK => ?_)
    simp [wb_bool, wb_undef, XL_nil, XL_cons, XLc_val, XLc_call, step1_eq, stepW_t, stepW_f, stepC_n, stepC_s, stepX_s, stepX_n, stepN_s, calleeX, oneV, xop_eq, xopR_s, xopR_n, wantedA_eq, wantedG_n, wantedG_s, plain1_int, plain1_bool, plain1_string, bits_i64, bits_u64, bits_u32, bits_u16, bits_u8, xeqA, xagg, xcmp, xarr, allK_iv, num_iv, calleeOf, xread, xeff, xbin, xint, xnil, xun, xstr, xload, xconv, xpart, xfield, xfieldAddr, xindexAddr, xindex, bnd, asInt?, xslice, xlen, xmin, xmax, xbuild, xfill, xappend, xapp2, xappstr, xappmk, xcap, xcopy, xcells, eval_tmp, eval_const, put_at, put_none, fr0_at, cells_agg, cells_int, cells_bool, cells_string, cells_ptr, cells_slice, notTuple, tab, iv_all, okD, isAggD, hget_app, hget_app0, hget_cons0, hget_cons, set_app, set_app0, setR, setR_one, QL_nil, QL_cons, QLc_val, stepQ_t, stepQ_f, stepQC_n, stepQC_s, stepQX_s, SL_nil, SL_cons, SLc_val, stepS_t, stepS_f, hl, List.take_of_length_le]
    refine ⟨by kernel_rfl, ac_of_vc (by unfold keyV; split <;> simp [pv_iv, pv_int, pv_bool, pv_string, pv_tup2, pv_tup3, iv_plain, p2_int, p2_bool, p2_string]) (key_vc d hl hdg.byte) ?_⟩
    have hkl := (outK_spec d hdg.byte 78).2
    generalize hkk : outK d 78 = kk at *
    cases hft : fits d 78 with
    | false =>
      have e : keyV d = .tuple #[.agg (iv .u8 (zl 32)).toArray, .bool false] := by simp [keyV, hft]
      rw [e]
      simp [wb_bool, wb_undef, XL_nil, XL_cons, XLc_val, XLc_call, step1_eq, stepW_t, stepW_f, stepC_n, stepC_s, stepX_s, stepX_n, stepN_s, calleeX, oneV, xop_eq, xopR_s, xopR_n, wantedA_eq, wantedG_n, wantedG_s, plain1_int, plain1_bool, plain1_string, bits_i64, bits_u64, bits_u32, bits_u16, bits_u8, xeqA, xagg, xcmp, xarr, allK_iv, num_iv, calleeOf, xread, xeff, xbin, xint, xnil, xun, xstr, xload, xconv, xpart, xfield, xfieldAddr, xindexAddr, xindex, bnd, asInt?, xslice, xlen, xmin, xmax, xbuild, xfill, xappend, xapp2, xappstr, xappmk, xcap, xcopy, xcells, eval_tmp, eval_const, put_at, put_none, fr0_at, cells_agg, cells_int, cells_bool, cells_string, cells_ptr, cells_slice, notTuple, tab, iv_all, okD, isAggD, hget_app, hget_app0, hget_cons0, hget_cons, set_app, set_app0, setR, setR_one, QL_nil, QL_cons, QLc_val, stepQ_t, stepQ_f, stepQC_n, stepQC_s, stepQX_s, SL_nil, SL_cons, SLc_val, stepS_t, stepS_f, setR_all]
      refine hK _ _ ?_; clear hK K
      refine aw_seq ?_
      refine aw_seq ?_
      (refine aw_ops (by kernel_rfl) (fun K hK => ?_); simp [wb_bool, wb_undef, XL_nil, XL_cons, XLc_val, XLc_call, step1_eq, stepW_t, stepW_f, stepC_n, stepC_s, stepX_s, stepX_n, stepN_s, calleeX, oneV, xop_eq, xopR_s, xopR_n, wantedA_eq, wantedG_n, wantedG_s, plain1_int, plain1_bool, plain1_string, bits_i64, bits_u64, bits_u32, bits_u16, bits_u8, xeqA, xagg, xcmp, xarr, allK_iv, num_iv, calleeOf, xread, xeff, xbin, xint, xnil, xun, xstr, xload, xconv, xpart, xfield, xfieldAddr, xindexAddr, xindex, bnd, asInt?, xslice, xlen, xmin, xmax, xbuild, xfill, xappend, xapp2, xappstr, xappmk, xcap, xcopy, xcells, eval_tmp, eval_const, put_at, put_none, fr0_at, cells_agg, cells_int, cells_bool, cells_string, cells_ptr, cells_slice, notTuple, tab, iv_all, okD, isAggD, hget_app, hget_app0, hget_cons0, hget_cons, set_app, set_app0, setR, setR_one, QL_nil, QL_cons, QLc_val, stepQ_t, stepQ_f, stepQC_n, stepQC_s, stepQX_s, SL_nil, SL_cons, SLc_val, stepS_t, stepS_f]; refine hK _ _ ?_; clear hK K)
      refine aw_t (by simp [eval_tmp, put_at]) (by kernel_rfl) ?_
      refine aw_seq ?_
      (refine aw_ops (by kernel_rfl) (fun K hK => ?_); simp [wb_bool, wb_undef, XL_nil, XL_cons, XLc_val, XLc_call, step1_eq, stepW_t, stepW_f, stepC_n, stepC_s, stepX_s, stepX_n, stepN_s, calleeX, oneV, xop_eq, xopR_s, xopR_n, wantedA_eq, wantedG_n, wantedG_s, plain1_int, plain1_bool, plain1_string, bits_i64, bits_u64, bits_u32, bits_u16, bits_u8, xeqA, xagg, xcmp, xarr, allK_iv, num_iv, calleeOf, xread, xeff, xbin, xint, xnil, xun, xstr, xload, xconv, xpart, xfield, xfieldAddr, xindexAddr, xindex, bnd, asInt?, xslice, xlen, xmin, xmax, xbuild, xfill, xappend, xapp2, xappstr, xappmk, xcap, xcopy, xcells, eval_tmp, eval_const, put_at, put_none, fr0_at, cells_agg, cells_int, cells_bool, cells_string, cells_ptr, cells_slice, notTuple, tab, iv_all, okD, isAggD, hget_app, hget_app0, hget_cons0, hget_cons, set_app, set_app0, setR, setR_one, QL_nil, QL_cons, QLc_val, stepQ_t, stepQ_f, stepQC_n, stepQC_s, stepQX_s, SL_nil, SL_cons, SLc_val, stepS_t, stepS_f, setR_all]; refine hK _ _ ?_; clear hK K)
      (refine aw_ret ?_; simp [thenQ_ret, inBlockQ_ret, RQ, resL, resV, xload, tab, okD, isAggD, hget_app, hget_app0, hget_cons0, hget_cons, notTuple, put_at, put_none, List.take_of_length_le])
      exact hft
    | true =>
      have e : keyV d = .tuple #[.agg (iv .u8 kk).toArray, .bool true] := by simp [keyV, hft, hkk]
      rw [e]
      simp [wb_bool, wb_undef, XL_nil, XL_cons, XLc_val, XLc_call, step1_eq, stepW_t, stepW_f, stepC_n, stepC_s, stepX_s, stepX_n, stepN_s, calleeX, oneV, xop_eq, xopR_s, xopR_n, wantedA_eq, wantedG_n, wantedG_s, plain1_int, plain1_bool, plain1_string, bits_i64, bits_u64, bits_u32, bits_u16, bits_u8, xeqA, xagg, xcmp, xarr, allK_iv, num_iv, calleeOf, xread, xeff, xbin, xint, xnil, xun, xstr, xload, xconv, xpart, xfield, xfieldAddr, xindexAddr, xindex, bnd, asInt?, xslice, xlen, xmin, xmax, xbuild, xfill, xappend, xapp2, xappstr, xappmk, xcap, xcopy, xcells, eval_tmp, eval_const, put_at, put_none, fr0_at, cells_agg, cells_int, cells_bool, cells_string, cells_ptr, cells_slice, notTuple, tab, iv_all, okD, isAggD, hget_app, hget_app0, hget_cons0, hget_cons, set_app, set_app0, setR, setR_one, QL_nil, QL_cons, QLc_val, stepQ_t, stepQ_f, stepQC_n, stepQC_s, stepQX_s, SL_nil, SL_cons, SLc_val, stepS_t, stepS_f, hkl, setR_all]
      refine hK _ _ ?_; clear hK K
      refine aw_seq ?_
      refine aw_seq ?_
      (refine aw_ops (by kernel_rfl) (fun K hK => ?_); simp [wb_bool, wb_undef, XL_nil, XL_cons, XLc_val, XLc_call, step1_eq, stepW_t, stepW_f, stepC_n, stepC_s, stepX_s, stepX_n, stepN_s, calleeX, oneV, xop_eq, xopR_s, xopR_n, wantedA_eq, wantedG_n, wantedG_s, plain1_int, plain1_bool, plain1_string, bits_i64, bits_u64, bits_u32, bits_u16, bits_u8, xeqA, xagg, xcmp, xarr, allK_iv, num_iv, calleeOf, xread, xeff, xbin, xint, xnil, xun, xstr, xload, xconv, xpart, xfield, xfieldAddr, xindexAddr, xindex, bnd, asInt?, xslice, xlen, xmin, xmax, xbuild, xfill, xappend, xapp2, xappstr, xappmk, xcap, xcopy, xcells, eval_tmp, eval_const, put_at, put_none, fr0_at, cells_agg, cells_int, cells_bool, cells_string, cells_ptr, cells_slice, notTuple, tab, iv_all, okD, isAggD, hget_app, hget_app0, hget_cons0, hget_cons, set_app, set_app0, setR, setR_one, QL_nil, QL_cons, QLc_val, stepQ_t, stepQ_f, stepQC_n, stepQC_s, stepQX_s, SL_nil, SL_cons, SLc_val, stepS_t, stepS_f]; refine hK _ _ ?_; clear hK K)
      refine aw_f (by simp [eval_tmp, put_at]) (by kernel_rfl) ?_
      refine aw_skip ?_
      refine aw_seq ?_
      (refine aw_ops (by kernel_rfl) (fun K hK => ?_); simp [wb_bool, wb_undef, XL_nil, XL_cons, XLc_val, XLc_call, step1_eq, stepW_t, stepW_f, stepC_n, stepC_s, stepX_s, stepX_n, stepN_s, calleeX, oneV, xop_eq, xopR_s, xopR_n, wantedA_eq, wantedG_n, wantedG_s, plain1_int, plain1_bool, plain1_string, bits_i64, bits_u64, bits_u32, bits_u16, bits_u8, xeqA, xagg, xcmp, xarr, allK_iv, num_iv, calleeOf, xread, xeff, xbin, xint, xnil, xun, xstr, xload, xconv, xpart, xfield, xfieldAddr, xindexAddr, xindex, bnd, asInt?, xslice, xlen, xmin, xmax, xbuild, xfill, xappend, xapp2, xappstr, xappmk, xcap, xcopy, xcells, eval_tmp, eval_const, put_at, put_none, fr0_at, cells_agg, cells_int, cells_bool, cells_string, cells_ptr, cells_slice, notTuple, tab, iv_all, okD, isAggD, hget_app, hget_app0, hget_cons0, hget_cons, set_app, set_app0, setR, setR_one, QL_nil, QL_cons, QLc_val, stepQ_t, stepQ_f, stepQC_n, stepQC_s, stepQX_s, SL_nil, SL_cons, SLc_val, stepS_t, stepS_f, hkl, setR_all, List.take_of_length_le]; refine hK _ _ ?_; clear hK K)
      (refine aw_ret ?_; simp [thenQ_ret, inBlockQ_ret, RQ, resL, resV, xload, tab, okD, isAggD, hget_app, hget_app0, hget_cons0, hget_cons, notTuple, put_at, put_none, hkl, List.take_of_length_le])
      exact hft
  · have hckb : (d == checkedF d) = false := beq_eq_false_iff_ne.2 hck
    have hr : readOf d = .tuple #[.agg (iv .u8 (zl 32)).toArray, .int .i64 2] := if_neg hck
    rw [hr] at hK
    clear hr hpl hck
    generalize checkedF d = c at *
    simp [wb_bool, wb_undef, XL_nil, XL_cons, XLc_val, XLc_call, step1_eq, stepW_t, stepW_f, stepC_n, stepC_s, stepX_s, stepX_n, stepN_s, calleeX, oneV, xop_eq, xopR_s, xopR_n, wantedA_eq, wantedG_n, wantedG_s, plain1_int, plain1_bool, plain1_string, bits_i64, bits_u64, bits_u32, bits_u16, bits_u8, xeqA, xagg, xcmp, xarr, allK_iv, num_iv, calleeOf, xread, xeff, xbin, xint, xnil, xun, xstr, xload, xconv, xpart, xfield, xfieldAddr, xindexAddr, xindex, bnd, asInt?, xslice, xlen, xmin, xmax, xbuild, xfill, xappend, xapp2, xappstr, xappmk, xcap, xcopy, xcells, eval_tmp, eval_const, put_at, put_none, fr0_at, cells_agg, cells_int, cells_bool, cells_string, cells_ptr, cells_slice, notTuple, tab, iv_all, okD, isAggD, hget_app, hget_app0, hget_cons0, hget_cons, set_app, set_app0, setR, setR_one, QL_nil, QL_cons, QLc_val, stepQ_t, stepQ_f, stepQC_n, stepQC_s, stepQX_s, SL_nil, SL_cons, SLc_val, stepS_t, stepS_f, hl, hcl, hckb]
    refine hK _ ?_; clear hK K
    refine aw_t (by simp [eval_tmp, put_at]) (by kernel_rfl) ?_
    refine aw_seq ?_
    (refine aw_ops (by kernel_rfl) (fun K hK => ?_); simp [wb_bool, wb_undef, XL_nil, XL_cons, XLc_val, XLc_call, step1_eq, stepW_t, stepW_f, stepC_n, stepC_s, stepX_s, stepX_n, stepN_s, calleeX, oneV, xop_eq, xopR_s, xopR_n, wantedA_eq, wantedG_n, wantedG_s, plain1_int, plain1_bool, plain1_string, bits_i64, bits_u64, bits_u32, bits_u16, bits_u8, xeqA, xagg, xcmp, xarr, allK_iv, num_iv, calleeOf, xread, xeff, xbin, xint, xnil, xun, xstr, xload, xconv, xpart, xfield, xfieldAddr, xindexAddr, xindex, bnd, asInt?, xslice, xlen, xmin, xmax, xbuild, xfill, xappend, xapp2, xappstr, xappmk, xcap, xcopy, xcells, eval_tmp, eval_const, put_at, put_none, fr0_at, cells_agg, cells_int, cells_bool, cells_string, cells_ptr, cells_slice, notTuple, tab, iv_all, okD, isAggD, hget_app, hget_app0, hget_cons0, hget_cons, set_app, set_app0, setR, setR_one, QL_nil, QL_cons, QLc_val, stepQ_t, stepQ_f, stepQC_n, stepQC_s, stepQX_s, SL_nil, SL_cons, SLc_val, stepS_t, stepS_f, setR_all]; refine hK _ _ ?_; clear hK K)
    (refine aw_ret ?_; simp [thenQ_ret, inBlockQ_ret, RQ, resL, resV, xload, tab, okD, isAggD, hget_app, hget_app0, hget_cons0, hget_cons, notTuple, put_at, put_none, List.take_of_length_le])
def readV (s : ByteArray) : Value := if s.size = 95 ∧ allOk s 80 = true then readOf (rd s 80) else readNo
theorem readV_plain (s : ByteArray) : plainV (readV s) = true := by
  unfold readV
  split
  · unfold readOf; split <;> (try split) <;> simp [pv_iv, pv_int, pv_bool, pv_string, pv_tup2, pv_tup3, iv_plain, p2_int, p2_bool, p2_string]
  · unfold readNo; simp [pv_iv, pv_int, pv_bool, pv_string, pv_tup2, pv_tup3, iv_plain, p2_int, p2_bool, p2_string]
theorem read_vc (s : ByteArray) : VC Tryd.prog 10 #[.string s] (readV s) := by
  by_cases hok : s.size = 95 ∧ allOk s 80 = true
  · rw [readV, if_pos hok]
    exact read_ok s (rd s 80) (if_pos hok) (rd_len s 80) (rd_byte s 80 hok.2)
  · rw [readV, if_neg hok]
    exact read_no s (if_neg hok)
end

section
open Go Go.RowKit
set_option maxRecDepth 100000
set_option linter.unusedVariables false

/-- A number's digits times M and c more, the lowest digit at place L - 1. -/
def gin (B M : Int) (L : Nat) (l : List Int) (c : Int) : Nat → List Int × Int
  | 0 => (l, c)
  | j + 1 => ((gin B M L l c j).1.set (L - 1 - j) (((gin B M L l c j).1.getD (L - 1 - j) 0 * M + (gin B M L l c j).2) % B), ((gin B M L l c j).1.getD (L - 1 - j) 0 * M + (gin B M L l c j).2) / B)
def low (B : Int) (L : Nat) (l : List Int) : Nat → Int
  | 0 => 0
  | j + 1 => l.getD (L - 1 - j) 0 * B ^ j + low B L l j
def pref (M : Int) (l : List Int) : Nat → Int
  | 0 => 0
  | i + 1 => pref M l i * M + l.getD i 0
theorem getD_setM (l : List Int) (i j : Nat) (x : Int) (h : i < l.length) : (l.set i x).getD j 0 = if i = j then x else l.getD j 0 := by
  simp only [List.getD_eq_getElem?_getD, List.getElem?_set]
  by_cases e : i = j
  · subst e; simp [h]
  · simp [e]
theorem low_congr (B : Int) (L : Nat) (l m : List Int) : ∀ j, j ≤ L → (∀ p, L - j ≤ p → p < L → l.getD p 0 = m.getD p 0) → low B L l j = low B L m j
  | 0, _, _ => rfl
  | j + 1, hj, h => by
    simp only [low]
    rw [h (L - 1 - j) (by omega) (by omega), low_congr B L l m j (by omega) (fun p h1 h2 => h p (by omega) h2)]
theorem gin_spec (B M : Int) (hB : 0 < B) (L : Nat) (l : List Int) (hl : L ≤ l.length) (c : Int) : ∀ j, j ≤ L →
    (gin B M L l c j).1.length = l.length ∧ (∀ p, p < L - j ∨ L ≤ p → (gin B M L l c j).1.getD p 0 = l.getD p 0) ∧ (∀ p, L - j ≤ p → p < L → 0 ≤ (gin B M L l c j).1.getD p 0 ∧ (gin B M L l c j).1.getD p 0 < B) ∧
    low B L (gin B M L l c j).1 j + (gin B M L l c j).2 * B ^ j = M * low B L l j + c
  | 0, _ => ⟨rfl, fun _ _ => rfl, fun p h1 h2 => by omega, by simp [gin, low]⟩
  | j + 1, hj => by
    obtain ⟨h1, h2, h3, h4⟩ := gin_spec B M hB L l hl c j (by omega)
    have hlen : L - 1 - j < (gin B M L l c j).1.length := by omega
    have hq := h2 (L - 1 - j) (by omega)
    simp only [gin]
    generalize (gin B M L l c j).1 = d at *
    generalize (gin B M L l c j).2 = q at *
    generalize hn : d.getD (L - 1 - j) 0 * M + q = n at *
    refine ⟨by rw [List.length_set, h1], fun p hp => ?_, fun p hp1 hp2 => ?_, ?_⟩
    · rw [getD_setM _ _ _ _ hlen, if_neg (by omega)]
      exact h2 p (by omega)
    · rw [getD_setM _ _ _ _ hlen]
      split
      · exact ⟨Int.emod_nonneg _ (by omega), Int.emod_lt_of_pos _ hB⟩
      · exact h3 p (by omega) hp2
    · simp only [low]
      rw [getD_setM _ _ _ _ hlen, if_pos rfl, low_congr B L (d.set (L - 1 - j) (n % B)) d j (by omega) (fun p hp1 hp2 => by rw [getD_setM _ _ _ _ hlen, if_neg (by omega)])]
      have e1 : n % B * B ^ j + n / B * B ^ (j + 1) = n * B ^ j := by
        have h := Int.emod_add_mul_ediv n B
        have e2 : n / B * B ^ (j + 1) = B * (n / B) * B ^ j := by rw [Int.pow_succ, Int.mul_comm B (n / B), Int.mul_assoc, Int.mul_comm B (B ^ j)]
        rw [e2, ← Int.add_mul, h]
      rw [hq] at hn
      have e3 : n * B ^ j = l.getD (L - 1 - j) 0 * M * B ^ j + q * B ^ j := by rw [← hn, Int.add_mul]
      have e4 : M * (l.getD (L - 1 - j) 0 * B ^ j + low B L l j) = l.getD (L - 1 - j) 0 * M * B ^ j + M * low B L l j := by
        rw [Int.mul_add, ← Int.mul_assoc, Int.mul_comm M (l.getD (L - 1 - j) 0)]
      rw [e4]
      generalize l.getD (L - 1 - j) 0 * M * B ^ j = u at *
      generalize q * B ^ j = v at *
      generalize n % B * B ^ j = x at *
      generalize n / B * B ^ (j + 1) = y at *
      omega
theorem low_bd (B : Int) (hB : 0 < B) (L : Nat) (l : List Int) : ∀ j, j ≤ L → (∀ p, p < L → 0 ≤ l.getD p 0 ∧ l.getD p 0 < B) → 0 ≤ low B L l j ∧ low B L l j < B ^ j
  | 0, _, _ => by simp [low]
  | j + 1, hj, h => by
    obtain ⟨h1, h2⟩ := low_bd B hB L l j (by omega) h
    obtain ⟨h3, h4⟩ := h (L - 1 - j) (by omega)
    have hp : 0 < B ^ j := Int.pow_pos hB
    simp only [low]
    have e1 : 0 ≤ l.getD (L - 1 - j) 0 * B ^ j := Int.mul_nonneg h3 (by omega)
    have e2 : (l.getD (L - 1 - j) 0 + 1) * B ^ j ≤ B * B ^ j := Int.mul_le_mul_of_nonneg_right (by omega) (by omega)
    rw [Int.add_mul, Int.one_mul] at e2
    rw [Int.pow_succ, Int.mul_comm]
    have e3 : B ^ j * l.getD (L - 1 - j) 0 = l.getD (L - 1 - j) 0 * B ^ j := Int.mul_comm _ _
    have e4 : B ^ j * B = B * B ^ j := Int.mul_comm _ _
    omega
theorem low_inj (B : Int) (hB : 0 < B) (L : Nat) (l m : List Int) (hl : ∀ p, p < L → 0 ≤ l.getD p 0 ∧ l.getD p 0 < B) (hm : ∀ p, p < L → 0 ≤ m.getD p 0 ∧ m.getD p 0 < B) :
    ∀ j, j ≤ L → low B L l j = low B L m j → ∀ p, L - j ≤ p → p < L → l.getD p 0 = m.getD p 0
  | 0, _, _, p, h1, h2 => by omega
  | j + 1, hj, h, p, h1, h2 => by
    obtain ⟨a1, a2⟩ := low_bd B hB L l j (by omega) hl
    obtain ⟨b1, b2⟩ := low_bd B hB L m j (by omega) hm
    have hp : 0 < B ^ j := Int.pow_pos hB
    simp only [low] at h
    have key : ∀ (x y u v P : Int), 0 < P → 0 ≤ u → u < P → 0 ≤ v → v < P → x * P + u = y * P + v → x = y := by
      intro x y u v P hP h1 h2 h3 h4 he
      have e1 : (x * P + u) / P = x := by rw [Int.add_comm, Int.add_mul_ediv_right _ _ (by omega), Int.ediv_eq_zero_of_lt h1 h2, Int.zero_add]
      have e2 : (y * P + v) / P = y := by rw [Int.add_comm, Int.add_mul_ediv_right _ _ (by omega), Int.ediv_eq_zero_of_lt h3 h4, Int.zero_add]
      rw [← e1, ← e2, he]
    have hx := key _ _ _ _ _ hp a1 a2 b1 b2 h
    by_cases e : p = L - 1 - j
    · subst e; exact hx
    · rw [hx] at h
      exact low_inj B hB L l m hl hm j (by omega) (by omega) p (by omega) h2
theorem low_pref (B : Int) (L : Nat) (l : List Int) : ∀ n, n ≤ L → low B L l L = pref B l n * B ^ (L - n) + low B L l (L - n)
  | 0, _ => by simp [pref]
  | n + 1, hn => by
    rw [low_pref B L l n (by omega)]
    obtain ⟨q, hq⟩ : ∃ q, L - n = q + 1 := ⟨L - n - 1, by omega⟩
    rw [hq, show L - (n + 1) = q by omega]
    simp only [low, pref]
    rw [show L - 1 - q = n by omega, Int.add_mul, Int.pow_succ]
    have : pref B l n * (B ^ q * B) = pref B l n * B * B ^ q := by rw [Int.mul_assoc, Int.mul_comm B]
    omega
theorem low_all (B : Int) (L : Nat) (l : List Int) : low B L l L = pref B l L := by
  have := low_pref B L l L (Nat.le_refl _)
  rw [this, Nat.sub_self]
  simp [low]
theorem low_zl (B : Int) (L n : Nat) : ∀ j, low B L (zl n) j = 0
  | 0 => rfl
  | j + 1 => by rw [low, zl_get, low_zl B L n j]; simp
def gout (B M : Int) (L n : Nat) (ds : List Int) : Nat → List Int
  | 0 => zl n
  | i + 1 => (gin B M L (gout B M L n ds i) (ds.getD i 0) L).1
theorem gout_spec (B M : Int) (hB : 0 < B) (L n : Nat) (hn : L ≤ n) (ds : List Int) : ∀ i, (gout B M L n ds i).length = n ∧ (∀ p, L ≤ p → (gout B M L n ds i).getD p 0 = 0) ∧ (∀ p, p < L → 0 ≤ (gout B M L n ds i).getD p 0 ∧ (gout B M L n ds i).getD p 0 < B)
  | 0 => ⟨by simp [gout], fun p _ => zl_get _ _, fun p _ => by show 0 ≤ (zl n).getD p 0 ∧ (zl n).getD p 0 < B; rw [zl_get]; omega⟩
  | i + 1 => by
    obtain ⟨h1, h2, _⟩ := gout_spec B M hB L n hn ds i
    obtain ⟨a1, a2, a3, _⟩ := gin_spec B M hB L (gout B M L n ds i) (by omega) (ds.getD i 0) L (Nat.le_refl _)
    exact ⟨by rw [gout, a1, h1], fun p hp => by rw [gout, a2 p (.inr hp), h2 p hp], fun p hp => a3 p (by omega) hp⟩
/-- As long as nothing is carried out, the digits are the number's. -/
theorem gout_val (B M : Int) (hB : 0 < B) (L n : Nat) (hn : L ≤ n) (ds : List Int) : ∀ i, (∀ i', i' < i → (gin B M L (gout B M L n ds i') (ds.getD i' 0) L).2 = 0) → low B L (gout B M L n ds i) L = pref M ds i
  | 0, _ => low_zl _ _ _ _
  | i + 1, h => by
    obtain ⟨h1, _, _⟩ := gout_spec B M hB L n hn ds i
    obtain ⟨_, _, _, a4⟩ := gin_spec B M hB L (gout B M L n ds i) (by omega) (ds.getD i 0) L (Nat.le_refl _)
    rw [h i (by omega), gout_val B M hB L n hn ds i (fun i' hi' => h i' (by omega)), Int.zero_mul, Int.add_zero] at a4
    rw [gout, a4, pref, Int.mul_comm]
/-- Nothing is carried out of what is small. -/
theorem gout_fits (B M : Int) (hB : 0 < B) (L n : Nat) (hn : L ≤ n) (ds : List Int) (N : Nat) (hs : ∀ i, i ≤ N → 0 ≤ pref M ds i ∧ pref M ds i < B ^ L) : ∀ i, i < N → (gin B M L (gout B M L n ds i) (ds.getD i 0) L).2 = 0 := by
  intro i
  induction i using Nat.strongRecOn with
  | _ i ih =>
    intro hi
    obtain ⟨h1, _, _⟩ := gout_spec B M hB L n hn ds i
    obtain ⟨a1, _, a3, a4⟩ := gin_spec B M hB L (gout B M L n ds i) (by omega) (ds.getD i 0) L (Nat.le_refl _)
    rw [gout_val B M hB L n hn ds i (fun i' hi' => ih i' hi' (by omega))] at a4
    have hb := low_bd B hB L (gin B M L (gout B M L n ds i) (ds.getD i 0) L).1 L (Nat.le_refl _) (fun p hp => a3 p (by omega) hp)
    have hp := hs (i + 1) (by omega)
    rw [pref, Int.mul_comm, ← a4] at hp
    have hpw : 0 < B ^ L := Int.pow_pos hB
    generalize low B L (gin B M L (gout B M L n ds i) (ds.getD i 0) L).1 L = u at *
    generalize (gin B M L (gout B M L n ds i) (ds.getD i 0) L).2 = c at *
    generalize B ^ L = P at *
    rcases Int.lt_trichotomy c 0 with h | h | h
    · have : c * P ≤ -1 * P := Int.mul_le_mul_of_nonneg_right (by omega) (by omega)
      omega
    · exact h
    · have : 1 * P ≤ c * P := Int.mul_le_mul_of_nonneg_right (by omega) (by omega)
      omega
theorem pref_mono (M : Int) (hM : 1 ≤ M) (l : List Int) (h : ∀ p, 0 ≤ l.getD p 0) : ∀ n i, i ≤ n → 0 ≤ pref M l i ∧ pref M l i ≤ pref M l n := by
  have pos : ∀ i, 0 ≤ pref M l i := by
    intro i
    induction i with
    | zero => simp [pref]
    | succ i ih => simp only [pref]; have := h i; have := Int.mul_nonneg ih (by omega : 0 ≤ M); omega
  intro n
  induction n with
  | zero => intro i hi; (obtain rfl : i = 0 := by omega); exact ⟨pos 0, Int.le_refl _⟩
  | succ n ih =>
    intro i hi
    refine ⟨pos i, ?_⟩
    by_cases e : i = n + 1
    · subst e; exact Int.le_refl _
    · have h1 := (ih i (by omega)).2
      have h2 : pref M l n * 1 ≤ pref M l n * M := Int.mul_le_mul_of_nonneg_left hM (pos n)
      have h3 := h n
      simp only [pref]
      omega
theorem pref_congr (M : Int) (l m : List Int) : ∀ n, (∀ p, p < n → l.getD p 0 = m.getD p 0) → pref M l n = pref M m n
  | 0, _ => rfl
  | n + 1, h => by simp only [pref]; rw [pref_congr M l m n (fun p hp => h p (by omega)), h n (by omega)]
end

section
open Go Go.RowKit
set_option maxRecDepth 100000
set_option linter.unusedVariables false
set_option linter.unusedSimpArgs false

theorem inD_gin (d : List Int) (b : Int) : ∀ j, inD d b j = gin 10 256 78 d b j
  | 0 => rfl
  | j + 1 => by simp only [inD, gin, inD_gin d b j, show 78 - 1 - j = 77 - j by omega]
theorem outD_gout (k : List Int) : ∀ i, outD k i = gout 10 256 78 80 k i
  | 0 => rfl
  | i + 1 => by simp only [outD, gout, outD_gout k i, inD_gin]
theorem kin_gin (l : List Int) (c : Int) : ∀ j, kin l c j = gin 256 10 32 l c j
  | 0 => rfl
  | j + 1 => by simp only [kin, gin, kin_gin l c j, show 32 - 1 - j = 31 - j by omega]
theorem outK_gout (d : List Int) : ∀ i, outK d i = gout 256 10 32 32 d i
  | 0 => rfl
  | i + 1 => by simp only [outK, gout, outK_gout d i, kin_gin]
theorem fits_iff (d : List Int) : ∀ n, fits d n = true ↔ ∀ i, i < n → (gin 256 10 32 (gout 256 10 32 32 d i) (d.getD i 0) 32).2 = 0
  | 0 => by simp [fits]
  | n + 1 => by
    simp only [fits, Bool.and_eq_true, decide_eq_true_eq, fits_iff d n, kin_gin, outK_gout]
    constructor
    · intro h i hi
      by_cases e : i = n
      · subst e; exact h.2
      · exact h.1 i (by omega)
    · intro h
      exact ⟨fun i hi => h i (by omega), h n (by omega)⟩
theorem list_eq {l m : List Int} (h : l.length = m.length) (e : ∀ p, p < l.length → l.getD p 0 = m.getD p 0) : l = m := by
  apply List.ext_getElem h
  intro i h1 h2
  have := e i h1
  simpa [h1, h2] using this
theorem restF_pref (d : List Int) : ∀ n, restF d n = pref 10 d n % 97
  | 0 => rfl
  | n + 1 => by simp only [restF, pref, restF_pref d n]; omega
theorem restF_congr {d e : List Int} {n : Nat} (h : ∀ p, p < n → d.getD p 0 = e.getD p 0) : restF d n = restF e n := by
  rw [restF_pref, restF_pref, pref_congr 10 d e n h]
theorem checkedF_get (d : List Int) (hd : d.length = 80) (p : Nat) : (checkedF d).getD p 0 = if p = 78 then checkF d / 10 else if p = 79 then checkF d % 10 else d.getD p 0 := by
  unfold checkedF
  rw [getD_setM _ _ _ _ (by rw [List.length_set]; omega), getD_setM _ _ _ _ (by omega)]
  by_cases e1 : p = 78
  · subst e1; simp
  · by_cases e2 : p = 79
    · subst e2; simp
    · rw [if_neg (by omega), if_neg (by omega), if_neg e1, if_neg e2]
theorem checkF_congr {d e : List Int} (h : ∀ p, p < 78 → d.getD p 0 = e.getD p 0) : checkF d = checkF e := by
  unfold checkF; rw [restF_congr h]
theorem checked_idem (d : List Int) (hd : d.length = 80) : checkedF (checkedF d) = checkedF d := by
  have hc : checkF (checkedF d) = checkF d := checkF_congr (fun p hp => by rw [checkedF_get d hd, if_neg (by omega), if_neg (by omega)])
  apply list_eq (by simp [checkedF_len])
  intro p _
  rw [checkedF_get _ (by rw [checkedF_len]; exact hd), checkedF_get d hd, hc]
  split
  · rfl
  · split <;> rfl
theorem pow_fits : (256 : Int) ^ 32 < 10 ^ 78 := by decide +kernel
/-- The digits of a key: their number. -/
theorem digits_val (k : List Int) (hk : k.length = 32) (hb : Byte k) : pref 10 (outD k 32) 78 = pref 256 k 32 ∧ 0 ≤ pref 256 k 32 ∧ pref 256 k 32 < 256 ^ 32 := by
  have hbd := low_bd 256 (by omega) 32 k 32 (Nat.le_refl _) (fun p _ => ⟨(hb p).1, by have := (hb p).2; omega⟩)
  rw [low_all] at hbd
  have hm := pref_mono 256 (by omega) k (fun p => (hb p).1) 32
  have hf := gout_fits 10 256 (by omega) 78 80 (by omega) k 32 (fun i hi => ⟨(hm i hi).1, by
    have := (hm i hi).2
    have h2 := pow_fits
    generalize (256 : Int) ^ 32 = P at *
    generalize (10 : Int) ^ 78 = R at *
    omega⟩)
  have hv := gout_val 10 256 (by omega) 78 80 (by omega) k 32 hf
  rw [low_all, ← outD_gout] at hv
  exact ⟨hv, hbd⟩
theorem back_key (k : List Int) (hk : k.length = 32) (hb : Byte k) : fits (digitsF k) 78 = true ∧ outK (digitsF k) 78 = k := by
  obtain ⟨h1, h2, h3⟩ := digits_val k hk hb
  obtain ⟨o1, o2⟩ := outD_spec k hb 32
  have hd : ∀ p, p < 78 → (digitsF k).getD p 0 = (outD k 32).getD p 0 := fun p hp => by
    unfold digitsF
    rw [checkedF_get _ o2, if_neg (by omega), if_neg (by omega)]
  have hdig : Dig (digitsF k) := checkedF_dig o1
  have hpv : pref 10 (digitsF k) 78 = pref 256 k 32 := by rw [pref_congr 10 _ _ 78 hd, h1]
  have hm := pref_mono 10 (by omega) (digitsF k) (fun p => (hdig p).1) 78
  have hf := gout_fits 256 10 (by omega) 32 32 (by omega) (digitsF k) 78 (fun i hi => ⟨(hm i hi).1, by
    have := (hm i hi).2
    rw [hpv] at this
    generalize (256 : Int) ^ 32 = P at *
    omega⟩)
  have hv := gout_val 256 10 (by omega) 32 32 (by omega) (digitsF k) 78 hf
  refine ⟨(fits_iff _ _).2 hf, ?_⟩
  obtain ⟨g1, g2, g3⟩ := gout_spec 256 10 (by omega) 32 32 (by omega) (digitsF k) 78
  rw [outK_gout]
  apply list_eq (by rw [g1, hk])
  intro p hp
  rw [g1] at hp
  refine low_inj 256 (by omega) 32 _ _ g3 (fun p _ => ⟨(hb p).1, by have := (hb p).2; omega⟩) 32 (Nat.le_refl _) ?_ p (by omega) hp
  rw [hv, hpv, low_all]
theorem back_digits (d : List Int) (hd : d.length = 80) (hdig : Dig d) (hc : d = checkedF d) (hf : fits d 78 = true) : digitsF (outK d 78) = d := by
  obtain ⟨k1, k2⟩ := outK_spec d hdig.byte 78
  obtain ⟨h1, h2, h3⟩ := digits_val (outK d 78) k2 k1
  have hv := gout_val 256 10 (by omega) 32 32 (by omega) d 78 ((fits_iff _ _).1 hf)
  rw [low_all, ← outK_gout] at hv
  rw [hv] at h1
  obtain ⟨o1, o2⟩ := outD_spec (outK d 78) k1 32
  have hpos : ∀ p, p < 78 → (outD (outK d 78) 32).getD p 0 = d.getD p 0 := by
    intro p hp
    refine low_inj 10 (by omega) 78 _ _ (fun p _ => ⟨(o1 p).1, by have := (o1 p).2; omega⟩) (fun p _ => ⟨(hdig p).1, by have := (hdig p).2; omega⟩) 78 (Nat.le_refl _) ?_ p (by omega) hp
    rw [low_all, low_all, h1]
  unfold digitsF
  apply list_eq (by rw [checkedF_len, o2, hd])
  intro p _
  have e0 : d.getD p 0 = (checkedF d).getD p 0 := congrArg (fun l : List Int => l.getD p 0) hc
  rw [e0, checkedF_get _ o2, checkedF_get _ hd, checkF_congr hpos]
  split
  · rfl
  · split
    · rfl
    · by_cases hp : p < 78
      · exact hpos p hp
      · have e1 : (outD (outK d 78) 32).getD p 0 = 0 := by rw [List.getD_eq_getElem?_getD, List.getElem?_eq_none (by omega)]; rfl
        have e2 : d.getD p 0 = 0 := by rw [List.getD_eq_getElem?_getD, List.getElem?_eq_none (by omega)]; rfl
        rw [e1, e2]

theorem tx_length (d : List Int) : ∀ n, (tx d n).length = n + (n - 1) / 5
  | 0 => rfl
  | n + 1 => by
    simp only [tx, mid, List.length_append, List.length_cons, List.length_nil]
    split
    · rw [List.length_append, tx_length d n]; simp only [List.length_cons, List.length_nil]; omega
    · rw [tx_length d n]; omega
theorem mid_length (d : List Int) (n : Nat) : (mid (tx d n) n).length = n + n / 5 := by
  unfold mid
  split
  · rw [List.length_append, tx_length]; simp only [List.length_cons, List.length_nil]; omega
  · rw [tx_length]; omega
theorem getD_app_left (l r : List Int) (p : Nat) (h : p < l.length) : (l ++ r).getD p 0 = l.getD p 0 := by
  simp only [List.getD_eq_getElem?_getD, List.getElem?_append_left h]
theorem getD_app_at (l : List Int) (x : Int) : (l ++ [x]).getD l.length 0 = x := by
  simp [List.getD_eq_getElem?_getD]
theorem tx_digit (d : List Int) (i : Nat) : ∀ n, i < n → (tx d n).getD (i + i / 5) 0 = 48 + d.getD i 0
  | 0, h => by omega
  | n + 1, h => by
    have hm := mid_length d n
    by_cases e : i = n
    · subst e
      rw [tx, ← hm, getD_app_at]
    · rw [tx, getD_app_left _ _ _ (by rw [hm]; omega)]
      have ih := tx_digit d i n (by omega)
      unfold mid
      split
      · rw [getD_app_left _ _ _ (by rw [tx_length]; omega)]; exact ih
      · exact ih
theorem tx_blank (d : List Int) (i : Nat) (h0 : 0 < i) (h5 : i % 5 = 0) : ∀ n, i < n → (tx d n).getD (i + i / 5 - 1) 0 = 32
  | 0, h => by omega
  | n + 1, h => by
    have hm := mid_length d n
    by_cases e : i = n
    · subst e
      rw [tx, getD_app_left _ _ _ (by rw [hm]; omega)]
      have hl := tx_length d i
      unfold mid
      rw [if_pos ⟨h0, h5⟩, show i + i / 5 - 1 = (tx d i).length by omega, getD_app_at]
    · rw [tx, getD_app_left _ _ _ (by rw [hm]; omega)]
      have ih := tx_blank d i h0 h5 n (by omega)
      unfold mid
      split
      · rw [getD_app_left _ _ _ (by rw [tx_length]; omega)]; exact ih
      · exact ih
theorem snum_size (l : List Int) : (strOfNums l).size = l.length := by simp [strOfNums, ByteArray.size]
theorem gb_nums (l : List Int) (i : Nat) (hi : i < l.length) (hb : 0 ≤ l.getD i 0 ∧ l.getD i 0 ≤ 255) : gb (strOfNums l) i = l.getD i 0 := by
  unfold gb strOfNums
  have e : l.getD i 0 = l[i] := by simp [hi]
  rw [e] at hb ⊢
  simp [hi]
  omega
theorem nums_get (s : ByteArray) (i : Nat) (hi : i < s.size) : (nums s).getD i 0 = gb s i := by
  have h' : i < s.data.toList.length := by simpa using hi
  unfold gb nums
  rw [List.getD_eq_getElem?_getD, List.getD_eq_getElem?_getD, List.getElem?_map, List.getElem?_eq_getElem h']
  rfl
theorem of_nums (s : ByteArray) : strOfNums (nums s) = s := by
  have h : (nums s).map (fun n => UInt8.ofNat n.toNat) = s.data.toList := by
    unfold nums
    rw [List.map_map]
    exact (List.map_congr_left fun b _ => by simp).trans (List.map_id _)
  unfold strOfNums
  rw [h]
theorem rd_get (s : ByteArray) (i : Nat) : ∀ n, n ≤ 80 → i < n → (rd s n).getD i 0 = gb s (i + i / 5) - 48
  | 0, _, h => by omega
  | n + 1, hn, h => by
    rw [rd, getD_setM _ _ _ _ (by rw [rd_len]; omega)]
    by_cases e : n = i
    · subst e; rw [if_pos rfl]
    · rw [if_neg e]; exact rd_get s i n (by omega) (by omega)
theorem allOk_iff (s : ByteArray) : ∀ n, allOk s n = true ↔ ∀ i, i < n → okAt s i = true
  | 0 => by simp [allOk]
  | n + 1 => by
    simp only [allOk, Bool.and_eq_true, allOk_iff s n]
    constructor
    · intro h i hi
      by_cases e : i = n
      · subst e; exact h.2
      · exact h.1 i (by omega)
    · intro h
      exact ⟨fun i hi => h i (by omega), h n (by omega)⟩
theorem read_text (d : List Int) (hd : d.length = 80) (hdig : Dig d) : (strOfNums (tx d 80)).size = 95 ∧ allOk (strOfNums (tx d 80)) 80 = true ∧ rd (strOfNums (tx d 80)) 80 = d := by
  have hl : (tx d 80).length = 95 := by rw [tx_length]
  have hg : ∀ i, i < 80 → gb (strOfNums (tx d 80)) (i + i / 5) = 48 + d.getD i 0 := by
    intro i hi
    have ht := tx_digit d i 80 hi
    have := hdig i
    rw [gb_nums _ _ (by omega) (by rw [ht]; omega), ht]
  refine ⟨by rw [snum_size, hl], (allOk_iff _ _).2 (fun i hi => ?_), ?_⟩
  · have h1 := hg i hi
    have := hdig i
    simp only [okAt, Bool.and_eq_true, decide_eq_true_eq, Bool.not_eq_true', Bool.and_eq_false_iff, decide_eq_false_iff_not]
    refine ⟨⟨?_, by omega⟩, by omega⟩
    by_cases h0 : 0 < i
    · by_cases h5 : i % 5 = 0
      · right
        have ht := tx_blank d i h0 h5 80 hi
        rw [gb_nums _ _ (by omega) (by rw [ht]; omega), ht]
        simp
      · left; right; exact h5
    · left; left; exact h0
  · apply list_eq (by rw [rd_len, hd])
    intro p hp
    rw [rd_len] at hp
    rw [rd_get _ _ 80 (Nat.le_refl _) hp, hg p hp]
    omega
theorem text_read (s : ByteArray) (hs : s.size = 95) (hok : allOk s 80 = true) : strOfNums (tx (rd s 80) 80) = s := by
  rw [allOk_iff] at hok
  have h : tx (rd s 80) 80 = nums s := by
    apply list_eq (by rw [tx_length]; simp [nums, hs])
    intro p hp
    have hp95 : p < 95 := by rw [tx_length] at hp; omega
    rw [nums_get s p (by omega)]
    by_cases h5 : p % 6 = 5
    · have e : p = (p / 6 * 5 + 5) + (p / 6 * 5 + 5) / 5 - 1 := by omega
      have hi : p / 6 * 5 + 5 < 80 := by omega
      have ht := tx_blank (rd s 80) (p / 6 * 5 + 5) (by omega) (by omega) 80 hi
      rw [← e] at ht
      rw [ht]
      have ho := hok _ hi
      simp only [okAt, Bool.and_eq_true, decide_eq_true_eq, Bool.not_eq_true', Bool.and_eq_false_iff, decide_eq_false_iff_not] at ho
      rw [← e] at ho
      rcases ho.1.1 with (h | h) | h
      · omega
      · omega
      · exact (Classical.not_not.1 h).symm
    · have e : p = (p / 6 * 5 + p % 6) + (p / 6 * 5 + p % 6) / 5 := by omega
      have hi : p / 6 * 5 + p % 6 < 80 := by omega
      have ht := tx_digit (rd s 80) (p / 6 * 5 + p % 6) 80 hi
      have hr := rd_get s (p / 6 * 5 + p % 6) 80 (Nat.le_refl _) hi
      rw [← e] at ht hr
      rw [ht, hr]
      omega
  rw [h, of_nums]
end
end Go.Proofs.YtmnkbdclnaekkaaDoor
