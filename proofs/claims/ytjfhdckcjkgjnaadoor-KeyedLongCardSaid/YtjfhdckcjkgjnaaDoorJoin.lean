/-
  Parts as one text: the document's Join.
-/
import Derived.Test.YtjfhdckcjkgjnaaDoorRefs
namespace Go.Proofs.YtjfhdckcjkgjnaaDoor
open Go Go.RowKit
set_option linter.unusedSimpArgs false
set_option linter.unusedVariables false
set_option maxRecDepth 100000
set_option maxHeartbeats 2000000

/-- Parts read from a slice, wherever it lies. -/
def SlR (H : AH) (v : Value) (ps : List ByteArray) : Prop :=
  (∃ a, v = .slice a 0 0 ∧ ps = []) ∨ ∃ j off k, v = .slice (some ⟨j, off, none⟩) ps.length ps.length ∧ hget H j = some k ∧ ∀ i p, ps[i]? = some p → k.cells[off + i]? = some (.string p)
theorem SlR.s {H : AH} {v : Value} {ps : List ByteArray} (h : SlR H v ps) : SlS H H.length v ps := by
  rcases h with h | ⟨j, off, k, h1, h2, h3⟩
  · exact .inl h
  · exact .inr ⟨j, off, k, h1, by have := hget_lt h2; omega, h2, h3⟩
theorem SlR.app {H : AH} {v : Value} {ps : List ByteArray} (h : SlR H v ps) (L : AH) : SlR (H ++ L) v ps := by
  rcases h with h | ⟨j, off, k, h1, h2, h3⟩
  · exact .inl h
  · exact .inr ⟨j, off, k, h1, hget_left' h2, h3⟩
theorem SlR.len {H : AH} {v : Value} {ps : List ByteArray} (h : SlR H v ps) : xlen Tryd.prog 22 v = some (.int .i64 ps.length) := by
  rcases h with ⟨a, rfl, rfl⟩ | ⟨j, off, k, rfl, _⟩
  · simp [xlen, tab]
  · simp [xlen, tab]
theorem join_rc {H : AH} {γ : Nat → Option Nat} (ps : List ByteArray) (v : Value) (hv : SlR H v ps) (hs : (cat ps).length ≤ 1000000000000) (hl : ps.length ≤ 1000000000000) : AC Tryd.prog H.length γ 12 #[v] H (fun v' _ => v' = .string (strOfNums (cat ps))) := by
  refine ac_of_aw Tryd.func12 rfl Tryd.ntmps12 Tryd.results12 (by simp) ?_
  have hxl := hv.len
  refine aw_seq ?_
  (refine aw_ops (by kernel_rfl) (fun K hK => ?_); simp (disch := first | omega | (simp only [List.length_set, List.length_append, List.length_cons, List.length_nil, iv_length, zl_length]; done) | (simp only [List.length_set, List.length_append, List.length_cons, List.length_nil, iv_length, zl_length]; omega)) [wb_bool, wb_undef, XL_nil, XL_cons, XLc_val, XLc_call, step1_eq, stepW_t, stepW_f, stepC_n, stepC_s, stepX_s, xop_eq, xopR_s, xopR_n, wantedA_eq, wantedG_n, wantedG_s, plain1_int, plain1_bool, plain1_string, bits_i64, bits_u64, bits_u32, bits_u16, bits_u8, xeqA, xarr, allK_iv, num_iv, calleeOf, xread, xeff, xbin, xint, xnil, xun, xstr, xload, xconv, xpart, xfield, xfieldAddr, xindexAddr, xindex, bnd, asInt?, xslice, xlen, xmin, xmax, xbuild, xfill, xappend, xcopy, xcells, eval_tmp, eval_const, put_at, put_none, fr0_at, cells_agg, cells_int, cells_bool, cells_string, cells_ptr, cells_slice, notTuple, tab, iv_all, hget_app, hget_app0, hget_cons0, hget_cons, set_app, set_app0, setR, setR_one, QL_nil, QL_cons, QLc_val, stepQ_t, stepQ_f, stepQC_n, stepQC_s, stepQX_s, SL_nil, SL_cons, SLc_val, stepS_t, stepS_f, ltT, ltF, leT, leF, eqT, eqF, ltTn, ltFn, leTn, leFn, eqTn, eqFn, beqT, beqF, bneT, bneF, wi64, wu64, wu32, wu16, wu8, tmodP, tdivP, hgetL, hgetNe, hgetEq, setL, nums_def, nums_len, Nat.succ_le_of_lt, List.getElem?_cons_zero, List.getElem?_cons_succ, Option.getD_some, -getElem?_pos, -getElem?_neg, Int.toNat_add, Int.toNat_mul, agB, agI, agS, agP, agL, agA, okB, okI, okS, okP, okSl, okA]; refine hK _ _ ?_; clear hK K)
  refine aw_seq ?_
  (refine aw_ops (by kernel_rfl) (fun K hK => ?_); simp (disch := first | omega | (simp only [List.length_set, List.length_append, List.length_cons, List.length_nil, iv_length, zl_length]; done) | (simp only [List.length_set, List.length_append, List.length_cons, List.length_nil, iv_length, zl_length]; omega)) [wb_bool, wb_undef, XL_nil, XL_cons, XLc_val, XLc_call, step1_eq, stepW_t, stepW_f, stepC_n, stepC_s, stepX_s, xop_eq, xopR_s, xopR_n, wantedA_eq, wantedG_n, wantedG_s, plain1_int, plain1_bool, plain1_string, bits_i64, bits_u64, bits_u32, bits_u16, bits_u8, xeqA, xarr, allK_iv, num_iv, calleeOf, xread, xeff, xbin, xint, xnil, xun, xstr, xload, xconv, xpart, xfield, xfieldAddr, xindexAddr, xindex, bnd, asInt?, xslice, xlen, xmin, xmax, xbuild, xfill, xappend, xcopy, xcells, eval_tmp, eval_const, put_at, put_none, fr0_at, cells_agg, cells_int, cells_bool, cells_string, cells_ptr, cells_slice, notTuple, tab, iv_all, hget_app, hget_app0, hget_cons0, hget_cons, set_app, set_app0, setR, setR_one, QL_nil, QL_cons, QLc_val, stepQ_t, stepQ_f, stepQC_n, stepQC_s, stepQX_s, SL_nil, SL_cons, SLc_val, stepS_t, stepS_f, ltT, ltF, leT, leF, eqT, eqF, ltTn, ltFn, leTn, leFn, eqTn, eqFn, beqT, beqF, bneT, bneF, wi64, wu64, wu32, wu16, wu8, tmodP, tdivP, hgetL, hgetNe, hgetEq, setL, nums_def, nums_len, Nat.succ_le_of_lt, List.getElem?_cons_zero, List.getElem?_cons_succ, Option.getD_some, -getElem?_pos, -getElem?_neg, Int.toNat_add, Int.toNat_mul, agB, agI, agS, agP, agL, agA, okB, okI, okS, okP, okSl, okA]; refine hK _ _ ?_; clear hK K)
  refine aw_seq ?_
  refine aw_seq ?_
  (refine aw_ops (by kernel_rfl) (fun K hK => ?_); simp (disch := first | omega | (simp only [List.length_set, List.length_append, List.length_cons, List.length_nil, iv_length, zl_length]; done) | (simp only [List.length_set, List.length_append, List.length_cons, List.length_nil, iv_length, zl_length]; omega)) [wb_bool, wb_undef, XL_nil, XL_cons, XLc_val, XLc_call, step1_eq, stepW_t, stepW_f, stepC_n, stepC_s, stepX_s, xop_eq, xopR_s, xopR_n, wantedA_eq, wantedG_n, wantedG_s, plain1_int, plain1_bool, plain1_string, bits_i64, bits_u64, bits_u32, bits_u16, bits_u8, xeqA, xarr, allK_iv, num_iv, calleeOf, xread, xeff, xbin, xint, xnil, xun, xstr, xload, xconv, xpart, xfield, xfieldAddr, xindexAddr, xindex, bnd, asInt?, xslice, xlen, xmin, xmax, xbuild, xfill, xappend, xcopy, xcells, eval_tmp, eval_const, put_at, put_none, fr0_at, cells_agg, cells_int, cells_bool, cells_string, cells_ptr, cells_slice, notTuple, tab, iv_all, hget_app, hget_app0, hget_cons0, hget_cons, set_app, set_app0, setR, setR_one, QL_nil, QL_cons, QLc_val, stepQ_t, stepQ_f, stepQC_n, stepQC_s, stepQX_s, SL_nil, SL_cons, SLc_val, stepS_t, stepS_f, ltT, ltF, leT, leF, eqT, eqF, ltTn, ltFn, leTn, leFn, eqTn, eqFn, beqT, beqF, bneT, bneF, wi64, wu64, wu32, wu16, wu8, tmodP, tdivP, hgetL, hgetNe, hgetEq, setL, nums_def, nums_len, Nat.succ_le_of_lt, List.getElem?_cons_zero, List.getElem?_cons_succ, Option.getD_some, -getElem?_pos, -getElem?_neg, Int.toNat_add, Int.toNat_mul, agB, agI, agS, agP, agL, agA, okB, okI, okS, okP, okSl, okA]; refine hK _ _ ?_; clear hK K)
  refine aw_block ?_
  refine aw_loop (fun q α H' => ∃ (i : Nat) (t : ByteArray), i + q = ps.length ∧ nums t ++ cat (ps.drop i) = cat ps ∧ α 4 = .int .i64 (i : Nat) ∧ α 3 = .string t ∧ α 0 = v ∧ H' = H) ps.length ?_ ?_
  · refine ⟨0, ByteArray.empty, by omega, rfl, by (first | (simp [put_at, put_none, fr0_at]; done) | rfl), by (first | (simp [put_at, put_none, fr0_at]; done) | rfl), by (first | (simp [put_at, put_none, fr0_at]; done) | rfl), rfl⟩
  rintro q α H' ⟨i, t, hi, ht, h4, h3, h0, rfl⟩
  refine aw_seq ?_
  refine aw_seq ?_
  (refine aw_ops (by kernel_rfl) (fun K hK => ?_); simp (disch := first | omega | (simp only [List.length_set, List.length_append, List.length_cons, List.length_nil, iv_length, zl_length]; done) | (simp only [List.length_set, List.length_append, List.length_cons, List.length_nil, iv_length, zl_length]; omega)) [wb_bool, wb_undef, XL_nil, XL_cons, XLc_val, XLc_call, step1_eq, stepW_t, stepW_f, stepC_n, stepC_s, stepX_s, xop_eq, xopR_s, xopR_n, wantedA_eq, wantedG_n, wantedG_s, plain1_int, plain1_bool, plain1_string, bits_i64, bits_u64, bits_u32, bits_u16, bits_u8, xeqA, xarr, allK_iv, num_iv, calleeOf, xread, xeff, xbin, xint, xnil, xun, xstr, xload, xconv, xpart, xfield, xfieldAddr, xindexAddr, xindex, bnd, asInt?, xslice, xmin, xmax, xbuild, xfill, xappend, xcopy, xcells, eval_tmp, eval_const, put_at, put_none, fr0_at, cells_agg, cells_int, cells_bool, cells_string, cells_ptr, cells_slice, notTuple, tab, iv_all, hget_app, hget_app0, hget_cons0, hget_cons, set_app, set_app0, setR, setR_one, QL_nil, QL_cons, QLc_val, stepQ_t, stepQ_f, stepQC_n, stepQC_s, stepQX_s, SL_nil, SL_cons, SLc_val, stepS_t, stepS_f, h4, h0, hxl, ltT, ltF, leT, leF, eqT, eqF, ltTn, ltFn, leTn, leFn, eqTn, eqFn, beqT, beqF, bneT, bneF, wi64, wu64, wu32, wu16, wu8, tmodP, tdivP, hgetL, hgetNe, hgetEq, setL, nums_def, nums_len, Nat.succ_le_of_lt, List.getElem?_cons_zero, List.getElem?_cons_succ, Option.getD_some, -getElem?_pos, -getElem?_neg, Int.toNat_add, Int.toNat_mul, agB, agI, agS, agP, agL, agA, okB, okI, okS, okP, okSl, okA]; refine hK _ _ ?_; clear hK K)
  by_cases hlt : (i : Int) < ps.length
  · refine aw_t (by (first | (simp [eval_tmp, put_at, hlt]; done) | (simp [eval_tmp, put_at, hlt]; omega))) (by kernel_rfl) ?_
    refine aw_skip ?_
    refine aw_seq ?_
    refine aw_block ?_
    have hi' : i < ps.length := by omega
    rcases hv with ⟨a, rfl, rfl⟩ | ⟨j, off, k, rfl, hj, hk⟩
    · simp at hi'
    have hki := hk i ps[i] (List.getElem?_eq_getElem hi')
    rw [List.drop_eq_getElem_cons hi'] at ht
    obtain ⟨pt, hpt⟩ : ∃ p, p = ps[i] := ⟨_, rfl⟩
    rw [← hpt] at ht hki
    have hsz : t.size + pt.size ≤ 1000000000000 := by
      have := congrArg List.length ht
      rw [show cat (pt :: ps.drop (i + 1)) = nums pt ++ cat (ps.drop (i + 1)) from rfl] at this
      simp only [List.length_append, nums_len] at this
      omega
    (refine aw_ops (by kernel_rfl) (fun K hK => ?_); simp (disch := first | omega | (simp only [List.length_set, List.length_append, List.length_cons, List.length_nil, iv_length, zl_length]; done) | (simp only [List.length_set, List.length_append, List.length_cons, List.length_nil, iv_length, zl_length]; omega)) [wb_bool, wb_undef, XL_nil, XL_cons, XLc_val, XLc_call, step1_eq, stepW_t, stepW_f, stepC_n, stepC_s, stepX_s, xop_eq, xopR_s, xopR_n, wantedA_eq, wantedG_n, wantedG_s, plain1_int, plain1_bool, plain1_string, bits_i64, bits_u64, bits_u32, bits_u16, bits_u8, xeqA, xarr, allK_iv, num_iv, calleeOf, xread, xeff, xbin, xint, xnil, xun, xstr, xload, xconv, xpart, xfield, xfieldAddr, xindexAddr, xindex, bnd, asInt?, xslice, xlen, xmin, xmax, xbuild, xfill, xappend, xcopy, xcells, eval_tmp, eval_const, put_at, put_none, fr0_at, cells_agg, cells_int, cells_bool, cells_string, cells_ptr, cells_slice, notTuple, tab, iv_all, hget_app, hget_app0, hget_cons0, hget_cons, set_app, set_app0, setR, setR_one, QL_nil, QL_cons, QLc_val, stepQ_t, stepQ_f, stepQC_n, stepQC_s, stepQX_s, SL_nil, SL_cons, SLc_val, stepS_t, stepS_f, h3, h0, h4, hj, hki, ltT, ltF, leT, leF, eqT, eqF, ltTn, ltFn, leTn, leFn, eqTn, eqFn, beqT, beqF, bneT, bneF, wi64, wu64, wu32, wu16, wu8, tmodP, tdivP, hgetL, hgetNe, hgetEq, setL, nums_def, nums_len, Nat.succ_le_of_lt, List.getElem?_cons_zero, List.getElem?_cons_succ, Option.getD_some, -getElem?_pos, -getElem?_neg, Int.toNat_add, Int.toNat_mul, agB, agI, agS, agP, agL, agA, okB, okI, okS, okP, okSl, okA]; refine hK _ _ ?_; clear hK K)
    (refine aw_ops (by kernel_rfl) (fun K hK => ?_); simp (disch := first | omega | (simp only [List.length_set, List.length_append, List.length_cons, List.length_nil, iv_length, zl_length]; done) | (simp only [List.length_set, List.length_append, List.length_cons, List.length_nil, iv_length, zl_length]; omega)) [wb_bool, wb_undef, XL_nil, XL_cons, XLc_val, XLc_call, step1_eq, stepW_t, stepW_f, stepC_n, stepC_s, stepX_s, xop_eq, xopR_s, xopR_n, wantedA_eq, wantedG_n, wantedG_s, plain1_int, plain1_bool, plain1_string, bits_i64, bits_u64, bits_u32, bits_u16, bits_u8, xeqA, xarr, allK_iv, num_iv, calleeOf, xread, xeff, xbin, xint, xnil, xun, xstr, xload, xconv, xpart, xfield, xfieldAddr, xindexAddr, xindex, bnd, asInt?, xslice, xlen, xmin, xmax, xbuild, xfill, xappend, xcopy, xcells, eval_tmp, eval_const, put_at, put_none, fr0_at, cells_agg, cells_int, cells_bool, cells_string, cells_ptr, cells_slice, notTuple, tab, iv_all, hget_app, hget_app0, hget_cons0, hget_cons, set_app, set_app0, setR, setR_one, QL_nil, QL_cons, QLc_val, stepQ_t, stepQ_f, stepQC_n, stepQC_s, stepQX_s, SL_nil, SL_cons, SLc_val, stepS_t, stepS_f, h4, ltT, ltF, leT, leF, eqT, eqF, ltTn, ltFn, leTn, leFn, eqTn, eqFn, beqT, beqF, bneT, bneF, wi64, wu64, wu32, wu16, wu8, tmodP, tdivP, hgetL, hgetNe, hgetEq, setL, nums_def, nums_len, Nat.succ_le_of_lt, List.getElem?_cons_zero, List.getElem?_cons_succ, Option.getD_some, -getElem?_pos, -getElem?_neg, Int.toNat_add, Int.toNat_mul, agB, agI, agS, agP, agL, agA, okB, okI, okS, okP, okSl, okA]; refine hK _ _ ?_; clear hK K)
    refine ⟨q - 1, by omega, i + 1, t ++ pt, by omega, ?_, by (first | (simp [put_at, put_none, fr0_at]; done) | rfl), by (first | (simp [put_at, put_none, fr0_at]; done) | rfl), by (first | (simp [put_at, put_none, fr0_at, h0]; done) | rfl), rfl⟩
    rw [nums_app, List.append_assoc]
    exact ht
  · refine aw_f (by (first | (simp [eval_tmp, put_at, hlt]; done) | (simp [eval_tmp, put_at, hlt]; omega))) (by kernel_rfl) ?_
    obtain rfl : i = ps.length := by omega
    refine aw_exit ?_
    refine aw_seq ?_
    have e : strOfNums (cat ps) = t := by
      rw [← ht, List.drop_of_length_le (Nat.le_refl _), show cat [] = [] from rfl, List.append_nil, of_nums']
    rw [e]
    (refine aw_ops (by kernel_rfl) (fun K hK => ?_); simp (disch := first | omega | (simp only [List.length_set, List.length_append, List.length_cons, List.length_nil, iv_length, zl_length]; done) | (simp only [List.length_set, List.length_append, List.length_cons, List.length_nil, iv_length, zl_length]; omega)) [wb_bool, wb_undef, XL_nil, XL_cons, XLc_val, XLc_call, step1_eq, stepW_t, stepW_f, stepC_n, stepC_s, stepX_s, xop_eq, xopR_s, xopR_n, wantedA_eq, wantedG_n, wantedG_s, plain1_int, plain1_bool, plain1_string, bits_i64, bits_u64, bits_u32, bits_u16, bits_u8, xeqA, xarr, allK_iv, num_iv, calleeOf, xread, xeff, xbin, xint, xnil, xun, xstr, xload, xconv, xpart, xfield, xfieldAddr, xindexAddr, xindex, bnd, asInt?, xslice, xlen, xmin, xmax, xbuild, xfill, xappend, xcopy, xcells, eval_tmp, eval_const, put_at, put_none, fr0_at, cells_agg, cells_int, cells_bool, cells_string, cells_ptr, cells_slice, notTuple, tab, iv_all, hget_app, hget_app0, hget_cons0, hget_cons, set_app, set_app0, setR, setR_one, QL_nil, QL_cons, QLc_val, stepQ_t, stepQ_f, stepQC_n, stepQC_s, stepQX_s, SL_nil, SL_cons, SLc_val, stepS_t, stepS_f, h3, ltT, ltF, leT, leF, eqT, eqF, ltTn, ltFn, leTn, leFn, eqTn, eqFn, beqT, beqF, bneT, bneF, wi64, wu64, wu32, wu16, wu8, tmodP, tdivP, hgetL, hgetNe, hgetEq, setL, nums_def, nums_len, Nat.succ_le_of_lt, List.getElem?_cons_zero, List.getElem?_cons_succ, Option.getD_some, -getElem?_pos, -getElem?_neg, Int.toNat_add, Int.toNat_mul, agB, agI, agS, agP, agL, agA, okB, okI, okS, okP, okSl, okA]; refine hK _ _ ?_; clear hK K)
    (refine aw_ret ?_; simp [thenQ_ret, inBlockQ_ret, RQ, resL, resV, xload, tab, okD, isAggD, hget_app, hget_app0, hget_cons0, hget_cons, notTuple, put_at, put_none])
end Go.Proofs.YtjfhdckcjkgjnaaDoor
