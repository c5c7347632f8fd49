/-
  Blocks of noughts, filled blocks, the mark: written and read.
  The mark, read.
  A writer: where it lies; one byte more.
  A writer's numbers: the bytes.
  Numbers, walked.
  The writer's text; lists of numbers.
  Texts, walked.
  The reference's number.
  A reader: where it lies; a number read.
  A reader's other calls: count, a text, a key, the end.
  A disk, as lists of texts: what is settled, what is unsynced, a fuse, whether it is dead; and where it lies.
  The disk's small functions, walked.
  A disk's fuse, and writing, walked.
  A new disk; the bytes that a law writes.
  A disk's sync and crash, walked.
-/
import Derived.Test.YtgamobjfeaeddaaDoorMeD
import Derived.Test.YtgamobjfeaeddaaDoorMeC
import Derived.Test.YtgamobjfeaeddaaDoorMeB
import Derived.Test.YtgamobjfeaeddaaDoorTabm
namespace Go.Proofs.YtgamobjfeaeddaaDoor
section
open Go Go.RowKit
set_option linter.unusedSimpArgs false
set_option linter.unusedVariables false
set_option maxRecDepth 100000
set_option maxHeartbeats 4000000

theorem SlSd.mk1 {H : AH} {b j : Nat} {k : Blk} {p : ByteArray} (hj : hget H j = some k) (hb : j ≠ b) (h : k.cells[0]? = some (.string p)) : SlSd H b (.slice (some ⟨j, 0, none⟩) 1 1) [p] :=
  .inr ⟨j, 0, k, rfl, hb, hj, fun i q hq => by
    match i, hq with
    | 0, hq => simp at hq; subst hq; exact h
    | i + 1, hq => simp at hq⟩
theorem digest_rc {H : AH} (hG : GG H) (v : Value) (ps : List ByteArray) (hv : SlSd H H.length v ps) (hlen : ps.length ≤ 4611686018427387904) :
    AC Tryd.prog H.length gm 77 #[v] H (fun v' _ => v' = .agg (iv .u8 (dig (takeB hs0 (cat ps)))).toArray) :=
  (digest_ac (Nat.le_refl _) hG v ps hv hlen).mono fun v' H' h => h.1
theorem zl_by (n : Nat) : By (zl n) := fun x hx => by
  rw [zl, List.mem_replicate] at hx
  omega
theorem zs_eq (n : Nat) : zs n = strOfNums (zl n) := by
  unfold zs strOfNums zl
  simp
theorem zeros_vc (n : Nat) (hn : n ≤ 1000) : VC Tryd.prog 32 #[.int .i64 (n : Nat)] (.string (strOfNums (zl n))) := by
  refine vc_of_ac (by simp [pv_iv, pv_int, pv_bool, pv_string, pv_tup2, pv_tup3, iv_plain, p2_int, p2_bool, p2_string]) (by simp [pv_iv, pv_int, pv_bool, pv_string, pv_tup2, pv_tup3, iv_plain, p2_int, p2_bool, p2_string]) ?_
  refine ac_of_aw Tryd.func32 rfl Tryd.ntmps32 Tryd.results32 (by simp) ?_
  refine aw_seq ?_
  (refine aw_ops (by kernel_rfl) (fun K hK => ?_); simp (disch := first | omega | (simp only [List.length_set, List.length_append, List.length_cons, List.length_nil, iv_length, zl_length]; done) | (simp only [List.length_set, List.length_append, List.length_cons, List.length_nil, iv_length, zl_length]; omega)) [wb_bool, wb_undef, XL_nil, XL_cons, XLc_val, XLc_call, step1_eq, stepW_t, stepW_f, stepC_n, stepC_s, stepX_s, stepX_n, stepN_s, calleeX, oneV, xop_eq, xopR_s, xopR_n, wantedA_eq, wantedG_n, wantedG_s, plain1_int, plain1_bool, plain1_string, bits_i64, bits_u64, bits_u32, bits_u16, bits_u8, xeqA, xagg, xcmp, xarr, allK_iv, num_iv, calleeOf, xread, xeff, xbin, xint, xnil, xun, xstr, xload, xconv, xpart, xfield, xfieldAddr, xindexAddr, xindex, bnd, asInt?, xslice, xlen, xmin, xmax, xbuild, xfill, xappend, xapp2, xappstr, xappmk, xcap, xcopy, xcells, eval_tmp, eval_const, put_at, put_none, fr0_at, cells_agg, cells_int, cells_bool, cells_string, cells_ptr, cells_slice, notTuple, tab, iv_all, hget_app, hget_app0, hget_cons0, hget_cons, set_app, set_app0, setR, setR_one, QL_nil, QL_cons, QLc_val, stepQ_t, stepQ_f, stepQC_n, stepQC_s, stepQX_s, SL_nil, SL_cons, SLc_val, stepS_t, stepS_f, ltT, ltF, leT, leF, eqT, eqF, ltTn, ltFn, leTn, leFn, eqTn, eqFn, beqT, beqF, bneT, bneF, wi64, wu64, wu32, wu16, wu8, tmodP, tdivP, hgetL, hgetNe, hgetEq, setL, nums_def, nums_len, Nat.succ_le_of_lt, List.getElem?_cons_zero, List.getElem?_cons_succ, Option.getD_some, -getElem?_pos, -getElem?_neg, Int.toNat_add, Int.toNat_mul, agB, agI, agS, agP, agL, agA, okB, okI, okS, okP, okSl, okA]; refine hK _ _ ?_; clear hK K)
  refine aw_seq ?_
  refine aw_ops (by kernel_rfl) (fun K hK => ?_)
  simp (disch := first | omega | (simp only [List.length_set, List.length_append, List.length_cons, List.length_nil, iv_length, zl_length]; done) | (simp only [List.length_set, List.length_append, List.length_cons, List.length_nil, iv_length, zl_length]; omega)) [wb_bool, wb_undef, XL_nil, XL_cons, XLc_val, XLc_call, step1_eq, stepW_t, stepW_f, stepC_n, stepC_s, stepX_s, stepX_n, stepN_s, calleeX, oneV, xop_eq, xopR_s, xopR_n, wantedA_eq, wantedG_n, wantedG_s, plain1_int, plain1_bool, plain1_string, bits_i64, bits_u64, bits_u32, bits_u16, bits_u8, xeqA, xagg, xcmp, xarr, allK_iv, num_iv, calleeOf, xread, xeff, xbin, xint, xnil, xun, xstr, xload, xconv, xpart, xfield, xfieldAddr, xindexAddr, xindex, bnd, asInt?, xslice, xlen, xmin, xmax, xbuild, xfill, xappend, xapp2, xappstr, xappmk, xcap, xcopy, xcells, eval_tmp, eval_const, put_at, put_none, fr0_at, cells_agg, cells_int, cells_bool, cells_string, cells_ptr, cells_slice, notTuple, tab, iv_all, hget_app, hget_app0, hget_cons0, hget_cons, set_app, set_app0, setR, setR_one, QL_nil, QL_cons, QLc_val, stepQ_t, stepQ_f, stepQC_n, stepQC_s, stepQX_s, SL_nil, SL_cons, SLc_val, stepS_t, stepS_f, ltT, ltF, leT, leF, eqT, eqF, ltTn, ltFn, leTn, leFn, eqTn, eqFn, beqT, beqF, bneT, bneF, wi64, wu64, wu32, wu16, wu8, tmodP, tdivP, hgetL, hgetNe, hgetEq, setL, nums_def, nums_len, Nat.succ_le_of_lt, List.getElem?_cons_zero, List.getElem?_cons_succ, Option.getD_some, -getElem?_pos, -getElem?_neg, Int.toNat_add, Int.toNat_mul, agB, agI, agS, agP, agL, agA, okB, okI, okS, okP, okSl, okA]
  refine ⟨by kernel_rfl, ac_of_vc (by simp [pv_iv, pv_int, pv_bool, pv_string, pv_tup2, pv_tup3, iv_plain, p2_int, p2_bool, p2_string]) (repeat_vc n hn) ?_⟩
  rw [show (⟨(List.replicate n (0 : UInt8)).toArray⟩ : ByteArray) = zs n from rfl, zs_eq]
  try simp (disch := first | omega | (simp only [List.length_set, List.length_append, List.length_cons, List.length_nil, iv_length, zl_length]; done) | (simp only [List.length_set, List.length_append, List.length_cons, List.length_nil, iv_length, zl_length]; omega)) [wb_bool, wb_undef, XL_nil, XL_cons, XLc_val, XLc_call, step1_eq, stepW_t, stepW_f, stepC_n, stepC_s, stepX_s, stepX_n, stepN_s, calleeX, oneV, xop_eq, xopR_s, xopR_n, wantedA_eq, wantedG_n, wantedG_s, plain1_int, plain1_bool, plain1_string, bits_i64, bits_u64, bits_u32, bits_u16, bits_u8, xeqA, xagg, xcmp, xarr, allK_iv, num_iv, calleeOf, xread, xeff, xbin, xint, xnil, xun, xstr, xload, xconv, xpart, xfield, xfieldAddr, xindexAddr, xindex, bnd, asInt?, xslice, xlen, xmin, xmax, xbuild, xfill, xappend, xapp2, xappstr, xappmk, xcap, xcopy, xcells, eval_tmp, eval_const, put_at, put_none, fr0_at, cells_agg, cells_int, cells_bool, cells_string, cells_ptr, cells_slice, notTuple, tab, iv_all, hget_app, hget_app0, hget_cons0, hget_cons, set_app, set_app0, setR, setR_one, QL_nil, QL_cons, QLc_val, stepQ_t, stepQ_f, stepQC_n, stepQC_s, stepQX_s, SL_nil, SL_cons, SLc_val, stepS_t, stepS_f, ltT, ltF, leT, leF, eqT, eqF, ltTn, ltFn, leTn, leFn, eqTn, eqFn, beqT, beqF, bneT, bneF, wi64, wu64, wu32, wu16, wu8, tmodP, tdivP, hgetL, hgetNe, hgetEq, setL, nums_def, nums_len, Nat.succ_le_of_lt, List.getElem?_cons_zero, List.getElem?_cons_succ, Option.getD_some, -getElem?_pos, -getElem?_neg, Int.toNat_add, Int.toNat_mul, agB, agI, agS, agP, agL, agA, okB, okI, okS, okP, okSl, okA]
  refine hK _ _ ?_; clear hK K
  (refine aw_ret ?_; simp (disch := first | omega | (simp only [List.length_set, List.length_append, List.length_cons, List.length_nil, iv_length, zl_length]; done) | (simp only [List.length_set, List.length_append, List.length_cons, List.length_nil, iv_length, zl_length]; omega)) [wb_bool, wb_undef, XL_nil, XL_cons, XLc_val, XLc_call, step1_eq, stepW_t, stepW_f, stepC_n, stepC_s, stepX_s, stepX_n, stepN_s, calleeX, oneV, xop_eq, xopR_s, xopR_n, wantedA_eq, wantedG_n, wantedG_s, plain1_int, plain1_bool, plain1_string, bits_i64, bits_u64, bits_u32, bits_u16, bits_u8, xeqA, xagg, xcmp, xarr, allK_iv, num_iv, calleeOf, xread, xeff, xbin, xint, xnil, xun, xstr, xload, xconv, xpart, xfield, xfieldAddr, xindexAddr, xindex, bnd, asInt?, xslice, xlen, xmin, xmax, xbuild, xfill, xappend, xapp2, xappstr, xappmk, xcap, xcopy, xcells, eval_tmp, eval_const, put_at, put_none, fr0_at, cells_agg, cells_int, cells_bool, cells_string, cells_ptr, cells_slice, notTuple, tab, iv_all, hget_app, hget_app0, hget_cons0, hget_cons, set_app, set_app0, setR, setR_one, QL_nil, QL_cons, QLc_val, stepQ_t, stepQ_f, stepQC_n, stepQC_s, stepQX_s, SL_nil, SL_cons, SLc_val, stepS_t, stepS_f, thenQ_ret, scopeQ_ret, inBlockQ_ret, RQ, resL, resV, ltT, ltF, leT, leF, eqT, eqF, ltTn, ltFn, leTn, leFn, eqTn, eqFn, beqT, beqF, bneT, bneF, wi64, wu64, wu32, wu16, wu8, tmodP, tdivP, hgetL, hgetNe, hgetEq, setL, nums_def, nums_len, Nat.succ_le_of_lt, List.getElem?_cons_zero, List.getElem?_cons_succ, Option.getD_some, -getElem?_pos, -getElem?_neg, Int.toNat_add, Int.toNat_mul, agB, agI, agS, agP, agL, agA, okB, okI, okS, okP, okSl, okA])
/-- A block that begins with some bytes. -/
def fillB (l : List Int) : List Int := l ++ zl (256 - l.length)
theorem fillB_len {l : List Int} (h : l.length ≤ 256) : (fillB l).length = 256 := by
  unfold fillB
  rw [List.length_append, zl_length]
  omega
theorem fillB_by {l : List Int} (h : By l) : By (fillB l) := h.app (zl_by _)
theorem filled_vc (l : List Int) (hl : l.length ≤ 256) : VC Tryd.prog 69 #[.string (strOfNums l)] (.string (strOfNums (fillB l))) := by
  refine vc_of_ac (by simp [pv_iv, pv_int, pv_bool, pv_string, pv_tup2, pv_tup3, iv_plain, p2_int, p2_bool, p2_string]) (by simp [pv_iv, pv_int, pv_bool, pv_string, pv_tup2, pv_tup3, iv_plain, p2_int, p2_bool, p2_string]) ?_
  refine ac_of_aw Tryd.func69 rfl Tryd.ntmps69 Tryd.results69 (by simp) ?_
  have h1 : (strOfNums l).size = l.length := sn_size l
  have h2 : (256 : Int) - (l.length : Nat) = ((256 - l.length : Nat) : Int) := by omega
  have h3 : (strOfNums (zl (256 - l.length))).size = 256 - l.length := by rw [sn_size, zl_length]
  refine aw_seq ?_
  (refine aw_ops (by kernel_rfl) (fun K hK => ?_); simp (disch := first | omega | (simp only [List.length_set, List.length_append, List.length_cons, List.length_nil, iv_length, zl_length]; done) | (simp only [List.length_set, List.length_append, List.length_cons, List.length_nil, iv_length, zl_length]; omega)) [wb_bool, wb_undef, XL_nil, XL_cons, XLc_val, XLc_call, step1_eq, stepW_t, stepW_f, stepC_n, stepC_s, stepX_s, stepX_n, stepN_s, calleeX, oneV, xop_eq, xopR_s, xopR_n, wantedA_eq, wantedG_n, wantedG_s, plain1_int, plain1_bool, plain1_string, bits_i64, bits_u64, bits_u32, bits_u16, bits_u8, xeqA, xagg, xcmp, xarr, allK_iv, num_iv, calleeOf, xread, xeff, xbin, xint, xnil, xun, xstr, xload, xconv, xpart, xfield, xfieldAddr, xindexAddr, xindex, bnd, asInt?, xslice, xlen, xmin, xmax, xbuild, xfill, xappend, xapp2, xappstr, xappmk, xcap, xcopy, xcells, eval_tmp, eval_const, put_at, put_none, fr0_at, cells_agg, cells_int, cells_bool, cells_string, cells_ptr, cells_slice, notTuple, tab, iv_all, hget_app, hget_app0, hget_cons0, hget_cons, set_app, set_app0, setR, setR_one, QL_nil, QL_cons, QLc_val, stepQ_t, stepQ_f, stepQC_n, stepQC_s, stepQX_s, SL_nil, SL_cons, SLc_val, stepS_t, stepS_f, ltT, ltF, leT, leF, eqT, eqF, ltTn, ltFn, leTn, leFn, eqTn, eqFn, beqT, beqF, bneT, bneF, wi64, wu64, wu32, wu16, wu8, tmodP, tdivP, hgetL, hgetNe, hgetEq, setL, nums_def, nums_len, Nat.succ_le_of_lt, List.getElem?_cons_zero, List.getElem?_cons_succ, Option.getD_some, -getElem?_pos, -getElem?_neg, Int.toNat_add, Int.toNat_mul, agB, agI, agS, agP, agL, agA, okB, okI, okS, okP, okSl, okA]; refine hK _ _ ?_; clear hK K)
  refine aw_seq ?_
  refine aw_ops (by kernel_rfl) (fun K hK => ?_)
  simp (disch := first | omega | (simp only [List.length_set, List.length_append, List.length_cons, List.length_nil, iv_length, zl_length]; done) | (simp only [List.length_set, List.length_append, List.length_cons, List.length_nil, iv_length, zl_length]; omega)) [wb_bool, wb_undef, XL_nil, XL_cons, XLc_val, XLc_call, step1_eq, stepW_t, stepW_f, stepC_n, stepC_s, stepX_s, stepX_n, stepN_s, calleeX, oneV, xop_eq, xopR_s, xopR_n, wantedA_eq, wantedG_n, wantedG_s, plain1_int, plain1_bool, plain1_string, bits_i64, bits_u64, bits_u32, bits_u16, bits_u8, xeqA, xagg, xcmp, xarr, allK_iv, num_iv, calleeOf, xread, xeff, xbin, xint, xnil, xun, xstr, xload, xconv, xpart, xfield, xfieldAddr, xindexAddr, xindex, bnd, asInt?, xslice, xlen, xmin, xmax, xbuild, xfill, xappend, xapp2, xappstr, xappmk, xcap, xcopy, xcells, eval_tmp, eval_const, put_at, put_none, fr0_at, cells_agg, cells_int, cells_bool, cells_string, cells_ptr, cells_slice, notTuple, tab, iv_all, hget_app, hget_app0, hget_cons0, hget_cons, set_app, set_app0, setR, setR_one, QL_nil, QL_cons, QLc_val, stepQ_t, stepQ_f, stepQC_n, stepQC_s, stepQX_s, SL_nil, SL_cons, SLc_val, stepS_t, stepS_f, h1, h2, ltT, ltF, leT, leF, eqT, eqF, ltTn, ltFn, leTn, leFn, eqTn, eqFn, beqT, beqF, bneT, bneF, wi64, wu64, wu32, wu16, wu8, tmodP, tdivP, hgetL, hgetNe, hgetEq, setL, nums_def, nums_len, Nat.succ_le_of_lt, List.getElem?_cons_zero, List.getElem?_cons_succ, Option.getD_some, -getElem?_pos, -getElem?_neg, Int.toNat_add, Int.toNat_mul, agB, agI, agS, agP, agL, agA, okB, okI, okS, okP, okSl, okA]
  refine ⟨by kernel_rfl, ac_of_vc (by simp [pv_iv, pv_int, pv_bool, pv_string, pv_tup2, pv_tup3, iv_plain, p2_int, p2_bool, p2_string]) (zeros_vc (256 - l.length) (by omega)) ?_⟩
  simp (disch := first | omega | (simp only [List.length_set, List.length_append, List.length_cons, List.length_nil, iv_length, zl_length]; done) | (simp only [List.length_set, List.length_append, List.length_cons, List.length_nil, iv_length, zl_length]; omega)) [wb_bool, wb_undef, XL_nil, XL_cons, XLc_val, XLc_call, step1_eq, stepW_t, stepW_f, stepC_n, stepC_s, stepX_s, stepX_n, stepN_s, calleeX, oneV, xop_eq, xopR_s, xopR_n, wantedA_eq, wantedG_n, wantedG_s, plain1_int, plain1_bool, plain1_string, bits_i64, bits_u64, bits_u32, bits_u16, bits_u8, xeqA, xagg, xcmp, xarr, allK_iv, num_iv, calleeOf, xread, xeff, xbin, xint, xnil, xun, xstr, xload, xconv, xpart, xfield, xfieldAddr, xindexAddr, xindex, bnd, asInt?, xslice, xlen, xmin, xmax, xbuild, xfill, xappend, xapp2, xappstr, xappmk, xcap, xcopy, xcells, eval_tmp, eval_const, put_at, put_none, fr0_at, cells_agg, cells_int, cells_bool, cells_string, cells_ptr, cells_slice, notTuple, tab, iv_all, hget_app, hget_app0, hget_cons0, hget_cons, set_app, set_app0, setR, setR_one, QL_nil, QL_cons, QLc_val, stepQ_t, stepQ_f, stepQC_n, stepQC_s, stepQX_s, SL_nil, SL_cons, SLc_val, stepS_t, stepS_f, h1, h3, sn_app, ltT, ltF, leT, leF, eqT, eqF, ltTn, ltFn, leTn, leFn, eqTn, eqFn, beqT, beqF, bneT, bneF, wi64, wu64, wu32, wu16, wu8, tmodP, tdivP, hgetL, hgetNe, hgetEq, setL, nums_def, nums_len, Nat.succ_le_of_lt, List.getElem?_cons_zero, List.getElem?_cons_succ, Option.getD_some, -getElem?_pos, -getElem?_neg, Int.toNat_add, Int.toNat_mul, agB, agI, agS, agP, agL, agA, okB, okI, okS, okP, okSl, okA]
  refine hK _ _ ?_; clear hK K
  (refine aw_ret ?_; simp (disch := first | omega | (simp only [List.length_set, List.length_append, List.length_cons, List.length_nil, iv_length, zl_length]; done) | (simp only [List.length_set, List.length_append, List.length_cons, List.length_nil, iv_length, zl_length]; omega)) [wb_bool, wb_undef, XL_nil, XL_cons, XLc_val, XLc_call, step1_eq, stepW_t, stepW_f, stepC_n, stepC_s, stepX_s, stepX_n, stepN_s, calleeX, oneV, xop_eq, xopR_s, xopR_n, wantedA_eq, wantedG_n, wantedG_s, plain1_int, plain1_bool, plain1_string, bits_i64, bits_u64, bits_u32, bits_u16, bits_u8, xeqA, xagg, xcmp, xarr, allK_iv, num_iv, calleeOf, xread, xeff, xbin, xint, xnil, xun, xstr, xload, xconv, xpart, xfield, xfieldAddr, xindexAddr, xindex, bnd, asInt?, xslice, xlen, xmin, xmax, xbuild, xfill, xappend, xapp2, xappstr, xappmk, xcap, xcopy, xcells, eval_tmp, eval_const, put_at, put_none, fr0_at, cells_agg, cells_int, cells_bool, cells_string, cells_ptr, cells_slice, notTuple, tab, iv_all, hget_app, hget_app0, hget_cons0, hget_cons, set_app, set_app0, setR, setR_one, QL_nil, QL_cons, QLc_val, stepQ_t, stepQ_f, stepQC_n, stepQC_s, stepQX_s, SL_nil, SL_cons, SLc_val, stepS_t, stepS_f, thenQ_ret, scopeQ_ret, inBlockQ_ret, RQ, resL, resV, ltT, ltF, leT, leF, eqT, eqF, ltTn, ltFn, leTn, leFn, eqTn, eqFn, beqT, beqF, bneT, bneF, wi64, wu64, wu32, wu16, wu8, tmodP, tdivP, hgetL, hgetNe, hgetEq, setL, nums_def, nums_len, Nat.succ_le_of_lt, List.getElem?_cons_zero, List.getElem?_cons_succ, Option.getD_some, -getElem?_pos, -getElem?_neg, Int.toNat_add, Int.toNat_mul, agB, agI, agS, agP, agL, agA, okB, okI, okS, okP, okSl, okA])
  rfl
/-- The mark's head. -/
def headL (a n : Nat) : List Int := [109, 97, 114, 107, (a : Int) % 256, (n : Int) / 16777216 % 256, (n : Int) / 65536 % 256, (n : Int) / 256 % 256, (n : Int) % 256]
def markL (a n : Nat) : List Int := headL a n ++ ((dig (takeB hs0 (headL a n))).take 8 ++ zl 47)
theorem headL_by (a n : Nat) : By (headL a n) := by
  intro x hx
  simp only [headL, List.mem_cons, List.not_mem_nil, or_false] at hx
  omega
theorem headL_len (a n : Nat) : (headL a n).length = 9 := rfl
theorem markL_len (a n : Nat) : (markL a n).length = 64 := by
  have := dig_len _ (takeB_wf (headL a n) hs0 hs0_wf (headL_by a n))
  unfold markL
  simp only [List.length_append, List.length_take, headL_len, zl_length, this]
  omega
theorem dig_by (s : HS) : By (dig s) := by unfold dig; exact outL_by _
theorem markL_by (a n : Nat) : By (markL a n) := (headL_by a n).app (((dig_by _).take 8).app (zl_by _))
attribute [local irreducible] markL
theorem num_int (k : IntKind) (x : Int) : num (.int k x) = x := rfl
theorem mark_rc {H : AH} (hG : GG H) (a n : Nat) (ha : a < 256) (hn : n < 4294967296) :
    AC Tryd.prog H.length gm 54 #[.int .i64 (a : Nat), .int .i64 (n : Nat)] H (fun v' _ => v' = .string (strOfNums (markL a n))) := by
  refine ac_of_aw Tryd.func54 rfl Tryd.ntmps54 Tryd.results54 (by simp) ?_
  have w1 : IntKind.u8.wrap (((n : Nat) : Int).fdiv 16777216) = (n : Int) / 16777216 % 256 := by simp only [IntKind.wrap_u8', Int.fdiv_eq_ediv_of_nonneg _ (by omega : (0 : Int) ≤ 16777216)]
  have w2 : IntKind.u8.wrap (((n : Nat) : Int).fdiv 65536) = (n : Int) / 65536 % 256 := by simp only [IntKind.wrap_u8', Int.fdiv_eq_ediv_of_nonneg _ (by omega : (0 : Int) ≤ 65536)]
  have w3 : IntKind.u8.wrap (((n : Nat) : Int).fdiv 256) = (n : Int) / 256 % 256 := by simp only [IntKind.wrap_u8', Int.fdiv_eq_ediv_of_nonneg _ (by omega : (0 : Int) ≤ 256)]
  have w4 : IntKind.u8.wrap ((n : Nat) : Int) = (n : Int) % 256 := by simp only [IntKind.wrap_u8']
  have r5 : List.range 5 = [0, 1, 2, 3, 4] := rfl
  have hh : (⟨#[109, 97, 114, 107]⟩ : ByteArray) ++ strOfNums [(a : Int), (n : Int) / 16777216 % 256, (n : Int) / 65536 % 256, (n : Int) / 256 % 256, (n : Int) % 256] = strOfNums (headL a n) := by
    rw [show (⟨#[109, 97, 114, 107]⟩ : ByteArray) = strOfNums [109, 97, 114, 107] from rfl, sn_app]
    have : (a : Int) % 256 = a := by omega
    simp [headL, this]
  have hm : markL a n = headL a n ++ ((dig (takeB hs0 (headL a n))).take 8 ++ zl 47) := by with_unfolding_all rfl
  have hb := headL_by a n
  have hl := headL_len a n
  have hdl := dig_len _ (takeB_wf (headL a n) hs0 hs0_wf (headL_by a n))
  have hnh : nums (strOfNums (headL a n)) = headL a n := nums_of _ hb
  generalize headL a n = h at *
  refine aw_seq ?_
  (refine aw_ops (by kernel_rfl) (fun K hK => ?_); simp (disch := first | omega | (simp only [List.length_set, List.length_append, List.length_cons, List.length_nil, iv_length, zl_length]; done) | (simp only [List.length_set, List.length_append, List.length_cons, List.length_nil, iv_length, zl_length]; omega)) [wb_bool, wb_undef, XL_nil, XL_cons, XLc_val, XLc_call, step1_eq, stepW_t, stepW_f, stepC_n, stepC_s, stepX_s, stepX_n, stepN_s, calleeX, oneV, xop_eq, xopR_s, xopR_n, wantedA_eq, wantedG_n, wantedG_s, plain1_int, plain1_bool, plain1_string, bits_i64, bits_u64, bits_u32, bits_u16, bits_u8, xeqA, xagg, xcmp, xarr, allK_iv, num_iv, calleeOf, xread, xeff, xbin, xint, xnil, xun, xstr, xload, xconv, xpart, xfield, xfieldAddr, xindexAddr, xindex, bnd, asInt?, xslice, xlen, xmin, xmax, xbuild, xfill, xappend, xapp2, xappstr, xappmk, xcap, xcopy, xcells, eval_tmp, eval_const, put_at, put_none, fr0_at, cells_agg, cells_int, cells_bool, cells_string, cells_ptr, cells_slice, notTuple, tab, iv_all, hget_app, hget_app0, hget_cons0, hget_cons, set_app, set_app0, setR, setR_one, QL_nil, QL_cons, QLc_val, stepQ_t, stepQ_f, stepQC_n, stepQC_s, stepQX_s, SL_nil, SL_cons, SLc_val, stepS_t, stepS_f, ltT, ltF, leT, leF, eqT, eqF, ltTn, ltFn, leTn, leFn, eqTn, eqFn, beqT, beqF, bneT, bneF, wi64, wu64, wu32, wu16, wu8, tmodP, tdivP, hgetL, hgetNe, hgetEq, setL, nums_def, nums_len, Nat.succ_le_of_lt, List.getElem?_cons_zero, List.getElem?_cons_succ, Option.getD_some, -getElem?_pos, -getElem?_neg, Int.toNat_add, Int.toNat_mul, agB, agI, agS, agP, agL, agA, okB, okI, okS, okP, okSl, okA]; refine hK _ _ ?_; clear hK K)
  refine aw_seq ?_
  have hbb := byteList_iv [(a : Int), (n : Int) / 16777216 % 256, (n : Int) / 65536 % 256, (n : Int) / 256 % 256, (n : Int) % 256]
  simp only [iv, List.map_cons, List.map_nil] at hbb
  (refine aw_ops (by kernel_rfl) (fun K hK => ?_); simp (disch := first | omega | (simp only [List.length_set, List.length_append, List.length_cons, List.length_nil, iv_length, zl_length]; done) | (simp only [List.length_set, List.length_append, List.length_cons, List.length_nil, iv_length, zl_length]; omega)) [wb_bool, wb_undef, XL_nil, XL_cons, XLc_val, XLc_call, step1_eq, stepW_t, stepW_f, stepC_n, stepC_s, stepX_s, stepX_n, stepN_s, calleeX, oneV, xop_eq, xopR_s, xopR_n, wantedA_eq, wantedG_n, wantedG_s, plain1_int, plain1_bool, plain1_string, bits_i64, bits_u64, bits_u32, bits_u16, bits_u8, xeqA, xagg, xcmp, xarr, allK_iv, num_iv, calleeOf, xread, xeff, xbin, xint, xnil, xun, xstr, xload, xconv, xpart, xfield, xfieldAddr, xindexAddr, xindex, bnd, asInt?, xslice, xlen, xmin, xmax, xbuild, xfill, xappend, xapp2, xappstr, xappmk, xcap, xcopy, xcells, eval_tmp, eval_const, put_at, put_none, fr0_at, cells_agg, cells_int, cells_bool, cells_string, cells_ptr, cells_slice, notTuple, tab, iv_all, hget_app, hget_app0, hget_cons0, hget_cons, set_app, set_app0, setR, setR_one, QL_nil, QL_cons, QLc_val, stepQ_t, stepQ_f, stepQC_n, stepQC_s, stepQX_s, SL_nil, SL_cons, SLc_val, stepS_t, stepS_f, w1, w2, w3, w4, r5, hbb, hh, ltT, ltF, leT, leF, eqT, eqF, ltTn, ltFn, leTn, leFn, eqTn, eqFn, beqT, beqF, bneT, bneF, wi64, wu64, wu32, wu16, wu8, tmodP, tdivP, hgetL, hgetNe, hgetEq, setL, nums_def, nums_len, Nat.succ_le_of_lt, List.getElem?_cons_zero, List.getElem?_cons_succ, Option.getD_some, -getElem?_pos, -getElem?_neg, Int.toNat_add, Int.toNat_mul, agB, agI, agS, agP, agL, agA, okB, okI, okS, okP, okSl, okA]; refine hK _ _ ?_; clear hK K)
  refine aw_seq ?_
  refine aw_ops (by kernel_rfl) (fun K hK => ?_)
  simp (disch := first | omega | (simp only [List.length_set, List.length_append, List.length_cons, List.length_nil, iv_length, zl_length]; done) | (simp only [List.length_set, List.length_append, List.length_cons, List.length_nil, iv_length, zl_length]; omega)) [wb_bool, wb_undef, XL_nil, XL_cons, XLc_val, XLc_call, step1_eq, stepW_t, stepW_f, stepC_n, stepC_s, stepX_s, stepX_n, stepN_s, calleeX, oneV, xop_eq, xopR_s, xopR_n, wantedA_eq, wantedG_n, wantedG_s, plain1_int, plain1_bool, plain1_string, bits_i64, bits_u64, bits_u32, bits_u16, bits_u8, xeqA, xagg, xcmp, xarr, allK_iv, num_iv, calleeOf, xread, xeff, xbin, xint, xnil, xun, xstr, xload, xconv, xpart, xfield, xfieldAddr, xindexAddr, xindex, bnd, asInt?, xslice, xlen, xmin, xmax, xbuild, xfill, xappend, xapp2, xappstr, xappmk, xcap, xcopy, xcells, eval_tmp, eval_const, put_at, put_none, fr0_at, cells_agg, cells_int, cells_bool, cells_string, cells_ptr, cells_slice, notTuple, tab, iv_all, hget_app, hget_app0, hget_cons0, hget_cons, set_app, set_app0, setR, setR_one, QL_nil, QL_cons, QLc_val, stepQ_t, stepQ_f, stepQC_n, stepQC_s, stepQX_s, SL_nil, SL_cons, SLc_val, stepS_t, stepS_f, ltT, ltF, leT, leF, eqT, eqF, ltTn, ltFn, leTn, leFn, eqTn, eqFn, beqT, beqF, bneT, bneF, wi64, wu64, wu32, wu16, wu8, tmodP, tdivP, hgetL, hgetNe, hgetEq, setL, nums_def, nums_len, Nat.succ_le_of_lt, List.getElem?_cons_zero, List.getElem?_cons_succ, Option.getD_some, -getElem?_pos, -getElem?_neg, Int.toNat_add, Int.toNat_mul, agB, agI, agS, agP, agL, agA, okB, okI, okS, okP, okSl, okA]
  refine ⟨by kernel_rfl, ac_of_rc (digest_rc (hG.app _) _ [strOfNums h] (SlSd.mk1 (by rw [hget_app]; rfl) (by simp) rfl) (by simp)) (by simp [pv_iv, pv_int, pv_bool, pv_string, pv_tup2, pv_tup3, iv_plain, p2_int, p2_bool, p2_string]) ?_⟩
  rw [show cat [strOfNums h] = h by simp [cat, hnh]]
  generalize dig (takeB hs0 h) = D at *
  have hsx : setR (iv .u8 (zl 32)) 0 (iv .u8 D) = iv .u8 D := setR_all _ _ (by simp [hdl])
  simp (disch := first | omega | (simp only [List.length_set, List.length_append, List.length_cons, List.length_nil, iv_length, zl_length]; done) | (simp only [List.length_set, List.length_append, List.length_cons, List.length_nil, iv_length, zl_length]; omega)) [wb_bool, wb_undef, XL_nil, XL_cons, XLc_val, XLc_call, step1_eq, stepW_t, stepW_f, stepC_n, stepC_s, stepX_s, stepX_n, stepN_s, calleeX, oneV, xop_eq, xopR_s, xopR_n, wantedA_eq, wantedG_n, wantedG_s, plain1_int, plain1_bool, plain1_string, bits_i64, bits_u64, bits_u32, bits_u16, bits_u8, xeqA, xagg, xcmp, xarr, allK_iv, num_iv, calleeOf, xread, xeff, xbin, xint, xnil, xun, xstr, xload, xconv, xpart, xfield, xfieldAddr, xindexAddr, xindex, bnd, asInt?, xslice, xlen, xmin, xmax, xbuild, xfill, xappend, xapp2, xappstr, xappmk, xcap, xcopy, xcells, eval_tmp, eval_const, put_at, put_none, fr0_at, cells_agg, cells_int, cells_bool, cells_string, cells_ptr, cells_slice, notTuple, tab, iv_all, hget_app, hget_app0, hget_cons0, hget_cons, set_app, set_app0, setR, setR_one, QL_nil, QL_cons, QLc_val, stepQ_t, stepQ_f, stepQC_n, stepQC_s, stepQX_s, SL_nil, SL_cons, SLc_val, stepS_t, stepS_f, hdl, hsx, ltT, ltF, leT, leF, eqT, eqF, ltTn, ltFn, leTn, leFn, eqTn, eqFn, beqT, beqF, bneT, bneF, wi64, wu64, wu32, wu16, wu8, tmodP, tdivP, hgetL, hgetNe, hgetEq, setL, nums_def, nums_len, Nat.succ_le_of_lt, List.getElem?_cons_zero, List.getElem?_cons_succ, Option.getD_some, -getElem?_pos, -getElem?_neg, Int.toNat_add, Int.toNat_mul, agB, agI, agS, agP, agL, agA, okB, okI, okS, okP, okSl, okA]
  refine hK _ _ ?_; clear hK K
  refine aw_seq ?_
  have htk : (iv .u8 D).take 8 = iv .u8 (D.take 8) := by rw [iv_take]
  have z1 : (strOfNums (zl 47)).size = 47 := by rw [sn_size, zl_length]
  have z2 : (strOfNums (D.take 8)).size = 8 := by rw [sn_size, List.length_take, hdl]; omega
  have z3 : (strOfNums h).size = 9 := by rw [sn_size, hl]
  have z4 : (strOfNums (h ++ D.take 8)).size = 17 := by rw [sn_size, List.length_append, List.length_take, hdl, hl]; omega
  (refine aw_plan [] [] [0, 1, 2, 3, 4, 5, 6] 7 0 (by kernel_rfl) (by kernel_rfl) (by kernel_rfl) (fun K hK => ?_)); simp only [sel, List.getElem?_cons_succ, List.getElem?_cons_zero, List.drop_succ_cons, List.drop_zero]; simp (disch := first | omega | (simp only [List.length_set, List.length_append, List.length_cons, List.length_nil, iv_length, zl_length]; done) | (simp only [List.length_set, List.length_append, List.length_cons, List.length_nil, iv_length, zl_length]; omega)) [wb_bool, wb_undef, XL_nil, XL_cons, XLc_val, XLc_call, step1_eq, stepW_t, stepW_f, stepC_n, stepC_s, stepX_s, stepX_n, stepN_s, calleeX, oneV, xop_eq, xopR_s, xopR_n, wantedA_eq, wantedG_n, wantedG_s, plain1_int, plain1_bool, plain1_string, bits_i64, bits_u64, bits_u32, bits_u16, bits_u8, xeqA, xagg, xcmp, xarr, allK_iv, num_iv, calleeOf, xread, xeff, xbin, xint, xnil, xun, xstr, xload, xconv, xpart, xfield, xfieldAddr, xindexAddr, xindex, bnd, asInt?, xslice, xlen, xmin, xmax, xbuild, xfill, xappend, xapp2, xappstr, xappmk, xcap, xcopy, xcells, eval_tmp, eval_const, put_at, put_none, fr0_at, cells_agg, cells_int, cells_bool, cells_string, cells_ptr, cells_slice, notTuple, tab, iv_all, hget_app, hget_app0, hget_cons0, hget_cons, set_app, set_app0, setR, setR_one, QL_nil, QL_cons, QLc_val, stepQ_t, stepQ_f, stepQC_n, stepQC_s, stepQX_s, SL_nil, SL_cons, SLc_val, stepS_t, stepS_f, hdl, htk, byteList_iv, z1, z2, z3, z4, sn_app, PL_nil, PL_cons, PLc_val, PLc_new, stepP_t, stepP_f, stepPC_n, stepPC_s, stepPX_s, stepPX_n, stepPA_t, stepPA_c, stepPA_l, stepPN_s, allocOp, reloc_sl, reloc_ptr, List.map_cons, List.map_nil, List.nil_append, List.append_assoc, List.cons_append, Nat.add_assoc, ltT, ltF, leT, leF, eqT, eqF, ltTn, ltFn, leTn, leFn, eqTn, eqFn, beqT, beqF, bneT, bneF, wi64, wu64, wu32, wu16, wu8, tmodP, tdivP, hgetL, hgetNe, hgetEq, setL, nums_def, nums_len, Nat.succ_le_of_lt, List.getElem?_cons_zero, List.getElem?_cons_succ, Option.getD_some, -getElem?_pos, -getElem?_neg, Int.toNat_add, Int.toNat_mul, agB, agI, agS, agP, agL, agA, okB, okI, okS, okP, okSl, okA]
  refine PLc_call (v := .string (strOfNums (zl 47))) (by kernel_rfl) (fun L hL => ac_of_vc (by simp [pv_iv, pv_int, pv_bool, pv_string, pv_tup2, pv_tup3, iv_plain, p2_int, p2_bool, p2_string]) (zeros_vc 47 (by omega)) rfl) (by simp [pv_iv, pv_int, pv_bool, pv_string, pv_tup2, pv_tup3, iv_plain, p2_int, p2_bool, p2_string]) ?_
  try simp (disch := first | omega | (simp only [List.length_set, List.length_append, List.length_cons, List.length_nil, iv_length, zl_length]; done) | (simp only [List.length_set, List.length_append, List.length_cons, List.length_nil, iv_length, zl_length]; omega)) [wb_bool, wb_undef, XL_nil, XL_cons, XLc_val, XLc_call, step1_eq, stepW_t, stepW_f, stepC_n, stepC_s, stepX_s, stepX_n, stepN_s, calleeX, oneV, xop_eq, xopR_s, xopR_n, wantedA_eq, wantedG_n, wantedG_s, plain1_int, plain1_bool, plain1_string, bits_i64, bits_u64, bits_u32, bits_u16, bits_u8, xeqA, xagg, xcmp, xarr, allK_iv, num_iv, calleeOf, xread, xeff, xbin, xint, xnil, xun, xstr, xload, xconv, xpart, xfield, xfieldAddr, xindexAddr, xindex, bnd, asInt?, xslice, xlen, xmin, xmax, xbuild, xfill, xappend, xapp2, xappstr, xappmk, xcap, xcopy, xcells, eval_tmp, eval_const, put_at, put_none, fr0_at, cells_agg, cells_int, cells_bool, cells_string, cells_ptr, cells_slice, notTuple, tab, iv_all, hget_app, hget_app0, hget_cons0, hget_cons, set_app, set_app0, setR, setR_one, QL_nil, QL_cons, QLc_val, stepQ_t, stepQ_f, stepQC_n, stepQC_s, stepQX_s, SL_nil, SL_cons, SLc_val, stepS_t, stepS_f, hdl, htk, byteList_iv, z1, z2, z3, z4, sn_app, PL_nil, PL_cons, PLc_val, PLc_new, stepP_t, stepP_f, stepPC_n, stepPC_s, stepPX_s, stepPX_n, stepPA_t, stepPA_c, stepPA_l, stepPN_s, allocOp, reloc_sl, reloc_ptr, List.map_cons, List.map_nil, List.nil_append, List.append_assoc, List.cons_append, Nat.add_assoc, ltT, ltF, leT, leF, eqT, eqF, ltTn, ltFn, leTn, leFn, eqTn, eqFn, beqT, beqF, bneT, bneF, wi64, wu64, wu32, wu16, wu8, tmodP, tdivP, hgetL, hgetNe, hgetEq, setL, nums_def, nums_len, Nat.succ_le_of_lt, List.getElem?_cons_zero, List.getElem?_cons_succ, Option.getD_some, -getElem?_pos, -getElem?_neg, Int.toNat_add, Int.toNat_mul, agB, agI, agS, agP, agL, agA, okB, okI, okS, okP, okSl, okA]
  refine hK _ _ ?_; clear hK K
  (refine aw_ret ?_; simp (disch := first | omega | (simp only [List.length_set, List.length_append, List.length_cons, List.length_nil, iv_length, zl_length]; done) | (simp only [List.length_set, List.length_append, List.length_cons, List.length_nil, iv_length, zl_length]; omega)) [wb_bool, wb_undef, XL_nil, XL_cons, XLc_val, XLc_call, step1_eq, stepW_t, stepW_f, stepC_n, stepC_s, stepX_s, stepX_n, stepN_s, calleeX, oneV, xop_eq, xopR_s, xopR_n, wantedA_eq, wantedG_n, wantedG_s, plain1_int, plain1_bool, plain1_string, bits_i64, bits_u64, bits_u32, bits_u16, bits_u8, xeqA, xagg, xcmp, xarr, allK_iv, num_iv, calleeOf, xread, xeff, xbin, xint, xnil, xun, xstr, xload, xconv, xpart, xfield, xfieldAddr, xindexAddr, xindex, bnd, asInt?, xslice, xlen, xmin, xmax, xbuild, xfill, xappend, xapp2, xappstr, xappmk, xcap, xcopy, xcells, eval_tmp, eval_const, put_at, put_none, fr0_at, cells_agg, cells_int, cells_bool, cells_string, cells_ptr, cells_slice, notTuple, tab, iv_all, hget_app, hget_app0, hget_cons0, hget_cons, set_app, set_app0, setR, setR_one, QL_nil, QL_cons, QLc_val, stepQ_t, stepQ_f, stepQC_n, stepQC_s, stepQX_s, SL_nil, SL_cons, SLc_val, stepS_t, stepS_f, thenQ_ret, scopeQ_ret, inBlockQ_ret, RQ, resL, resV, ltT, ltF, leT, leF, eqT, eqF, ltTn, ltFn, leTn, leFn, eqTn, eqFn, beqT, beqF, bneT, bneF, wi64, wu64, wu32, wu16, wu8, tmodP, tdivP, hgetL, hgetNe, hgetEq, setL, nums_def, nums_len, Nat.succ_le_of_lt, List.getElem?_cons_zero, List.getElem?_cons_succ, Option.getD_some, -getElem?_pos, -getElem?_neg, Int.toNat_add, Int.toNat_mul, agB, agI, agS, agP, agL, agA, okB, okI, okS, okP, okSl, okA])
  rw [hm]
end

section
open Go Go.RowKit
set_option linter.unusedSimpArgs false
set_option linter.unusedVariables false
set_option maxRecDepth 100000
set_option maxHeartbeats 4000000

theorem or32 {c w : Int} (n : Nat) (m : Int) (hm : m = 2 ^ n) (hw : 0 ≤ w ∧ w < m) (hc : 0 ≤ c ∧ c % m = 0) (h : c + w < 4294967296) : bitsOf .or .u32 c w = c + w := by
  obtain ⟨w, rfl⟩ := Int.eq_ofNat_of_zero_le hw.1
  obtain ⟨c, rfl⟩ := Int.eq_ofNat_of_zero_le hc.1
  have e3 : ((2 ^ n : Nat) : Int) = 2 ^ n := by simp
  obtain ⟨M, hM⟩ : ∃ M : Nat, M = 2 ^ n := ⟨_, rfl⟩
  rw [← hM] at e3
  rw [← e3] at hm
  subst hm
  have hw2 : w < M := by have := hw.2; omega
  have hc2 : c = c / M * M := by
    have h1 : c % M = 0 := by have := hc.2; omega
    have := Nat.div_add_mod c M
    rw [h1, Nat.mul_comm] at this
    omega
  have e2 : ((BitVec.ofInt 32 (c : Int)) ||| (BitVec.ofInt 32 (w : Int))).toNat = c + w := by
    rw [BitVec.toNat_or, BitVec.toNat_ofInt, BitVec.toNat_ofInt]
    have a1 : ((w : Int) % ((2 ^ 32 : Nat) : Int)).toNat = w := by omega
    have a2 : ((c : Int) % ((2 ^ 32 : Nat) : Int)).toNat = c := by omega
    rw [a1, a2]
    generalize c / M = q at hc2
    rw [hc2, hM, Nat.mul_comm q, ← Nat.two_pow_add_eq_or_of_lt (by rw [← hM]; exact hw2)]
  show IntKind.u32.wrap (((BitVec.ofInt 32 (c : Int)) ||| (BitVec.ofInt 32 (w : Int))).toNat : Int) = _
  rw [e2, IntKind.wrap_u32']
  omega
def mArea (l : List Int) : Nat := (l.getD 4 0).toNat
def mSize (l : List Int) : Nat := (l.getD 5 0 * 16777216 + l.getD 6 0 * 65536 + l.getD 7 0 * 256 + l.getD 8 0).toNat
def isMark (l : List Int) : Bool := decide (mArea l < 2) && decide (markL (mArea l) (mSize l) = l)
theorem readMark_rc {H : AH} (hG : GG H) (l : List Int) (hl : l.length = 64) (hb : By l) :
    AC Tryd.prog H.length gm 33 #[.string (strOfNums l)] H (fun v' _ => v' = .tuple #[.int .i64 (mArea l : Nat), .int .i64 (mSize l : Nat), .bool (isMark l)]) := by
  refine ac_of_aw Tryd.func33 rfl Tryd.ntmps33 Tryd.results33 (by simp) ?_
  have gd : ∀ k, 0 ≤ l.getD k 0 ∧ l.getD k 0 ≤ 255 := fun k => by
    rcases Nat.lt_or_ge k l.length with h | h
    · rw [List.getD_eq_getElem?_getD, List.getElem?_eq_getElem h]
      exact hb _ (List.getElem_mem h)
    · rw [List.getD_eq_getElem?_getD, List.getElem?_eq_none h]
      simp
  have hbb : By ((l.take 9).drop 4) := (hb.take 9).drop 4
  have gg : ∀ k, k < 5 → gb (strOfNums ((l.take 9).drop 4)) k = l.getD (4 + k) 0 := fun k hk => by
    rw [gb_sn hbb, List.getD_eq_getElem?_getD, List.getElem?_drop, List.getElem?_take_of_lt (by omega), ← List.getD_eq_getElem?_getD]
  have g0 := gg 0 (by omega)
  have g1 := gg 1 (by omega)
  have g2 := gg 2 (by omega)
  have g3 := gg 3 (by omega)
  have g4 := gg 4 (by omega)
  have b0 := gd 4
  have b1 := gd 5
  have b2 := gd 6
  have b3 := gd 7
  have b4 := gd 8
  have hA : ((mArea l : Nat) : Int) = l.getD 4 0 := by unfold mArea; omega
  have hS : ((mSize l : Nat) : Int) = l.getD 5 0 * 16777216 + l.getD 6 0 * 65536 + l.getD 7 0 * 256 + l.getD 8 0 := by unfold mSize; omega
  have hmk := hb
  have hx : (strOfNums l).extract 4 9 = strOfNums ((l.take 9).drop 4) := ex_range l 4 9
  have hs : (strOfNums l).size = 64 := by rw [sn_size, hl]
  have hs5 : (strOfNums ((l.take 9).drop 4)).size = 5 := by rw [sn_size, List.length_drop, List.length_take, hl]; rfl
  have hm : isMark l = (decide (mArea l < 2) && decide (markL (mArea l) (mSize l) = l)) := rfl
  have hmb := markL_by (mArea l) (mSize l)
  have hA2 : mArea l < 256 := by omega
  have hS2 : mSize l < 4294967296 := by omega
  simp only [Nat.add_zero, Nat.reduceAdd] at g0 g1 g2 g3 g4
  generalize mArea l = A at *
  generalize mSize l = S at *
  generalize l.getD 4 0 = x0 at *
  generalize l.getD 5 0 = x1 at *
  generalize l.getD 6 0 = x2 at *
  generalize l.getD 7 0 = x3 at *
  generalize l.getD 8 0 = x4 at *
  have o1 : bitsOf .or .u32 (x1 * 16777216) (x2 * 65536) = x1 * 16777216 + x2 * 65536 := or32 24 16777216 (by decide) (by omega) (by omega) (by omega)
  have o2 : bitsOf .or .u32 (x1 * 16777216 + x2 * 65536) (x3 * 256) = x1 * 16777216 + x2 * 65536 + x3 * 256 := or32 16 65536 (by decide) (by omega) (by omega) (by omega)
  have o3 : bitsOf .or .u32 (x1 * 16777216 + x2 * 65536 + x3 * 256) x4 = x1 * 16777216 + x2 * 65536 + x3 * 256 + x4 := or32 8 256 (by decide) (by omega) (by omega) (by omega)
  refine aw_seq ?_
  (refine aw_ops (by kernel_rfl) (fun K hK => ?_); simp (disch := first | omega | (simp only [List.length_set, List.length_append, List.length_cons, List.length_nil, iv_length, zl_length]; done) | (simp only [List.length_set, List.length_append, List.length_cons, List.length_nil, iv_length, zl_length]; omega)) [wb_bool, wb_undef, XL_nil, XL_cons, XLc_val, XLc_call, step1_eq, stepW_t, stepW_f, stepC_n, stepC_s, stepX_s, stepX_n, stepN_s, calleeX, oneV, xop_eq, xopR_s, xopR_n, wantedA_eq, wantedG_n, wantedG_s, plain1_int, plain1_bool, plain1_string, bits_i64, bits_u64, bits_u32, bits_u16, bits_u8, xeqA, xagg, xcmp, xarr, allK_iv, num_iv, calleeOf, xread, xeff, xbin, xint, xnil, xun, xstr, xload, xconv, xpart, xfield, xfieldAddr, xindexAddr, xindex, bnd, asInt?, xslice, xlen, xmin, xmax, xbuild, xfill, xappend, xapp2, xappstr, xappmk, xcap, xcopy, xcells, eval_tmp, eval_const, put_at, put_none, fr0_at, cells_agg, cells_int, cells_bool, cells_string, cells_ptr, cells_slice, notTuple, tab, iv_all, hget_app, hget_app0, hget_cons0, hget_cons, set_app, set_app0, setR, setR_one, QL_nil, QL_cons, QLc_val, stepQ_t, stepQ_f, stepQC_n, stepQC_s, stepQX_s, SL_nil, SL_cons, SLc_val, stepS_t, stepS_f, ltT, ltF, leT, leF, eqT, eqF, ltTn, ltFn, leTn, leFn, eqTn, eqFn, beqT, beqF, bneT, bneF, wi64, wu64, wu32, wu16, wu8, tmodP, tdivP, hgetL, hgetNe, hgetEq, setL, nums_def, nums_len, Nat.succ_le_of_lt, List.getElem?_cons_zero, List.getElem?_cons_succ, Option.getD_some, -getElem?_pos, -getElem?_neg, Int.toNat_add, Int.toNat_mul, agB, agI, agS, agP, agL, agA, okB, okI, okS, okP, okSl, okA]; refine hK _ _ ?_; clear hK K)
  refine aw_seq ?_
  (refine aw_ops (by kernel_rfl) (fun K hK => ?_); simp (disch := first | omega | (simp only [List.length_set, List.length_append, List.length_cons, List.length_nil, iv_length, zl_length]; done) | (simp only [List.length_set, List.length_append, List.length_cons, List.length_nil, iv_length, zl_length]; omega)) [wb_bool, wb_undef, XL_nil, XL_cons, XLc_val, XLc_call, step1_eq, stepW_t, stepW_f, stepC_n, stepC_s, stepX_s, stepX_n, stepN_s, calleeX, oneV, xop_eq, xopR_s, xopR_n, wantedA_eq, wantedG_n, wantedG_s, plain1_int, plain1_bool, plain1_string, bits_i64, bits_u64, bits_u32, bits_u16, bits_u8, xeqA, xagg, xcmp, xarr, allK_iv, num_iv, calleeOf, xread, xeff, xbin, xint, xnil, xun, xstr, xload, xconv, xpart, xfield, xfieldAddr, xindexAddr, xindex, bnd, asInt?, xslice, xlen, xmin, xmax, xbuild, xfill, xappend, xapp2, xappstr, xappmk, xcap, xcopy, xcells, eval_tmp, eval_const, put_at, put_none, fr0_at, cells_agg, cells_int, cells_bool, cells_string, cells_ptr, cells_slice, notTuple, tab, iv_all, hget_app, hget_app0, hget_cons0, hget_cons, set_app, set_app0, setR, setR_one, QL_nil, QL_cons, QLc_val, stepQ_t, stepQ_f, stepQC_n, stepQC_s, stepQX_s, SL_nil, SL_cons, SLc_val, stepS_t, stepS_f, hx, hs, ltT, ltF, leT, leF, eqT, eqF, ltTn, ltFn, leTn, leFn, eqTn, eqFn, beqT, beqF, bneT, bneF, wi64, wu64, wu32, wu16, wu8, tmodP, tdivP, hgetL, hgetNe, hgetEq, setL, nums_def, nums_len, Nat.succ_le_of_lt, List.getElem?_cons_zero, List.getElem?_cons_succ, Option.getD_some, -getElem?_pos, -getElem?_neg, Int.toNat_add, Int.toNat_mul, agB, agI, agS, agP, agL, agA, okB, okI, okS, okP, okSl, okA]; refine hK _ _ ?_; clear hK K)
  refine aw_seq ?_
  (refine aw_ops (by kernel_rfl) (fun K hK => ?_); simp (disch := first | omega | (simp only [List.length_set, List.length_append, List.length_cons, List.length_nil, iv_length, zl_length]; done) | (simp only [List.length_set, List.length_append, List.length_cons, List.length_nil, iv_length, zl_length]; omega)) [wb_bool, wb_undef, XL_nil, XL_cons, XLc_val, XLc_call, step1_eq, stepW_t, stepW_f, stepC_n, stepC_s, stepX_s, stepX_n, stepN_s, calleeX, oneV, xop_eq, xopR_s, xopR_n, wantedA_eq, wantedG_n, wantedG_s, plain1_int, plain1_bool, plain1_string, bits_i64, bits_u64, bits_u32, bits_u16, bits_u8, xeqA, xagg, xcmp, xarr, allK_iv, num_iv, calleeOf, xread, xeff, xbin, xint, xnil, xun, xstr, xload, xconv, xpart, xfield, xfieldAddr, xindexAddr, xindex, bnd, asInt?, xslice, xlen, xmin, xmax, xbuild, xfill, xappend, xapp2, xappstr, xappmk, xcap, xcopy, xcells, eval_tmp, eval_const, put_at, put_none, fr0_at, cells_agg, cells_int, cells_bool, cells_string, cells_ptr, cells_slice, notTuple, tab, iv_all, hget_app, hget_app0, hget_cons0, hget_cons, set_app, set_app0, setR, setR_one, QL_nil, QL_cons, QLc_val, stepQ_t, stepQ_f, stepQC_n, stepQC_s, stepQX_s, SL_nil, SL_cons, SLc_val, stepS_t, stepS_f, hs5, g0, ltT, ltF, leT, leF, eqT, eqF, ltTn, ltFn, leTn, leFn, eqTn, eqFn, beqT, beqF, bneT, bneF, wi64, wu64, wu32, wu16, wu8, tmodP, tdivP, hgetL, hgetNe, hgetEq, setL, nums_def, nums_len, Nat.succ_le_of_lt, List.getElem?_cons_zero, List.getElem?_cons_succ, Option.getD_some, -getElem?_pos, -getElem?_neg, Int.toNat_add, Int.toNat_mul, agB, agI, agS, agP, agL, agA, okB, okI, okS, okP, okSl, okA]; refine hK _ _ ?_; clear hK K)
  refine aw_seq ?_
  (refine aw_quiet (by kernel_rfl) (by kernel_rfl) (by kernel_rfl) (fun K hK => ?_); simp (disch := first | omega | (simp only [List.length_set, List.length_append, List.length_cons, List.length_nil, iv_length, zl_length]; done) | (simp only [List.length_set, List.length_append, List.length_cons, List.length_nil, iv_length, zl_length]; omega)) [wb_bool, wb_undef, XL_nil, XL_cons, XLc_val, XLc_call, step1_eq, stepW_t, stepW_f, stepC_n, stepC_s, stepX_s, stepX_n, stepN_s, calleeX, oneV, xop_eq, xopR_s, xopR_n, wantedA_eq, wantedG_n, wantedG_s, plain1_int, plain1_bool, plain1_string, bits_i64, bits_u64, bits_u32, bits_u16, bits_u8, xeqA, xagg, xcmp, xarr, allK_iv, num_iv, calleeOf, xread, xeff, xbin, xint, xnil, xun, xstr, xload, xconv, xpart, xfield, xfieldAddr, xindexAddr, xindex, bnd, asInt?, xslice, xlen, xmin, xmax, xbuild, xfill, xappend, xapp2, xappstr, xappmk, xcap, xcopy, xcells, eval_tmp, eval_const, put_at, put_none, fr0_at, cells_agg, cells_int, cells_bool, cells_string, cells_ptr, cells_slice, notTuple, tab, iv_all, hget_app, hget_app0, hget_cons0, hget_cons, set_app, set_app0, setR, setR_one, QL_nil, QL_cons, QLc_val, stepQ_t, stepQ_f, stepQC_n, stepQC_s, stepQX_s, SL_nil, SL_cons, SLc_val, stepS_t, stepS_f, hs5, g1, g2, g3, g4, o1, o2, o3, ltT, ltF, leT, leF, eqT, eqF, ltTn, ltFn, leTn, leFn, eqTn, eqFn, beqT, beqF, bneT, bneF, wi64, wu64, wu32, wu16, wu8, tmodP, tdivP, hgetL, hgetNe, hgetEq, setL, nums_def, nums_len, Nat.succ_le_of_lt, List.getElem?_cons_zero, List.getElem?_cons_succ, Option.getD_some, -getElem?_pos, -getElem?_neg, Int.toNat_add, Int.toNat_mul, agB, agI, agS, agP, agL, agA, okB, okI, okS, okP, okSl, okA]; refine hK _ ?_; clear hK K)
  refine aw_seq ?_
  rw [← hS] at o3
  by_cases hlt : A < 2
  · refine aw_ops (by kernel_rfl) (fun K hK => ?_)
    have hlt2 : x0 < 2 := by omega
    simp (disch := first | omega | (simp only [List.length_set, List.length_append, List.length_cons, List.length_nil, iv_length, zl_length]; done) | (simp only [List.length_set, List.length_append, List.length_cons, List.length_nil, iv_length, zl_length]; omega)) [wb_bool, wb_undef, XL_nil, XL_cons, XLc_val, XLc_call, step1_eq, stepW_t, stepW_f, stepC_n, stepC_s, stepX_s, stepX_n, stepN_s, calleeX, oneV, xop_eq, xopR_s, xopR_n, wantedA_eq, wantedG_n, wantedG_s, plain1_int, plain1_bool, plain1_string, bits_i64, bits_u64, bits_u32, bits_u16, bits_u8, xeqA, xagg, xcmp, xarr, allK_iv, num_iv, calleeOf, xread, xeff, xbin, xint, xnil, xun, xstr, xload, xconv, xpart, xfield, xfieldAddr, xindexAddr, xindex, bnd, asInt?, xslice, xlen, xmin, xmax, xbuild, xfill, xappend, xapp2, xappstr, xappmk, xcap, xcopy, xcells, eval_tmp, eval_const, put_at, put_none, fr0_at, cells_agg, cells_int, cells_bool, cells_string, cells_ptr, cells_slice, notTuple, tab, iv_all, hget_app, hget_app0, hget_cons0, hget_cons, set_app, set_app0, setR, setR_one, QL_nil, QL_cons, QLc_val, stepQ_t, stepQ_f, stepQC_n, stepQC_s, stepQX_s, SL_nil, SL_cons, SLc_val, stepS_t, stepS_f, hlt2, ltT, ltF, leT, leF, eqT, eqF, ltTn, ltFn, leTn, leFn, eqTn, eqFn, beqT, beqF, bneT, bneF, wi64, wu64, wu32, wu16, wu8, tmodP, tdivP, hgetL, hgetNe, hgetEq, setL, nums_def, nums_len, Nat.succ_le_of_lt, List.getElem?_cons_zero, List.getElem?_cons_succ, Option.getD_some, -getElem?_pos, -getElem?_neg, Int.toNat_add, Int.toNat_mul, agB, agI, agS, agP, agL, agA, okB, okI, okS, okP, okSl, okA]
    rw [← hA, ← hS]
    refine ⟨by kernel_rfl, ac_of_rc (mark_rc hG A S hA2 hS2) (by simp [pv_iv, pv_int, pv_bool, pv_string, pv_tup2, pv_tup3, iv_plain, p2_int, p2_bool, p2_string]) ?_⟩
    have he := sn_eq hmb hb
    simp (disch := first | omega | (simp only [List.length_set, List.length_append, List.length_cons, List.length_nil, iv_length, zl_length]; done) | (simp only [List.length_set, List.length_append, List.length_cons, List.length_nil, iv_length, zl_length]; omega)) [wb_bool, wb_undef, XL_nil, XL_cons, XLc_val, XLc_call, step1_eq, stepW_t, stepW_f, stepC_n, stepC_s, stepX_s, stepX_n, stepN_s, calleeX, oneV, xop_eq, xopR_s, xopR_n, wantedA_eq, wantedG_n, wantedG_s, plain1_int, plain1_bool, plain1_string, bits_i64, bits_u64, bits_u32, bits_u16, bits_u8, xeqA, xagg, xcmp, xarr, allK_iv, num_iv, calleeOf, xread, xeff, xbin, xint, xnil, xun, xstr, xload, xconv, xpart, xfield, xfieldAddr, xindexAddr, xindex, bnd, asInt?, xslice, xlen, xmin, xmax, xbuild, xfill, xappend, xapp2, xappstr, xappmk, xcap, xcopy, xcells, eval_tmp, eval_const, put_at, put_none, fr0_at, cells_agg, cells_int, cells_bool, cells_string, cells_ptr, cells_slice, notTuple, tab, iv_all, hget_app, hget_app0, hget_cons0, hget_cons, set_app, set_app0, setR, setR_one, QL_nil, QL_cons, QLc_val, stepQ_t, stepQ_f, stepQC_n, stepQC_s, stepQX_s, SL_nil, SL_cons, SLc_val, stepS_t, stepS_f, he, ltT, ltF, leT, leF, eqT, eqF, ltTn, ltFn, leTn, leFn, eqTn, eqFn, beqT, beqF, bneT, bneF, wi64, wu64, wu32, wu16, wu8, tmodP, tdivP, hgetL, hgetNe, hgetEq, setL, nums_def, nums_len, Nat.succ_le_of_lt, List.getElem?_cons_zero, List.getElem?_cons_succ, Option.getD_some, -getElem?_pos, -getElem?_neg, Int.toNat_add, Int.toNat_mul, agB, agI, agS, agP, agL, agA, okB, okI, okS, okP, okSl, okA]
    refine hK _ _ ?_; clear hK K
    (refine aw_ret ?_; simp (disch := first | omega | (simp only [List.length_set, List.length_append, List.length_cons, List.length_nil, iv_length, zl_length]; done) | (simp only [List.length_set, List.length_append, List.length_cons, List.length_nil, iv_length, zl_length]; omega)) [wb_bool, wb_undef, XL_nil, XL_cons, XLc_val, XLc_call, step1_eq, stepW_t, stepW_f, stepC_n, stepC_s, stepX_s, stepX_n, stepN_s, calleeX, oneV, xop_eq, xopR_s, xopR_n, wantedA_eq, wantedG_n, wantedG_s, plain1_int, plain1_bool, plain1_string, bits_i64, bits_u64, bits_u32, bits_u16, bits_u8, xeqA, xagg, xcmp, xarr, allK_iv, num_iv, calleeOf, xread, xeff, xbin, xint, xnil, xun, xstr, xload, xconv, xpart, xfield, xfieldAddr, xindexAddr, xindex, bnd, asInt?, xslice, xlen, xmin, xmax, xbuild, xfill, xappend, xapp2, xappstr, xappmk, xcap, xcopy, xcells, eval_tmp, eval_const, put_at, put_none, fr0_at, cells_agg, cells_int, cells_bool, cells_string, cells_ptr, cells_slice, notTuple, tab, iv_all, hget_app, hget_app0, hget_cons0, hget_cons, set_app, set_app0, setR, setR_one, QL_nil, QL_cons, QLc_val, stepQ_t, stepQ_f, stepQC_n, stepQC_s, stepQX_s, SL_nil, SL_cons, SLc_val, stepS_t, stepS_f, thenQ_ret, scopeQ_ret, inBlockQ_ret, RQ, resL, resV, ltT, ltF, leT, leF, eqT, eqF, ltTn, ltFn, leTn, leFn, eqTn, eqFn, beqT, beqF, bneT, bneF, wi64, wu64, wu32, wu16, wu8, tmodP, tdivP, hgetL, hgetNe, hgetEq, setL, nums_def, nums_len, Nat.succ_le_of_lt, List.getElem?_cons_zero, List.getElem?_cons_succ, Option.getD_some, -getElem?_pos, -getElem?_neg, Int.toNat_add, Int.toNat_mul, agB, agI, agS, agP, agL, agA, okB, okI, okS, okP, okSl, okA])
    rw [hm]
    simp only [hlt, decide_true, Bool.true_and]
    by_cases h : markL A S = l
    · rw [h]; simp
    · have : (strOfNums (markL A S)).toList ≠ (strOfNums l).toList := fun hc => h (he.1 hc)
      simp [h, this]
  · have hlt2 : ¬ x0 < 2 := by omega
    (refine aw_ops (by kernel_rfl) (fun K hK => ?_); simp (disch := first | omega | (simp only [List.length_set, List.length_append, List.length_cons, List.length_nil, iv_length, zl_length]; done) | (simp only [List.length_set, List.length_append, List.length_cons, List.length_nil, iv_length, zl_length]; omega)) [wb_bool, wb_undef, XL_nil, XL_cons, XLc_val, XLc_call, step1_eq, stepW_t, stepW_f, stepC_n, stepC_s, stepX_s, stepX_n, stepN_s, calleeX, oneV, xop_eq, xopR_s, xopR_n, wantedA_eq, wantedG_n, wantedG_s, plain1_int, plain1_bool, plain1_string, bits_i64, bits_u64, bits_u32, bits_u16, bits_u8, xeqA, xagg, xcmp, xarr, allK_iv, num_iv, calleeOf, xread, xeff, xbin, xint, xnil, xun, xstr, xload, xconv, xpart, xfield, xfieldAddr, xindexAddr, xindex, bnd, asInt?, xslice, xlen, xmin, xmax, xbuild, xfill, xappend, xapp2, xappstr, xappmk, xcap, xcopy, xcells, eval_tmp, eval_const, put_at, put_none, fr0_at, cells_agg, cells_int, cells_bool, cells_string, cells_ptr, cells_slice, notTuple, tab, iv_all, hget_app, hget_app0, hget_cons0, hget_cons, set_app, set_app0, setR, setR_one, QL_nil, QL_cons, QLc_val, stepQ_t, stepQ_f, stepQC_n, stepQC_s, stepQX_s, SL_nil, SL_cons, SLc_val, stepS_t, stepS_f, hlt2, ltT, ltF, leT, leF, eqT, eqF, ltTn, ltFn, leTn, leFn, eqTn, eqFn, beqT, beqF, bneT, bneF, wi64, wu64, wu32, wu16, wu8, tmodP, tdivP, hgetL, hgetNe, hgetEq, setL, nums_def, nums_len, Nat.succ_le_of_lt, List.getElem?_cons_zero, List.getElem?_cons_succ, Option.getD_some, -getElem?_pos, -getElem?_neg, Int.toNat_add, Int.toNat_mul, agB, agI, agS, agP, agL, agA, okB, okI, okS, okP, okSl, okA]; refine hK _ _ ?_; clear hK K)
    (refine aw_ret ?_; simp (disch := first | omega | (simp only [List.length_set, List.length_append, List.length_cons, List.length_nil, iv_length, zl_length]; done) | (simp only [List.length_set, List.length_append, List.length_cons, List.length_nil, iv_length, zl_length]; omega)) [wb_bool, wb_undef, XL_nil, XL_cons, XLc_val, XLc_call, step1_eq, stepW_t, stepW_f, stepC_n, stepC_s, stepX_s, stepX_n, stepN_s, calleeX, oneV, xop_eq, xopR_s, xopR_n, wantedA_eq, wantedG_n, wantedG_s, plain1_int, plain1_bool, plain1_string, bits_i64, bits_u64, bits_u32, bits_u16, bits_u8, xeqA, xagg, xcmp, xarr, allK_iv, num_iv, calleeOf, xread, xeff, xbin, xint, xnil, xun, xstr, xload, xconv, xpart, xfield, xfieldAddr, xindexAddr, xindex, bnd, asInt?, xslice, xlen, xmin, xmax, xbuild, xfill, xappend, xapp2, xappstr, xappmk, xcap, xcopy, xcells, eval_tmp, eval_const, put_at, put_none, fr0_at, cells_agg, cells_int, cells_bool, cells_string, cells_ptr, cells_slice, notTuple, tab, iv_all, hget_app, hget_app0, hget_cons0, hget_cons, set_app, set_app0, setR, setR_one, QL_nil, QL_cons, QLc_val, stepQ_t, stepQ_f, stepQC_n, stepQC_s, stepQX_s, SL_nil, SL_cons, SLc_val, stepS_t, stepS_f, thenQ_ret, scopeQ_ret, inBlockQ_ret, RQ, resL, resV, ltT, ltF, leT, leF, eqT, eqF, ltTn, ltFn, leTn, leFn, eqTn, eqFn, beqT, beqF, bneT, bneF, wi64, wu64, wu32, wu16, wu8, tmodP, tdivP, hgetL, hgetNe, hgetEq, setL, nums_def, nums_len, Nat.succ_le_of_lt, List.getElem?_cons_zero, List.getElem?_cons_succ, Option.getD_some, -getElem?_pos, -getElem?_neg, Int.toNat_add, Int.toNat_mul, agB, agI, agS, agP, agL, agA, okB, okI, okS, okP, okSl, okA])
    rw [hm]
    simp [hlt]
end

section
open Go Go.RowKit
set_option linter.unusedVariables false
set_option linter.unusedSimpArgs false
set_option maxRecDepth 100000

def Wr (H : AH) (p : Nat) (F : List Nat) (bs : List Int) : Prop := ∃ v FU, F = p :: FU ∧ hget H p = some ⟨[v], 112, none⟩ ∧ OwnF H v 5 1 (iv .u8 bs) FU ∧ p ∉ FU
theorem Wr.lt {H : AH} {p : Nat} {F : List Nat} {bs : List Int} (h : Wr H p F bs) : ∀ j ∈ F, j < H.length := by
  obtain ⟨v, FU, rfl, h1, h2, h3⟩ := h
  intro j hj
  rcases List.mem_cons.1 hj with rfl | hj
  · exact hget_lt h1
  · exact h2.lt j hj
theorem Wr.low {H H' : AH} {p : Nat} {F : List Nat} {bs : List Int} (h : Wr H p F bs) (hl : ∀ j ∈ F, hget H' j = hget H j) : Wr H' p F bs := by
  obtain ⟨v, FU, rfl, h1, h2, h3⟩ := h
  exact ⟨v, FU, rfl, by rw [hl p (by simp)]; exact h1, h2.low (fun j hj => hl j (by simp [hj])), h3⟩
theorem own_shape {H : AH} {v : Value} {e : TypeId} {sz : Nat} {cells : List Value} {F : List Nat} (h : OwnF H v e sz cells F) : notTuple v = true ∧ v.cells = #[v] := by
  rcases h with ⟨rfl, _⟩ | ⟨j, len, rfl, _⟩ <;> exact ⟨rfl, rfl⟩
attribute [local simp] wb_bool wb_undef XL_nil XL_cons XLc_val XLc_call step1_eq stepW_t stepW_f stepC_n stepC_s stepX_s stepX_n stepN_s calleeX oneV xop_eq xopR_s xopR_n wantedA_eq wantedG_n wantedG_s plain1_int plain1_bool plain1_string bits_i64 bits_u64 bits_u32 bits_u16 bits_u8 xeqA xagg xcmp xarr allK_iv num_iv calleeOf xread xeff xbin xint xnil xun xstr xload xconv xpart xfield xfieldAddr xindexAddr xindex bnd asInt? xslice xlen xmin xmax xbuild xfill xappend xapp2 xappstr xappmk xcap xcopy xcells eval_tmp eval_const put_at put_none fr0_at cells_agg cells_int cells_bool cells_string cells_ptr cells_slice notTuple tab iv_all hget_app hget_app0 hget_cons0 hget_cons set_app set_app0 setR setR_one QL_nil QL_cons QLc_val stepQ_t stepQ_f stepQC_n stepQC_s stepQX_s SL_nil SL_cons SLc_val stepS_t stepS_f ltT ltF leT leF eqT eqF ltTn ltFn leTn leFn eqTn eqFn beqT beqF bneT bneF wi64 wu64 wu32 wu16 wu8 tmodP tdivP hgetL hgetNe hgetEq setL nums_def nums_len Nat.succ_le_of_lt List.getElem?_cons_zero List.getElem?_cons_succ Option.getD_some Int.toNat_add Int.toNat_mul agB agI agS agP agL agA okB okI okS okP okSl okA
/-- More bytes: those that x shows. -/
theorem wr_append {nro : Nat} {H G : AH} {p : Nat} {F : List Nat} {bs news : List Int} {x : Value} (h : Wr H p F bs) (hnro : ∀ j ∈ F, nro ≤ j) (hG : H.length ≤ G.length) (hl : ∀ j, j < H.length → hget G j = hget H j) (hstr : ∀ s, x ≠ .string s) (hx : xcells 1 x G = some (iv .u8 news)) (hn : news ≠ []) (hb : bs.length + news.length ≤ 1000000) :
    ∃ v v' H', hget H p = some ⟨[v], 112, none⟩ ∧ notTuple v = true ∧ xappend Tryd.prog nro 37 v x G = some (v', H') ∧ notTuple v' = true ∧ v'.cells = #[v'] ∧ hget H' p = some ⟨[v], 112, none⟩ ∧
      Wr (H'.set p (some ⟨[v'], 112, none⟩)) p [p, G.length] (bs ++ news) ∧ Fr H (H'.set p (some ⟨[v'], 112, none⟩)) F [p, G.length] := by
  have hlt := h.lt
  obtain ⟨v, FU, rfl, h1, h2, h3⟩ := h
  have hpl := hget_lt h1
  have hivn : (iv .u8 news).length = news.length := iv_length _ _
  have hivb : (iv .u8 bs).length = bs.length := iv_length _ _
  have hnn : iv .u8 news ≠ [] := fun e => hn (by have := congrArg List.length e; rw [hivn] at this; exact List.eq_nil_of_length_eq_zero this)
  obtain ⟨v', H', hap, ho, hlen, hk⟩ := ownF_append (P := Tryd.prog) (nro := nro) (t := 37) (e := 5) (H := G) (v := v) (x := x) (sz := 1) (cells := iv .u8 bs) (news := iv .u8 news) (F := FU) (by simp) (by simp) (by omega) (by simp) (h2.low (fun j hj => hl j (h2.lt j hj)))
    (fun j hj => hnro j (by simp [hj])) hstr hx hnn (Nat.mod_one _) (by rw [hivn, hivb]; simp; omega) (by rw [hivn, hivb]; simp [maxLen]; omega)
  have hp' : hget H' p = some ⟨[v], 112, none⟩ := (hk p (by omega) h3).trans ((hl p hpl).trans h1)
  have hs := own_shape h2
  have hs' := own_shape ho
  have hpg : p < G.length := by omega
  refine ⟨v, v', H', h1, hs.1, hap, hs'.1, hs'.2, hp', ⟨v', [G.length], rfl, hget_set_eq (by omega), ?_, by simp; omega⟩, ⟨by simp; omega, fun j hj hn => ?_, fun j hj => ?_⟩⟩
  · rw [iv_append]
    exact ho.low (fun j hj => hget_set_ne (by rw [List.mem_singleton] at hj; omega))
  · rw [hget_set_ne (fun e => hn (by simp [e])), hk j (by omega) (fun hm => hn (by simp [hm])), hl j hj]
  · simp only [List.mem_cons, List.not_mem_nil, or_false] at hj
    rcases hj with rfl | rfl
    · exact .inl (by simp)
    · exact .inr hG
end

section
open Go Go.RowKit
set_option linter.unusedVariables false
set_option linter.unusedSimpArgs false
set_option maxRecDepth 100000

theorem or128 : ∀ a : Nat, a < 128 → bitsOf .or .u8 (a : Int) 128 = (a : Int) + 128 := by decide +kernel
theorem and_nat (m : Nat) (hm : m < 4294967296) : bitsOf .and .u32 (m : Int) 127 = ((m % 128 : Nat) : Int) := by
  show IntKind.u32.wrap ((BitVec.ofInt 32 (m : Int) &&& BitVec.ofInt 32 127).toNat : Int) = _
  have h : (BitVec.ofInt 32 (m : Int) &&& BitVec.ofInt 32 127).toNat = m % 128 := by
    rw [BitVec.toNat_and]
    have h1 : (BitVec.ofInt 32 (m : Int)).toNat = m := by
      rw [BitVec.toNat_ofInt]; omega
    rw [h1]
    show m &&& 127 = _
    exact Nat.and_two_pow_sub_one_eq_mod m 7
  rw [h]
  simp only [IntKind.wrap_u32']
  omega
/-- The groups of a number from the g-th on down to the first. -/
def hiG (n : Nat) : Nat → List Int
  | 0 => []
  | g + 1 => (if n / 128 ^ (g + 1) = 0 then [] else [((n / 128 ^ (g + 1) % 128 : Nat) : Int) + 128]) ++ hiG n g
/-- A number's bytes. -/
def numB (n : Nat) : List Int := hiG n 4 ++ [((n % 128 : Nat) : Int)]
theorem hiG_len (n : Nat) : ∀ g, (hiG n g).length ≤ g
  | 0 => by simp [hiG]
  | g + 1 => by
    have := hiG_len n g
    unfold hiG
    split <;> simp <;> omega
theorem numB_len (n : Nat) : (numB n).length ≤ 5 := by
  have := hiG_len n 4
  simp [numB]; omega
end

section
open Go Go.RowKit
set_option linter.unusedVariables false
set_option linter.unusedSimpArgs false
set_option maxRecDepth 100000
set_option maxHeartbeats 4000000
theorem nt_int (k : IntKind) (x : Int) : notTuple (.int k x) = true := rfl
theorem nt_sl (a : Option Addr) (n c : Nat) : notTuple (.slice a n c) = true := rfl
def numsB (l : List Int) : List Int := l.flatMap fun x => numB x.toNat
theorem numsB_next {l : List Int} {i : Nat} {x : Int} (h : l[i]? = some x) : numsB (l.take (i + 1)) = numsB (l.take i) ++ numB x.toNat := by
  unfold numsB
  rw [List.take_add_one, h, List.flatMap_append]
  simp
theorem numsB_len (l : List Int) : (numsB l).length ≤ 5 * l.length := by
  induction l with
  | nil => simp [numsB]
  | cons x l ih =>
    have := numB_len x.toNat
    simp only [numsB, List.flatMap_cons, List.length_append, List.length_cons] at ih ⊢
    omega
attribute [local simp] wb_bool wb_undef XL_nil XL_cons XLc_val XLc_call step1_eq stepW_t stepW_f stepC_n stepC_s stepX_s stepX_n stepN_s calleeX oneV xop_eq xopR_s xopR_n wantedA_eq wantedG_n wantedG_s plain1_int plain1_bool plain1_string bits_i64 bits_u64 bits_u32 bits_u16 bits_u8 xeqA xagg xcmp xarr allK_iv num_iv calleeOf xread xeff xbin xint xnil xun xstr xload xconv xpart xfield xfieldAddr xindexAddr xindex bnd asInt? xslice xlen xmin xmax xbuild xfill xappend xapp2 xappstr xappmk xcap xcopy xcells eval_tmp eval_const put_at put_none fr0_at cells_agg cells_int cells_bool cells_string cells_ptr cells_slice notTuple tab iv_all hget_app hget_app0 hget_cons0 hget_cons set_app set_app0 setR setR_one QL_nil QL_cons QLc_val stepQ_t stepQ_f stepQC_n stepQC_s stepQX_s SL_nil SL_cons SLc_val stepS_t stepS_f ltT ltF leT leF eqT eqF ltTn ltFn leTn leFn eqTn eqFn beqT beqF bneT bneF wi64 wu64 wu32 wu16 wu8 tmodP tdivP hgetL hgetNe hgetEq setL nums_def nums_len Nat.succ_le_of_lt List.getElem?_cons_zero List.getElem?_cons_succ Option.getD_some Int.toNat_add Int.toNat_mul agB agI agS agP agL agA okB okI okS okP okSl okA
theorem numbers_ac {H : AH} {γ : Nat → Option Nat} {nro p : Nat} {F : List Nat} {bs l : List Int} {v : Value} (h : Wr H p F bs) (hlo : ∀ j ∈ F, nro ≤ j) (hnl : nro ≤ H.length) (hv : SlS H F v (iv .u32 l)) (hl : ∀ x ∈ l, 0 ≤ x ∧ x ≤ 4294967295) (hlen : bs.length + 5 * l.length ≤ 100000) :
    AC Tryd.prog nro γ 83 #[.pointer (some ⟨p, 0, none⟩), v] H (fun v' H' => ∃ F', Wr H' p F' (bs ++ numsB l) ∧ Fr H H' F F') := by
  have hno : notTuple v = true := by rcases hv.now with ⟨a, rfl, _⟩ | ⟨j, off, k, rfl, _⟩ <;> rfl
  have hxl := hv.now.len (P := Tryd.prog) (t := 150) (e := 94) (by simp)
  have hil : (iv .u32 l).length = l.length := iv_length _ _
  rw [hil] at hxl
  have hnp : nro ≤ p := hlo p (by obtain ⟨v, FU, rfl, _⟩ := h; simp)
  refine ac_of_aw Tryd.func83 rfl Tryd.ntmps83 Tryd.results83 (by simp) ?_
  refine aw_seq ?_
  (refine aw_ops (by kernel_rfl) (fun K hK => ?_); simp (disch := first | omega | (simp only [List.length_set, List.length_append, List.length_cons, List.length_nil, iv_length, zl_length]; try omega; done)) [-getElem?_pos, -getElem?_neg, -xlen, hxl]; refine hK _ _ ?_; clear hK K)
  refine aw_block ?_
  refine aw_loop (fun c α G => ∃ i : Nat, i + c = l.length ∧ α 10 = .int .i64 (i : Nat) ∧ α 9 = .int .i64 (l.length : Nat) ∧ α 8 = v ∧ α 0 = .pointer (some ⟨p, 0, none⟩) ∧ ∃ F', Wr G p F' (bs ++ numsB (l.take i)) ∧ Fr H G F F') l.length ?_ ?_
  · exact ⟨0, by omega, by (first | (simp [put_at, put_none, fr0_at]; done) | rfl), by (first | (simp [put_at, put_none, fr0_at]; done) | rfl), by (first | (simp [put_at, put_none, fr0_at]; done) | rfl), by (first | (simp [put_at, put_none, fr0_at]; done) | rfl), F, by simpa [numsB] using h, .refl _ _⟩
  rintro c α G ⟨i, hic, h10, h9, h8, h0, F1, hw, hf⟩
  refine aw_seq ?_
  (refine aw_ops (by kernel_rfl) (fun K hK => ?_); simp (disch := first | omega | (simp only [List.length_set, List.length_append, List.length_cons, List.length_nil, iv_length, zl_length]; try omega; done)) [-getElem?_pos, -getElem?_neg, h10, h9]; refine hK _ _ ?_; clear hK K)
  refine aw_seq ?_
  by_cases hi : i < l.length
  case neg =>
    refine aw_f (by (first | (simp [eval_tmp, put_at, hi]; done) | (simp [eval_tmp, put_at, hi]; omega))) (by kernel_rfl) ?_
    refine aw_exit ?_
    refine ⟨_, _, rfl, rfl, F1, ?_, hf⟩
    obtain rfl : i = l.length := by omega
    rwa [List.take_length] at hw
  refine aw_t (by (first | (simp [eval_tmp, put_at, hi]; done) | (simp [eval_tmp, put_at, hi]; omega))) (by kernel_rfl) ?_
  refine aw_skip ?_
  refine aw_seq ?_
  refine aw_block ?_
  obtain ⟨x, hx⟩ : ∃ x, l[i]? = some x := ⟨_, List.getElem?_eq_getElem hi⟩
  obtain ⟨hx0, hx1⟩ := hl x (List.mem_of_getElem? hx)
  obtain ⟨n, rfl⟩ : ∃ n : Nat, x = (n : Nat) := ⟨x.toNat, by omega⟩
  have hvG := hv.fr hf
  have hcx : (iv .u32 l)[i]? = some (.int .u32 (n : Nat)) := by simp [iv, hx]
  obtain ⟨px, hpx, hlx⟩ := hvG.now.cell (P := Tryd.prog) (t := 150) (e := 94) (by simp) (by simp) (by simp) (by simp) hcx
  have hxa : xindexAddr Tryd.prog 150 v (.int .i64 (i : Nat)) = some px := hpx
  have hnpx : notTuple px = true := by
    unfold xload at hlx
    cases px <;> first | rfl | (simp at hlx)
  refine aw_seq ?_
  (refine aw_ops (by kernel_rfl) (fun K hK => ?_); simp (disch := first | omega | (simp only [List.length_set, List.length_append, List.length_cons, List.length_nil, iv_length, zl_length]; try omega; done)) [-getElem?_pos, -getElem?_neg, h8, h10, -xindexAddr, hxa, -xload, hlx, hnpx]; refine hK _ _ ?_; clear hK K)
  have hn32 : n < 4294967296 := by omega
  have hft : (numsB (l.take i)).length ≤ 5 * i := by
    have := numsB_len (l.take i)
    rw [List.length_take] at this; omega
  have lt2 : ∀ {G : AH} {F' : List Nat}, Fr H G F F' → ∀ j ∈ F', nro ≤ j := fun hf j hj => by
    rcases hf.new j hj with h1 | h1
    · exact hlo j h1
    · omega
  refine aw_seq ?_
  refine aw_seq ?_
  (refine aw_ops (by kernel_rfl) (fun K hK => ?_); simp (disch := first | omega | (simp only [List.length_set, List.length_append, List.length_cons, List.length_nil, iv_length, zl_length]; try omega; done)) [-getElem?_pos, -getElem?_neg]; refine hK _ _ ?_; clear hK K)
  refine aw_cut (fun α G2 => α 5 = .int .u32 (n : Nat) ∧ α 10 = .int .i64 (i : Nat) ∧ α 9 = .int .i64 (l.length : Nat) ∧ α 8 = v ∧ α 0 = .pointer (some ⟨p, 0, none⟩) ∧ ∃ F', Wr G2 p F' (bs ++ numsB (l.take i) ++ hiG n 4) ∧ Fr H G2 F F') ?_ ?_
  · refine aw_block ?_
    refine aw_loop (fun c α G2 => ∃ part : List Int, c ≤ 4 ∧ hiG n 4 = part ++ hiG n c ∧ part.length + c ≤ 4 ∧ α 6 = .int .i64 (c : Nat) ∧ α 5 = .int .u32 (n : Nat) ∧ α 10 = .int .i64 (i : Nat) ∧ α 9 = .int .i64 (l.length : Nat) ∧ α 8 = v ∧ α 0 = .pointer (some ⟨p, 0, none⟩) ∧ ∃ F', Wr G2 p F' (bs ++ numsB (l.take i) ++ part) ∧ Fr H G2 F F') 4 ?_ ?_
    · exact ⟨[], by omega, by simp, by simp, by (first | (simp [put_at, put_none, fr0_at]; done) | rfl), by (first | (simp [put_at, put_none, fr0_at]; done) | rfl), by (first | (simp [put_at, put_none, fr0_at, h10]; done) | rfl), by (first | (simp [put_at, put_none, fr0_at, h9]; done) | rfl), by (first | (simp [put_at, put_none, fr0_at, h8]; done) | rfl), by (first | (simp [put_at, put_none, fr0_at, h0]; done) | rfl), F1, by simpa using hw, hf⟩
    clear h10 h9 h8 h0 hw hf
    rintro g α G2 ⟨part, hg4, hpart, hpl, h6, h5, h10, h9, h8, h0, F2, hw, hf⟩
    refine aw_seq ?_
    refine aw_seq ?_
    cases g with
    | zero =>
      (refine aw_ops (by kernel_rfl) (fun K hK => ?_); simp (disch := first | omega | (simp only [List.length_set, List.length_append, List.length_cons, List.length_nil, iv_length, zl_length]; try omega; done)) [-getElem?_pos, -getElem?_neg, h6]; refine hK _ _ ?_; clear hK K)
      refine aw_f (by (first | (simp [eval_tmp, put_at]; done) | (simp [eval_tmp, put_at]; omega))) (by kernel_rfl) ?_
      refine aw_exit ?_
      refine ⟨by (first | (simp [put_at, put_none, fr0_at, h5]; done) | rfl), by (first | (simp [put_at, put_none, fr0_at, h10]; done) | rfl), by (first | (simp [put_at, put_none, fr0_at, h9]; done) | rfl), by (first | (simp [put_at, put_none, fr0_at, h8]; done) | rfl), by (first | (simp [put_at, put_none, fr0_at, h0]; done) | rfl), F2, ?_, hf⟩
      rw [hpart]
      simpa [hiG] using hw
    | succ g =>
      (refine aw_ops (by kernel_rfl) (fun K hK => ?_); simp (disch := first | omega | (simp only [List.length_set, List.length_append, List.length_cons, List.length_nil, iv_length, zl_length]; try omega; done)) [-getElem?_pos, -getElem?_neg, h6]; refine hK _ _ ?_; clear hK K)
      refine aw_t (by (first | (simp [eval_tmp, put_at]; done) | (simp [eval_tmp, put_at]; omega))) (by kernel_rfl) ?_
      refine aw_skip ?_
      refine aw_seq ?_
      refine aw_block ?_
      refine aw_seq ?_
      refine aw_cut (fun α G3 => G3 = G2 ∧ α 7 = .int .u32 ((n / 128 ^ (g + 1) : Nat) : Int) ∧ α 6 = .int .i64 ((g + 1 : Nat) : Int) ∧ α 5 = .int .u32 (n : Nat) ∧ α 10 = .int .i64 (i : Nat) ∧ α 9 = .int .i64 (l.length : Nat) ∧ α 8 = v ∧ α 0 = .pointer (some ⟨p, 0, none⟩)) ?_ ?_
      · have hgs : g = 0 ∨ g = 1 ∨ g = 2 ∨ g = 3 := by omega
        rcases hgs with rfl | rfl | rfl | rfl
        · (refine aw_ops (by kernel_rfl) (fun K hK => ?_); simp (disch := first | omega | (simp only [List.length_set, List.length_append, List.length_cons, List.length_nil, iv_length, zl_length]; try omega; done)) [-getElem?_pos, -getElem?_neg, h5, h6, fdivP]; refine hK _ _ ?_; clear hK K)
          exact ⟨rfl, by simp [put_at], by (first | (simp [put_at, put_none, fr0_at, h6]; done) | rfl), by (first | (simp [put_at, put_none, fr0_at, h5]; done) | rfl), by (first | (simp [put_at, put_none, fr0_at, h10]; done) | rfl), by (first | (simp [put_at, put_none, fr0_at, h9]; done) | rfl), by (first | (simp [put_at, put_none, fr0_at, h8]; done) | rfl), by (first | (simp [put_at, put_none, fr0_at, h0]; done) | rfl)⟩
        · (refine aw_ops (by kernel_rfl) (fun K hK => ?_); simp (disch := first | omega | (simp only [List.length_set, List.length_append, List.length_cons, List.length_nil, iv_length, zl_length]; try omega; done)) [-getElem?_pos, -getElem?_neg, h5, h6, fdivP]; refine hK _ _ ?_; clear hK K)
          exact ⟨rfl, by simp [put_at], by (first | (simp [put_at, put_none, fr0_at, h6]; done) | rfl), by (first | (simp [put_at, put_none, fr0_at, h5]; done) | rfl), by (first | (simp [put_at, put_none, fr0_at, h10]; done) | rfl), by (first | (simp [put_at, put_none, fr0_at, h9]; done) | rfl), by (first | (simp [put_at, put_none, fr0_at, h8]; done) | rfl), by (first | (simp [put_at, put_none, fr0_at, h0]; done) | rfl)⟩
        · (refine aw_ops (by kernel_rfl) (fun K hK => ?_); simp (disch := first | omega | (simp only [List.length_set, List.length_append, List.length_cons, List.length_nil, iv_length, zl_length]; try omega; done)) [-getElem?_pos, -getElem?_neg, h5, h6, fdivP]; refine hK _ _ ?_; clear hK K)
          exact ⟨rfl, by simp [put_at], by (first | (simp [put_at, put_none, fr0_at, h6]; done) | rfl), by (first | (simp [put_at, put_none, fr0_at, h5]; done) | rfl), by (first | (simp [put_at, put_none, fr0_at, h10]; done) | rfl), by (first | (simp [put_at, put_none, fr0_at, h9]; done) | rfl), by (first | (simp [put_at, put_none, fr0_at, h8]; done) | rfl), by (first | (simp [put_at, put_none, fr0_at, h0]; done) | rfl)⟩
        · (refine aw_ops (by kernel_rfl) (fun K hK => ?_); simp (disch := first | omega | (simp only [List.length_set, List.length_append, List.length_cons, List.length_nil, iv_length, zl_length]; try omega; done)) [-getElem?_pos, -getElem?_neg, h5, h6, fdivP]; refine hK _ _ ?_; clear hK K)
          exact ⟨rfl, by simp [put_at], by (first | (simp [put_at, put_none, fr0_at, h6]; done) | rfl), by (first | (simp [put_at, put_none, fr0_at, h5]; done) | rfl), by (first | (simp [put_at, put_none, fr0_at, h10]; done) | rfl), by (first | (simp [put_at, put_none, fr0_at, h9]; done) | rfl), by (first | (simp [put_at, put_none, fr0_at, h8]; done) | rfl), by (first | (simp [put_at, put_none, fr0_at, h0]; done) | rfl)⟩
      clear h10 h9 h8 h0 h6 h5
      rintro α G3 ⟨rfl, h7, h6, h5, h10, h9, h8, h0⟩
      obtain ⟨m, hm⟩ : ∃ m, m = n / 128 ^ (g + 1) := ⟨_, rfl⟩
      have hm32 : m < 4294967296 := by
        have := Nat.div_le_self n (128 ^ (g + 1)); omega
      rw [← hm] at h7
      refine aw_seq ?_
      by_cases hz : m = 0
      · (refine aw_ops (by kernel_rfl) (fun K hK => ?_); simp (disch := first | omega | (simp only [List.length_set, List.length_append, List.length_cons, List.length_nil, iv_length, zl_length]; try omega; done)) [-getElem?_pos, -getElem?_neg, h7, hz]; refine hK _ _ ?_; clear hK K)
        refine aw_f (by (first | (simp [eval_tmp, put_at]; done) | (simp [eval_tmp, put_at]; omega))) (by kernel_rfl) ?_
        refine aw_skip ?_
        (refine aw_ops (by kernel_rfl) (fun K hK => ?_); simp (disch := first | omega | (simp only [List.length_set, List.length_append, List.length_cons, List.length_nil, iv_length, zl_length]; try omega; done)) [-getElem?_pos, -getElem?_neg, h6]; refine hK _ _ ?_; clear hK K)
        refine ⟨g, by omega, part, by omega, ?_, by omega, by simp [put_at], by (first | (simp [put_at, put_none, fr0_at, h5]; done) | rfl), by (first | (simp [put_at, put_none, fr0_at, h10]; done) | rfl), by (first | (simp [put_at, put_none, fr0_at, h9]; done) | rfl), by (first | (simp [put_at, put_none, fr0_at, h8]; done) | rfl), by (first | (simp [put_at, put_none, fr0_at, h0]; done) | rfl), F2, hw, hf⟩
        rw [hpart, hiG, ← hm, if_pos hz, List.nil_append]
      · obtain ⟨b0, hb0⟩ : ∃ b0 : Int, b0 = ((m % 128 : Nat) : Int) + 128 := ⟨_, rfl⟩
        have hmm : m % 128 < 128 := Nat.mod_lt _ (by omega)
        have hor := or128 (m % 128) hmm
        rw [← hb0] at hor
        have hand := and_nat m hm32
        have hwrp : IntKind.u8.wrap ((m % 128 : Nat) : Int) = ((m % 128 : Nat) : Int) := wrap8_in (by omega)
        obtain ⟨m7, hm7⟩ : ∃ m7 : Int, m7 = ((m % 128 : Nat) : Int) := ⟨_, rfl⟩
        rw [← hm7] at hor hand hwrp
        have hxc : xcells 1 (.slice (some ⟨G3.length, 0, none⟩) 1 1) (G3 ++ [some ⟨[.int .u8 b0], 5, some 1⟩]) = some (iv .u8 [b0]) := by simp [xcells, iv, hget_app0]
        obtain ⟨w, w', H', hgw, hnw, hap, hnw', hcw', hgw', hwr, hfr⟩ := wr_append (nro := nro) (G := G3 ++ [some ⟨[.int .u8 b0], 5, some 1⟩]) hw (lt2 hf) (by simp) (fun j hj => hget_left hj) (fun s e => by cases e) hxc (by simp) (by simp; omega)
        (refine aw_ops (by kernel_rfl) (fun K hK => ?_); simp (disch := first | omega | (simp only [List.length_set, List.length_append, List.length_cons, List.length_nil, iv_length, zl_length]; try omega; done)) [-getElem?_pos, -getElem?_neg, h7, hz]; refine hK _ _ ?_; clear hK K)
        refine aw_t (by (first | (simp [eval_tmp, put_at, hz]; done) | (simp [eval_tmp, put_at, hz]; omega))) (by kernel_rfl) ?_
        (refine aw_ops (by kernel_rfl) (fun K hK => ?_); simp (disch := first | omega | (simp only [List.length_set, List.length_append, List.length_cons, List.length_nil, iv_length, zl_length]; try omega; done)) [-getElem?_pos, -getElem?_neg, h7, h0, hand, hwrp, hor, hgw, hgw', hnw, hnw', hcw', -notTuple, nt_int, nt_sl, -xappend, hap, hget_left, hnp]; refine hK _ _ ?_; clear hK K)
        (refine aw_ops (by kernel_rfl) (fun K hK => ?_); simp (disch := first | omega | (simp only [List.length_set, List.length_append, List.length_cons, List.length_nil, iv_length, zl_length]; try omega; done)) [-getElem?_pos, -getElem?_neg, h6]; refine hK _ _ ?_; clear hK K)
        refine ⟨g, by omega, part ++ [b0], by omega, ?_, by simp; omega, by simp [put_at], by (first | (simp [put_at, put_none, fr0_at, h5]; done) | rfl), by (first | (simp [put_at, put_none, fr0_at, h10]; done) | rfl), by (first | (simp [put_at, put_none, fr0_at, h9]; done) | rfl), by (first | (simp [put_at, put_none, fr0_at, h8]; done) | rfl), by (first | (simp [put_at, put_none, fr0_at, h0]; done) | rfl), _, ?_, hf.trans hfr⟩
        · rw [hpart, hiG, ← hm, if_neg hz, ← hb0, List.append_assoc]
        · rw [← List.append_assoc]; exact hwr
  clear h10 h9 h8 h0 hw hf
  rintro α GG ⟨h5, h10, h9, h8, h0, F2, hw, hf⟩
  obtain ⟨m7, hm7⟩ : ∃ m7 : Int, m7 = ((n % 128 : Nat) : Int) := ⟨_, rfl⟩
  have hand := and_nat n hn32
  have hmm : n % 128 < 128 := Nat.mod_lt _ (by omega)
  have hwrp : IntKind.u8.wrap m7 = m7 := wrap8_in (by omega)
  rw [← hm7] at hand
  have hhl := hiG_len n 4
  have hxc : xcells 1 (.slice (some ⟨GG.length, 0, none⟩) 1 1) (GG ++ [some ⟨[.int .u8 m7], 5, some 1⟩]) = some (iv .u8 [m7]) := by simp [xcells, iv, hget_app0]
  obtain ⟨w, w', H', hgw, hnw, hap, hnw', hcw', hgw', hwr, hfr⟩ := wr_append (nro := nro) (G := GG ++ [some ⟨[.int .u8 m7], 5, some 1⟩]) hw (lt2 hf) (by simp) (fun j hj => hget_left hj) (fun s e => by cases e) hxc (by simp) (by simp; omega)
  (refine aw_ops (by kernel_rfl) (fun K hK => ?_); simp (disch := first | omega | (simp only [List.length_set, List.length_append, List.length_cons, List.length_nil, iv_length, zl_length]; try omega; done)) [-getElem?_pos, -getElem?_neg, h5, h0, hand, hwrp, hgw, hgw', hnw, hnw', hcw', -notTuple, nt_int, nt_sl, -xappend, hap, hget_left, hnp]; refine hK _ _ ?_; clear hK K)
  (refine aw_ops (by kernel_rfl) (fun K hK => ?_); simp (disch := first | omega | (simp only [List.length_set, List.length_append, List.length_cons, List.length_nil, iv_length, zl_length]; try omega; done)) [-getElem?_pos, -getElem?_neg, h10]; refine hK _ _ ?_; clear hK K)
  refine ⟨c - 1, by omega, i + 1, by omega, by (first | (simp [put_at, put_none, fr0_at]; done) | rfl), by (first | (simp [put_at, put_none, fr0_at, h9]; done) | rfl), by (first | (simp [put_at, put_none, fr0_at, h8]; done) | rfl), by (first | (simp [put_at, put_none, fr0_at, h0]; done) | rfl), _, ?_, hf.trans hfr⟩
  rw [numsB_next hx]
  simp only [numB, Int.toNat_natCast]
  rw [hm7] at hwr
  rw [← List.append_assoc, ← List.append_assoc]
  rw [hm7]
  exact hwr
end

section
open Go Go.RowKit
set_option linter.unusedVariables false
set_option linter.unusedSimpArgs false
set_option maxRecDepth 100000
set_option maxHeartbeats 4000000
attribute [local simp] wb_bool wb_undef XL_nil XL_cons XLc_val XLc_call step1_eq stepW_t stepW_f stepC_n stepC_s stepX_s stepX_n stepN_s calleeX oneV xop_eq xopR_s xopR_n wantedA_eq wantedG_n wantedG_s plain1_int plain1_bool plain1_string bits_i64 bits_u64 bits_u32 bits_u16 bits_u8 xeqA xagg xcmp xarr allK_iv num_iv calleeOf xread xeff xbin xint xnil xun xstr xload xconv xpart xfield xfieldAddr xindexAddr xindex bnd asInt? xslice xlen xmin xmax xbuild xfill xappend xapp2 xappstr xappmk xcap xcopy xcells eval_tmp eval_const put_at put_none fr0_at cells_agg cells_int cells_bool cells_string cells_ptr cells_slice notTuple tab iv_all hget_app hget_app0 hget_cons0 hget_cons set_app set_app0 setR setR_one QL_nil QL_cons QLc_val stepQ_t stepQ_f stepQC_n stepQC_s stepQX_s SL_nil SL_cons SLc_val stepS_t stepS_f ltT ltF leT leF eqT eqF ltTn ltFn leTn leFn eqTn eqFn beqT beqF bneT bneF wi64 wu64 wu32 wu16 wu8 tmodP tdivP hgetL hgetNe hgetEq setL nums_def nums_len Nat.succ_le_of_lt List.getElem?_cons_zero List.getElem?_cons_succ Option.getD_some Int.toNat_add Int.toNat_mul agB agI agS agP agL agA okB okI okS okP okSl okA
/-- A slice of one number that lies fresh. -/
theorem one_sls {G : AH} {F : List Nat} {x : Int} (hF : ∀ j ∈ F, j < G.length) : ∀ G1 : AH, G1 = G ++ [some ⟨[.int .u32 x], 94, some 1⟩] → SlS G1 F (.slice (some ⟨G.length, 0, none⟩) 1 1) (iv .u32 [x]) := by
  rintro G1 rfl G2 hg
  have e : hget G2 G.length = some ⟨[.int .u32 x], 94, some 1⟩ := (hg G.length (by rw [List.length_append]; exact Nat.lt_succ_self _) (fun hm => by have := hF _ hm; omega)).trans (by rw [hget_app0]; rfl)
  refine .inr ⟨G.length, 0, _, rfl, e, fun i x hi => ?_⟩
  simpa [iv] using hi
theorem wstring_ac {H : AH} {γ : Nat → Option Nat} {nro p : Nat} {F : List Nat} {bs : List Int} (h : Wr H p F bs) :
    AC Tryd.prog nro γ 68 #[.pointer (some ⟨p, 0, none⟩)] H (fun v' H' => v' = .string (strOfNums bs) ∧ H' = H) := by
  obtain ⟨v, FU, rfl, h1, h2, h3⟩ := h
  have hno := (own_shape h2).1
  refine ac_of_aw Tryd.func68 rfl Tryd.ntmps68 Tryd.results68 (by simp) ?_
  refine aw_seq ?_
  (refine aw_ops (by kernel_rfl) (fun K hK => ?_); simp (disch := first | omega | (simp only [List.length_set, List.length_append, List.length_cons, List.length_nil, iv_length, zl_length]; try omega; done)) [-getElem?_pos, -getElem?_neg]; refine hK _ _ ?_; clear hK K)
  refine aw_seq ?_
  rcases h2 with ⟨rfl, hb, _⟩ | ⟨j, len, rfl, hg, hl, _⟩
  · obtain rfl : bs = [] := by cases bs with
      | nil => rfl
      | cons x l => simp [iv] at hb
    (refine aw_ops (by kernel_rfl) (fun K hK => ?_); simp (disch := first | omega | (simp only [List.length_set, List.length_append, List.length_cons, List.length_nil, iv_length, zl_length]; try omega; done)) [-getElem?_pos, -getElem?_neg, h1, hno]; refine hK _ _ ?_; clear hK K)
    (refine aw_ret ?_; simp (disch := first | omega | (simp only [List.length_set, List.length_append, List.length_cons, List.length_nil, iv_length, zl_length]; try omega; done)) [-getElem?_pos, -getElem?_neg, thenQ_ret, scopeQ_ret, inBlockQ_ret, RQ, resL, resV])
    rfl
  · have hbl := byteList_iv bs
    have hll : len = bs.length := by rw [iv_length] at hl; omega
    subst hll
    have htk : (iv .u8 bs).take bs.length = iv .u8 bs := by rw [List.take_of_length_le]; rw [iv_length]; exact Nat.le_refl _
    (refine aw_ops (by kernel_rfl) (fun K hK => ?_); simp (disch := first | omega | (simp only [List.length_set, List.length_append, List.length_cons, List.length_nil, iv_length, zl_length]; try omega; done)) [-getElem?_pos, -getElem?_neg, h1, hno, hg, htk, hbl]; refine hK _ _ ?_; clear hK K)
    (refine aw_ret ?_; simp (disch := first | omega | (simp only [List.length_set, List.length_append, List.length_cons, List.length_nil, iv_length, zl_length]; try omega; done)) [-getElem?_pos, -getElem?_neg, thenQ_ret, scopeQ_ret, inBlockQ_ret, RQ, resL, resV])
end

section
open Go Go.RowKit
set_option linter.unusedVariables false
set_option linter.unusedSimpArgs false
set_option maxRecDepth 100000
set_option maxHeartbeats 4000000
theorem ownF_appstr {P : Program} {nro : Nat} {t e : TypeId} {H : AH} {v : Value} {b : ByteArray} {cells : List Value} {F : List Nat} (hu : und P t = .slice e) (hz : zer P e = some (.int .u8 0)) (hs : szt P e = 1) (hby : byt P e = 1)
    (hv : OwnF H v e 1 cells F) (hnro : ∀ j ∈ F, nro ≤ j) (hb : cells.length + b.size ≤ 140737488355328) (hm : cells.length + b.size ≤ maxLen) :
    ∃ v' H' F', xappstr P nro t v (.string b) H = some (v', H') ∧ OwnF H' v' e 1 (cells ++ iv .u8 (nums b)) F' ∧ H.length ≤ H'.length ∧ (∀ j ∈ F', H.length ≤ j) ∧ ∀ j, j < H.length → j ∉ F → hget H' j = hget H j := by
  have hnl : (iv .u8 (nums b)).length = b.size := by rw [iv_length]; simp [nums]
  rcases hv with ⟨rfl, rfl, rfl⟩ | ⟨j, len, rfl, h3, h4, rfl⟩
  · simp only [List.length_nil, Nat.zero_add] at hb hm
    by_cases h0 : b.size = 0
    · refine ⟨.slice none 0 0, H, [], ?_, .inl ⟨rfl, List.eq_nil_of_length_eq_zero (by simp [hnl, h0]), rfl⟩, Nat.le_refl _, (by simp), fun _ _ _ => rfl⟩
      unfold xappstr
      simp only [hu, hz]
      rw [if_pos ⟨trivial, hs, hby⟩, if_pos ⟨hb, hm⟩, if_pos h0]
    · refine ⟨.slice (some ⟨H.length, 0, none⟩) b.size b.size, H ++ [some ⟨iv .u8 (nums b), e, some 1⟩], [H.length], ?_, .inr ⟨H.length, b.size, rfl, ?_, by simp [hnl], rfl⟩, by simp, by simp, fun i hi _ => hget_left hi⟩
      · unfold xappstr
        simp only [hu, hz]
        rw [if_pos ⟨trivial, hs, hby⟩, if_pos ⟨hb, hm⟩, if_neg h0]
      · rw [hget_app0, hget_cons0]; rfl
  · have hj := hget_lt h3
    refine ⟨.slice (some ⟨H.length, 0, none⟩) (len + b.size) (len + b.size), H.set j none ++ [some ⟨cells ++ iv .u8 (nums b), e, some 1⟩], [H.length], ?_, .inr ⟨H.length, len + b.size, rfl, ?_, by simp [hnl]; omega, rfl⟩, by simp, by simp, fun i hi hni => ?_⟩
    · unfold xappstr
      simp only [hu, hz, h3]
      rw [if_pos ⟨trivial, hs, hby⟩, if_pos ⟨trivial, hnro j (by simp), trivial, trivial, by omega, by omega, by omega⟩, show len = cells.length by omega, List.take_length]
    · have : (H.set j none).length = H.length := by simp
      rw [← this, hget_app0, hget_cons0]
    · rw [hget_left (by simp; omega), hget_set_ne (fun e => hni (by simp [e]))]
theorem nums_size (s : ByteArray) : (nums s).length = s.size := by simp [nums]
attribute [local simp] wb_bool wb_undef XL_nil XL_cons XLc_val XLc_call step1_eq stepW_t stepW_f stepC_n stepC_s stepX_s stepX_n stepN_s calleeX oneV xop_eq xopR_s xopR_n wantedA_eq wantedG_n wantedG_s plain1_int plain1_bool plain1_string bits_i64 bits_u64 bits_u32 bits_u16 bits_u8 xeqA xagg xcmp xarr allK_iv num_iv calleeOf xread xeff xbin xint xnil xun xstr xload xconv xpart xfield xfieldAddr xindexAddr xindex bnd asInt? xslice xlen xmin xmax xbuild xfill xappend xapp2 xappstr xappmk xcap xcopy xcells eval_tmp eval_const put_at put_none fr0_at cells_agg cells_int cells_bool cells_string cells_ptr cells_slice notTuple tab iv_all hget_app hget_app0 hget_cons0 hget_cons set_app set_app0 setR setR_one QL_nil QL_cons QLc_val stepQ_t stepQ_f stepQC_n stepQC_s stepQX_s SL_nil SL_cons SLc_val stepS_t stepS_f ltT ltF leT leF eqT eqF ltTn ltFn leTn leFn eqTn eqFn beqT beqF bneT bneF wi64 wu64 wu32 wu16 wu8 tmodP tdivP hgetL hgetNe hgetEq setL nums_def nums_len Nat.succ_le_of_lt List.getElem?_cons_zero List.getElem?_cons_succ Option.getD_some Int.toNat_add Int.toNat_mul agB agI agS agP agL agA okB okI okS okP okSl okA
/-- A text's bytes more. -/
theorem wr_appstr {nro : Nat} {H : AH} {p : Nat} {F : List Nat} {bs : List Int} {s : ByteArray} (h : Wr H p F bs) (hnro : ∀ j ∈ F, nro ≤ j) (hb : bs.length + s.size ≤ 1000000) :
    ∃ v v' H' F', hget H p = some ⟨[v], 112, none⟩ ∧ notTuple v = true ∧ xappstr Tryd.prog nro 37 v (.string s) H = some (v', H') ∧ notTuple v' = true ∧ v'.cells = #[v'] ∧ hget H' p = some ⟨[v], 112, none⟩ ∧
      Wr (H'.set p (some ⟨[v'], 112, none⟩)) p F' (bs ++ nums s) ∧ Fr H (H'.set p (some ⟨[v'], 112, none⟩)) F F' := by
  have hlt := h.lt
  obtain ⟨v, FU, rfl, h1, h2, h3⟩ := h
  have hpl := hget_lt h1
  have hivb : (iv .u8 bs).length = bs.length := iv_length _ _
  obtain ⟨v', H', F', hap, ho, hlen, hnew, hk⟩ := ownF_appstr (P := Tryd.prog) (nro := nro) (t := 37) (e := 5) (H := H) (v := v) (b := s) (cells := iv .u8 bs) (F := FU) (by simp) (by simp) (by simp) (by simp) h2
    (fun j hj => hnro j (by simp [hj])) (by rw [hivb]; omega) (by rw [hivb]; simp [maxLen]; omega)
  have hp' : hget H' p = some ⟨[v], 112, none⟩ := (hk p hpl h3).trans h1
  have hs := own_shape h2
  have hs' := own_shape ho
  have hpF : p ∉ F' := fun hm => by have := hnew p hm; omega
  refine ⟨v, v', H', p :: F', h1, hs.1, hap, hs'.1, hs'.2, hp', ⟨v', F', rfl, hget_set_eq (by omega), ?_, hpF⟩, ⟨by simp; omega, fun j hj hn => ?_, fun j hj => ?_⟩⟩
  · rw [iv_append]
    exact ho.low (fun j hj => hget_set_ne (fun e => hpF (e ▸ hj)))
  · rw [hget_set_ne (fun e => hn (by simp [e])), hk j (by omega) (fun hm => hn (by simp [hm]))]
  · rcases List.mem_cons.1 hj with rfl | hj
    · exact .inl (by simp)
    · exact .inr (hnew j hj)
def textB (s : ByteArray) : List Int := numB s.size ++ nums s
def textsB (ps : List ByteArray) : List Int := ps.flatMap textB
theorem textsB_next {ps : List ByteArray} {i : Nat} {s : ByteArray} (h : ps[i]? = some s) : textsB (ps.take (i + 1)) = textsB (ps.take i) ++ textB s := by
  unfold textsB
  rw [List.take_add_one, h, List.flatMap_append]
  simp
theorem textB_len (s : ByteArray) : (textB s).length ≤ 5 + s.size := by
  have := numB_len s.size
  simp only [textB, List.length_append, nums_size]; omega
theorem textsB_len {ps : List ByteArray} (h : ∀ s ∈ ps, s.size ≤ 3000) : (textsB ps).length ≤ 3005 * ps.length := by
  induction ps with
  | nil => simp [textsB]
  | cons s l ih =>
    have := textB_len s
    have := h s (by simp)
    have := ih (fun x hx => h x (by simp [hx]))
    simp only [textsB, List.flatMap_cons, List.length_append, List.length_cons] at this ⊢
    omega
theorem texts_ac {H : AH} {γ : Nat → Option Nat} {nro p : Nat} {F : List Nat} {bs : List Int} {ps : List ByteArray} {v : Value} (h : Wr H p F bs) (hlo : ∀ j ∈ F, nro ≤ j) (hnl : nro ≤ H.length) (hv : SlS H F v (ps.map .string)) (hps : ∀ s ∈ ps, s.size ≤ 3000) (hlen : bs.length + 3005 * ps.length ≤ 90000) :
    AC Tryd.prog nro γ 67 #[.pointer (some ⟨p, 0, none⟩), v] H (fun v' H' => ∃ F', Wr H' p F' (bs ++ textsB ps) ∧ Fr H H' F F') := by
  have hno : notTuple v = true := by rcases hv.now with ⟨a, rfl, _⟩ | ⟨j, off, k, rfl, _⟩ <;> rfl
  have hxl := hv.now.len (P := Tryd.prog) (t := 22) (e := 9) (by simp)
  rw [List.length_map] at hxl
  have hnp : nro ≤ p := hlo p (by obtain ⟨v, FU, rfl, _⟩ := h; simp)
  refine ac_of_aw Tryd.func67 rfl Tryd.ntmps67 Tryd.results67 (by simp) ?_
  refine aw_seq ?_
  (refine aw_ops (by kernel_rfl) (fun K hK => ?_); simp (disch := first | omega | (simp only [List.length_set, List.length_append, List.length_cons, List.length_nil, iv_length, zl_length]; try omega; done)) [-getElem?_pos, -getElem?_neg, -xlen, hxl]; refine hK _ _ ?_; clear hK K)
  refine aw_block ?_
  refine aw_loop (fun c α G => ∃ i : Nat, i + c = ps.length ∧ α 8 = .int .i64 (i : Nat) ∧ α 7 = .int .i64 (ps.length : Nat) ∧ α 6 = v ∧ α 0 = .pointer (some ⟨p, 0, none⟩) ∧ ∃ F', Wr G p F' (bs ++ textsB (ps.take i)) ∧ Fr H G F F') ps.length ?_ ?_
  · exact ⟨0, by omega, by (first | (simp [put_at, put_none, fr0_at]; done) | rfl), by (first | (simp [put_at, put_none, fr0_at]; done) | rfl), by (first | (simp [put_at, put_none, fr0_at]; done) | rfl), by (first | (simp [put_at, put_none, fr0_at]; done) | rfl), F, by simpa [textsB] using h, .refl _ _⟩
  rintro c α G ⟨i, hic, h8, h7, h6, h0, F1, hw, hf⟩
  refine aw_seq ?_
  (refine aw_ops (by kernel_rfl) (fun K hK => ?_); simp (disch := first | omega | (simp only [List.length_set, List.length_append, List.length_cons, List.length_nil, iv_length, zl_length]; try omega; done)) [-getElem?_pos, -getElem?_neg, h8, h7]; refine hK _ _ ?_; clear hK K)
  refine aw_seq ?_
  by_cases hi : i < ps.length
  case neg =>
    refine aw_f (by (first | (simp [eval_tmp, put_at, hi]; done) | (simp [eval_tmp, put_at, hi]; omega))) (by kernel_rfl) ?_
    refine aw_exit ?_
    refine ⟨_, _, rfl, rfl, F1, ?_, hf⟩
    obtain rfl : i = ps.length := by omega
    rwa [List.take_length] at hw
  refine aw_t (by (first | (simp [eval_tmp, put_at, hi]; done) | (simp [eval_tmp, put_at, hi]; omega))) (by kernel_rfl) ?_
  refine aw_skip ?_
  refine aw_seq ?_
  refine aw_block ?_
  obtain ⟨s, hx⟩ : ∃ s, ps[i]? = some s := ⟨_, List.getElem?_eq_getElem hi⟩
  have hs1 := hps s (List.mem_of_getElem? hx)
  have hvG := hv.fr hf
  have hcx : (ps.map Value.string)[i]? = some (.string s) := by simp [hx]
  obtain ⟨px, hpx, hlx⟩ := hvG.now.cell (P := Tryd.prog) (t := 22) (e := 9) (by simp) (by simp) (by simp) (by simp) hcx
  have hxa : xindexAddr Tryd.prog 22 v (.int .i64 (i : Nat)) = some px := hpx
  have hnpx : notTuple px = true := by
    unfold xload at hlx
    cases px <;> first | rfl | (simp at hlx)
  refine aw_seq ?_
  (refine aw_ops (by kernel_rfl) (fun K hK => ?_); simp (disch := first | omega | (simp only [List.length_set, List.length_append, List.length_cons, List.length_nil, iv_length, zl_length]; try omega; done)) [-getElem?_pos, -getElem?_neg, h6, h8, -xindexAddr, hxa, -xload, hlx, hnpx]; refine hK _ _ ?_; clear hK K)
  have lt2 : ∀ {G : AH} {F' : List Nat}, Fr H G F F' → ∀ j ∈ F', nro ≤ j := fun hf j hj => by
    rcases hf.new j hj with h1 | h1
    · exact hlo j h1
    · omega
  have hft : (textsB (ps.take i)).length ≤ 3005 * i := by
    have := textsB_len (ps := ps.take i) (fun s hs => hps s (List.mem_of_mem_take hs))
    rw [List.length_take] at this; omega
  have hwl : IntKind.u32.wrap (s.size : Nat) = (s.size : Nat) := by simp only [IntKind.wrap_u32']; omega
  have hwlt := hw.lt
  have hs1' := one_sls (x := (s.size : Nat)) hwlt _ rfl
  have hf0 : Fr G (G ++ [some ⟨[.int .u32 (s.size : Nat)], 94, some 1⟩]) F1 F1 := Fr.mk (by simp) (fun j hj _ => hget_left hj) (fun j hj => .inl hj)
  have hw1 := hw.low (H' := G ++ [some ⟨[.int .u32 (s.size : Nat)], 94, some 1⟩]) (fun j hj => hget_left (hwlt j hj))
  have hn5 := numB_len s.size
  have hbl : (bs ++ textsB (ps.take i)).length = bs.length + (textsB (ps.take i)).length := List.length_append ..
  refine aw_seq ?_
  refine aw_ops (by kernel_rfl) (fun K hK => ?_)
  simp (disch := first | omega | (simp only [List.length_set, List.length_append, List.length_cons, List.length_nil, iv_length, zl_length]; try omega; done)) [-getElem?_pos, -getElem?_neg, h0, hwl]
  have hfl := hf.len
  refine ⟨by kernel_rfl, (numbers_ac hw1 (lt2 (hf.trans hf0)) (by rw [List.length_append]; omega) hs1' (by simp; omega) (by simp; omega)).mono ?_⟩
  rintro v1 H1 ⟨F2, hw2, hf2⟩
  try simp (disch := first | omega | (simp only [List.length_set, List.length_append, List.length_cons, List.length_nil, iv_length, zl_length]; try omega; done)) [-getElem?_pos, -getElem?_neg]
  refine hK _ _ ?_; clear hK K
  have e1 : numsB [((s.size : Nat) : Int)] = numB s.size := by simp [numsB]
  rw [e1] at hw2
  have hf3 := hf.trans (hf0.trans hf2)
  obtain ⟨w, w', H', F3, hgw, hnw, hap, hnw', hcw', hgw', hwr, hfr⟩ := wr_appstr (nro := nro) (s := s) hw2 (lt2 hf3) (by rw [List.length_append]; omega)
  (refine aw_ops (by kernel_rfl) (fun K hK => ?_); simp (disch := first | omega | (simp only [List.length_set, List.length_append, List.length_cons, List.length_nil, iv_length, zl_length]; try omega; done)) [-getElem?_pos, -getElem?_neg, h0, hgw, hgw', hnw, hnw', hcw', -notTuple, nt_sl, -xappstr, hap, hnp]; refine hK _ _ ?_; clear hK K)
  (refine aw_ops (by kernel_rfl) (fun K hK => ?_); simp (disch := first | omega | (simp only [List.length_set, List.length_append, List.length_cons, List.length_nil, iv_length, zl_length]; try omega; done)) [-getElem?_pos, -getElem?_neg, h8]; refine hK _ _ ?_; clear hK K)
  refine ⟨c - 1, by omega, i + 1, by omega, by (first | (simp [put_at, put_none, fr0_at]; done) | rfl), by (first | (simp [put_at, put_none, fr0_at, h7]; done) | rfl), by (first | (simp [put_at, put_none, fr0_at, h6]; done) | rfl), by (first | (simp [put_at, put_none, fr0_at, h0]; done) | rfl), _, ?_, hf3.trans hfr⟩
  rw [textsB_next hx, textB]
  simp only [← List.append_assoc] at hwr ⊢
  exact hwr
end

section
open Go Go.RowKit
set_option linter.unusedVariables false
set_option linter.unusedSimpArgs false
set_option maxRecDepth 100000
set_option maxHeartbeats 4000000
theorem hiG_cut {n k : Nat} (h : n / 128 ^ (k + 1) = 0) : ∀ {g : Nat}, k ≤ g → hiG n g = hiG n k := by
  intro g
  induction g with
  | zero => intro hk; obtain rfl : k = 0 := by omega
            rfl
  | succ g ih =>
    intro hk
    rcases Nat.eq_or_lt_of_le hk with rfl | hk
    · rfl
    · have hz : n / 128 ^ (g + 1) = 0 := by
        have h1 : n < 128 ^ (k + 1) := by
          rcases Nat.div_eq_zero_iff.1 h with h2 | h2
          · have : 0 < 128 ^ (k + 1) := Nat.pow_pos (by omega); omega
          · exact h2
        exact Nat.div_eq_of_lt (Nat.lt_of_lt_of_le h1 (Nat.pow_le_pow_right (by omega) (by omega)))
      rw [hiG, if_pos hz, List.nil_append]
      exact ih (by omega)
/-- The bytes from the k-th group on down. -/
def lowB (n k : Nat) : List Int := hiG n k ++ [((n % 128 : Nat) : Int)]
theorem lowB_next {n k : Nat} (h : n / 128 ^ (k + 1) ≠ 0) : lowB n (k + 1) = (((n / 128 ^ (k + 1) % 128 : Nat) : Int) + 128) :: lowB n k := by
  simp [lowB, hiG, h]
theorem lowB_len (n k : Nat) : (lowB n k).length ≤ k + 1 := by
  have := hiG_len n k
  simp [lowB]; omega
attribute [local simp] wb_bool wb_undef XL_nil XL_cons XLc_val XLc_call step1_eq stepW_t stepW_f stepC_n stepC_s stepX_s stepX_n stepN_s calleeX oneV xop_eq xopR_s xopR_n wantedA_eq wantedG_n wantedG_s plain1_int plain1_bool plain1_string bits_i64 bits_u64 bits_u32 bits_u16 bits_u8 xeqA xagg xcmp xarr allK_iv num_iv calleeOf xread xeff xbin xint xnil xun xstr xload xconv xpart xfield xfieldAddr xindexAddr xindex bnd asInt? xslice xlen xmin xmax xbuild xfill xappend xapp2 xappstr xappmk xcap xcopy xcells eval_tmp eval_const put_at put_none fr0_at cells_agg cells_int cells_bool cells_string cells_ptr cells_slice notTuple tab iv_all hget_app hget_app0 hget_cons0 hget_cons set_app set_app0 setR setR_one QL_nil QL_cons QLc_val stepQ_t stepQ_f stepQC_n stepQC_s stepQX_s SL_nil SL_cons SLc_val stepS_t stepS_f ltT ltF leT leF eqT eqF ltTn ltFn leTn leFn eqTn eqFn beqT beqF bneT bneF wi64 wu64 wu32 wu16 wu8 tmodP tdivP hgetL hgetNe hgetEq setL nums_def nums_len Nat.succ_le_of_lt List.getElem?_cons_zero List.getElem?_cons_succ Option.getD_some Int.toNat_add Int.toNat_mul agB agI agS agP agL agA okB okI okS okP okSl okA
theorem refNumber_ac {H : AH} {γ : Nat → Option Nat} {nro n : Nat} (hn : n < 4294967296) (hnl : nro ≤ H.length) :
    AC Tryd.prog nro γ 44 #[.int .u32 (n : Nat)] H (fun v' H' => v' = .string (strOfNums (numB n)) ∧ ∃ L, H' = H ++ L) := by
  have hmm : n % 128 < 128 := Nat.mod_lt _ (by omega)
  have hw0 : IntKind.u8.wrap ((n : Int) % 128) = (n : Int) % 128 := wrap8_in (by omega)
  obtain ⟨x0, hx0⟩ : ∃ x0 : Int, x0 = (n : Int) % 128 := ⟨_, rfl⟩
  rw [← hx0] at hw0
  have hb0 : byteList [.int .u8 x0] = some [x0] := byteList_iv [x0]
  refine ac_of_aw Tryd.func44 rfl Tryd.ntmps44 Tryd.results44 (by simp) ?_
  refine aw_seq ?_
  (refine aw_ops (by kernel_rfl) (fun K hK => ?_); simp (disch := first | omega | (simp only [List.length_set, List.length_append, List.length_cons, List.length_nil, iv_length, zl_length]; try omega; done)) [-getElem?_pos, -getElem?_neg]; refine hK _ _ ?_; clear hK K)
  refine aw_seq ?_
  (refine aw_ops (by kernel_rfl) (fun K hK => ?_); simp (disch := first | omega | (simp only [List.length_set, List.length_append, List.length_cons, List.length_nil, iv_length, zl_length]; try omega; done)) [-getElem?_pos, -getElem?_neg, ← hx0, hw0, hb0]; refine hK _ _ ?_; clear hK K)
  refine aw_seq ?_
  refine aw_seq ?_
  (refine aw_ops (by kernel_rfl) (fun K hK => ?_); simp (disch := first | omega | (simp only [List.length_set, List.length_append, List.length_cons, List.length_nil, iv_length, zl_length]; try omega; done)) [-getElem?_pos, -getElem?_neg]; refine hK _ _ ?_; clear hK K)
  refine aw_cut (fun α G => α 3 = .string (strOfNums (numB n)) ∧ ∃ L, G = H ++ L) ?_ ?_
  · refine aw_block ?_
    refine aw_loop (fun c α G => ∃ k : Nat, k + c = 4 ∧ α 0 = .int .u32 ((n / 128 ^ (k + 1) : Nat) : Int) ∧ α 3 = .string (strOfNums (lowB n k)) ∧ ∃ L, G = H ++ L) 4 ?_ ?_
    · refine ⟨0, by omega, by simp [put_at], ?_, _, rfl⟩
      simp [put_at, lowB, hiG, hx0]
    rintro c α G ⟨k, hkc, h0, h3, L, rfl⟩
    obtain ⟨m, hm⟩ : ∃ m, m = n / 128 ^ (k + 1) := ⟨_, rfl⟩
    rw [← hm] at h0
    have hmn : m ≤ n := by rw [hm]; exact Nat.div_le_self _ _
    refine aw_seq ?_
    refine aw_seq ?_
    by_cases hz : m = 0
    · (refine aw_ops (by kernel_rfl) (fun K hK => ?_); simp (disch := first | omega | (simp only [List.length_set, List.length_append, List.length_cons, List.length_nil, iv_length, zl_length]; try omega; done)) [-getElem?_pos, -getElem?_neg, h0, hz]; refine hK _ _ ?_; clear hK K)
      refine aw_f (by (first | (simp [eval_tmp, put_at, hz]; done) | (simp [eval_tmp, put_at, hz]; omega))) (by kernel_rfl) ?_
      refine aw_exit ?_
      refine ⟨?_, _, rfl⟩
      have e : numB n = lowB n k := by
        unfold numB lowB
        rw [hiG_cut (by rw [← hm]; exact hz) (by omega : k ≤ 4)]
      rw [e]
      simp [put_at, h3]
    · have hk4 : k < 4 := by
        rcases Nat.lt_or_ge k 4 with h | h
        · exact h
        · exfalso
          obtain rfl : k = 4 := by omega
          apply hz; rw [hm]; exact Nat.div_eq_of_lt (by omega)
      have hpos : 0 < m := by omega
      have hmm : m % 128 < 128 := Nat.mod_lt _ (by omega)
      have hw2 : IntKind.u32.wrap ((m : Int) % 128 + 128) = (m : Int) % 128 + 128 := by simp only [IntKind.wrap_u32']; omega
      have hw1 : IntKind.u8.wrap ((m : Int) % 128 + 128) = (m : Int) % 128 + 128 := wrap8_in (by omega)
      obtain ⟨x1, hx1⟩ : ∃ x1 : Int, x1 = (m : Int) % 128 + 128 := ⟨_, rfl⟩
      rw [← hx1] at hw1 hw2
      have hb1 : byteList [.int .u8 x1] = some [x1] := byteList_iv [x1]
      have hsz : (strOfNums [x1]).size + (strOfNums (lowB n k)).size ≤ 9223372036854775807 := by
        rw [sn_size, sn_size]
        have := lowB_len n k
        simp; omega
      (refine aw_ops (by kernel_rfl) (fun K hK => ?_); simp (disch := first | omega | (simp only [List.length_set, List.length_append, List.length_cons, List.length_nil, iv_length, zl_length]; try omega; done)) [-getElem?_pos, -getElem?_neg, h0, hpos]; refine hK _ _ ?_; clear hK K)
      refine aw_t (by (first | (simp [eval_tmp, put_at, hpos]; done) | (simp [eval_tmp, put_at, hpos]; omega))) (by kernel_rfl) ?_
      refine aw_skip ?_
      refine aw_seq ?_
      refine aw_block ?_
      (refine aw_ops (by kernel_rfl) (fun K hK => ?_); simp (disch := first | omega | (simp only [List.length_set, List.length_append, List.length_cons, List.length_nil, iv_length, zl_length]; try omega; done)) [-getElem?_pos, -getElem?_neg, h0, h3, ← hx1, hw1, hw2, hb1, hsz, sn_app]; refine hK _ _ ?_; clear hK K)
      (refine aw_ops (by kernel_rfl) (fun K hK => ?_); simp (disch := first | omega | (simp only [List.length_set, List.length_append, List.length_cons, List.length_nil, iv_length, zl_length]; try omega; done)) [-getElem?_pos, -getElem?_neg, h0]; refine hK _ _ ?_; clear hK K)
      refine ⟨c - 1, by omega, k + 1, by omega, ?_, ?_, ?_⟩
      · have e : n / 128 ^ (k + 1 + 1) = m / 128 := by rw [hm, Nat.div_div_eq_div_mul, ← Nat.pow_succ]
        rw [e]
        simp [put_at]
      · have e := lowB_next (n := n) (k := k) (by rw [← hm]; exact hz)
        rw [e, ← hm]
        simp [put_at, hx1]
      · exact ⟨_, rfl⟩
  · rintro α G ⟨h3, L, rfl⟩
    refine aw_seq ?_
    (refine aw_ops (by kernel_rfl) (fun K hK => ?_); simp (disch := first | omega | (simp only [List.length_set, List.length_append, List.length_cons, List.length_nil, iv_length, zl_length]; try omega; done)) [-getElem?_pos, -getElem?_neg, h3]; refine hK _ _ ?_; clear hK K)
    (refine aw_ret ?_; simp (disch := first | omega | (simp only [List.length_set, List.length_append, List.length_cons, List.length_nil, iv_length, zl_length]; try omega; done)) [-getElem?_pos, -getElem?_neg, thenQ_ret, scopeQ_ret, inBlockQ_ret, RQ, resL, resV])
end

section
open Go Go.RowKit
set_option linter.unusedVariables false
set_option linter.unusedSimpArgs false
set_option maxRecDepth 100000
set_option maxHeartbeats 4000000
/-- A reader's cells. -/
def rdC (l : List Int) (e : Int) : Blk := ⟨[.string (strOfNums l), .int .i64 e], 132, none⟩
theorem and127 : ∀ a : Nat, a < 256 → bitsOf .and .u8 (a : Int) 127 = ((a % 128 : Nat) : Int) := by decide +kernel
theorem or_low (n b : Nat) (hn : n < 4294967296) (hb : b < 128) : bitsOf .or .u64 ((n * 128 : Nat) : Int) (b : Int) = ((n * 128 + b : Nat) : Int) := by
  show IntKind.u64.wrap ((BitVec.ofInt 64 ((n * 128 : Nat) : Int) ||| BitVec.ofInt 64 (b : Int)).toNat : Int) = _
  have h : (BitVec.ofInt 64 ((n * 128 : Nat) : Int) ||| BitVec.ofInt 64 (b : Int)).toNat = n * 128 + b := by
    rw [BitVec.toNat_or]
    have h1 : (BitVec.ofInt 64 ((n * 128 : Nat) : Int)).toNat = n * 128 := by rw [BitVec.toNat_ofInt]; omega
    have h2 : (BitVec.ofInt 64 (b : Int)).toNat = b := by rw [BitVec.toNat_ofInt]; omega
    rw [h1, h2]
    have := Nat.shiftLeft_add_eq_or_of_lt (i := 7) (b := b) (by omega) n
    rw [Nat.shiftLeft_eq] at this
    exact this.symm
  rw [h]
  exact wu64 ⟨by omega, by omega⟩
/-- A number of at most so many bytes behind those that make n: it, what is left, the error. -/
def rdN : Nat → Nat → List Int → Nat × List Int × Int
  | 0, _, l => (0, l, 4)
  | _ + 1, _, [] => (0, [], 3)
  | g + 1, n, b :: l => if (g = 4 ∧ b = 128) ∨ 4294967295 < n * 128 + b.toNat % 128 then (0, l, 4) else if b < 128 then (n * 128 + b.toNat % 128, l, 0) else rdN g (n * 128 + b.toNat % 128) l
def rdNum (l : List Int) : Nat × List Int × Int := if (rdN 5 0 l).2.2 = 0 then rdN 5 0 l else (0, l, (rdN 5 0 l).2.2)
theorem rdN_cons {l : List Int} {i g n : Nat} {b : Int} (hb : l[i]? = some b) : rdN (g + 1) n (l.drop i) = if (g = 4 ∧ b = 128) ∨ 4294967295 < n * 128 + b.toNat % 128 then (0, l.drop (i + 1), 4) else if b < 128 then (n * 128 + b.toNat % 128, l.drop (i + 1), 0) else rdN g (n * 128 + b.toNat % 128) (l.drop (i + 1)) := by
  obtain ⟨hi, he⟩ := List.getElem?_eq_some_iff.1 hb
  rw [List.drop_eq_getElem_cons hi, he, rdN]
attribute [local simp] wb_bool wb_undef XL_nil XL_cons XLc_val XLc_call step1_eq stepW_t stepW_f stepC_n stepC_s stepX_s stepX_n stepN_s calleeX oneV xop_eq xopR_s xopR_n wantedA_eq wantedG_n wantedG_s plain1_int plain1_bool plain1_string bits_i64 bits_u64 bits_u32 bits_u16 bits_u8 xeqA xagg xcmp xarr allK_iv num_iv calleeOf xread xeff xbin xint xnil xun xstr xload xconv xpart xfield xfieldAddr xindexAddr xindex bnd asInt? xslice xlen xmin xmax xbuild xfill xappend xapp2 xappstr xappmk xcap xcopy xcells eval_tmp eval_const put_at put_none fr0_at cells_agg cells_int cells_bool cells_string cells_ptr cells_slice notTuple tab iv_all hget_app hget_app0 hget_cons0 hget_cons set_app set_app0 setR setR_one QL_nil QL_cons QLc_val stepQ_t stepQ_f stepQC_n stepQC_s stepQX_s SL_nil SL_cons SLc_val stepS_t stepS_f ltT ltF leT leF eqT eqF ltTn ltFn leTn leFn eqTn eqFn beqT beqF bneT bneF wi64 wu64 wu32 wu16 wu8 tmodP tdivP hgetL hgetNe hgetEq setL nums_def nums_len Nat.succ_le_of_lt List.getElem?_cons_zero List.getElem?_cons_succ Option.getD_some Int.toNat_add Int.toNat_mul agB agI agS agP agL agA okB okI okS okP okSl okA
theorem number_ac {H : AH} {γ : Nat → Option Nat} {nro p : Nat} {l : List Int} (hp : nro ≤ p) (h : hget H p = some (rdC l 0)) (hb : By l) (hl : l.length ≤ 1000000) :
    AC Tryd.prog nro γ 90 #[.pointer (some ⟨p, 0, none⟩)] H (fun v' H' => v' = .int .u32 ((rdNum l).1 : Nat) ∧ H' = H.set p (some (rdC (rdNum l).2.1 (rdNum l).2.2))) := by
  unfold rdC at h ⊢
  have hsz := sn_size l
  refine ac_of_aw Tryd.func90 rfl Tryd.ntmps90 Tryd.results90 (by simp) ?_
  refine aw_seq ?_
  (refine aw_ops (by kernel_rfl) (fun K hK => ?_); simp (disch := first | omega | (simp only [List.length_set, List.length_append, List.length_cons, List.length_nil, iv_length, zl_length]; try omega; done)) [-getElem?_pos, -getElem?_neg]; refine hK _ _ ?_; clear hK K)
  refine aw_scope ?_
  refine aw_seq ?_
  refine aw_seq ?_
  (refine aw_ops (by kernel_rfl) (fun K hK => ?_); simp (disch := first | omega | (simp only [List.length_set, List.length_append, List.length_cons, List.length_nil, iv_length, zl_length]; try omega; done)) [-getElem?_pos, -getElem?_neg, h]; refine hK _ _ ?_; clear hK K)
  refine aw_f (by (first | (simp [eval_tmp, put_at]; done) | (simp [eval_tmp, put_at]; omega))) (by kernel_rfl) ?_
  refine aw_skip ?_
  refine aw_seq ?_
  (refine aw_ops (by kernel_rfl) (fun K hK => ?_); simp (disch := first | omega | (simp only [List.length_set, List.length_append, List.length_cons, List.length_nil, iv_length, zl_length]; try omega; done)) [-getElem?_pos, -getElem?_neg]; refine hK _ _ ?_; clear hK K)
  refine aw_seq ?_
  (refine aw_ops (by kernel_rfl) (fun K hK => ?_); simp (disch := first | omega | (simp only [List.length_set, List.length_append, List.length_cons, List.length_nil, iv_length, zl_length]; try omega; done)) [-getElem?_pos, -getElem?_neg]; refine hK _ _ ?_; clear hK K)
  refine aw_seq ?_
  refine aw_label ?_
  refine aw_seq ?_
  refine aw_cut (fun α G => G = H ∧ α 0 = .pointer (some ⟨p, 0, none⟩) ∧ (rdN 5 0 l).2.2 ≠ 0 ∧ α 3 = .int .i64 (rdN 5 0 l).2.2) ?_ ?_
  case refine_2 =>
    rintro α G ⟨rfl, h0, hne, h3⟩
    have hr : rdNum l = (0, l, (rdN 5 0 l).2.2) := if_neg hne
    rw [hr]
    generalize (rdN 5 0 l).2.2 = e at h3
    refine aw_seq ?_
    (refine aw_ops (by kernel_rfl) (fun K hK => ?_); simp (disch := first | omega | (simp only [List.length_set, List.length_append, List.length_cons, List.length_nil, iv_length, zl_length]; try omega; done)) [-getElem?_pos, -getElem?_neg, h0, h3, h]; refine hK _ _ ?_; clear hK K)
    refine aw_seq ?_
    (refine aw_ops (by kernel_rfl) (fun K hK => ?_); simp (disch := first | omega | (simp only [List.length_set, List.length_append, List.length_cons, List.length_nil, iv_length, zl_length]; try omega; done)) [-getElem?_pos, -getElem?_neg]; refine hK _ _ ?_; clear hK K)
    (refine aw_ret ?_; simp (disch := first | omega | (simp only [List.length_set, List.length_append, List.length_cons, List.length_nil, iv_length, zl_length]; try omega; done)) [-getElem?_pos, -getElem?_neg, thenQ_ret, scopeQ_ret, inBlockQ_ret, RQ, resL, resV])
  refine aw_seq ?_
  (refine aw_ops (by kernel_rfl) (fun K hK => ?_); simp (disch := first | omega | (simp only [List.length_set, List.length_append, List.length_cons, List.length_nil, iv_length, zl_length]; try omega; done)) [-getElem?_pos, -getElem?_neg]; refine hK _ _ ?_; clear hK K)
  refine aw_block ?_
  refine aw_loop (fun c α G => G = H ∧ ∃ i n : Nat, i + c = 5 ∧ α 12 = .int .i64 (i : Nat) ∧ α 4 = .int .u64 (n : Nat) ∧ α 3 = .int .i64 4 ∧ α 0 = .pointer (some ⟨p, 0, none⟩) ∧ n ≤ 4294967295 ∧ i ≤ l.length ∧ rdN 5 0 l = rdN c n (l.drop i)) 5 ?_ ?_
  · exact ⟨rfl, 0, 0, by omega, by (first | (simp [put_at, put_none, fr0_at]; done) | rfl), by (first | (simp [put_at, put_none, fr0_at]; done) | rfl), by (first | (simp [put_at, put_none, fr0_at]; done) | rfl), by (first | (simp [put_at, put_none, fr0_at]; done) | rfl), by omega, by omega, rfl⟩
  rintro c α G ⟨rfl, i, n, hic, h12, h4, h3, h0, hn, hil, hrd⟩
  refine aw_seq ?_
  (refine aw_ops (by kernel_rfl) (fun K hK => ?_); simp (disch := first | omega | (simp only [List.length_set, List.length_append, List.length_cons, List.length_nil, iv_length, zl_length]; try omega; done)) [-getElem?_pos, -getElem?_neg, h12]; refine hK _ _ ?_; clear hK K)
  refine aw_seq ?_
  by_cases hi : i < 5
  case neg =>
    refine aw_f (by (first | (simp [eval_tmp, put_at, hi]; done) | (simp [eval_tmp, put_at, hi]; omega))) (by kernel_rfl) ?_
    refine aw_exit ?_
    obtain rfl : c = 0 := by omega
    rw [hrd]
    exact ⟨rfl, by (first | (simp [put_at, put_none, fr0_at, h0]; done) | rfl), by simp [rdN], by (first | (simp [put_at, put_none, fr0_at, h3, rdN]; done) | rfl)⟩
  refine aw_t (by (first | (simp [eval_tmp, put_at, hi]; done) | (simp [eval_tmp, put_at, hi]; omega))) (by kernel_rfl) ?_
  refine aw_skip ?_
  refine aw_seq ?_
  refine aw_block ?_
  refine aw_seq ?_
  (refine aw_ops (by kernel_rfl) (fun K hK => ?_); simp (disch := first | omega | (simp only [List.length_set, List.length_append, List.length_cons, List.length_nil, iv_length, zl_length]; try omega; done)) [-getElem?_pos, -getElem?_neg, h12]; refine hK _ _ ?_; clear hK K)
  refine aw_seq ?_
  refine aw_seq ?_
  obtain ⟨g, rfl⟩ : ∃ g, c = g + 1 := ⟨c - 1, by omega⟩
  (refine aw_ops (by kernel_rfl) (fun K hK => ?_); simp (disch := first | omega | (simp only [List.length_set, List.length_append, List.length_cons, List.length_nil, iv_length, zl_length]; try omega; done)) [-getElem?_pos, -getElem?_neg, h0, h, hsz]; refine hK _ _ ?_; clear hK K)
  by_cases hlast : i = l.length
  · refine aw_t (by (first | (simp [eval_tmp, put_at, hlast]; done) | (simp [eval_tmp, put_at, hlast]; omega))) (by kernel_rfl) ?_
    refine aw_seq ?_
    (refine aw_ops (by kernel_rfl) (fun K hK => ?_); simp (disch := first | omega | (simp only [List.length_set, List.length_append, List.length_cons, List.length_nil, iv_length, zl_length]; try omega; done)) [-getElem?_pos, -getElem?_neg]; refine hK _ _ ?_; clear hK K)
    refine aw_exit ?_
    have : rdN (g + 1) n (l.drop i) = (0, [], 3) := by rw [hlast, List.drop_length]; rfl
    rw [hrd, this]
    exact ⟨rfl, by (first | (simp [put_at, put_none, fr0_at, h0]; done) | rfl), by simp, by (first | (simp [put_at, put_none, fr0_at]; done) | rfl)⟩
  refine aw_f (by (first | (simp [eval_tmp, put_at, hlast]; done) | (simp [eval_tmp, put_at, hlast]; omega))) (by kernel_rfl) ?_
  refine aw_skip ?_
  have hil' : i < l.length := by omega
  obtain ⟨b, hbi⟩ : ∃ b, l[i]? = some b := ⟨_, List.getElem?_eq_getElem hil'⟩
  have hb2 := hb b (List.mem_of_getElem? hbi)
  have hgb : gb (strOfNums l) i = b := by rw [gb_sn hb, List.getD_eq_getElem?_getD, hbi]; rfl
  rw [rdN_cons hbi] at hrd
  obtain ⟨k, rfl⟩ : ∃ k : Nat, b = (k : Nat) := ⟨b.toNat, by omega⟩
  refine aw_seq ?_
  (refine aw_ops (by kernel_rfl) (fun K hK => ?_); simp (disch := first | omega | (simp only [List.length_set, List.length_append, List.length_cons, List.length_nil, iv_length, zl_length]; try omega; done)) [-getElem?_pos, -getElem?_neg, h0, h, hsz, hgb]; refine hK _ _ ?_; clear hK K)
  have hand := and127 k (by omega)
  obtain ⟨m, hm⟩ : ∃ m, m = k % 128 := ⟨_, rfl⟩
  have hm128 : m < 128 := by omega
  have hor := or_low n m (by omega) hm128
  simp only [Int.toNat_natCast] at hrd
  rw [← hm] at hand hrd
  obtain ⟨n2, hn2⟩ : ∃ n2, n2 = n * 128 + m := ⟨_, rfl⟩
  rw [← hn2] at hor hrd
  rw [Int.natCast_mul] at hor
  have hor : bitsOf .or .u64 ((n : Int) * 128) (m : Int) = (n2 : Int) := hor
  refine aw_seq ?_
  (refine aw_ops (by kernel_rfl) (fun K hK => ?_); simp (disch := first | omega | (simp only [List.length_set, List.length_append, List.length_cons, List.length_nil, iv_length, zl_length]; try omega; done)) [-getElem?_pos, -getElem?_neg, h4, hand, hor]; refine hK _ _ ?_; clear hK K)
  have hbad : ∀ q : (g = 4 ∧ ((k : Nat) : Int) = 128) ∨ 4294967295 < n2, rdN 5 0 l = (0, l.drop (i + 1), 4) := fun q => by rw [hrd, if_pos q]
  have hgood : ¬ ((g = 4 ∧ ((k : Nat) : Int) = 128) ∨ 4294967295 < n2) → k < 128 → rdNum l = (n2, l.drop (i + 1), 0) := fun q q2 => by
    have : rdN 5 0 l = (n2, l.drop (i + 1), 0) := by rw [hrd, if_neg q, if_pos (by omega)]
    unfold rdNum
    rw [this]
    rfl
  have hnext : ¬ ((g = 4 ∧ ((k : Nat) : Int) = 128) ∨ 4294967295 < n2) → ¬ k < 128 → rdN 5 0 l = rdN g n2 (l.drop (i + 1)) := fun q q2 => by
    rw [hrd, if_neg q, if_neg (by omega)]
  have hex := ex_drop l (i + 1)
  refine aw_block ?_
  refine aw_seq ?_
  obtain ⟨bad, hbd⟩ : ∃ bad : Bool, bad = decide ((g = 4 ∧ ((k : Nat) : Int) = 128) ∨ 4294967295 < n2) := ⟨_, rfl⟩
  refine aw_cut (fun α2 G2 => G2 = G ∧ α2 34 = .bool bad ∧ α2 0 = .pointer (some ⟨p, 0, none⟩) ∧ α2 3 = .int .i64 4 ∧ α2 4 = .int .u64 (n2 : Nat) ∧ α2 5 = .int .i64 (i : Nat) ∧ α2 6 = .int .u8 (k : Nat) ∧ α2 12 = .int .i64 (i : Nat)) ?_ ?_
  · refine aw_seq ?_
    by_cases q1 : i = 0 ∧ k = 128
    · obtain ⟨rfl, rfl⟩ := q1
      have : bad = true := by rw [hbd]; exact decide_eq_true (.inl ⟨by omega, rfl⟩)
      rw [this]
      (refine aw_ops (by kernel_rfl) (fun K hK => ?_); simp (disch := first | omega | (simp only [List.length_set, List.length_append, List.length_cons, List.length_nil, iv_length, zl_length]; try omega; done)) [-getElem?_pos, -getElem?_neg]; refine hK _ _ ?_; clear hK K)
      refine aw_t (by (first | (simp [eval_tmp, put_at]; done) | (simp [eval_tmp, put_at]; omega))) (by kernel_rfl) ?_
      refine aw_skip ?_
      exact ⟨rfl, by (first | (simp [put_at, put_none, fr0_at]; done) | rfl), by (first | (simp [put_at, put_none, fr0_at, h0]; done) | rfl), by (first | (simp [put_at, put_none, fr0_at, h3]; done) | rfl), by (first | (simp [put_at, put_none, fr0_at]; done) | rfl), by (first | (simp [put_at, put_none, fr0_at]; done) | rfl), by (first | (simp [put_at, put_none, fr0_at]; done) | rfl), by (first | (simp [put_at, put_none, fr0_at, h12]; done) | rfl)⟩
    have q4 : ¬ (g = 4 ∧ ((k : Nat) : Int) = 128) := by omega
    have hbd : bad = decide (4294967295 < n2) := hbd.trans (decide_eq_decide.2 ⟨fun h => h.resolve_left q4, .inr⟩)
    by_cases q0 : i = 0
    · subst q0
      have q6 : ¬ k = 128 := by omega
      (refine aw_ops (by kernel_rfl) (fun K hK => ?_); simp (disch := first | omega | (simp only [List.length_set, List.length_append, List.length_cons, List.length_nil, iv_length, zl_length]; try omega; done)) [-getElem?_pos, -getElem?_neg, q6]; refine hK _ _ ?_; clear hK K)
      refine aw_f (by (first | (simp [eval_tmp, put_at, q6]; done) | (simp [eval_tmp, put_at, q6]; omega))) (by kernel_rfl) ?_
      (refine aw_ops (by kernel_rfl) (fun K hK => ?_); simp (disch := first | omega | (simp only [List.length_set, List.length_append, List.length_cons, List.length_nil, iv_length, zl_length]; try omega; done)) [-getElem?_pos, -getElem?_neg]; refine hK _ _ ?_; clear hK K)
      exact ⟨rfl, by simp [put_at, hbd]; omega, by (first | (simp [put_at, put_none, fr0_at, h0]; done) | rfl), by (first | (simp [put_at, put_none, fr0_at, h3]; done) | rfl), by (first | (simp [put_at, put_none, fr0_at]; done) | rfl), by (first | (simp [put_at, put_none, fr0_at]; done) | rfl), by (first | (simp [put_at, put_none, fr0_at]; done) | rfl), by (first | (simp [put_at, put_none, fr0_at, h12]; done) | rfl)⟩
    · (refine aw_ops (by kernel_rfl) (fun K hK => ?_); simp (disch := first | omega | (simp only [List.length_set, List.length_append, List.length_cons, List.length_nil, iv_length, zl_length]; try omega; done)) [-getElem?_pos, -getElem?_neg, q0]; refine hK _ _ ?_; clear hK K)
      refine aw_f (by (first | (simp [eval_tmp, put_at, q0]; done) | (simp [eval_tmp, put_at, q0]; omega))) (by kernel_rfl) ?_
      (refine aw_ops (by kernel_rfl) (fun K hK => ?_); simp (disch := first | omega | (simp only [List.length_set, List.length_append, List.length_cons, List.length_nil, iv_length, zl_length]; try omega; done)) [-getElem?_pos, -getElem?_neg]; refine hK _ _ ?_; clear hK K)
      exact ⟨rfl, by simp [put_at, hbd]; omega, by (first | (simp [put_at, put_none, fr0_at, h0]; done) | rfl), by (first | (simp [put_at, put_none, fr0_at, h3]; done) | rfl), by (first | (simp [put_at, put_none, fr0_at]; done) | rfl), by (first | (simp [put_at, put_none, fr0_at]; done) | rfl), by (first | (simp [put_at, put_none, fr0_at]; done) | rfl), by (first | (simp [put_at, put_none, fr0_at, h12]; done) | rfl)⟩
  clear h0 h3 h4 h12
  rintro α2 G2 ⟨rfl, h34, h0, h3, h4, h5, h6, h12⟩
  by_cases q : (g = 4 ∧ ((k : Nat) : Int) = 128) ∨ 4294967295 < n2
  · rw [decide_eq_true q] at hbd
    subst hbd
    refine aw_t (by (first | (simp [eval_tmp, put_at, h34]; done) | (simp [eval_tmp, put_at, h34]; omega))) (by kernel_rfl) ?_
    refine aw_exit ?_
    have := hbad q
    refine ⟨rfl, by (first | (simp [put_at, put_none, fr0_at, h0]; done) | rfl), by rw [this]; simp, by rw [this]; exact h3⟩
  rw [decide_eq_false q] at hbd
  subst hbd
  refine aw_f (by (first | (simp [eval_tmp, put_at, h34]; done) | (simp [eval_tmp, put_at, h34]; omega))) (by kernel_rfl) ?_
  refine aw_seq ?_
  (refine aw_ops (by kernel_rfl) (fun K hK => ?_); simp (disch := first | omega | (simp only [List.length_set, List.length_append, List.length_cons, List.length_nil, iv_length, zl_length]; try omega; done)) [-getElem?_pos, -getElem?_neg, h6]; refine hK _ _ ?_; clear hK K)
  by_cases q2 : k < 128
  · refine aw_t (by (first | (simp [eval_tmp, put_at, q2]; done) | (simp [eval_tmp, put_at, q2]; omega))) (by kernel_rfl) ?_
    refine aw_seq ?_
    (refine aw_ops (by kernel_rfl) (fun K hK => ?_); simp (disch := first | omega | (simp only [List.length_set, List.length_append, List.length_cons, List.length_nil, iv_length, zl_length]; try omega; done)) [-getElem?_pos, -getElem?_neg, h0, h, h5, hsz, hex]; refine hK _ _ ?_; clear hK K)
    refine aw_seq ?_
    (refine aw_ops (by kernel_rfl) (fun K hK => ?_); simp (disch := first | omega | (simp only [List.length_set, List.length_append, List.length_cons, List.length_nil, iv_length, zl_length]; try omega; done)) [-getElem?_pos, -getElem?_neg, h4]; refine hK _ _ ?_; clear hK K)
    (refine aw_ret ?_; simp (disch := first | omega | (simp only [List.length_set, List.length_append, List.length_cons, List.length_nil, iv_length, zl_length]; try omega; done)) [-getElem?_pos, -getElem?_neg, thenQ_ret, scopeQ_ret, inBlockQ_ret, RQ, resL, resV, hgood q q2])
  refine aw_f (by (first | (simp [eval_tmp, put_at, q2]; done) | (simp [eval_tmp, put_at, q2]; omega))) (by kernel_rfl) ?_
  refine aw_skip ?_
  (refine aw_ops (by kernel_rfl) (fun K hK => ?_); simp (disch := first | omega | (simp only [List.length_set, List.length_append, List.length_cons, List.length_nil, iv_length, zl_length]; try omega; done)) [-getElem?_pos, -getElem?_neg, h12]; refine hK _ _ ?_; clear hK K)
  exact ⟨g, by omega, rfl, i + 1, n2, by omega, by (first | (simp [put_at, put_none, fr0_at]; done) | rfl), by (first | (simp [put_at, put_none, fr0_at, h4]; done) | rfl), by (first | (simp [put_at, put_none, fr0_at, h3]; done) | rfl), by (first | (simp [put_at, put_none, fr0_at, h0]; done) | rfl), by omega, by omega, hnext q q2⟩
end

section
open Go Go.RowKit
set_option linter.unusedVariables false
set_option linter.unusedSimpArgs false
set_option maxRecDepth 100000
set_option maxHeartbeats 4000000
theorem rdN_by {g n : Nat} {l : List Int} (h : By l) : By (rdN g n l).2.1 ∧ (rdN g n l).2.1.length ≤ l.length := by
  induction g generalizing n l with
  | zero => exact ⟨h, Nat.le_refl _⟩
  | succ g ih =>
    cases l with
    | nil => exact ⟨h, Nat.le_refl _⟩
    | cons b l =>
      have hl : By l := fun x hx => h x (by simp [hx])
      unfold rdN
      split
      · exact ⟨hl, by simp⟩
      split
      · exact ⟨hl, by simp⟩
      · have := ih (n := n * 128 + b.toNat % 128) hl
        exact ⟨this.1, by simp; omega⟩
theorem rdN_val {g n : Nat} {l : List Int} : (rdN g n l).1 ≤ 4294967295 := by
  induction g generalizing n l with
  | zero => simp [rdN]
  | succ g ih =>
    cases l with
    | nil => simp [rdN]
    | cons b l =>
      unfold rdN
      split
      · simp
      split
      · simp; omega
      · exact ih
theorem rdN_err {g n : Nat} {l : List Int} : (rdN g n l).2.2 = 0 ∨ (rdN g n l).2.2 = 3 ∨ (rdN g n l).2.2 = 4 := by
  induction g generalizing n l with
  | zero => simp [rdN]
  | succ g ih =>
    cases l with
    | nil => simp [rdN]
    | cons b l =>
      unfold rdN
      split
      · simp
      split
      · simp
      · exact ih
theorem rdNum_by {l : List Int} (h : By l) : By (rdNum l).2.1 ∧ (rdNum l).2.1.length ≤ l.length := by
  unfold rdNum
  split
  · exact rdN_by h
  · exact ⟨h, Nat.le_refl _⟩
theorem rdNum_val {l : List Int} : (rdNum l).1 ≤ 4294967295 := by
  unfold rdNum
  split
  · exact rdN_val
  · simp
/-- A count read: it, what is left, the error. -/
def rdCount (most : Int) (l : List Int) : Nat × List Int × Int :=
  if (rdNum l).2.2 ≠ 0 then (0, l, (rdNum l).2.2) else if max most 0 < (rdNum l).1 then (0, l, 5) else rdNum l
def rdText (most : Int) (l : List Int) : List Int × List Int × Int :=
  if (rdCount most l).2.2 ≠ 0 then ([], l, (rdCount most l).2.2) else if (rdCount most l).2.1.length < (rdCount most l).1 then ([], l, 3)
  else ((rdCount most l).2.1.take (rdCount most l).1, (rdCount most l).2.1.drop (rdCount most l).1, 0)
theorem rdNum_bad {l : List Int} (h : (rdNum l).2.2 ≠ 0) : rdNum l = (0, l, (rdNum l).2.2) := by
  unfold rdNum at h ⊢
  split
  · rename_i e; rw [if_pos e, e] at h; exact absurd rfl h
  · rfl
theorem rdCount_by {most : Int} {l : List Int} (h : By l) : By (rdCount most l).2.1 ∧ (rdCount most l).2.1.length ≤ l.length := by
  unfold rdCount
  split
  · exact ⟨h, Nat.le_refl _⟩
  split
  · exact ⟨h, Nat.le_refl _⟩
  · exact rdNum_by h
theorem rdCount_val {most : Int} {l : List Int} : (rdCount most l).1 ≤ 4294967295 := by
  unfold rdCount
  split
  · simp
  split
  · simp
  · exact rdNum_val
theorem rdCount_bad {most : Int} {l : List Int} (h : (rdCount most l).2.2 ≠ 0) : rdCount most l = (0, l, (rdCount most l).2.2) := by
  unfold rdCount at h ⊢
  split
  · rfl
  split
  · rfl
  · rename_i e1 e2
    rw [if_neg e1, if_neg e2] at h
    exact absurd h e1
attribute [local simp] wb_bool wb_undef XL_nil XL_cons XLc_val XLc_call step1_eq stepW_t stepW_f stepC_n stepC_s stepX_s stepX_n stepN_s calleeX oneV xop_eq xopR_s xopR_n wantedA_eq wantedG_n wantedG_s plain1_int plain1_bool plain1_string bits_i64 bits_u64 bits_u32 bits_u16 bits_u8 xeqA xagg xcmp xarr allK_iv num_iv calleeOf xread xeff xbin xint xnil xun xstr xload xconv xpart xfield xfieldAddr xindexAddr xindex bnd asInt? xslice xlen xmin xmax xbuild xfill xappend xapp2 xappstr xappmk xcap xcopy xcells eval_tmp eval_const put_at put_none fr0_at cells_agg cells_int cells_bool cells_string cells_ptr cells_slice notTuple tab iv_all hget_app hget_app0 hget_cons0 hget_cons set_app set_app0 setR setR_one QL_nil QL_cons QLc_val stepQ_t stepQ_f stepQC_n stepQC_s stepQX_s SL_nil SL_cons SLc_val stepS_t stepS_f ltT ltF leT leF eqT eqF ltTn ltFn leTn leFn eqTn eqFn beqT beqF bneT bneF wi64 wu64 wu32 wu16 wu8 tmodP tdivP hgetL hgetNe hgetEq setL nums_def nums_len Nat.succ_le_of_lt List.getElem?_cons_zero List.getElem?_cons_succ Option.getD_some Int.toNat_add Int.toNat_mul agB agI agS agP agL agA okB okI okS okP okSl okA
theorem left_ac {H : AH} {γ : Nat → Option Nat} {nro p : Nat} {l : List Int} {e : Int} (h : hget H p = some (rdC l e)) (hl : l.length ≤ 1000000) :
    AC Tryd.prog nro γ 57 #[.pointer (some ⟨p, 0, none⟩)] H (fun v' H' => v' = .int .i64 (l.length : Nat) ∧ H' = H) := by
  unfold rdC at h
  have hsz := sn_size l
  refine ac_of_aw Tryd.func57 rfl Tryd.ntmps57 Tryd.results57 (by simp) ?_
  refine aw_seq ?_
  (refine aw_ops (by kernel_rfl) (fun K hK => ?_); simp (disch := first | omega | (simp only [List.length_set, List.length_append, List.length_cons, List.length_nil, iv_length, zl_length]; try omega; done)) [-getElem?_pos, -getElem?_neg]; refine hK _ _ ?_; clear hK K)
  refine aw_seq ?_
  (refine aw_ops (by kernel_rfl) (fun K hK => ?_); simp (disch := first | omega | (simp only [List.length_set, List.length_append, List.length_cons, List.length_nil, iv_length, zl_length]; try omega; done)) [-getElem?_pos, -getElem?_neg, h, hsz]; refine hK _ _ ?_; clear hK K)
  (refine aw_ret ?_; simp (disch := first | omega | (simp only [List.length_set, List.length_append, List.length_cons, List.length_nil, iv_length, zl_length]; try omega; done)) [-getElem?_pos, -getElem?_neg, thenQ_ret, scopeQ_ret, inBlockQ_ret, RQ, resL, resV])
theorem newreader_ac {H : AH} {γ : Nat → Option Nat} {nro : Nat} {l : List Int} :
    AC Tryd.prog nro γ 56 #[.string (strOfNums l)] H (fun v' H' => v' = .pointer (some ⟨H.length, 0, none⟩) ∧ H' = H ++ [some (rdC l 0)]) := by
  unfold rdC
  refine ac_of_aw Tryd.func56 rfl Tryd.ntmps56 Tryd.results56 (by simp) ?_
  refine aw_seq ?_
  (refine aw_ops (by kernel_rfl) (fun K hK => ?_); simp (disch := first | omega | (simp only [List.length_set, List.length_append, List.length_cons, List.length_nil, iv_length, zl_length]; try omega; done)) [-getElem?_pos, -getElem?_neg]; refine hK _ _ ?_; clear hK K)
  refine aw_seq ?_
  (refine aw_ops (by kernel_rfl) (fun K hK => ?_); simp (disch := first | omega | (simp only [List.length_set, List.length_append, List.length_cons, List.length_nil, iv_length, zl_length]; try omega; done)) [-getElem?_pos, -getElem?_neg]; refine hK _ _ ?_; clear hK K)
  (refine aw_ret ?_; simp (disch := first | omega | (simp only [List.length_set, List.length_append, List.length_cons, List.length_nil, iv_length, zl_length]; try omega; done)) [-getElem?_pos, -getElem?_neg, thenQ_ret, scopeQ_ret, inBlockQ_ret, RQ, resL, resV])
theorem giveup_ac {H : AH} {γ : Nat → Option Nat} {nro p : Nat} {l l2 : List Int} {e e2 : Int} (hp : nro ≤ p) (h : hget H p = some (rdC l e)) :
    AC Tryd.prog nro γ 79 #[.pointer (some ⟨p, 0, none⟩), .string (strOfNums l2), .int .i64 e2] H (fun v' H' => H' = H.set p (some (rdC l2 e2))) := by
  have hpl := hget_lt h
  unfold rdC at h ⊢
  refine ac_of_aw Tryd.func79 rfl Tryd.ntmps79 Tryd.results79 (by simp) ?_
  (refine aw_ops (by kernel_rfl) (fun K hK => ?_); simp (disch := first | omega | (simp only [List.length_set, List.length_append, List.length_cons, List.length_nil, iv_length, zl_length]; try omega; done)) [-getElem?_pos, -getElem?_neg, h]; refine hK _ _ ?_; clear hK K)
  exact ⟨_, _, rfl, rfl, rfl⟩
theorem count_ac {H : AH} {γ : Nat → Option Nat} {nro p : Nat} {l : List Int} {most : Int} (hp : nro ≤ p) (h : hget H p = some (rdC l 0)) (hb : By l) (hl : l.length ≤ 1000000) (hm : most ≤ 9223372036854775807) :
    AC Tryd.prog nro γ 78 #[.pointer (some ⟨p, 0, none⟩), .int .i64 most] H (fun v' H' => v' = .int .u64 ((rdCount most l).1 : Nat) ∧ H' = H.set p (some (rdC (rdCount most l).2.1 (rdCount most l).2.2))) := by
  have hnum := number_ac (γ := γ) hp h hb hl
  have hpl := hget_lt h
  obtain ⟨n, l2, e, hr⟩ : ∃ n l2 e, rdNum l = (n, l2, e) := ⟨_, _, _, rfl⟩
  have hv := rdNum_val (l := l)
  have hbad := rdNum_bad (l := l)
  have hc : rdCount most l = if e ≠ 0 then (0, l, e) else if max most 0 < n then (0, l, 5) else (n, l2, e) := by unfold rdCount; rw [hr]
  rw [hr] at hnum hv hbad
  simp only at hnum hv hbad
  obtain ⟨mx, hmx⟩ : ∃ mx, mx = max most 0 := ⟨_, rfl⟩
  have hmx0 : 0 ≤ mx ∧ mx ≤ 9223372036854775807 := by omega
  rw [← hmx] at hc
  unfold rdC at h hnum ⊢
  have hh := hgetEq (x := some ⟨[.string (strOfNums l2), .int .i64 e], 132, none⟩) hpl
  have hsl : p < (H.set p (some ⟨[.string (strOfNums l2), .int .i64 e], 132, none⟩)).length := by simpa using hpl
  refine ac_of_aw Tryd.func78 rfl Tryd.ntmps78 Tryd.results78 (by simp) ?_
  refine aw_seq ?_
  (refine aw_ops (by kernel_rfl) (fun K hK => ?_); simp (disch := first | omega | (simp only [List.length_set, List.length_append, List.length_cons, List.length_nil, iv_length, zl_length]; try omega; done)) [-getElem?_pos, -getElem?_neg]; refine hK _ _ ?_; clear hK K)
  refine aw_seq ?_
  (refine aw_ops (by kernel_rfl) (fun K hK => ?_); simp (disch := first | omega | (simp only [List.length_set, List.length_append, List.length_cons, List.length_nil, iv_length, zl_length]; try omega; done)) [-getElem?_pos, -getElem?_neg, h]; refine hK _ _ ?_; clear hK K)
  refine aw_seq ?_
  refine aw_ops (by kernel_rfl) (fun K hK => ?_)
  simp (disch := first | omega | (simp only [List.length_set, List.length_append, List.length_cons, List.length_nil, iv_length, zl_length]; try omega; done)) [-getElem?_pos, -getElem?_neg]
  refine ⟨by kernel_rfl, hnum.mono ?_⟩
  rintro v1 H1 ⟨rfl, rfl⟩
  try simp (disch := first | omega | (simp only [List.length_set, List.length_append, List.length_cons, List.length_nil, iv_length, zl_length]; try omega; done)) [-getElem?_pos, -getElem?_neg]
  refine hK _ _ ?_; clear hK K
  refine aw_seq ?_
  refine aw_seq ?_
  obtain ⟨H2, hH2⟩ : ∃ H2, H2 = H.set p (some ⟨[.string (strOfNums l2), .int .i64 e], 132, none⟩) := ⟨_, rfl⟩
  rw [← hH2] at hh hsl ⊢
  by_cases he : e = 0
  · subst he
    rw [if_neg (by simp)] at hc
    (refine aw_ops (by kernel_rfl) (fun K hK => ?_); simp (disch := first | omega | (simp only [List.length_set, List.length_append, List.length_cons, List.length_nil, iv_length, zl_length]; try omega; done)) [-getElem?_pos, -getElem?_neg, hh, ← hmx]; refine hK _ _ ?_; clear hK K)
    by_cases hq : mx < n
    · rw [if_pos hq] at hc
      refine aw_t (by (first | (simp [eval_tmp, put_at, hq]; done) | (simp [eval_tmp, put_at, hq]; omega))) (by kernel_rfl) ?_
      refine aw_seq ?_
      refine aw_ops (by kernel_rfl) (fun K hK => ?_)
      simp (disch := first | omega | (simp only [List.length_set, List.length_append, List.length_cons, List.length_nil, iv_length, zl_length]; try omega; done)) [-getElem?_pos, -getElem?_neg]
      refine ⟨by kernel_rfl, (giveup_ac (l := l2) (l2 := l) hp hh).mono ?_⟩
      rintro v1 H1 rfl
      try simp (disch := first | omega | (simp only [List.length_set, List.length_append, List.length_cons, List.length_nil, iv_length, zl_length]; try omega; done)) [-getElem?_pos, -getElem?_neg]
      refine hK _ _ ?_; clear hK K
      refine aw_seq ?_
      (refine aw_ops (by kernel_rfl) (fun K hK => ?_); simp (disch := first | omega | (simp only [List.length_set, List.length_append, List.length_cons, List.length_nil, iv_length, zl_length]; try omega; done)) [-getElem?_pos, -getElem?_neg]; refine hK _ _ ?_; clear hK K)
      (refine aw_ret ?_; simp (disch := first | omega | (simp only [List.length_set, List.length_append, List.length_cons, List.length_nil, iv_length, zl_length]; try omega; done)) [-getElem?_pos, -getElem?_neg, thenQ_ret, scopeQ_ret, inBlockQ_ret, RQ, resL, resV, hc, hH2, rdC])
    · rw [if_neg hq] at hc
      refine aw_f (by (first | (simp [eval_tmp, put_at, hq]; done) | (simp [eval_tmp, put_at, hq]; omega))) (by kernel_rfl) ?_
      refine aw_skip ?_
      refine aw_seq ?_
      (refine aw_ops (by kernel_rfl) (fun K hK => ?_); simp (disch := first | omega | (simp only [List.length_set, List.length_append, List.length_cons, List.length_nil, iv_length, zl_length]; try omega; done)) [-getElem?_pos, -getElem?_neg]; refine hK _ _ ?_; clear hK K)
      (refine aw_ret ?_; simp (disch := first | omega | (simp only [List.length_set, List.length_append, List.length_cons, List.length_nil, iv_length, zl_length]; try omega; done)) [-getElem?_pos, -getElem?_neg, thenQ_ret, scopeQ_ret, inBlockQ_ret, RQ, resL, resV, hc, hH2])
  · rw [if_pos he] at hc
    have hb2 := hbad he
    simp only [Prod.mk.injEq] at hb2
    obtain ⟨rfl, rfl, _⟩ := hb2
    (refine aw_ops (by kernel_rfl) (fun K hK => ?_); simp (disch := first | omega | (simp only [List.length_set, List.length_append, List.length_cons, List.length_nil, iv_length, zl_length]; try omega; done)) [-getElem?_pos, -getElem?_neg, hh, he]; refine hK _ _ ?_; clear hK K)
    refine aw_f (by (first | (simp [eval_tmp, put_at]; done) | (simp [eval_tmp, put_at]; omega))) (by kernel_rfl) ?_
    refine aw_skip ?_
    refine aw_seq ?_
    (refine aw_ops (by kernel_rfl) (fun K hK => ?_); simp (disch := first | omega | (simp only [List.length_set, List.length_append, List.length_cons, List.length_nil, iv_length, zl_length]; try omega; done)) [-getElem?_pos, -getElem?_neg]; refine hK _ _ ?_; clear hK K)
    (refine aw_ret ?_; simp (disch := first | omega | (simp only [List.length_set, List.length_append, List.length_cons, List.length_nil, iv_length, zl_length]; try omega; done)) [-getElem?_pos, -getElem?_neg, thenQ_ret, scopeQ_ret, inBlockQ_ret, RQ, resL, resV, hc, hH2])
theorem text_ac {H : AH} {γ : Nat → Option Nat} {nro p : Nat} {l : List Int} {most : Int} (hp : nro ≤ p) (h : hget H p = some (rdC l 0)) (hb : By l) (hl : l.length ≤ 1000000) (hm : most ≤ 9223372036854775807) :
    AC Tryd.prog nro γ 58 #[.pointer (some ⟨p, 0, none⟩), .int .i64 most] H (fun v' H' => v' = .string (strOfNums (rdText most l).1) ∧ H' = H.set p (some (rdC (rdText most l).2.1 (rdText most l).2.2))) := by
  have hnum := count_ac (γ := γ) hp h hb hl hm
  have hpl := hget_lt h
  obtain ⟨n, l2, e, hr⟩ : ∃ n l2 e, rdCount most l = (n, l2, e) := ⟨_, _, _, rfl⟩
  have hv := rdCount_val (l := l) (most := most)
  have hbad := rdCount_bad (l := l) (most := most)
  have hby := rdCount_by (l := l) (most := most) hb
  have hc : rdText most l = if e ≠ 0 then ([], l, e) else if l2.length < n then ([], l, 3) else (l2.take n, l2.drop n, 0) := by unfold rdText; rw [hr]
  rw [hr] at hnum hv hbad hby
  simp only at hnum hv hbad hby
  have hsz := sn_size l2
  have hex1 := ex_drop l2 n
  have hex2 := ex_take l2 n
  unfold rdC at h hnum ⊢
  have hh := hgetEq (x := some ⟨[.string (strOfNums l2), .int .i64 e], 132, none⟩) hpl
  have hsl : p < (H.set p (some ⟨[.string (strOfNums l2), .int .i64 e], 132, none⟩)).length := by simpa using hpl
  refine ac_of_aw Tryd.func58 rfl Tryd.ntmps58 Tryd.results58 (by simp) ?_
  refine aw_seq ?_
  (refine aw_ops (by kernel_rfl) (fun K hK => ?_); simp (disch := first | omega | (simp only [List.length_set, List.length_append, List.length_cons, List.length_nil, iv_length, zl_length]; try omega; done)) [-getElem?_pos, -getElem?_neg]; refine hK _ _ ?_; clear hK K)
  refine aw_seq ?_
  (refine aw_ops (by kernel_rfl) (fun K hK => ?_); simp (disch := first | omega | (simp only [List.length_set, List.length_append, List.length_cons, List.length_nil, iv_length, zl_length]; try omega; done)) [-getElem?_pos, -getElem?_neg, h]; refine hK _ _ ?_; clear hK K)
  refine aw_seq ?_
  refine aw_ops (by kernel_rfl) (fun K hK => ?_)
  simp (disch := first | omega | (simp only [List.length_set, List.length_append, List.length_cons, List.length_nil, iv_length, zl_length]; try omega; done)) [-getElem?_pos, -getElem?_neg]
  refine ⟨by kernel_rfl, hnum.mono ?_⟩
  rintro v1 H1 ⟨rfl, rfl⟩
  try simp (disch := first | omega | (simp only [List.length_set, List.length_append, List.length_cons, List.length_nil, iv_length, zl_length]; try omega; done)) [-getElem?_pos, -getElem?_neg]
  refine hK _ _ ?_; clear hK K
  refine aw_seq ?_
  obtain ⟨H2, hH2⟩ : ∃ H2, H2 = H.set p (some ⟨[.string (strOfNums l2), .int .i64 e], 132, none⟩) := ⟨_, rfl⟩
  rw [← hH2] at hh hsl ⊢
  by_cases he : e = 0
  · subst he
    rw [if_neg (by simp)] at hc
    refine aw_seq ?_
    (refine aw_ops (by kernel_rfl) (fun K hK => ?_); simp (disch := first | omega | (simp only [List.length_set, List.length_append, List.length_cons, List.length_nil, iv_length, zl_length]; try omega; done)) [-getElem?_pos, -getElem?_neg, hh, hsz]; refine hK _ _ ?_; clear hK K)
    by_cases hq : l2.length < n
    · rw [if_pos hq] at hc
      refine aw_t (by (first | (simp [eval_tmp, put_at, hq]; done) | (simp [eval_tmp, put_at, hq]; omega))) (by kernel_rfl) ?_
      refine aw_ops (by kernel_rfl) (fun K hK => ?_)
      simp (disch := first | omega | (simp only [List.length_set, List.length_append, List.length_cons, List.length_nil, iv_length, zl_length]; try omega; done)) [-getElem?_pos, -getElem?_neg]
      refine ⟨by kernel_rfl, (giveup_ac (l := l2) (l2 := l) hp hh).mono ?_⟩
      rintro v1 H1 rfl
      try simp (disch := first | omega | (simp only [List.length_set, List.length_append, List.length_cons, List.length_nil, iv_length, zl_length]; try omega; done)) [-getElem?_pos, -getElem?_neg]
      refine hK _ _ ?_; clear hK K
      have hh3 := hgetEq (x := some (rdC l 3)) hsl
      unfold rdC at hh3
      refine aw_seq ?_
      refine aw_seq ?_
      (refine aw_ops (by kernel_rfl) (fun K hK => ?_); simp (disch := first | omega | (simp only [List.length_set, List.length_append, List.length_cons, List.length_nil, iv_length, zl_length]; try omega; done)) [-getElem?_pos, -getElem?_neg, rdC, hh3]; refine hK _ _ ?_; clear hK K)
      refine aw_t (by (first | (simp [eval_tmp, put_at]; done) | (simp [eval_tmp, put_at]; omega))) (by kernel_rfl) ?_
      refine aw_seq ?_
      (refine aw_ops (by kernel_rfl) (fun K hK => ?_); simp (disch := first | omega | (simp only [List.length_set, List.length_append, List.length_cons, List.length_nil, iv_length, zl_length]; try omega; done)) [-getElem?_pos, -getElem?_neg]; refine hK _ _ ?_; clear hK K)
      (refine aw_ret ?_; simp (disch := first | omega | (simp only [List.length_set, List.length_append, List.length_cons, List.length_nil, iv_length, zl_length]; try omega; done)) [-getElem?_pos, -getElem?_neg, thenQ_ret, scopeQ_ret, inBlockQ_ret, RQ, resL, resV, hc, hH2, rdC, sn_nil0])
    · rw [if_neg hq] at hc
      refine aw_f (by (first | (simp [eval_tmp, put_at, hq]; done) | (simp [eval_tmp, put_at, hq]; omega))) (by kernel_rfl) ?_
      refine aw_skip ?_
      refine aw_seq ?_
      refine aw_seq ?_
      (refine aw_ops (by kernel_rfl) (fun K hK => ?_); simp (disch := first | omega | (simp only [List.length_set, List.length_append, List.length_cons, List.length_nil, iv_length, zl_length]; try omega; done)) [-getElem?_pos, -getElem?_neg, hh]; refine hK _ _ ?_; clear hK K)
      refine aw_f (by (first | (simp [eval_tmp, put_at]; done) | (simp [eval_tmp, put_at]; omega))) (by kernel_rfl) ?_
      refine aw_skip ?_
      refine aw_seq ?_
      (refine aw_ops (by kernel_rfl) (fun K hK => ?_); simp (disch := first | omega | (simp only [List.length_set, List.length_append, List.length_cons, List.length_nil, iv_length, zl_length]; try omega; done)) [-getElem?_pos, -getElem?_neg, hh, hsz, hex2]; refine hK _ _ ?_; clear hK K)
      refine aw_seq ?_
      (refine aw_ops (by kernel_rfl) (fun K hK => ?_); simp (disch := first | omega | (simp only [List.length_set, List.length_append, List.length_cons, List.length_nil, iv_length, zl_length]; try omega; done)) [-getElem?_pos, -getElem?_neg, hh, hsz, hex1]; refine hK _ _ ?_; clear hK K)
      refine aw_seq ?_
      (refine aw_ops (by kernel_rfl) (fun K hK => ?_); simp (disch := first | omega | (simp only [List.length_set, List.length_append, List.length_cons, List.length_nil, iv_length, zl_length]; try omega; done)) [-getElem?_pos, -getElem?_neg]; refine hK _ _ ?_; clear hK K)
      (refine aw_ret ?_; simp (disch := first | omega | (simp only [List.length_set, List.length_append, List.length_cons, List.length_nil, iv_length, zl_length]; try omega; done)) [-getElem?_pos, -getElem?_neg, thenQ_ret, scopeQ_ret, inBlockQ_ret, RQ, resL, resV, hc, hH2])
  · rw [if_pos he] at hc
    have hb2 := hbad he
    simp only [Prod.mk.injEq] at hb2
    obtain ⟨rfl, rfl, _⟩ := hb2
    refine aw_seq ?_
    (refine aw_ops (by kernel_rfl) (fun K hK => ?_); simp (disch := first | omega | (simp only [List.length_set, List.length_append, List.length_cons, List.length_nil, iv_length, zl_length]; try omega; done)) [-getElem?_pos, -getElem?_neg, hh, he]; refine hK _ _ ?_; clear hK K)
    refine aw_f (by (first | (simp [eval_tmp, put_at]; done) | (simp [eval_tmp, put_at]; omega))) (by kernel_rfl) ?_
    refine aw_skip ?_
    refine aw_seq ?_
    refine aw_seq ?_
    (refine aw_ops (by kernel_rfl) (fun K hK => ?_); simp (disch := first | omega | (simp only [List.length_set, List.length_append, List.length_cons, List.length_nil, iv_length, zl_length]; try omega; done)) [-getElem?_pos, -getElem?_neg, hh, he]; refine hK _ _ ?_; clear hK K)
    refine aw_t (by (first | (simp [eval_tmp, put_at, he]; done) | (simp [eval_tmp, put_at, he]; omega))) (by kernel_rfl) ?_
    refine aw_seq ?_
    (refine aw_ops (by kernel_rfl) (fun K hK => ?_); simp (disch := first | omega | (simp only [List.length_set, List.length_append, List.length_cons, List.length_nil, iv_length, zl_length]; try omega; done)) [-getElem?_pos, -getElem?_neg]; refine hK _ _ ?_; clear hK K)
    (refine aw_ret ?_; simp (disch := first | omega | (simp only [List.length_set, List.length_append, List.length_cons, List.length_nil, iv_length, zl_length]; try omega; done)) [-getElem?_pos, -getElem?_neg, thenQ_ret, scopeQ_ret, inBlockQ_ret, RQ, resL, resV, hc, hH2, sn_nil0])
end

section
open Go Go.RowKit
set_option linter.unusedVariables false
set_option linter.unusedSimpArgs false

structure DM where
  firm : List ByteArray
  uns : List (Nat × ByteArray)
  fuse : Int
  dead : Bool
def lateOf (firm : List ByteArray) (uns : List (Nat × ByteArray)) : List ByteArray := uns.foldl (fun l w => l.set w.1 w.2) firm
structure DM.Ok (D : DM) : Prop where
  one : 1 ≤ D.firm.length
  most : D.firm.length ≤ 1024
  rows : ∀ r ∈ D.firm, r.size = 256
  uns : ∀ w ∈ D.uns, w.1 < D.firm.length ∧ w.2.size = 256
  fuse : -1 ≤ D.fuse ∧ D.fuse ≤ 9223372036854775807
  few : D.uns.length ≤ 1000
theorem late_len (firm : List ByteArray) (uns : List (Nat × ByteArray)) : (lateOf firm uns).length = firm.length := by
  unfold lateOf
  induction uns generalizing firm with
  | nil => rfl
  | cons w uns ih => rw [List.foldl_cons, ih, List.length_set]
theorem mem_set {β : Type} {l : List β} {i : Nat} {x y : β} (h : y ∈ l.set i x) : y ∈ l ∨ y = x := by
  rcases List.mem_or_eq_of_mem_set h with h | h
  · exact .inl h
  · exact .inr h
theorem late_rows {uns : List (Nat × ByteArray)} : ∀ {firm : List ByteArray}, (∀ r ∈ firm, r.size = 256) → (∀ w ∈ uns, w.2.size = 256) → ∀ r ∈ lateOf firm uns, r.size = 256 := by
  unfold lateOf
  induction uns with
  | nil => intro firm h _; exact h
  | cons w uns ih =>
    intro firm h hu
    rw [List.foldl_cons]
    refine ih (fun r hr => ?_) (fun w' hw' => hu w' (List.mem_cons_of_mem _ hw'))
    rcases mem_set hr with hr | rfl
    · exact h r hr
    · exact hu w List.mem_cons_self
theorem late_app (firm : List ByteArray) (uns : List (Nat × ByteArray)) (w : Nat × ByteArray) : lateOf firm (uns ++ [w]) = (lateOf firm uns).set w.1 w.2 := by
  unfold lateOf; rw [List.foldl_append]; rfl
def DM.late (D : DM) : List ByteArray := lateOf D.firm D.uns
/-- Blocks, as cells; writes, as cells. -/
def fc (l : List ByteArray) : List Value := (l.map sv).flatten
def uc (u : List (Nat × ByteArray)) : List Value := (u.map fun w => Value.int .i64 (w.1 : Nat) :: sv w.2).flatten
theorem fc_rows {l : List ByteArray} (h : ∀ r ∈ l, r.size = 256) : ∀ r ∈ l.map sv, r.length = 256 := by
  intro r hr
  obtain ⟨s, hs, rfl⟩ := List.mem_map.1 hr
  rw [sv_length]; exact h s hs
theorem uc_rows {u : List (Nat × ByteArray)} (h : ∀ w ∈ u, w.2.size = 256) : ∀ r ∈ u.map (fun w => Value.int .i64 (w.1 : Nat) :: sv w.2), r.length = 257 := by
  intro r hr
  obtain ⟨s, hs, rfl⟩ := List.mem_map.1 hr
  rw [List.length_cons, sv_length, h s hs]
theorem fc_len {l : List ByteArray} (h : ∀ r ∈ l, r.size = 256) : (fc l).length = l.length * 256 := by
  unfold fc; rw [fl_len (fc_rows h), List.length_map]
theorem uc_len {u : List (Nat × ByteArray)} (h : ∀ w ∈ u, w.2.size = 256) : (uc u).length = u.length * 257 := by
  unfold uc; rw [fl_len (uc_rows h), List.length_map]
theorem fc_get {l : List ByteArray} (h : ∀ r ∈ l, r.size = 256) {k : Nat} {r : ByteArray} (hk : l[k]? = some r) : ((fc l).drop (k * 256)).take 256 = sv r :=
  fl_get (fc_rows h) (by rw [List.getElem?_map, hk]; rfl)
theorem uc_get {u : List (Nat × ByteArray)} (h : ∀ w ∈ u, w.2.size = 256) {k : Nat} {w : Nat × ByteArray} (hk : u[k]? = some w) : ((uc u).drop (k * 257)).take 257 = .int .i64 (w.1 : Nat) :: sv w.2 :=
  fl_get (uc_rows h) (by rw [List.getElem?_map, hk]; rfl)
theorem fc_set {l : List ByteArray} (h : ∀ r ∈ l, r.size = 256) {k : Nat} {r : ByteArray} (hk : k < l.length) (hr : r.size = 256) : setR (fc l) (k * 256) (sv r) = fc (l.set k r) := by
  unfold fc
  rw [fl_setR (fc_rows h) (q := sv l[k]) (by rw [List.getElem?_map, List.getElem?_eq_getElem hk]; rfl) (by rw [sv_length, hr]; exact Nat.le_refl _), List.map_set]
  rw [List.drop_of_length_le (by rw [sv_length, sv_length, h _ (List.getElem_mem hk), hr]; exact Nat.le_refl _), List.append_nil]
theorem fc_part {l : List ByteArray} (h : ∀ r ∈ l, r.size = 256) {k n : Nat} {r q : ByteArray} (hk : l[k]? = some q) (hr : r.size = 256) (hn : n ≤ 256) :
    setR (fc l) (k * 256) ((sv r).take n) = fc (l.set k (r.extract 0 n ++ q.extract n q.size)) := by
  have hq := h q (List.mem_of_getElem? hk)
  unfold fc
  rw [fl_setR (fc_rows h) (q := sv q) (by rw [List.getElem?_map, hk]; rfl) (by rw [List.length_take, sv_length]; omega), List.map_set]
  congr 2
  rw [List.length_take, sv_length, hr, Nat.min_eq_left hn, sv_take, sv_drop, sv_app]
theorem uc_app (u : List (Nat × ByteArray)) (w : Nat × ByteArray) : uc u ++ (.int .i64 (w.1 : Nat) :: sv w.2) = uc (u ++ [w]) := by
  unfold uc; rw [fl_app, List.map_append]; rfl

/-- Where a disk lies. -/
structure DkR (H : AH) (p s l : Nat) (U : Value) (FU : List Nat) (D : DM) : Prop where
  hp : hget H p = some ⟨[.slice (some ⟨s, 0, none⟩) D.firm.length D.firm.length, .slice (some ⟨l, 0, none⟩) D.firm.length D.firm.length, U, .int .i64 D.fuse, .bool D.dead], 61, none⟩
  hs : hget H s = some ⟨fc D.firm, 90, some 256⟩
  hl : hget H l = some ⟨fc D.late, 90, some 256⟩
  hu : OwnF H U 92 257 (uc D.uns) FU
  ps : p ≠ s
  pl : p ≠ l
  sl : s ≠ l
  fu : p ∉ FU ∧ s ∉ FU ∧ l ∉ FU
def Dk (H : AH) (p : Nat) (F : List Nat) (D : DM) : Prop := D.Ok ∧ ∃ s l U FU, F = p :: s :: l :: FU ∧ DkR H p s l U FU D
theorem Dk.low {H H' : AH} {p : Nat} {F : List Nat} {D : DM} (h : Dk H p F D) (hl : ∀ j ∈ F, hget H' j = hget H j) : Dk H' p F D := by
  obtain ⟨h0, s, l, U, FU, rfl, h⟩ := h
  exact ⟨h0, s, l, U, FU, rfl, ⟨by rw [hl p (by simp)]; exact h.hp, by rw [hl s (by simp)]; exact h.hs, by rw [hl l (by simp)]; exact h.hl, h.hu.low (fun j hj => hl j (by simp [hj])), h.ps, h.pl, h.sl, h.fu⟩⟩
theorem Dk.lt {H : AH} {p : Nat} {F : List Nat} {D : DM} (h : Dk H p F D) : ∀ j ∈ F, j < H.length := by
  obtain ⟨h0, s, l, U, FU, rfl, h⟩ := h
  intro j hj
  simp only [List.mem_cons] at hj
  rcases hj with rfl | rfl | rfl | hj
  · exact hget_lt h.hp
  · exact hget_lt h.hs
  · exact hget_lt h.hl
  · rcases h.hu with ⟨_, _, rfl⟩ | ⟨i, len, _, h2, _, rfl⟩
    · cases hj
    · rw [List.mem_singleton] at hj; subst hj; exact hget_lt h2
end

section
open Go Go.RowKit
set_option linter.unusedVariables false
set_option linter.unusedSimpArgs false
set_option maxRecDepth 100000
set_option maxHeartbeats 4000000
attribute [local simp] wb_bool wb_undef XL_nil XL_cons XLc_val XLc_call step1_eq stepW_t stepW_f stepC_n stepC_s stepX_s stepX_n stepN_s calleeX oneV xop_eq xopR_s xopR_n wantedA_eq wantedG_n wantedG_s plain1_int plain1_bool plain1_string bits_i64 bits_u64 bits_u32 bits_u16 bits_u8 xeqA xagg xcmp xarr allK_iv num_iv calleeOf xread xeff xbin xint xnil xun xstr xload xconv xpart xfield xfieldAddr xindexAddr xindex bnd asInt? xslice xlen xmin xmax xbuild xfill xappend xapp2 xappstr xappmk xcap xcopy xcells eval_tmp eval_const put_at put_none fr0_at cells_agg cells_int cells_bool cells_string cells_ptr cells_slice notTuple tab iv_all hget_app hget_app0 hget_cons0 hget_cons set_app set_app0 setR setR_one QL_nil QL_cons QLc_val stepQ_t stepQ_f stepQC_n stepQC_s stepQX_s SL_nil SL_cons SLc_val stepS_t stepS_f ltT ltF leT leF eqT eqF ltTn ltFn leTn leFn eqTn eqFn beqT beqF bneT bneF wi64 wu64 wu32 wu16 wu8 tmodP tdivP hgetL hgetNe hgetEq setL nums_def nums_len Nat.succ_le_of_lt List.getElem?_cons_zero List.getElem?_cons_succ Option.getD_some Int.toNat_add Int.toNat_mul agB agI agS agP agL agA okB okI okS okP okSl okA

section
variable {H : AH} {γ : Nat → Option Nat} {nro p : Nat} {F : List Nat} {D : DM}
theorem blocks_ac (h : Dk H p F D) : AC Tryd.prog nro γ 30 #[.pointer (some ⟨p, 0, none⟩)] H (fun v' H' => v' = .int .i64 D.firm.length ∧ H' = H) := by
  obtain ⟨ho, s, l, U, FU, rfl, h⟩ := h
  have hp := h.hp
  refine ac_of_aw Tryd.func30 rfl Tryd.ntmps30 Tryd.results30 (by simp) ?_
  refine aw_seq ?_
  (refine aw_ops (by kernel_rfl) (fun K hK => ?_); simp (disch := first | omega | (simp only [List.length_set, List.length_append, List.length_cons, List.length_nil, iv_length, zl_length]; try omega; done)) [-getElem?_pos, -getElem?_neg]; refine hK _ _ ?_; clear hK K)
  refine aw_seq ?_
  refine aw_seq ?_
  (refine aw_ops (by kernel_rfl) (fun K hK => ?_); simp (disch := first | omega | (simp only [List.length_set, List.length_append, List.length_cons, List.length_nil, iv_length, zl_length]; try omega; done)) [-getElem?_pos, -getElem?_neg]; refine hK _ _ ?_; clear hK K)
  refine aw_f (by (first | (simp [eval_tmp, put_at]; done) | (simp [eval_tmp, put_at]; omega))) (by kernel_rfl) ?_
  refine aw_skip ?_
  refine aw_seq ?_
  (refine aw_ops (by kernel_rfl) (fun K hK => ?_); simp (disch := first | omega | (simp only [List.length_set, List.length_append, List.length_cons, List.length_nil, iv_length, zl_length]; try omega; done)) [-getElem?_pos, -getElem?_neg, hp]; refine hK _ _ ?_; clear hK K)
  (refine aw_ret ?_; simp (disch := first | omega | (simp only [List.length_set, List.length_append, List.length_cons, List.length_nil, iv_length, zl_length]; try omega; done)) [-getElem?_pos, -getElem?_neg, thenQ_ret, scopeQ_ret, inBlockQ_ret, RQ, resL, resV])
theorem blocks_nil : AC Tryd.prog nro γ 30 #[.pointer none] H (fun v' H' => v' = .int .i64 0 ∧ H' = H) := by
  refine ac_of_aw Tryd.func30 rfl Tryd.ntmps30 Tryd.results30 (by simp) ?_
  refine aw_seq ?_
  (refine aw_ops (by kernel_rfl) (fun K hK => ?_); simp (disch := first | omega | (simp only [List.length_set, List.length_append, List.length_cons, List.length_nil, iv_length, zl_length]; try omega; done)) [-getElem?_pos, -getElem?_neg]; refine hK _ _ ?_; clear hK K)
  refine aw_seq ?_
  refine aw_seq ?_
  (refine aw_ops (by kernel_rfl) (fun K hK => ?_); simp (disch := first | omega | (simp only [List.length_set, List.length_append, List.length_cons, List.length_nil, iv_length, zl_length]; try omega; done)) [-getElem?_pos, -getElem?_neg]; refine hK _ _ ?_; clear hK K)
  refine aw_t (by (first | (simp [eval_tmp, put_at]; done) | (simp [eval_tmp, put_at]; omega))) (by kernel_rfl) ?_
  refine aw_seq ?_
  (refine aw_ops (by kernel_rfl) (fun K hK => ?_); simp (disch := first | omega | (simp only [List.length_set, List.length_append, List.length_cons, List.length_nil, iv_length, zl_length]; try omega; done)) [-getElem?_pos, -getElem?_neg]; refine hK _ _ ?_; clear hK K)
  (refine aw_ret ?_; simp (disch := first | omega | (simp only [List.length_set, List.length_append, List.length_cons, List.length_nil, iv_length, zl_length]; try omega; done)) [-getElem?_pos, -getElem?_neg, thenQ_ret, scopeQ_ret, inBlockQ_ret, RQ, resL, resV])
/-- Is there such a block? -/
def hasB (n : Nat) (at_ : Int) : Bool := decide (0 ≤ at_) && decide (at_ < n)
theorem has_ac (h : Dk H p F D) (at_ : Int) : AC Tryd.prog nro γ 47 #[.pointer (some ⟨p, 0, none⟩), .int .i64 at_] H (fun v' H' => v' = .bool (hasB D.firm.length at_) ∧ H' = H) := by
  refine ac_of_aw Tryd.func47 rfl Tryd.ntmps47 Tryd.results47 (by simp) ?_
  refine aw_seq ?_
  (refine aw_ops (by kernel_rfl) (fun K hK => ?_); simp (disch := first | omega | (simp only [List.length_set, List.length_append, List.length_cons, List.length_nil, iv_length, zl_length]; try omega; done)) [-getElem?_pos, -getElem?_neg]; refine hK _ _ ?_; clear hK K)
  refine aw_seq ?_
  refine aw_ops (by kernel_rfl) (fun K hK => ?_)
  by_cases hc : 0 ≤ at_
  · simp (disch := first | omega | (simp only [List.length_set, List.length_append, List.length_cons, List.length_nil, iv_length, zl_length]; try omega; done)) [-getElem?_pos, -getElem?_neg, hc]
    refine ⟨by kernel_rfl, (blocks_ac h).mono ?_⟩
    rintro v H' ⟨rfl, rfl⟩
    simp (disch := first | omega | (simp only [List.length_set, List.length_append, List.length_cons, List.length_nil, iv_length, zl_length]; try omega; done)) [-getElem?_pos, -getElem?_neg, hc]
    refine hK _ _ ?_; clear hK K
    (refine aw_ret ?_; simp (disch := first | omega | (simp only [List.length_set, List.length_append, List.length_cons, List.length_nil, iv_length, zl_length]; try omega; done)) [-getElem?_pos, -getElem?_neg, thenQ_ret, scopeQ_ret, inBlockQ_ret, RQ, resL, resV])
    simp [hasB, hc]
  · simp (disch := first | omega | (simp only [List.length_set, List.length_append, List.length_cons, List.length_nil, iv_length, zl_length]; try omega; done)) [-getElem?_pos, -getElem?_neg, hc]
    refine hK _ _ ?_; clear hK K
    (refine aw_ret ?_; simp (disch := first | omega | (simp only [List.length_set, List.length_append, List.length_cons, List.length_nil, iv_length, zl_length]; try omega; done)) [-getElem?_pos, -getElem?_neg, thenQ_ret, scopeQ_ret, inBlockQ_ret, RQ, resL, resV])
    simp [hasB, hc]
theorem has_nil (at_ : Int) : AC Tryd.prog nro γ 47 #[.pointer none, .int .i64 at_] H (fun v' H' => v' = .bool false ∧ H' = H) := by
  refine ac_of_aw Tryd.func47 rfl Tryd.ntmps47 Tryd.results47 (by simp) ?_
  refine aw_seq ?_
  (refine aw_ops (by kernel_rfl) (fun K hK => ?_); simp (disch := first | omega | (simp only [List.length_set, List.length_append, List.length_cons, List.length_nil, iv_length, zl_length]; try omega; done)) [-getElem?_pos, -getElem?_neg]; refine hK _ _ ?_; clear hK K)
  refine aw_seq ?_
  refine aw_ops (by kernel_rfl) (fun K hK => ?_)
  by_cases hc : 0 ≤ at_
  · simp (disch := first | omega | (simp only [List.length_set, List.length_append, List.length_cons, List.length_nil, iv_length, zl_length]; try omega; done)) [-getElem?_pos, -getElem?_neg, hc]
    refine ⟨by kernel_rfl, (blocks_nil).mono ?_⟩
    rintro v H' ⟨rfl, rfl⟩
    simp (disch := first | omega | (simp only [List.length_set, List.length_append, List.length_cons, List.length_nil, iv_length, zl_length]; try omega; done)) [-getElem?_pos, -getElem?_neg, hc]
    refine hK _ _ ?_; clear hK K
    (refine aw_ret ?_; simp (disch := first | omega | (simp only [List.length_set, List.length_append, List.length_cons, List.length_nil, iv_length, zl_length]; try omega; done)) [-getElem?_pos, -getElem?_neg, thenQ_ret, scopeQ_ret, inBlockQ_ret, RQ, resL, resV])
  · simp (disch := first | omega | (simp only [List.length_set, List.length_append, List.length_cons, List.length_nil, iv_length, zl_length]; try omega; done)) [-getElem?_pos, -getElem?_neg, hc]
    refine hK _ _ ?_; clear hK K
    (refine aw_ret ?_; simp (disch := first | omega | (simp only [List.length_set, List.length_append, List.length_cons, List.length_nil, iv_length, zl_length]; try omega; done)) [-getElem?_pos, -getElem?_neg, thenQ_ret, scopeQ_ret, inBlockQ_ret, RQ, resL, resV])
theorem dead_ac (h : Dk H p F D) : AC Tryd.prog nro γ 49 #[.pointer (some ⟨p, 0, none⟩)] H (fun v' H' => v' = .bool D.dead ∧ H' = H) := by
  obtain ⟨ho, s, l, U, FU, rfl, h⟩ := h
  have hp := h.hp
  refine ac_of_aw Tryd.func49 rfl Tryd.ntmps49 Tryd.results49 (by simp) ?_
  refine aw_seq ?_
  (refine aw_ops (by kernel_rfl) (fun K hK => ?_); simp (disch := first | omega | (simp only [List.length_set, List.length_append, List.length_cons, List.length_nil, iv_length, zl_length]; try omega; done)) [-getElem?_pos, -getElem?_neg]; refine hK _ _ ?_; clear hK K)
  refine aw_seq ?_
  (refine aw_ops (by kernel_rfl) (fun K hK => ?_); simp (disch := first | omega | (simp only [List.length_set, List.length_append, List.length_cons, List.length_nil, iv_length, zl_length]; try omega; done)) [-getElem?_pos, -getElem?_neg, hp]; refine hK _ _ ?_; clear hK K)
  (refine aw_ret ?_; simp (disch := first | omega | (simp only [List.length_set, List.length_append, List.length_cons, List.length_nil, iv_length, zl_length]; try omega; done)) [-getElem?_pos, -getElem?_neg, thenQ_ret, scopeQ_ret, inBlockQ_ret, RQ, resL, resV])
theorem dead_nil : AC Tryd.prog nro γ 49 #[.pointer none] H (fun v' H' => v' = .bool true ∧ H' = H) := by
  refine ac_of_aw Tryd.func49 rfl Tryd.ntmps49 Tryd.results49 (by simp) ?_
  refine aw_seq ?_
  (refine aw_ops (by kernel_rfl) (fun K hK => ?_); simp (disch := first | omega | (simp only [List.length_set, List.length_append, List.length_cons, List.length_nil, iv_length, zl_length]; try omega; done)) [-getElem?_pos, -getElem?_neg]; refine hK _ _ ?_; clear hK K)
  refine aw_seq ?_
  (refine aw_ops (by kernel_rfl) (fun K hK => ?_); simp (disch := first | omega | (simp only [List.length_set, List.length_append, List.length_cons, List.length_nil, iv_length, zl_length]; try omega; done)) [-getElem?_pos, -getElem?_neg]; refine hK _ _ ?_; clear hK K)
  (refine aw_ret ?_; simp (disch := first | omega | (simp only [List.length_set, List.length_append, List.length_cons, List.length_nil, iv_length, zl_length]; try omega; done)) [-getElem?_pos, -getElem?_neg, thenQ_ret, scopeQ_ret, inBlockQ_ret, RQ, resL, resV])
/-- A block's text, and the error. -/
theorem row_of {L : List ByteArray} (h : ∀ r ∈ L, r.size = 256) {i : Nat} (hi : i < L.length) : ∃ r, L[i]? = some r ∧ r.size = 256 ∧ (fc L).length = L.length * 256 ∧ ((fc L).drop (i * 256)).take 256 = sv r :=
  ⟨L[i], List.getElem?_eq_getElem hi, h _ (List.getElem_mem hi), fc_len h, fc_get h (List.getElem?_eq_getElem hi)⟩
def readV (L : List ByteArray) (at_ : Int) : ByteArray := if hasB L.length at_ = true then L.getD at_.toNat ⟨#[]⟩ else ⟨#[]⟩
theorem read_ac (h : Dk H p F D) (at_ : Int) : AC Tryd.prog nro γ 31 #[.pointer (some ⟨p, 0, none⟩), .int .i64 at_] H (fun v' H' => v' = .tuple #[.string (readV D.late at_), .int .i64 (if hasB D.firm.length at_ = true then 0 else 1)] ∧ H' = H) := by
  have hh := has_ac (nro := nro) (γ := γ) h at_
  obtain ⟨ho, s, l, U, FU, rfl, h⟩ := h
  have hp := h.hp
  have hs := h.hl
  have hr : ∀ r ∈ D.late, r.size = 256 := late_rows ho.rows (fun w hw => (ho.uns w hw).2)
  have hll : D.late.length = D.firm.length := late_len _ _
  refine ac_of_aw Tryd.func31 rfl Tryd.ntmps31 Tryd.results31 (by simp) ?_
  refine aw_seq ?_
  (refine aw_ops (by kernel_rfl) (fun K hK => ?_); simp (disch := first | omega | (simp only [List.length_set, List.length_append, List.length_cons, List.length_nil, iv_length, zl_length]; try omega; done)) [-getElem?_pos, -getElem?_neg]; refine hK _ _ ?_; clear hK K)
  refine aw_seq ?_
  refine aw_seq ?_
  refine aw_ops (by kernel_rfl) (fun K hK => ?_)
  simp (disch := first | omega | (simp only [List.length_set, List.length_append, List.length_cons, List.length_nil, iv_length, zl_length]; try omega; done)) [-getElem?_pos, -getElem?_neg]
  refine ⟨by kernel_rfl, hh.mono ?_⟩
  rintro v H' ⟨rfl, rfl⟩
  simp (disch := first | omega | (simp only [List.length_set, List.length_append, List.length_cons, List.length_nil, iv_length, zl_length]; try omega; done)) [-getElem?_pos, -getElem?_neg]
  refine hK _ _ ?_; clear hK K
  cases hc : hasB D.firm.length at_ with
  | false =>
    refine aw_t (by (first | (simp [eval_tmp, put_at, hc]; done) | (simp [eval_tmp, put_at, hc]; omega))) (by kernel_rfl) ?_
    refine aw_seq ?_
    (refine aw_ops (by kernel_rfl) (fun K hK => ?_); simp (disch := first | omega | (simp only [List.length_set, List.length_append, List.length_cons, List.length_nil, iv_length, zl_length]; try omega; done)) [-getElem?_pos, -getElem?_neg]; refine hK _ _ ?_; clear hK K)
    (refine aw_ret ?_; simp (disch := first | omega | (simp only [List.length_set, List.length_append, List.length_cons, List.length_nil, iv_length, zl_length]; try omega; done)) [-getElem?_pos, -getElem?_neg, thenQ_ret, scopeQ_ret, inBlockQ_ret, RQ, resL, resV])
    simp [readV, hll, hc]
  | true =>
    refine aw_f (by (first | (simp [eval_tmp, put_at, hc]; done) | (simp [eval_tmp, put_at, hc]; omega))) (by kernel_rfl) ?_
    refine aw_skip ?_
    refine aw_seq ?_
    have hcc := hc
    simp only [hasB, Bool.and_eq_true, decide_eq_true_eq] at hcc
    obtain ⟨i, rfl⟩ : ∃ i : Nat, at_ = (i : Nat) := ⟨at_.toNat, by omega⟩
    have hi : i < D.late.length := by omega
    obtain ⟨r, h1, h2, h3, h4⟩ := row_of hr hi
    have h5 := sv_bytes r
    have hle : i * 256 + 256 ≤ (fc D.late).length := by rw [h3]; omega
    have hnl := nums_len r
    have hg : readV D.late (i : Nat) = r := by simp [readV, hll, hc, h1]
    have ho := of_nums' r
    (refine aw_ops (by kernel_rfl) (fun K hK => ?_); simp (disch := first | omega | (simp only [List.length_set, List.length_append, List.length_cons, List.length_nil, iv_length, zl_length]; try omega; done)) [-getElem?_pos, -getElem?_neg, hp, hs, h4, h5, hnl, h2, ho]; refine hK _ _ ?_; clear hK K)
    (refine aw_ret ?_; simp (disch := first | omega | (simp only [List.length_set, List.length_append, List.length_cons, List.length_nil, iv_length, zl_length]; try omega; done)) [-getElem?_pos, -getElem?_neg, thenQ_ret, scopeQ_ret, inBlockQ_ret, RQ, resL, resV])
    simp [hg, hc]
end
end

section
open Go Go.RowKit
set_option linter.unusedVariables false
set_option linter.unusedSimpArgs false
set_option maxRecDepth 100000
set_option maxHeartbeats 4000000

def DM.burn (D : DM) : DM := if D.fuse = 0 then { D with dead := true } else if 0 < D.fuse then { D with fuse := D.fuse - 1 } else D
def DM.burnV (D : DM) : Int := if D.fuse = 0 then 7 else 0
theorem burn_firm (D : DM) : D.burn.firm = D.firm := by unfold DM.burn; split <;> (try split) <;> rfl
theorem burn_uns (D : DM) : D.burn.uns = D.uns := by unfold DM.burn; split <;> (try split) <;> rfl
theorem DM.Ok.upd {D D' : DM} (h : D.Ok) (hf : D'.firm = D.firm) (hu : D'.uns = D.uns) (hz : -1 ≤ D'.fuse ∧ D'.fuse ≤ 9223372036854775807) : D'.Ok :=
  ⟨by rw [hf]; exact h.one, by rw [hf]; exact h.most, by rw [hf]; exact h.rows, by rw [hf, hu]; exact h.uns, hz, by rw [hu]; exact h.few⟩
theorem fr_set {H : AH} {F : List Nat} {p : Nat} {x : Option Blk} (hp : p ∈ F) : Fr H (H.set p x) F F :=
  ⟨by simp, fun j hj hn => hget_set_ne (fun e => hn (e ▸ hp)), fun j h => .inl h⟩
theorem fr_push (H L : AH) (F : List Nat) : Fr H (H ++ L) F F := ⟨by simp, fun j hj _ => hget_left hj, fun j h => .inl h⟩
theorem DkR.upd {H : AH} {p s l : Nat} {U : Value} {FU : List Nat} {D D' : DM} (h : DkR H p s l U FU D) (ho : D.Ok) (hf : D'.firm = D.firm) (hu : D'.uns = D.uns) (hz : -1 ≤ D'.fuse ∧ D'.fuse ≤ 9223372036854775807) :
    Dk (H.set p (some ⟨[.slice (some ⟨s, 0, none⟩) D.firm.length D.firm.length, .slice (some ⟨l, 0, none⟩) D.firm.length D.firm.length, U, .int .i64 D'.fuse, .bool D'.dead], 61, none⟩)) p (p :: s :: l :: FU) D' := by
  have hl : D'.late = D.late := by unfold DM.late; rw [hf, hu]
  have hpl := hget_lt h.hp
  refine ⟨ho.upd hf hu hz, s, l, U, FU, rfl, ⟨by rw [hget_set_eq hpl, hf], by rw [hget_set_ne h.ps, hf]; exact h.hs, by rw [hget_set_ne h.pl, hl]; exact h.hl, ?_, h.ps, h.pl, h.sl, h.fu⟩⟩
  rw [hu]
  exact h.hu.low (fun j hj => hget_set_ne (fun e => h.fu.1 (e ▸ hj)))
attribute [local simp] wb_bool wb_undef XL_nil XL_cons XLc_val XLc_call step1_eq stepW_t stepW_f stepC_n stepC_s stepX_s stepX_n stepN_s calleeX oneV xop_eq xopR_s xopR_n wantedA_eq wantedG_n wantedG_s plain1_int plain1_bool plain1_string bits_i64 bits_u64 bits_u32 bits_u16 bits_u8 xeqA xagg xcmp xarr allK_iv num_iv calleeOf xread xeff xbin xint xnil xun xstr xload xconv xpart xfield xfieldAddr xindexAddr xindex bnd asInt? xslice xlen xmin xmax xbuild xfill xappend xapp2 xappstr xappmk xcap xcopy xcells eval_tmp eval_const put_at put_none fr0_at cells_agg cells_int cells_bool cells_string cells_ptr cells_slice notTuple tab iv_all hget_app hget_app0 hget_cons0 hget_cons set_app set_app0 setR setR_one QL_nil QL_cons QLc_val stepQ_t stepQ_f stepQC_n stepQC_s stepQX_s SL_nil SL_cons SLc_val stepS_t stepS_f ltT ltF leT leF eqT eqF ltTn ltFn leTn leFn eqTn eqFn beqT beqF bneT bneF wi64 wu64 wu32 wu16 wu8 tmodP tdivP hgetL hgetNe hgetEq setL nums_def nums_len Nat.succ_le_of_lt List.getElem?_cons_zero List.getElem?_cons_succ Option.getD_some Int.toNat_add Int.toNat_mul agB agI agS agP agL agA okB okI okS okP okSl okA

section
variable {H : AH} {γ : Nat → Option Nat} {nro p : Nat} {F : List Nat} {D : DM}
theorem burn_ac (h : Dk H p F D) (hn : nro ≤ p) : AC Tryd.prog nro γ 48 #[.pointer (some ⟨p, 0, none⟩)] H (fun v' H' => v' = .int .i64 D.burnV ∧ Dk H' p F D.burn ∧ Fr H H' F F) := by
  obtain ⟨ho, s, l, U, FU, rfl, h⟩ := h
  have hp := h.hp
  have hpl := hget_lt hp
  have hz := ho.fuse
  refine ac_of_aw Tryd.func48 rfl Tryd.ntmps48 Tryd.results48 (by simp) ?_
  refine aw_seq ?_
  (refine aw_ops (by kernel_rfl) (fun K hK => ?_); simp (disch := first | omega | (simp only [List.length_set, List.length_append, List.length_cons, List.length_nil, iv_length, zl_length]; try omega; done)) [-getElem?_pos, -getElem?_neg]; refine hK _ _ ?_; clear hK K)
  refine aw_seq ?_
  refine aw_block ?_
  refine aw_seq ?_
  by_cases h0 : D.fuse = 0
  · (refine aw_ops (by kernel_rfl) (fun K hK => ?_); simp (disch := first | omega | (simp only [List.length_set, List.length_append, List.length_cons, List.length_nil, iv_length, zl_length]; try omega; done)) [-getElem?_pos, -getElem?_neg, hp, h0]; refine hK _ _ ?_; clear hK K)
    refine aw_t (by (first | (simp [eval_tmp, put_at, h0]; done) | (simp [eval_tmp, put_at, h0]; omega))) (by kernel_rfl) ?_
    refine aw_seq ?_
    (refine aw_ops (by kernel_rfl) (fun K hK => ?_); simp (disch := first | omega | (simp only [List.length_set, List.length_append, List.length_cons, List.length_nil, iv_length, zl_length]; try omega; done)) [-getElem?_pos, -getElem?_neg, hp, h0]; refine hK _ _ ?_; clear hK K)
    refine aw_seq ?_
    (refine aw_ops (by kernel_rfl) (fun K hK => ?_); simp (disch := first | omega | (simp only [List.length_set, List.length_append, List.length_cons, List.length_nil, iv_length, zl_length]; try omega; done)) [-getElem?_pos, -getElem?_neg]; refine hK _ _ ?_; clear hK K)
    (refine aw_ret ?_; simp (disch := first | omega | (simp only [List.length_set, List.length_append, List.length_cons, List.length_nil, iv_length, zl_length]; try omega; done)) [-getElem?_pos, -getElem?_neg, thenQ_ret, scopeQ_ret, inBlockQ_ret, RQ, resL, resV])
    have hb : D.burn = { D with dead := true } := by simp [DM.burn, h0]
    refine ⟨by simp [DM.burnV, h0], ?_, fr_set (by simp)⟩
    rw [hb]
    have := h.upd (D' := { D with dead := true }) ho rfl rfl hz
    simpa only [h0] using this
  · (refine aw_ops (by kernel_rfl) (fun K hK => ?_); simp (disch := first | omega | (simp only [List.length_set, List.length_append, List.length_cons, List.length_nil, iv_length, zl_length]; try omega; done)) [-getElem?_pos, -getElem?_neg, hp, h0]; refine hK _ _ ?_; clear hK K)
    refine aw_f (by (first | (simp [eval_tmp, put_at, h0]; done) | (simp [eval_tmp, put_at, h0]; omega))) (by kernel_rfl) ?_
    refine aw_seq ?_
    by_cases h1 : 0 < D.fuse
    · (refine aw_ops (by kernel_rfl) (fun K hK => ?_); simp (disch := first | omega | (simp only [List.length_set, List.length_append, List.length_cons, List.length_nil, iv_length, zl_length]; try omega; done)) [-getElem?_pos, -getElem?_neg, hp, h1]; refine hK _ _ ?_; clear hK K)
      refine aw_t (by (first | (simp [eval_tmp, put_at, h1]; done) | (simp [eval_tmp, put_at, h1]; omega))) (by kernel_rfl) ?_
      (refine aw_ops (by kernel_rfl) (fun K hK => ?_); simp (disch := first | omega | (simp only [List.length_set, List.length_append, List.length_cons, List.length_nil, iv_length, zl_length]; try omega; done)) [-getElem?_pos, -getElem?_neg, hp]; refine hK _ _ ?_; clear hK K)
      refine aw_seq ?_
      (refine aw_ops (by kernel_rfl) (fun K hK => ?_); simp (disch := first | omega | (simp only [List.length_set, List.length_append, List.length_cons, List.length_nil, iv_length, zl_length]; try omega; done)) [-getElem?_pos, -getElem?_neg]; refine hK _ _ ?_; clear hK K)
      (refine aw_ret ?_; simp (disch := first | omega | (simp only [List.length_set, List.length_append, List.length_cons, List.length_nil, iv_length, zl_length]; try omega; done)) [-getElem?_pos, -getElem?_neg, thenQ_ret, scopeQ_ret, inBlockQ_ret, RQ, resL, resV])
      have hb : D.burn = { D with fuse := D.fuse - 1 } := by simp [DM.burn, h0, h1]
      refine ⟨by simp [DM.burnV, h0], ?_, fr_set (by simp)⟩
      rw [hb]
      exact h.upd (D' := { D with fuse := D.fuse - 1 }) ho rfl rfl (by simp only; omega)
    · (refine aw_ops (by kernel_rfl) (fun K hK => ?_); simp (disch := first | omega | (simp only [List.length_set, List.length_append, List.length_cons, List.length_nil, iv_length, zl_length]; try omega; done)) [-getElem?_pos, -getElem?_neg, hp, h1]; refine hK _ _ ?_; clear hK K)
      refine aw_f (by (first | (simp [eval_tmp, put_at, h1]; done) | (simp [eval_tmp, put_at, h1]; omega))) (by kernel_rfl) ?_
      refine aw_skip ?_
      refine aw_seq ?_
      (refine aw_ops (by kernel_rfl) (fun K hK => ?_); simp (disch := first | omega | (simp only [List.length_set, List.length_append, List.length_cons, List.length_nil, iv_length, zl_length]; try omega; done)) [-getElem?_pos, -getElem?_neg]; refine hK _ _ ?_; clear hK K)
      (refine aw_ret ?_; simp (disch := first | omega | (simp only [List.length_set, List.length_append, List.length_cons, List.length_nil, iv_length, zl_length]; try omega; done)) [-getElem?_pos, -getElem?_neg, thenQ_ret, scopeQ_ret, inBlockQ_ret, RQ, resL, resV])
      have hb : D.burn = D := by simp [DM.burn, h0, h1]
      rw [hb]
      exact ⟨by simp [DM.burnV, h0], ⟨ho, s, l, U, FU, rfl, h⟩, Fr.refl _ _⟩
/-- Writing. -/
def okW (D : DM) (at_ : Int) (t : ByteArray) : Bool := hasB D.firm.length at_ && decide (t.size = 256)
def DM.put (D : DM) (at_ : Int) (t : ByteArray) : DM := { D with uns := D.uns ++ [(at_.toNat, t)] }
def DM.write (D : DM) (at_ : Int) (t : ByteArray) : DM := if okW D at_ t = true ∧ D.dead = false then (D.put at_ t).burn else D
def DM.writeV (D : DM) (at_ : Int) (t : ByteArray) : Int := if okW D at_ t = true then (if D.dead = true then 7 else (D.put at_ t).burnV) else 1
theorem dwrite_ac (h : Dk H p F D) (hn : ∀ j ∈ F, nro ≤ j) (hfew : D.uns.length < 1000) (at_ : Int) (t : ByteArray) :
    AC Tryd.prog nro γ 26 #[.pointer (some ⟨p, 0, none⟩), .int .i64 at_, .string t] H (fun v' H' => v' = .int .i64 (D.writeV at_ t) ∧ ∃ F', Dk H' p F' (D.write at_ t) ∧ Fr H H' F F') := by
  have hdk := h
  have hh := has_ac (nro := nro) (γ := γ) h at_
  obtain ⟨ho, s, l, U, FU, rfl, h⟩ := h
  have hp := h.hp
  have hpl := hget_lt hp
  have hnp : nro ≤ p := hn p (by simp)
  have hnl : nro ≤ l := hn l (by simp)
  refine ac_of_aw Tryd.func26 rfl Tryd.ntmps26 Tryd.results26 (by simp) ?_
  refine aw_seq ?_
  (refine aw_ops (by kernel_rfl) (fun K hK => ?_); simp (disch := first | omega | (simp only [List.length_set, List.length_append, List.length_cons, List.length_nil, iv_length, zl_length]; try omega; done)) [-getElem?_pos, -getElem?_neg]; refine hK _ _ ?_; clear hK K)
  refine aw_seq ?_
  refine aw_seq ?_
  refine aw_ops (by kernel_rfl) (fun K hK => ?_)
  simp (disch := first | omega | (simp only [List.length_set, List.length_append, List.length_cons, List.length_nil, iv_length, zl_length]; try omega; done)) [-getElem?_pos, -getElem?_neg]
  refine ⟨by kernel_rfl, hh.mono ?_⟩
  rintro v H' ⟨rfl, rfl⟩
  cases hok : okW D at_ t with
  | false =>
    have hww : D.writeV at_ t = 1 := by simp [DM.writeV, hok]
    have hwd : D.write at_ t = D := by simp [DM.write, hok]
    cases hb : hasB D.firm.length at_ with
    | false =>
      simp (disch := first | omega | (simp only [List.length_set, List.length_append, List.length_cons, List.length_nil, iv_length, zl_length]; try omega; done)) [-getElem?_pos, -getElem?_neg, hb]
      refine hK _ _ ?_; clear hK K
      refine aw_t (by (first | (simp [eval_tmp, put_at]; done) | (simp [eval_tmp, put_at]; omega))) (by kernel_rfl) ?_
      refine aw_seq ?_
      (refine aw_ops (by kernel_rfl) (fun K hK => ?_); simp (disch := first | omega | (simp only [List.length_set, List.length_append, List.length_cons, List.length_nil, iv_length, zl_length]; try omega; done)) [-getElem?_pos, -getElem?_neg]; refine hK _ _ ?_; clear hK K)
      (refine aw_ret ?_; simp (disch := first | omega | (simp only [List.length_set, List.length_append, List.length_cons, List.length_nil, iv_length, zl_length]; try omega; done)) [-getElem?_pos, -getElem?_neg, thenQ_ret, scopeQ_ret, inBlockQ_ret, RQ, resL, resV, hww, hwd])
      exact ⟨_, hdk, Fr.refl _ _⟩
    | true =>
      have hs : t.size ≠ 256 := by intro e; simp [okW, hb, e] at hok
      have hs' : ¬ (t.size : Int) = 256 := by omega
      simp (disch := first | omega | (simp only [List.length_set, List.length_append, List.length_cons, List.length_nil, iv_length, zl_length]; try omega; done)) [-getElem?_pos, -getElem?_neg, hb, hs, hs']
      refine hK _ _ ?_; clear hK K
      refine aw_t (by (first | (simp [eval_tmp, put_at, hs, hs']; done) | (simp [eval_tmp, put_at, hs, hs']; omega))) (by kernel_rfl) ?_
      refine aw_seq ?_
      (refine aw_ops (by kernel_rfl) (fun K hK => ?_); simp (disch := first | omega | (simp only [List.length_set, List.length_append, List.length_cons, List.length_nil, iv_length, zl_length]; try omega; done)) [-getElem?_pos, -getElem?_neg]; refine hK _ _ ?_; clear hK K)
      (refine aw_ret ?_; simp (disch := first | omega | (simp only [List.length_set, List.length_append, List.length_cons, List.length_nil, iv_length, zl_length]; try omega; done)) [-getElem?_pos, -getElem?_neg, thenQ_ret, scopeQ_ret, inBlockQ_ret, RQ, resL, resV, hww, hwd])
      exact ⟨_, hdk, Fr.refl _ _⟩
  | true =>
    have hokk := hok
    simp only [okW, Bool.and_eq_true, decide_eq_true_eq] at hokk
    obtain ⟨hb, hs⟩ := hokk
    have hs' : (t.size : Int) = 256 := by omega
    simp (disch := first | omega | (simp only [List.length_set, List.length_append, List.length_cons, List.length_nil, iv_length, zl_length]; try omega; done)) [-getElem?_pos, -getElem?_neg, hb, hs, hs']
    refine hK _ _ ?_; clear hK K
    refine aw_f (by (first | (simp [eval_tmp, put_at]; done) | (simp [eval_tmp, put_at]; omega))) (by kernel_rfl) ?_
    refine aw_skip ?_
    refine aw_seq ?_
    refine aw_seq ?_
    (refine aw_ops (by kernel_rfl) (fun K hK => ?_); simp (disch := first | omega | (simp only [List.length_set, List.length_append, List.length_cons, List.length_nil, iv_length, zl_length]; try omega; done)) [-getElem?_pos, -getElem?_neg, hp]; refine hK _ _ ?_; clear hK K)
    cases hd : D.dead with
    | true =>
      have hww : D.writeV at_ t = 7 := by simp [DM.writeV, hok, hd]
      have hwd : D.write at_ t = D := by simp [DM.write, hok, hd]
      refine aw_t (by (first | (simp [eval_tmp, put_at, hd]; done) | (simp [eval_tmp, put_at, hd]; omega))) (by kernel_rfl) ?_
      refine aw_seq ?_
      (refine aw_ops (by kernel_rfl) (fun K hK => ?_); simp (disch := first | omega | (simp only [List.length_set, List.length_append, List.length_cons, List.length_nil, iv_length, zl_length]; try omega; done)) [-getElem?_pos, -getElem?_neg]; refine hK _ _ ?_; clear hK K)
      (refine aw_ret ?_; simp (disch := first | omega | (simp only [List.length_set, List.length_append, List.length_cons, List.length_nil, iv_length, zl_length]; try omega; done)) [-getElem?_pos, -getElem?_neg, thenQ_ret, scopeQ_ret, inBlockQ_ret, RQ, resL, resV, hww, hwd])
      exact ⟨_, hdk, Fr.refl _ _⟩
    | false =>
      have hww : D.writeV at_ t = (D.put at_ t).burnV := by simp [DM.writeV, hok, hd]
      have hwd : D.write at_ t = (D.put at_ t).burn := by simp [DM.write, hok, hd]
      refine aw_f (by (first | (simp [eval_tmp, put_at, hd]; done) | (simp [eval_tmp, put_at, hd]; omega))) (by kernel_rfl) ?_
      refine aw_skip ?_
      have hbb := hb
      simp only [hasB, Bool.and_eq_true, decide_eq_true_eq] at hbb
      obtain ⟨i, rfl⟩ : ∃ i : Nat, at_ = (i : Nat) := ⟨at_.toNat, by omega⟩
      have hi : i < D.firm.length := by omega
      have hlr : ∀ r ∈ D.late, r.size = 256 := late_rows ho.rows (fun w hw => (ho.uns w hw).2)
      have hll : D.late.length = D.firm.length := late_len _ _
      have hhl := h.hl
      have hfl := fc_len hlr
      have hfs := fc_set hlr (by omega) hs (k := i)
      have hsv : iv .u8 (nums t) = sv t := rfl
      have hst : (sv t).take 256 = sv t := List.take_of_length_le (by simp [hs])
      have hsl : (sv t).length = 256 := by simp [hs]
      have hpt : D.put (i : Nat) t = { D with uns := D.uns ++ [(i, t)] } := by simp [DM.put]
      have hset : ∀ x : Value, setR (x :: iv .u8 (zl 256)) 1 (sv t) = x :: sv t := fun x => by
        have := setR_right [x] (iv .u8 (zl 256)) (sv t) 0 (by simp [hs])
        rw [setR_all _ _ (by simp [hs])] at this
        exact this
      have hset0 : ∀ x : Value, setR (x :: iv .u8 (zl 256)) 1 (iv .u8 (zl 256)) = x :: iv .u8 (zl 256) := fun x => by
        have := setR_right [x] (iv .u8 (zl 256)) (iv .u8 (zl 256)) 0 (by simp)
        rw [setR_all _ _ (by simp)] at this
        exact this
      have hlt : ∀ j ∈ FU, j < H'.length := fun j hj => hdk.lt j (by simp [hj])
      have hll' := hget_lt hhl
      have hss' := hget_lt h.hs
      have hps := h.ps
      have hpl2 := h.pl
      have hsl2 := h.sl
      have hfu := h.fu
      refine aw_seq ?_
      (refine aw_ops (by kernel_rfl) (fun K hK => ?_); simp (disch := first | omega | (simp only [List.length_set, List.length_append, List.length_cons, List.length_nil, iv_length, zl_length]; try omega; done)) [-getElem?_pos, -getElem?_neg, hp, hset0]; refine hK _ _ ?_; clear hK K)
      refine aw_seq ?_
      (refine aw_ops (by kernel_rfl) (fun K hK => ?_); simp (disch := first | omega | (simp only [List.length_set, List.length_append, List.length_cons, List.length_nil, iv_length, zl_length]; try omega; done)) [-getElem?_pos, -getElem?_neg, hsv, hst, hset, hsl, hs]; refine hK _ _ ?_; clear hK K)
      refine aw_seq ?_
      (refine aw_plan [] [] [0, 1, 2, 3, 4, 5, 6, 7] 8 1 (by kernel_rfl) (by kernel_rfl) (by kernel_rfl) (fun K hK => ?_)); simp only [sel, List.getElem?_cons_succ, List.getElem?_cons_zero, List.drop_succ_cons, List.drop_zero]; simp (disch := first | omega | (simp only [List.length_set, List.length_append, List.length_cons, List.length_nil, iv_length, zl_length]; try omega; done)) [-getElem?_pos, -getElem?_neg, hp, hhl, hst, hset, hsl, hs, hfl, hfs, PL_nil, PL_cons, PLc_val, PLc_new, stepP_t, stepP_f, stepPC_n, stepPC_s, stepPX_s, stepPX_n, stepPA_t, stepPA_c, stepPA_l, stepPN_s, allocOp, reloc_sl, reloc_ptr, List.map_cons, List.map_nil, List.nil_append, List.append_assoc, List.cons_append, Nat.add_assoc]
      refine hK _ _ ?_; clear hK K
      obtain ⟨X, hX⟩ : ∃ X, X = (some ⟨fc (D.late.set i t), 90, some 256⟩ : Option Blk) := ⟨_, rfl⟩
      obtain ⟨W, hW⟩ : ∃ W, W = (some ⟨.int .i64 (i : Nat) :: sv t, 92, none⟩ : Option Blk) := ⟨_, rfl⟩
      obtain ⟨B, hB⟩ : ∃ B, B = (some ⟨.int .i64 (i : Nat) :: sv t, 92, some 257⟩ : Option Blk) := ⟨_, rfl⟩
      obtain ⟨v2, H2, hap, hown, hlen2, hkeep⟩ := ownF_append (P := Tryd.prog) (nro := nro) (t := 59) (e := 92) (H := H'.set l X ++ [W, B]) (v := U) (x := .slice (some ⟨H'.length + 1, 0, none⟩) 1 1) (sz := 257)
        (cells := uc D.uns) (news := .int .i64 (i : Nat) :: sv t) (F := FU) (by simp) (by simp) (by omega) (by simp) (h.hu.low (fun j hj => by rw [hget_left (by rw [List.length_set]; exact hlt j hj), hget_set_ne (fun e : l = j => hfu.2.2 (by rw [e]; exact hj))]))
        (fun j hj => hn j (by simp [hj])) (fun s e => by cases e) (by simp [xcells, hB, hsl, hst, hga]) (by simp) (by simp [hs]) (by rw [uc_len (fun w hw => (ho.uns w hw).2)]; simp [hs]; omega) (by rw [uc_len (fun w hw => (ho.uns w hw).2)]; simp [hs, maxLen]; omega)
      have hgl : (H'.set l X ++ [W, B]).length = H'.length + 2 := by simp
      have hp2 : hget H2 p = some ⟨[.slice (some ⟨s, 0, none⟩) D.firm.length D.firm.length, .slice (some ⟨l, 0, none⟩) D.firm.length D.firm.length, U, .int .i64 D.fuse, .bool D.dead], 61, none⟩ := by
        rw [hkeep p (by omega) hfu.1, hget_left (by rw [List.length_set]; exact hpl), hget_set_ne (fun e => hpl2 e.symm)]; exact hp
      have hs2 : hget H2 s = some ⟨fc D.firm, 90, some 256⟩ := by
        rw [hkeep s (by omega) hfu.2.1, hget_left (by rw [List.length_set]; exact hss'), hget_set_ne (fun e => hsl2 e.symm)]; exact h.hs
      have hl2 : hget H2 l = some ⟨fc (D.late.set i t), 90, some 256⟩ := by
        rw [hkeep l (by omega) hfu.2.2, hget_left (by rw [List.length_set]; exact hll'), hget_set_eq hll', hX]
      have hpl3 : p < H2.length := by omega
      have hzr : setR (((List.range 257).map fun j => ((Value.int .i64 0 :: iv .u8 (zl 256))[j % 257]?).getD undef).set 0 (.int .i64 (i : Nat))) 1 (sv t) = .int .i64 (i : Nat) :: sv t := setR_all (List.map _ (List.range 257)) (.int .i64 (i : Nat) :: sv t) (by simp [hs])
      have hpln : ∀ x ∈ sv t, plain1 x = true := fun x hx => List.all_eq_true.1 (sv_plain t) x hx
      obtain ⟨len2, rfl⟩ := hown.new
      subst hX hW hB
      refine aw_seq ?_
      (refine aw_plan [] [0] [1, 2, 3, 4, 5, 6] 7 4 (by kernel_rfl) (by kernel_rfl) (by kernel_rfl) (fun K hK => ?_)); simp only [sel, List.getElem?_cons_succ, List.getElem?_cons_zero, List.drop_succ_cons, List.drop_zero]; simp (disch := first | omega | (simp only [List.length_set, List.length_append, List.length_cons, List.length_nil, iv_length, zl_length]; try omega; done)) [-getElem?_pos, -getElem?_neg, -xappend, hap, hp, hst, hsl, hs, hp2, hzr, hga, hga0, PL_nil, PL_cons, PLc_val, PLc_new, stepP_t, stepP_f, stepPC_n, stepPC_s, stepPX_s, stepPX_n, stepPA_t, stepPA_c, stepPA_l, stepPN_s, allocOp, reloc_sl, reloc_ptr, List.map_cons, List.map_nil, List.nil_append, List.append_assoc, List.cons_append, Nat.add_assoc]
      refine ⟨hpln, ?_⟩
      refine hK _ _ ?_; clear hK K
      rw [hgl] at hown
      have hp3 : p ∉ [H'.length + 2] := by rw [List.mem_singleton]; omega
      have hdk2 : Dk (H2.set p (some ⟨[.slice (some ⟨s, 0, none⟩) D.firm.length D.firm.length, .slice (some ⟨l, 0, none⟩) D.firm.length D.firm.length, .slice (some ⟨H'.length + 2, 0, none⟩) len2 len2, .int .i64 D.fuse, .bool false], 61, none⟩)) p (p :: s :: l :: [H'.length + 2]) (D.put (i : Nat) t) := by
        rw [hpt]
        refine ⟨⟨ho.one, ho.most, ho.rows, fun w hw => ?_, ho.fuse, by simp; omega⟩, s, l, .slice (some ⟨H'.length + 2, 0, none⟩) len2 len2, [H'.length + 2], rfl, ⟨by rw [hget_set_eq hpl3, hd], by rw [hget_set_ne hps]; exact hs2, ?_, ?_, hps, hpl2, hsl2, hp3, by rw [List.mem_singleton]; omega, by rw [List.mem_singleton]; omega⟩⟩
        · rcases List.mem_append.1 hw with hw | hw
          · exact ho.uns w hw
          · rw [List.mem_singleton] at hw; subst hw; exact ⟨hi, hs⟩
        · rw [hget_set_ne hpl2, hl2]
          unfold DM.late
          rw [late_app]
        · have := hown.low (H' := H2.set p (some ⟨[.slice (some ⟨s, 0, none⟩) D.firm.length D.firm.length, .slice (some ⟨l, 0, none⟩) D.firm.length D.firm.length, .slice (some ⟨H'.length + 2, 0, none⟩) len2 len2, .int .i64 D.fuse, .bool false], 61, none⟩)) (fun j hj => hget_set_ne (fun e => hp3 (e ▸ hj)))
          have e := uc_app D.uns (i, t)
          simp only at e
          rwa [e] at this
      have hfr2 : Fr H' (H2.set p (some ⟨[.slice (some ⟨s, 0, none⟩) D.firm.length D.firm.length, .slice (some ⟨l, 0, none⟩) D.firm.length D.firm.length, .slice (some ⟨H'.length + 2, 0, none⟩) len2 len2, .int .i64 D.fuse, .bool false], 61, none⟩)) (p :: s :: l :: FU) (p :: s :: l :: [H'.length + 2]) := by
        refine ⟨by simp; omega, fun j hj hnj => ?_, fun j hj => ?_⟩
        · simp only [List.mem_cons, not_or] at hnj
          rw [hget_set_ne (fun e => hnj.1 e.symm), hkeep j (by omega) hnj.2.2.2, hget_left (by rw [List.length_set]; exact hj), hget_set_ne (fun e => hnj.2.2.1 e.symm)]
        · simp only [List.mem_cons, List.not_mem_nil, or_false] at hj ⊢
          rcases hj with h1 | h1 | h1 | h1
          · exact .inl (.inl h1)
          · exact .inl (.inr (.inl h1))
          · exact .inl (.inr (.inr (.inl h1)))
          · right; omega
      have hbn := burn_ac (nro := nro) (γ := γ) hdk2 hnp
      refine aw_seq ?_
      refine aw_ops (by kernel_rfl) (fun K hK => ?_)
      rw [hd]
      simp (disch := first | omega | (simp only [List.length_set, List.length_append, List.length_cons, List.length_nil, iv_length, zl_length]; try omega; done)) [-getElem?_pos, -getElem?_neg]
      refine ⟨by kernel_rfl, hbn.mono ?_⟩
      rintro v H3 ⟨rfl, hdk3, hfr3⟩
      try simp (disch := first | omega | (simp only [List.length_set, List.length_append, List.length_cons, List.length_nil, iv_length, zl_length]; try omega; done)) [-getElem?_pos, -getElem?_neg]
      refine hK _ _ ?_; clear hK K
      (refine aw_ret ?_; simp (disch := first | omega | (simp only [List.length_set, List.length_append, List.length_cons, List.length_nil, iv_length, zl_length]; try omega; done)) [-getElem?_pos, -getElem?_neg, thenQ_ret, scopeQ_ret, inBlockQ_ret, RQ, resL, resV, hww, hwd])
      exact ⟨_, hdk3, hfr2.trans hfr3⟩
end
end

section
open Go Go.RowKit
set_option linter.unusedVariables false
set_option linter.unusedSimpArgs false
set_option maxRecDepth 100000
set_option maxHeartbeats 4000000

def dat (b : Int) (n : Nat) : List Int := (List.range n).map fun i : Nat => IntKind.u8.wrap (b + ((i / 64 : Nat) : Int))
theorem dat_len (b : Int) (n : Nat) : (dat b n).length = n := by simp [dat]
theorem dat_get (b : Int) (n : Nat) {i : Nat} (h : i < n) : (dat b n).getD i 0 = IntKind.u8.wrap (b + ((i / 64 : Nat) : Int)) := by simp [dat, h]
theorem dat_by (b : Int) (n : Nat) : By (dat b n) := by
  intro x hx
  unfold dat at hx
  obtain ⟨i, _, rfl⟩ := List.mem_map.1 hx
  exact by_u8 _
def datS (b long : Int) : ByteArray := strOfNums (dat b (256 + long).toNat)
theorem datS_size (b long : Int) (h : -128 ≤ long) : ((datS b long).size : Int) = 256 + long := by
  unfold datS
  rw [← nums_len, nums_of _ (dat_by _ _), dat_len]
  omega
/-- A new disk's blocks, of noughts. -/
def newN (b : Int) : Nat := (if (if b < 1 then 1 else b) > 1024 then 1024 else (if b < 1 then 1 else b)).toNat
theorem newN_bd (b : Int) : 1 ≤ newN b ∧ newN b ≤ 1024 := by unfold newN; split <;> split <;> omega
def newD (b : Int) : DM := ⟨List.replicate (newN b) (zs 256), [], -1, false⟩
theorem newD_ok (b : Int) : (newD b).Ok := by
  have := newN_bd b
  refine ⟨?_, ?_, fun r hr => ?_, fun w hw => (by cases hw), by simp [newD], by simp [newD]⟩
  · simp [newD]; omega
  · simp [newD]; omega
  · simp only [newD] at hr; rw [List.eq_of_mem_replicate hr]; simp
theorem all_zl (n : Nat) : (∀ (i : Nat) (x : i < n), plain1 ((iv IntKind.u8 (zl n))[i]'(by simpa using x)) = true) = True := by
  refine eq_true fun i x => ?_
  have := List.all_eq_true.1 (iv_all .u8 (zl n)) _ (List.getElem_mem (by simpa using x : i < (iv IntKind.u8 (zl n)).length))
  exact this
theorem fc_plain (l : List ByteArray) : ∀ x ∈ fc l, plain1 x = true := by
  intro x hx
  obtain ⟨r, hr, hx⟩ := List.mem_flatten.1 hx
  obtain ⟨s, _, rfl⟩ := List.mem_map.1 hr
  exact List.all_eq_true.1 (sv_plain s) x hx
theorem plain_nil : plain1 (.slice none 0 0) = true := rfl
theorem rep_fc (n : Nat) : ((List.range (n * 256)).map fun j => ((iv .u8 (zl 256))[j % 256]?).getD undef) = fc (List.replicate n (zs 256)) := by
  simp only [← List.getD_eq_getElem?_getD]
  rw [zero_rows 256 n undef (iv .u8 (zl 256)) (by simp), fc, List.map_replicate, sv_zs]
attribute [local simp] wb_bool wb_undef XL_nil XL_cons XLc_val XLc_call step1_eq stepW_t stepW_f stepC_n stepC_s stepX_s stepX_n stepN_s calleeX oneV xop_eq xopR_s xopR_n wantedA_eq wantedG_n wantedG_s plain1_int plain1_bool plain1_string bits_i64 bits_u64 bits_u32 bits_u16 bits_u8 xeqA xagg xcmp xarr allK_iv num_iv calleeOf xread xeff xbin xint xnil xun xstr xload xconv xpart xfield xfieldAddr xindexAddr xindex bnd asInt? xslice xlen xmin xmax xbuild xfill xappend xapp2 xappstr xappmk xcap xcopy xcells eval_tmp eval_const put_at put_none fr0_at cells_agg cells_int cells_bool cells_string cells_ptr cells_slice notTuple tab iv_all hget_app hget_app0 hget_cons0 hget_cons set_app set_app0 setR setR_one QL_nil QL_cons QLc_val stepQ_t stepQ_f stepQC_n stepQC_s stepQX_s SL_nil SL_cons SLc_val stepS_t stepS_f ltT ltF leT leF eqT eqF ltTn ltFn leTn leFn eqTn eqFn beqT beqF bneT bneF wi64 wu64 wu32 wu16 wu8 tmodP tdivP hgetL hgetNe hgetEq setL nums_def nums_len Nat.succ_le_of_lt List.getElem?_cons_zero List.getElem?_cons_succ Option.getD_some Int.toNat_add Int.toNat_mul agB agI agS agP agL agA okB okI okS okP okSl okA

section
variable {H : AH} {γ : Nat → Option Nat} {nro : Nat}
theorem new_ac (b : Int) (hnro : nro ≤ H.length) : AC Tryd.prog nro γ 7 #[.int .i64 b] H (fun v' H' => v' = .pointer (some ⟨H.length + 2, 0, none⟩) ∧ Dk H' (H.length + 2) [H.length + 2, H.length, H.length + 1] (newD b) ∧ ∃ L, H' = H ++ L) := by
  have hbd := newN_bd b
  have hrep := rep_fc (newN b)
  have hmm : (if (if b < 1 then 1 else b) > 1024 then 1024 else (if b < 1 then 1 else b)) = (newN b : Int) := by unfold newN; split <;> split <;> omega
  refine ac_of_aw Tryd.func7 rfl Tryd.ntmps7 Tryd.results7 (by simp) ?_
  have hmx : newN b ≤ maxLen := by simp only [maxLen]; omega
  have hpl : ∀ n, (iv .u8 (zl n)).all plain1 = true := fun n => iv_all _ _
  refine aw_seq ?_
  (refine aw_ops (by kernel_rfl) (fun K hK => ?_); simp (disch := first | omega | (simp only [List.length_set, List.length_append, List.length_cons, List.length_nil, iv_length, zl_length]; try omega; done)) [-getElem?_pos, -getElem?_neg]; refine hK _ _ ?_; clear hK K)
  refine aw_seq ?_
  (refine aw_ops (by kernel_rfl) (fun K hK => ?_); simp (disch := first | omega | (simp only [List.length_set, List.length_append, List.length_cons, List.length_nil, iv_length, zl_length]; try omega; done)) [-getElem?_pos, -getElem?_neg, hmm]; refine hK _ _ ?_; clear hK K)
  refine aw_seq ?_
  (refine aw_plan [] [] [0, 1, 2, 3] 4 3 (by kernel_rfl) (by kernel_rfl) (by kernel_rfl) (fun K hK => ?_)); simp only [sel, List.getElem?_cons_succ, List.getElem?_cons_zero, List.drop_succ_cons, List.drop_zero]; simp (disch := first | omega | (simp only [List.length_set, List.length_append, List.length_cons, List.length_nil, iv_length, zl_length]; try omega; done)) [-getElem?_pos, -getElem?_neg, hmm, hrep, all_zl, plain_nil, PL_nil, PL_cons, PLc_val, PLc_new, stepP_t, stepP_f, stepPC_n, stepPC_s, stepPX_s, stepPX_n, stepPA_t, stepPA_c, stepPA_l, stepPN_s, allocOp, reloc_sl, reloc_ptr, List.map_cons, List.map_nil, List.nil_append, List.append_assoc, List.cons_append, Nat.add_assoc]
  refine ⟨fc_plain _, ?_⟩
  refine hK _ _ ?_; clear hK K
  (refine aw_ret ?_; simp (disch := first | omega | (simp only [List.length_set, List.length_append, List.length_cons, List.length_nil, iv_length, zl_length]; try omega; done)) [-getElem?_pos, -getElem?_neg, thenQ_ret, scopeQ_ret, inBlockQ_ret, RQ, resL, resV])
  have hl0 : (newD b).firm.length = newN b := by simp [newD]
  have hla : (newD b).late = (newD b).firm := rfl
  refine ⟨newD_ok b, H.length, H.length + 1, .slice none 0 0, [], rfl, ⟨?_, ?_, ?_, .inl ⟨rfl, rfl, rfl⟩, by omega, by omega, by omega, by simp⟩⟩
  · rw [hget_app, hl0]; rfl
  · rw [hget_app0]; rfl
  · rw [hget_app, hla]; rfl
end
end

section
open Go Go.RowKit
set_option linter.unusedVariables false
set_option linter.unusedSimpArgs false
set_option maxRecDepth 100000
set_option maxHeartbeats 4000000

def DM.sync (D : DM) : DM := if D.dead = true then D else if D.burnV = 0 then { D.burn with firm := D.late, uns := [] } else D.burn
def DM.syncV (D : DM) : Int := if D.dead = true then 7 else D.burnV
theorem late_take {firm : List ByteArray} {uns : List (Nat × ByteArray)} {i : Nat} {w : Nat × ByteArray} (h : uns[i]? = some w) : lateOf firm (uns.take (i + 1)) = (lateOf firm (uns.take i)).set w.1 w.2 := by
  rw [List.take_add_one, h]; exact late_app _ _ _
theorem burn_late (D : DM) : D.burn.late = D.late := by unfold DM.late; rw [burn_firm, burn_uns]
theorem rows_take {D : DM} (h : D.Ok) (i : Nat) : ∀ r ∈ lateOf D.firm (D.uns.take i), r.size = 256 := late_rows h.rows (fun w hw => (h.uns w (List.mem_of_mem_take hw)).2)
theorem OwnF.slice {H : AH} {v : Value} {e : TypeId} {sz : Nat} {cells : List Value} {F : List Nat} (h : OwnF H v e sz cells F) (hc : cells ≠ []) (h0 : 0 < sz) {n : Nat} (hn : cells.length = n * sz) : ∃ u, v = .slice (some ⟨u, 0, none⟩) n n ∧ hget H u = some ⟨cells, e, some sz⟩ ∧ F = [u] := by
  rcases h with ⟨_, h, _⟩ | ⟨j, len, rfl, h2, h3, rfl⟩
  · exact absurd h hc
  · have : len = n := Nat.eq_of_mul_eq_mul_right h0 (h3.symm.trans hn)
    subst this
    exact ⟨j, rfl, h2, rfl⟩
attribute [local simp] wb_bool wb_undef XL_nil XL_cons XLc_val XLc_call step1_eq stepW_t stepW_f stepC_n stepC_s stepX_s stepX_n stepN_s calleeX oneV xop_eq xopR_s xopR_n wantedA_eq wantedG_n wantedG_s plain1_int plain1_bool plain1_string bits_i64 bits_u64 bits_u32 bits_u16 bits_u8 xeqA xagg xcmp xarr allK_iv num_iv calleeOf xread xeff xbin xint xnil xun xstr xload xconv xpart xfield xfieldAddr xindexAddr xindex bnd asInt? xslice xlen xmin xmax xbuild xfill xappend xapp2 xappstr xappmk xcap xcopy xcells eval_tmp eval_const put_at put_none fr0_at cells_agg cells_int cells_bool cells_string cells_ptr cells_slice notTuple tab iv_all hget_app hget_app0 hget_cons0 hget_cons set_app set_app0 setR setR_one QL_nil QL_cons QLc_val stepQ_t stepQ_f stepQC_n stepQC_s stepQX_s SL_nil SL_cons SLc_val stepS_t stepS_f ltT ltF leT leF eqT eqF ltTn ltFn leTn leFn eqTn eqFn beqT beqF bneT bneF wi64 wu64 wu32 wu16 wu8 tmodP tdivP hgetL hgetNe hgetEq setL nums_def nums_len Nat.succ_le_of_lt List.getElem?_cons_zero List.getElem?_cons_succ Option.getD_some Int.toNat_add Int.toNat_mul agB agI agS agP agL agA okB okI okS okP okSl okA

section
variable {H : AH} {γ : Nat → Option Nat} {nro p : Nat} {F : List Nat} {D : DM}
theorem sync_ac (h : Dk H p F D) (hn : ∀ j ∈ F, nro ≤ j) (hnl : nro ≤ H.length) :
    AC Tryd.prog nro γ 27 #[.pointer (some ⟨p, 0, none⟩)] H (fun v' H' => v' = .int .i64 D.syncV ∧ ∃ F', Dk H' p F' D.sync ∧ Fr H H' F F') := by
  have hdk := h
  have hde := dead_ac (nro := nro) (γ := γ) h
  obtain ⟨ho, s, l, U, FU, rfl, h⟩ := h
  have hbu := burn_ac (nro := nro) (γ := γ) hdk (hn p (by simp))
  refine ac_of_aw Tryd.func27 rfl Tryd.ntmps27 Tryd.results27 (by simp) ?_
  refine aw_seq ?_
  (refine aw_ops (by kernel_rfl) (fun K hK => ?_); simp (disch := first | omega | (simp only [List.length_set, List.length_append, List.length_cons, List.length_nil, iv_length, zl_length]; try omega; done)) [-getElem?_pos, -getElem?_neg]; refine hK _ _ ?_; clear hK K)
  refine aw_seq ?_
  refine aw_seq ?_
  refine aw_ops (by kernel_rfl) (fun K hK => ?_)
  simp (disch := first | omega | (simp only [List.length_set, List.length_append, List.length_cons, List.length_nil, iv_length, zl_length]; try omega; done)) [-getElem?_pos, -getElem?_neg]
  refine ⟨by kernel_rfl, hde.mono ?_⟩
  rintro v H' ⟨rfl, rfl⟩
  try simp (disch := first | omega | (simp only [List.length_set, List.length_append, List.length_cons, List.length_nil, iv_length, zl_length]; try omega; done)) [-getElem?_pos, -getElem?_neg]
  refine hK _ _ ?_; clear hK K
  cases hd : D.dead with
  | true =>
    refine aw_t (by (first | (simp [eval_tmp, put_at, hd]; done) | (simp [eval_tmp, put_at, hd]; omega))) (by kernel_rfl) ?_
    refine aw_seq ?_
    (refine aw_ops (by kernel_rfl) (fun K hK => ?_); simp (disch := first | omega | (simp only [List.length_set, List.length_append, List.length_cons, List.length_nil, iv_length, zl_length]; try omega; done)) [-getElem?_pos, -getElem?_neg]; refine hK _ _ ?_; clear hK K)
    have e1 : D.syncV = 7 := by simp [DM.syncV, hd]
    have e2 : D.sync = D := by simp [DM.sync, hd]
    (refine aw_ret ?_; simp (disch := first | omega | (simp only [List.length_set, List.length_append, List.length_cons, List.length_nil, iv_length, zl_length]; try omega; done)) [-getElem?_pos, -getElem?_neg, thenQ_ret, scopeQ_ret, inBlockQ_ret, RQ, resL, resV, e1, e2])
    exact ⟨_, hdk, Fr.refl _ _⟩
  | false =>
    refine aw_f (by (first | (simp [eval_tmp, put_at, hd]; done) | (simp [eval_tmp, put_at, hd]; omega))) (by kernel_rfl) ?_
    refine aw_skip ?_
    refine aw_seq ?_
    refine aw_seq ?_
    refine aw_ops (by kernel_rfl) (fun K hK => ?_)
    simp (disch := first | omega | (simp only [List.length_set, List.length_append, List.length_cons, List.length_nil, iv_length, zl_length]; try omega; done)) [-getElem?_pos, -getElem?_neg]
    refine ⟨by kernel_rfl, hbu.mono ?_⟩
    rintro v H1 ⟨rfl, hdk1, hfr1⟩
    try simp (disch := first | omega | (simp only [List.length_set, List.length_append, List.length_cons, List.length_nil, iv_length, zl_length]; try omega; done)) [-getElem?_pos, -getElem?_neg]
    refine hK _ _ ?_; clear hK K
    refine aw_seq ?_
    have e1 : D.syncV = D.burnV := by simp [DM.syncV, hd]
    by_cases hb : D.burnV = 0
    case neg =>
      have e2 : D.sync = D.burn := by simp [DM.sync, hd, hb]
      (refine aw_ops (by kernel_rfl) (fun K hK => ?_); simp (disch := first | omega | (simp only [List.length_set, List.length_append, List.length_cons, List.length_nil, iv_length, zl_length]; try omega; done)) [-getElem?_pos, -getElem?_neg, hb]; refine hK _ _ ?_; clear hK K)
      refine aw_t (by (first | (simp [eval_tmp, put_at, hb]; done) | (simp [eval_tmp, put_at, hb]; omega))) (by kernel_rfl) ?_
      refine aw_seq ?_
      (refine aw_ops (by kernel_rfl) (fun K hK => ?_); simp (disch := first | omega | (simp only [List.length_set, List.length_append, List.length_cons, List.length_nil, iv_length, zl_length]; try omega; done)) [-getElem?_pos, -getElem?_neg]; refine hK _ _ ?_; clear hK K)
      (refine aw_ret ?_; simp (disch := first | omega | (simp only [List.length_set, List.length_append, List.length_cons, List.length_nil, iv_length, zl_length]; try omega; done)) [-getElem?_pos, -getElem?_neg, thenQ_ret, scopeQ_ret, inBlockQ_ret, RQ, resL, resV, e1, e2])
      exact ⟨_, hdk1, hfr1⟩
    have e2 : D.sync = { D.burn with firm := D.late, uns := [] } := by simp [DM.sync, hd, hb]
    rw [hb] at e1
    (refine aw_ops (by kernel_rfl) (fun K hK => ?_); simp (disch := first | omega | (simp only [List.length_set, List.length_append, List.length_cons, List.length_nil, iv_length, zl_length]; try omega; done)) [-getElem?_pos, -getElem?_neg, hb]; refine hK _ _ ?_; clear hK K)
    refine aw_f (by (first | (simp [eval_tmp, put_at, hb]; done) | (simp [eval_tmp, put_at, hb]; omega))) (by kernel_rfl) ?_
    refine aw_skip ?_
    refine aw_seq ?_
    refine aw_seq ?_
    have hlate := burn_late D
    rw [← hlate] at e2
    clear hbu hde h hdk hlate ho
    generalize D.burn = D1 at *
    obtain ⟨ho, s1, l1, U, FU1, hFF, h⟩ := hdk1
    simp only [List.cons.injEq] at hFF
    obtain ⟨_, rfl, rfl, rfl⟩ := hFF
    have hp := h.hp
    have hs0 := h.hs
    have hl0 := h.hl
    have hplt := hget_lt hp
    have hslt := hget_lt hs0
    have hllt := hget_lt hl0
    have hnp : nro ≤ p := hn p (by simp)
    have hns : nro ≤ s := hn s (by simp)
    have hps := h.ps
    have hpl := h.pl
    have hsl := h.sl
    have hul := uc_len (fun w hw => (ho.uns w hw).2)
    have hxl := h.hu.len (P := Tryd.prog) (t := 59) (by simp) hul (by omega)
    have hfew := ho.few
    (refine aw_ops (by kernel_rfl) (fun K hK => ?_); simp (disch := first | omega | (simp only [List.length_set, List.length_append, List.length_cons, List.length_nil, iv_length, zl_length]; try omega; done)) [-getElem?_pos, -getElem?_neg, hp, -xlen, hxl]; refine hK _ _ ?_; clear hK K)
    refine aw_block ?_
    refine aw_loop (fun q α G => ∃ i : Nat, i + q = D1.uns.length ∧ α 18 = .int .i64 (i : Nat) ∧ α 17 = .int .i64 (D1.uns.length : Nat) ∧ α 16 = U ∧ α 0 = .pointer (some ⟨p, 0, none⟩) ∧ H1.length ≤ G.length ∧ (∀ j, j < H1.length → j ≠ s → hget G j = hget H1 j) ∧
      hget G s = some ⟨fc (lateOf D1.firm (D1.uns.take i)), 90, some 256⟩) D1.uns.length ?_ ?_
    · exact ⟨0, by omega, by (first | (simp [put_at, put_none, fr0_at]; done) | rfl), by (first | (simp [put_at, put_none, fr0_at]; done) | rfl), by (first | (simp [put_at, put_none, fr0_at]; done) | rfl), by (first | (simp [put_at, put_none, fr0_at]; done) | rfl), Nat.le_refl _, fun _ _ _ => rfl, by rw [List.take_zero]; exact hs0⟩
    rintro q α G ⟨i, hiq, h18, h17, h16, h0, hgl, hgo, hgs⟩
    have hgp : hget G p = _ := (hgo p hplt hps).trans hp
    refine aw_seq ?_
    (refine aw_ops (by kernel_rfl) (fun K hK => ?_); simp (disch := first | omega | (simp only [List.length_set, List.length_append, List.length_cons, List.length_nil, iv_length, zl_length]; try omega; done)) [-getElem?_pos, -getElem?_neg, h18, h17]; refine hK _ _ ?_; clear hK K)
    refine aw_seq ?_
    by_cases hi : i < D1.uns.length
    · refine aw_t (by (first | (simp [eval_tmp, put_at, hi]; done) | (simp [eval_tmp, put_at, hi]; omega))) (by kernel_rfl) ?_
      refine aw_skip ?_
      refine aw_seq ?_
      refine aw_block ?_
      obtain ⟨w, hw⟩ : ∃ w, D1.uns[i]? = some w := ⟨_, List.getElem?_eq_getElem hi⟩
      have hwm := ho.uns w (List.mem_of_getElem? hw)
      have hwm2 := hwm.2
      have hwm1 := hwm.1
      obtain ⟨u, hU, hu, hFU⟩ := h.hu.slice (by intro e; rw [e] at hul; simp at hul; omega) (by omega) hul
      subst hU
      have hus : u ≠ s := fun e => h.fu.2.1 (by rw [hFU, e]; simp)
      have hgu : hget G u = _ := (hgo u (hget_lt hu) hus).trans hu
      have hrow := uc_get (fun w hw => (ho.uns w hw).2) hw
      have hst : (sv w.2).take 256 = sv w.2 := List.take_of_length_le (by simp [hwm2])
      have hsz : (sv w.2).length = 256 := by simp [hwm2]
      have hset0 : ∀ x : Value, setR (x :: iv .u8 (zl 256)) 1 (sv w.2) = x :: sv w.2 := fun x => by
        have := setR_right [x] (iv .u8 (zl 256)) (sv w.2) 0 (by simp [hwm2])
        rw [setR_all _ _ (by simp [hwm2])] at this
        exact this
      have hgb : i * 257 + 257 ≤ (uc D1.uns).length := by rw [hul]; omega
      refine aw_seq ?_
      (refine aw_ops (by kernel_rfl) (fun K hK => ?_); simp (disch := first | omega | (simp only [List.length_set, List.length_append, List.length_cons, List.length_nil, iv_length, zl_length]; try omega; done)) [-getElem?_pos, -getElem?_neg, h18, h17, h16, hgu, hrow, hset0, hsz, hst]; refine hK _ _ ?_; clear hK K)
      have hgs' := hget_lt hgs
      have hgp' := hget_lt hgp
      have hrl := rows_take ho i
      have hll : (lateOf D1.firm (D1.uns.take i)).length = D1.firm.length := late_len _ _
      have hfl := fc_len hrl
      have hfs := fc_set hrl (by omega) hwm2 (k := w.1)
      have hlt := late_take (firm := D1.firm) hw
      generalize lateOf D1.firm (D1.uns.take i) = L0 at *
      (refine aw_plan [] [] [0, 1, 2, 3, 4, 5, 6, 7, 8] 9 1 (by kernel_rfl) (by kernel_rfl) (by kernel_rfl) (fun K hK => ?_)); simp only [sel, List.getElem?_cons_succ, List.getElem?_cons_zero, List.drop_succ_cons, List.drop_zero]; simp (disch := first | omega | (simp only [List.length_set, List.length_append, List.length_cons, List.length_nil, iv_length, zl_length]; try omega; done)) [-getElem?_pos, -getElem?_neg, h0, hgp, hgs, hsz, hst, hfl, hfs, hga, hga0, sga, sga0, PL_nil, PL_cons, PLc_val, PLc_new, stepP_t, stepP_f, stepPC_n, stepPC_s, stepPX_s, stepPX_n, stepPA_t, stepPA_c, stepPA_l, stepPN_s, allocOp, reloc_sl, reloc_ptr, List.map_cons, List.map_nil, List.nil_append, List.append_assoc, List.cons_append, Nat.add_assoc]
      refine hK _ _ ?_; clear hK K
      (refine aw_ops (by kernel_rfl) (fun K hK => ?_); simp (disch := first | omega | (simp only [List.length_set, List.length_append, List.length_cons, List.length_nil, iv_length, zl_length]; try omega; done)) [-getElem?_pos, -getElem?_neg, h18]; refine hK _ _ ?_; clear hK K)
      refine ⟨q - 1, by omega, i + 1, by omega, by (first | (simp [put_at, put_none, fr0_at]; done) | rfl), by (first | (simp [put_at, put_none, fr0_at, h17]; done) | rfl), by (first | (simp [put_at, put_none, fr0_at, h16]; done) | rfl), by (first | (simp [put_at, put_none, fr0_at, h0]; done) | rfl), by simp; omega, fun j hj hjs => ?_, ?_⟩
      · rw [hget_left (by simp; omega), hget_set_ne (fun e => hjs e.symm)]
        exact hgo j hj hjs
      · rw [hget_left (by simp; omega), hget_set_eq hgs', hlt]
    · obtain rfl : i = D1.uns.length := by omega
      refine aw_f (by (first | (simp [eval_tmp, put_at]; done) | (simp [eval_tmp, put_at]; omega))) (by kernel_rfl) ?_
      refine aw_exit ?_
      have hgp' := hget_lt hgp
      have hgs' := hget_lt hgs
      rw [List.take_length] at hgs
      refine aw_seq ?_
      (refine aw_ops (by kernel_rfl) (fun K hK => ?_); simp (disch := first | omega | (simp only [List.length_set, List.length_append, List.length_cons, List.length_nil, iv_length, zl_length]; try omega; done)) [-getElem?_pos, -getElem?_neg, h0, hgp]; refine hK _ _ ?_; clear hK K)
      refine aw_seq ?_
      (refine aw_ops (by kernel_rfl) (fun K hK => ?_); simp (disch := first | omega | (simp only [List.length_set, List.length_append, List.length_cons, List.length_nil, iv_length, zl_length]; try omega; done)) [-getElem?_pos, -getElem?_neg]; refine hK _ _ ?_; clear hK K)
      (refine aw_ret ?_; simp (disch := first | omega | (simp only [List.length_set, List.length_append, List.length_cons, List.length_nil, iv_length, zl_length]; try omega; done)) [-getElem?_pos, -getElem?_neg, thenQ_ret, scopeQ_ret, inBlockQ_ret, RQ, resL, resV, e1, e2])
      refine ⟨[p, s, l], ⟨⟨?_, ?_, ?_, fun w hw => (by cases hw), ho.fuse, by simp⟩, s, l, .slice none 0 0, [], rfl, ⟨?_, ?_, ?_, .inl ⟨rfl, rfl, rfl⟩, hps, hpl, hsl, by simp⟩⟩, hfr1.trans ⟨by simp; omega, fun j hj hnj => ?_, fun j hj => .inl (by simp only [List.mem_cons, List.not_mem_nil, or_false] at hj ⊢; rcases hj with h1 | h1 | h1 <;> simp [h1])⟩⟩
      · simp only [DM.late, late_len]; exact ho.one
      · simp only [DM.late, late_len]; exact ho.most
      · exact late_rows ho.rows (fun w hw => (ho.uns w hw).2)
      · rw [hget_set_eq hgp']; simp only [DM.late, late_len]
      · rw [hget_set_ne hps, hgs]; rfl
      · rw [hget_set_ne hpl, hgo l hllt (fun e => hsl e.symm), hl0]; rfl
      · simp only [List.mem_cons, not_or] at hnj
        rw [hget_set_ne (fun e => hnj.1 e.symm), hgo j hj hnj.2.1]
/-- How much of a write a crash keeps. -/
def keptN (ks : List Int) (i : Nat) : Nat := if i < ks.length then ((ks.getD i 0) % 5).toNat * 64 else 0
def crF (firm : List ByteArray) (uns : List (Nat × ByteArray)) (ks : List Int) : Nat → List ByteArray
  | 0 => firm
  | i + 1 => match uns[i]? with
    | some w => (crF firm uns ks i).set w.1 (w.2.extract 0 (keptN ks i) ++ ((crF firm uns ks i).getD w.1 ⟨#[]⟩).extract (keptN ks i) 256)
    | none => crF firm uns ks i
def DM.crash (D : DM) (ks : List Int) : DM := ⟨crF D.firm D.uns ks D.uns.length, [], -1, false⟩
theorem keptN_bd (ks : List Int) (i : Nat) : keptN ks i ≤ 256 := by unfold keptN; split <;> omega
theorem crF_ok {firm : List ByteArray} {uns : List (Nat × ByteArray)} {ks : List Int} (hf : ∀ r ∈ firm, r.size = 256) (hu : ∀ w ∈ uns, w.1 < firm.length ∧ w.2.size = 256) : ∀ i, (crF firm uns ks i).length = firm.length ∧ ∀ r ∈ crF firm uns ks i, r.size = 256 := by
  intro i
  induction i with
  | zero => exact ⟨rfl, hf⟩
  | succ i ih =>
    unfold crF
    cases hw : uns[i]? with
    | none => exact ih
    | some w =>
      have hwm := hu w (List.mem_of_getElem? hw)
      have hk := keptN_bd ks i
      refine ⟨by rw [List.length_set]; exact ih.1, fun r hr => ?_⟩
      rcases mem_set hr with hr | rfl
      · exact ih.2 r hr
      · have : ((crF firm uns ks i).getD w.1 ⟨#[]⟩).size = 256 := by
          rw [List.getD_eq_getElem?_getD, List.getElem?_eq_getElem (by omega)]
          exact ih.2 _ (List.getElem_mem _)
        rw [ByteArray.size_append, ByteArray.size_extract, ByteArray.size_extract, this, hwm.2]
        omega
theorem crash_ac (h : Dk H p F D) (hn : ∀ j ∈ F, nro ≤ j) (hnl : nro ≤ H.length) {kv : Value} {ks : List Int} (hk : SlS H F kv (iv .u8 ks)) (hkb : By ks) :
    AC Tryd.prog nro γ 21 #[.pointer (some ⟨p, 0, none⟩), kv] H (fun v' H' => ∃ F', Dk H' p F' (D.crash ks) ∧ Fr H H' F F') := by
  obtain ⟨ho, s, l, U, FU, rfl, h⟩ := h
  have hp := h.hp
  have hs0 := h.hs
  have hl0 := h.hl
  have hplt := hget_lt hp
  have hslt := hget_lt hs0
  have hllt := hget_lt hl0
  have hnp : nro ≤ p := hn p (by simp)
  have hns : nro ≤ s := hn s (by simp)
  have hnl : nro ≤ l := hn l (by simp)
  have hps := h.ps
  have hpl := h.pl
  have hsl := h.sl
  have hul := uc_len (fun w hw => (ho.uns w hw).2)
  have hxl := h.hu.len (P := Tryd.prog) (t := 59) (by simp) hul (by omega)
  have hfew := ho.few
  have hkl := fun (G : AH) (hG : ∀ j, j < H.length → j ∉ p :: s :: l :: FU → hget G j = hget H j) => (hk G hG).len (P := Tryd.prog) (t := 37) (e := 5) (by simp)
  have hkl0 := hkl H (fun _ _ _ => rfl)
  rw [iv_length] at hkl0
  have hno : notTuple kv = true := by rcases hk.now with ⟨a, rfl, _⟩ | ⟨j, off, k, rfl, _⟩ <;> rfl
  refine ac_of_aw Tryd.func21 rfl Tryd.ntmps21 Tryd.results21 (by simp) ?_
  refine aw_seq ?_
  refine aw_seq ?_
  (refine aw_ops (by kernel_rfl) (fun K hK => ?_); simp (disch := first | omega | (simp only [List.length_set, List.length_append, List.length_cons, List.length_nil, iv_length, zl_length]; try omega; done)) [-getElem?_pos, -getElem?_neg]; refine hK _ _ ?_; clear hK K)
  refine aw_f (by (first | (simp [eval_tmp, put_at]; done) | (simp [eval_tmp, put_at]; omega))) (by kernel_rfl) ?_
  refine aw_skip ?_
  refine aw_seq ?_
  refine aw_seq ?_
  (refine aw_ops (by kernel_rfl) (fun K hK => ?_); simp (disch := first | omega | (simp only [List.length_set, List.length_append, List.length_cons, List.length_nil, iv_length, zl_length]; try omega; done)) [-getElem?_pos, -getElem?_neg, hp, -xlen, hxl]; refine hK _ _ ?_; clear hK K)
  refine aw_block ?_
  refine aw_loop (fun q α G => ∃ i : Nat, i + q = D.uns.length ∧ α 14 = .int .i64 (i : Nat) ∧ α 13 = .int .i64 (D.uns.length : Nat) ∧ α 12 = U ∧ α 1 = kv ∧ α 0 = .pointer (some ⟨p, 0, none⟩) ∧ H.length ≤ G.length ∧ (∀ j, j < H.length → j ≠ s → hget G j = hget H j) ∧
    hget G s = some ⟨fc (crF D.firm D.uns ks i), 90, some 256⟩) D.uns.length ?_ ?_
  · exact ⟨0, by omega, by (first | (simp [put_at, put_none, fr0_at]; done) | rfl), by (first | (simp [put_at, put_none, fr0_at]; done) | rfl), by (first | (simp [put_at, put_none, fr0_at]; done) | rfl), by (first | (simp [put_at, put_none, fr0_at]; done) | rfl), by (first | (simp [put_at, put_none, fr0_at]; done) | rfl), Nat.le_refl _, fun _ _ _ => rfl, hs0⟩
  rintro q α G ⟨i, hiq, h14, h13, h12, h1, h0, hgl, hgo, hgs⟩
  have hgp : hget G p = _ := (hgo p hplt hps).trans hp
  refine aw_seq ?_
  (refine aw_ops (by kernel_rfl) (fun K hK => ?_); simp (disch := first | omega | (simp only [List.length_set, List.length_append, List.length_cons, List.length_nil, iv_length, zl_length]; try omega; done)) [-getElem?_pos, -getElem?_neg, h14, h13]; refine hK _ _ ?_; clear hK K)
  refine aw_seq ?_
  by_cases hi : i < D.uns.length
  · refine aw_t (by (first | (simp [eval_tmp, put_at, hi]; done) | (simp [eval_tmp, put_at, hi]; omega))) (by kernel_rfl) ?_
    refine aw_skip ?_
    refine aw_seq ?_
    refine aw_block ?_
    obtain ⟨w, hw⟩ : ∃ w, D.uns[i]? = some w := ⟨_, List.getElem?_eq_getElem hi⟩
    have hwm := ho.uns w (List.mem_of_getElem? hw)
    have hwm2 := hwm.2
    have hwm1 := hwm.1
    obtain ⟨u, hU, hu, hFU⟩ := h.hu.slice (by intro e; rw [e] at hul; simp at hul; omega) (by omega) hul
    subst hU
    have hus : u ≠ s := fun e => h.fu.2.1 (by rw [hFU, e]; simp)
    have hgu : hget G u = _ := (hgo u (hget_lt hu) hus).trans hu
    have hrow := uc_get (fun w hw => (ho.uns w hw).2) hw
    have hst : (sv w.2).take 256 = sv w.2 := List.take_of_length_le (by simp [hwm2])
    have hsz : (sv w.2).length = 256 := by simp [hwm2]
    have hset0 : ∀ x : Value, setR (x :: iv .u8 (zl 256)) 1 (sv w.2) = x :: sv w.2 := fun x => by
      have := setR_right [x] (iv .u8 (zl 256)) (sv w.2) 0 (by simp [hwm2])
      rw [setR_all _ _ (by simp [hwm2])] at this
      exact this
    have hgb : i * 257 + 257 ≤ (uc D.uns).length := by rw [hul]; omega
    refine aw_seq ?_
    (refine aw_ops (by kernel_rfl) (fun K hK => ?_); simp (disch := first | omega | (simp only [List.length_set, List.length_append, List.length_cons, List.length_nil, iv_length, zl_length]; try omega; done)) [-getElem?_pos, -getElem?_neg, h14, h13, h12, hgu, hrow, hset0, hsz, hst]; refine hK _ _ ?_; clear hK K)
    refine aw_seq ?_
    (refine aw_ops (by kernel_rfl) (fun K hK => ?_); simp (disch := first | omega | (simp only [List.length_set, List.length_append, List.length_cons, List.length_nil, iv_length, zl_length]; try omega; done)) [-getElem?_pos, -getElem?_neg]; refine hK _ _ ?_; clear hK K)
    refine aw_seq ?_
    refine aw_seq ?_
    (refine aw_ops (by kernel_rfl) (fun K hK => ?_); simp (disch := first | omega | (simp only [List.length_set, List.length_append, List.length_cons, List.length_nil, iv_length, zl_length]; try omega; done)) [-getElem?_pos, -getElem?_neg, h1, -xlen, hkl0]; refine hK _ _ ?_; clear hK K)
    have hkb2 := hkb.get i
    have hkn := keptN_bd ks i
    have hkne : keptN ks i = if i < ks.length then ((ks.getD i 0) % 5).toNat * 64 else 0 := rfl
    refine aw_cut (fun α G2 => α 6 = .int .i64 (keptN ks i : Nat) ∧ α 5 = .pointer (some ⟨G.length, 0, none⟩) ∧ α 14 = .int .i64 (i : Nat) ∧ α 13 = .int .i64 (D.uns.length : Nat) ∧ α 12 = .slice (some ⟨u, 0, none⟩) D.uns.length D.uns.length ∧ α 1 = kv ∧ α 0 = .pointer (some ⟨p, 0, none⟩) ∧
      G2 = G ++ [some ⟨.int .i64 (w.1 : Nat) :: sv w.2, 92, none⟩]) ?_ ?_
    · by_cases hik : i < ks.length
      · refine aw_t (by (first | (simp [eval_tmp, put_at, hik]; done) | (simp [eval_tmp, put_at, hik]; omega))) (by kernel_rfl) ?_
        have hkG := hk G (fun j hj hnj => hgo j hj (fun e => hnj (by simp [e])))
        obtain ⟨q1, hq1, hq2⟩ := (hkG.app [some ⟨.int .i64 (w.1 : Nat) :: sv w.2, 92, none⟩]).cell (P := Tryd.prog) (t := 37) (e := 5) (i := i) (x := .int .u8 (ks.getD i 0)) (by simp) (by simp) (by simp [agI]) (by simp [okI]) (iv_getN _ _ _ hik)
        generalize ks.getD i 0 = kb at *
        have hkz : (((kb % 5).toNat * 64 : Nat) : Int) = kb % 5 * 64 := by omega
        rw [if_pos hik] at hkne
        (refine aw_ops (by kernel_rfl) (fun K hK => ?_); simp (disch := first | omega | (simp only [List.length_set, List.length_append, List.length_cons, List.length_nil, iv_length, zl_length]; try omega; done)) [-getElem?_pos, -getElem?_neg, h1, -xindexAddr, -xload, hq1, hq2]; refine hK _ _ ?_; clear hK K)
        exact ⟨by simp [put_at, hkne]; omega, by (first | (simp [put_at, put_none, fr0_at]; done) | rfl), by (first | (simp [put_at, put_none, fr0_at, h14]; done) | rfl), by (first | (simp [put_at, put_none, fr0_at, h13]; done) | rfl), by (first | (simp [put_at, put_none, fr0_at, h12]; done) | rfl), by (first | (simp [put_at, put_none, fr0_at, h1]; done) | rfl), by (first | (simp [put_at, put_none, fr0_at, h0]; done) | rfl), rfl⟩
      · refine aw_f (by (first | (simp [eval_tmp, put_at, hik]; done) | (simp [eval_tmp, put_at, hik]; omega))) (by kernel_rfl) ?_
        refine aw_skip ?_
        rw [if_neg hik] at hkne
        exact ⟨by simp [put_at, hkne], by (first | (simp [put_at, put_none, fr0_at]; done) | rfl), by (first | (simp [put_at, put_none, fr0_at, h14]; done) | rfl), by (first | (simp [put_at, put_none, fr0_at, h13]; done) | rfl), by (first | (simp [put_at, put_none, fr0_at, h12]; done) | rfl), by (first | (simp [put_at, put_none, fr0_at, h1]; done) | rfl), by (first | (simp [put_at, put_none, fr0_at, h0]; done) | rfl), rfl⟩
    clear h14 h13 h12 h1 h0
    rintro α G2 ⟨h6, h5, h14, h13, h12, h1, h0, rfl⟩
    have hgs' := hget_lt hgs
    have hgp' := hget_lt hgp
    obtain ⟨hll, hrl⟩ := crF_ok (ks := ks) ho.rows ho.uns i
    have hfl := fc_len hrl
    have hL1 : crF D.firm D.uns ks (i + 1) = (crF D.firm D.uns ks i).set w.1 (w.2.extract 0 (keptN ks i) ++ ((crF D.firm D.uns ks i).getD w.1 ⟨#[]⟩).extract (keptN ks i) 256) := by
      rw [crF, hw]
    have hq : (crF D.firm D.uns ks i)[w.1]? = some ((crF D.firm D.uns ks i).getD w.1 ⟨#[]⟩) := by
      rw [List.getD_eq_getElem?_getD, List.getElem?_eq_getElem (by omega)]; rfl
    have hfs := fc_part hrl hq hwm2 hkn
    rw [hrl _ (List.mem_of_getElem? hq), ← hL1] at hfs
    have htl : ((sv w.2).take (keptN ks i)).length = keptN ks i := by rw [List.length_take, hsz]; omega
    have htt : ((sv w.2).take (keptN ks i)).take (keptN ks i) = (sv w.2).take (keptN ks i) := List.take_of_length_le (by omega)
    clear hL1 hkne
    generalize crF D.firm D.uns ks i = L0 at *
    generalize hLL : crF D.firm D.uns ks (i + 1) = L1 at *
    generalize keptN ks i = kn at *
    (refine aw_plan [] [] [0, 1, 2, 3, 4, 5, 6, 7, 8, 9, 10, 11] 12 1 (by kernel_rfl) (by kernel_rfl) (by kernel_rfl) (fun K hK => ?_)); simp only [sel, List.getElem?_cons_succ, List.getElem?_cons_zero, List.drop_succ_cons, List.drop_zero]; simp (disch := first | omega | (simp only [List.length_set, List.length_append, List.length_cons, List.length_nil, iv_length, zl_length]; try omega; done)) [-getElem?_pos, -getElem?_neg, h0, h5, h6, hgp, hgs, hsz, hst, hfl, hfs, htl, htt, hga, hga0, sga, sga0, PL_nil, PL_cons, PLc_val, PLc_new, stepP_t, stepP_f, stepPC_n, stepPC_s, stepPX_s, stepPX_n, stepPA_t, stepPA_c, stepPA_l, stepPN_s, allocOp, reloc_sl, reloc_ptr, List.map_cons, List.map_nil, List.nil_append, List.append_assoc, List.cons_append, Nat.add_assoc]
    refine hK _ _ ?_; clear hK K
    (refine aw_ops (by kernel_rfl) (fun K hK => ?_); simp (disch := first | omega | (simp only [List.length_set, List.length_append, List.length_cons, List.length_nil, iv_length, zl_length]; try omega; done)) [-getElem?_pos, -getElem?_neg, h14]; refine hK _ _ ?_; clear hK K)
    refine ⟨q - 1, by omega, i + 1, by omega, by (first | (simp [put_at, put_none, fr0_at]; done) | rfl), by (first | (simp [put_at, put_none, fr0_at, h13]; done) | rfl), by (first | (simp [put_at, put_none, fr0_at, h12]; done) | rfl), by (first | (simp [put_at, put_none, fr0_at, h1]; done) | rfl), by (first | (simp [put_at, put_none, fr0_at, h0]; done) | rfl), by simp; omega, fun j hj hjs => ?_, ?_⟩
    · rw [hget_left (by simp; omega), hget_set_ne (fun e => hjs e.symm)]
      exact hgo j hj hjs
    · rw [hget_left (by simp; omega), hget_set_eq hgs', hLL]
  · obtain rfl : i = D.uns.length := by omega
    refine aw_f (by (first | (simp [eval_tmp, put_at]; done) | (simp [eval_tmp, put_at]; omega))) (by kernel_rfl) ?_
    refine aw_exit ?_
    have hgp' := hget_lt hgp
    have hgs' := hget_lt hgs
    have hgl2 : hget G l = _ := (hgo l hllt (fun e => hsl e.symm)).trans hl0
    have hgl' := hget_lt hgl2
    obtain ⟨hll, hrl⟩ := crF_ok (ks := ks) ho.rows ho.uns D.uns.length
    have hlr : ∀ r ∈ D.late, r.size = 256 := late_rows ho.rows (fun w hw => (ho.uns w hw).2)
    have hlateL : D.late.length = D.firm.length := late_len _ _
    have hf1 := fc_len hrl
    have hf2 := fc_len hlr
    rw [hlateL] at hf2
    rw [hll] at hf1
    have hcr : D.crash ks = ⟨crF D.firm D.uns ks D.uns.length, [], -1, false⟩ := rfl
    rw [hcr]
    generalize crF D.firm D.uns ks D.uns.length = L0 at *
    have htk : (fc L0).take (D.firm.length * 256) = fc L0 := List.take_of_length_le (by omega)
    have hsa : setR (fc D.late) 0 (fc L0) = fc L0 := setR_all _ _ (by omega)
    refine aw_seq ?_
    (refine aw_plan [] [] [0, 1, 2, 3, 4, 5, 6, 7] 8 1 (by kernel_rfl) (by kernel_rfl) (by kernel_rfl) (fun K hK => ?_)); simp only [sel, List.getElem?_cons_succ, List.getElem?_cons_zero, List.drop_succ_cons, List.drop_zero]; simp (disch := first | omega | (simp only [List.length_set, List.length_append, List.length_cons, List.length_nil, iv_length, zl_length]; try omega; done)) [-getElem?_pos, -getElem?_neg, h0, hgp, hgs, hgl2, hf1, hf2, htk, hsa, PL_nil, PL_cons, PLc_val, PLc_new, stepP_t, stepP_f, stepPC_n, stepPC_s, stepPX_s, stepPX_n, stepPA_t, stepPA_c, stepPA_l, stepPN_s, allocOp, reloc_sl, reloc_ptr, List.map_cons, List.map_nil, List.nil_append, List.append_assoc, List.cons_append, Nat.add_assoc]
    refine hK _ _ ?_; clear hK K
    (refine aw_ops (by kernel_rfl) (fun K hK => ?_); simp (disch := first | omega | (simp only [List.length_set, List.length_append, List.length_cons, List.length_nil, iv_length, zl_length]; try omega; done)) [-getElem?_pos, -getElem?_neg, h0, hgp]; refine hK _ _ ?_; clear hK K)
    refine ⟨_, _, rfl, rfl, [p, s, l], ⟨⟨by simp only [hll]; exact ho.one, by simp only [hll]; exact ho.most, hrl, fun w hw => (by cases hw), by simp, by simp⟩, s, l, .slice none 0 0, [], rfl, ⟨?_, ?_, ?_, .inl ⟨rfl, rfl, rfl⟩, hps, hpl, hsl, by simp⟩⟩, ⟨by simp; omega, fun j hj hnj => ?_, fun j hj => .inl (by simp only [List.mem_cons, List.not_mem_nil, or_false] at hj ⊢; rcases hj with h1 | h1 | h1 <;> simp [h1])⟩⟩
    · rw [hget_set_eq (by simpa using hgp')]; simp only [hll]
    · rw [hget_set_ne hps, hget_set_ne (fun e => hsl e.symm)]; exact hgs
    · rw [hget_set_ne hpl, hget_set_eq hgl']; rfl
    · simp only [List.mem_cons, not_or] at hnj
      rw [hget_set_ne (fun e => hnj.1 e.symm), hget_set_ne (fun e => hnj.2.2.1 e.symm), hgo j hj hnj.2.1]
end
end
end Go.Proofs.YtgamobjfeaeddaaDoor
