/-
  The test vector of 'alive'; alive and great.
-/
import Derived.Test.YthnbfldileoemaaDoorJoin
import Derived.Test.YthnbfldileoemaaDoorLen
import Derived.Test.YthnbfldileoemaaDoorXop
namespace Go.Proofs.YthnbfldileoemaaDoor
open Go Go.RowKit
set_option linter.unusedSimpArgs false
set_option linter.unusedVariables false
set_option maxRecDepth 1000000
set_option maxHeartbeats 4000000
def katL : List Int := [186, 120, 22, 191, 143, 1, 207, 234, 65, 65, 64, 222, 93, 174, 34, 35, 176, 3, 97, 163, 150, 23, 122, 156, 180, 16, 255, 97, 242, 0, 21, 173]
theorem kat : dig (takeB hs0 [97, 98, 99]) = katL := by decide +kernel
theorem kat0 : (dig hs0).getD 0 0 = 227 := by decide +kernel
theorem dig0_ne : (dig hs0 == zl 32) = false := by
  rw [beq_eq_false_iff_ne]
  intro h
  have := kat0
  rw [h] at this
  revert this
  decide
theorem dig_neL (s : HS) : (dig s == dig s) = true := by simp
theorem SlS.mk1 {H : AH} {b j : Nat} {k : Blk} {p : ByteArray} (hj : hget H j = some k) (hb : j ≠ b) (h : k.cells[0]? = some (.string p)) : SlS H b (.slice (some ⟨j, 0, none⟩) 1 1) [p] :=
  .inr ⟨j, 0, k, rfl, hb, hj, fun i q hq => by
    match i, hq with
    | 0, hq => simp at hq; subst hq; exact h
    | i + 1, hq => simp at hq⟩
theorem SlS.mk2 {H : AH} {b j : Nat} {k : Blk} {p q : ByteArray} (hj : hget H j = some k) (hb : j ≠ b) (h : k.cells[0]? = some (.string p)) (h' : k.cells[1]? = some (.string q)) : SlS H b (.slice (some ⟨j, 0, none⟩) 2 2) [p, q] :=
  .inr ⟨j, 0, k, rfl, hb, hj, fun i x hq => by
    match i, hq with
    | 0, hq => simp at hq; subst hq; exact h
    | 1, hq => simp at hq; subst hq; exact h'
    | i + 2, hq => simp at hq⟩
theorem digest_rc {H : AH} (hG : GG H) (v : Value) (ps : List ByteArray) (hv : SlS H H.length v ps) (hlen : ps.length ≤ 4611686018427387904) :
    AC Tryd.prog H.length gm 10 #[v] H (fun v' _ => v' = .agg (iv .u8 (dig (takeB hs0 (cat ps)))).toArray) :=
  (digest_ac (Nat.le_refl _) hG v ps hv hlen).mono fun v' H' h => h.1
theorem sum_rc {H : AH} (s : HS) (hw : s.wf) (hG : GG H) (v : Value) (hv : (v = .pointer none ∧ s = hs0) ∨ ∃ b ty, v = .pointer (some ⟨b, 0, none⟩) ∧ hget H b = some ⟨hc s, ty, none⟩) :
    AC Tryd.prog H.length gm 13 #[v] H (fun v' _ => v' = .agg (iv .u8 (dig s)).toArray) :=
  (sum_gen s hw (Nat.le_refl _) hG v hv).mono fun v' H' h => h.1
theorem len_rc {H : AH} (s : HS) (hw : s.wf) (γ : Nat → Option Nat) (v : Value) (hv : (v = .pointer none ∧ s = hs0) ∨ ∃ b ty, v = .pointer (some ⟨b, 0, none⟩) ∧ hget H b = some ⟨hc s, ty, none⟩) :
    AC Tryd.prog H.length γ 14 #[v] H (fun v' _ => v' = .int .u64 s.n) :=
  (len_ac s hw γ v hv).mono fun v' H' h => h.1
theorem alive_rc {H : AH} (hG : GG H) : AC Tryd.prog H.length gm 8 #[] H (fun v' _ => v' = .bool true) := by
  refine ac_of_aw Tryd.func8 rfl Tryd.ntmps8 Tryd.results8 (by simp) ?_
  refine aw_seq ?_
  (refine aw_ops (by kernel_rfl) (fun K hK => ?_); simp (disch := first | omega | (simp only [List.length_set, List.length_append, List.length_cons, List.length_nil, iv_length, zl_length]; done) | (simp only [List.length_set, List.length_append, List.length_cons, List.length_nil, iv_length, zl_length]; omega)) [wb_bool, wb_undef, XL_nil, XL_cons, XLc_val, XLc_call, step1_eq, stepW_t, stepW_f, stepC_n, stepC_s, stepX_s, xop_eq, xopR_s, xopR_n, wantedA_eq, wantedG_n, wantedG_s, plain1_int, plain1_bool, plain1_string, bits_i64, bits_u64, bits_u32, bits_u16, bits_u8, xeqA, xarr, allK_iv, num_iv, calleeOf, xread, xeff, xbin, xint, xnil, xun, xstr, xload, xconv, xpart, xfield, xfieldAddr, xindexAddr, xindex, bnd, asInt?, xslice, xlen, xmin, xmax, xbuild, xfill, xappend, xcopy, xcells, eval_tmp, eval_const, put_at, put_none, fr0_at, cells_agg, cells_int, cells_bool, cells_string, cells_ptr, cells_slice, notTuple, tab, iv_all, hget_app, hget_app0, hget_cons0, hget_cons, set_app, set_app0, setR, setR_one, QL_nil, QL_cons, QLc_val, stepQ_t, stepQ_f, stepQC_n, stepQC_s, stepQX_s, SL_nil, SL_cons, SLc_val, stepS_t, stepS_f, ltT, ltF, leT, leF, eqT, eqF, ltTn, ltFn, leTn, leFn, eqTn, eqFn, beqT, beqF, bneT, bneF, wi64, wu64, wu32, wu16, wu8, tmodP, tdivP, hgetL, hgetNe, hgetEq, setL, nums_def, nums_len, Nat.succ_le_of_lt, List.getElem?_cons_zero, List.getElem?_cons_succ, Option.getD_some, -getElem?_pos, -getElem?_neg, Int.toNat_add, Int.toNat_mul, agB, agI, agS, agP, agL, agA, okB, okI, okS, okP, okSl, okA]; refine hK _ _ ?_; clear hK K)
  refine aw_seq ?_
  have hk : dig (takeB hs0 (cat [⟨#[97]⟩, ⟨#[98, 99]⟩])) = katL := kat
  refine aw_ops (by kernel_rfl) (fun K hK => ?_)
  simp (disch := first | omega | (simp only [List.length_set, List.length_append, List.length_cons, List.length_nil, iv_length, zl_length]; done) | (simp only [List.length_set, List.length_append, List.length_cons, List.length_nil, iv_length, zl_length]; omega)) [wb_bool, wb_undef, XL_nil, XL_cons, XLc_val, XLc_call, step1_eq, stepW_t, stepW_f, stepC_n, stepC_s, stepX_s, xop_eq, xopR_s, xopR_n, wantedA_eq, wantedG_n, wantedG_s, plain1_int, plain1_bool, plain1_string, bits_i64, bits_u64, bits_u32, bits_u16, bits_u8, xeqA, xarr, allK_iv, num_iv, calleeOf, xread, xeff, xbin, xint, xnil, xun, xstr, xload, xconv, xpart, xfield, xfieldAddr, xindexAddr, xindex, bnd, asInt?, xslice, xlen, xmin, xmax, xbuild, xfill, xappend, xcopy, xcells, eval_tmp, eval_const, put_at, put_none, fr0_at, cells_agg, cells_int, cells_bool, cells_string, cells_ptr, cells_slice, notTuple, tab, iv_all, hget_app, hget_app0, hget_cons0, hget_cons, set_app, set_app0, setR, setR_one, QL_nil, QL_cons, QLc_val, stepQ_t, stepQ_f, stepQC_n, stepQC_s, stepQX_s, SL_nil, SL_cons, SLc_val, stepS_t, stepS_f, ltT, ltF, leT, leF, eqT, eqF, ltTn, ltFn, leTn, leFn, eqTn, eqFn, beqT, beqF, bneT, bneF, wi64, wu64, wu32, wu16, wu8, tmodP, tdivP, hgetL, hgetNe, hgetEq, setL, nums_def, nums_len, Nat.succ_le_of_lt, List.getElem?_cons_zero, List.getElem?_cons_succ, Option.getD_some, -getElem?_pos, -getElem?_neg, Int.toNat_add, Int.toNat_mul, agB, agI, agS, agP, agL, agA, okB, okI, okS, okP, okSl, okA]
  refine ⟨by kernel_rfl, ac_of_rc (digest_rc (hG.app _) _ [⟨#[97]⟩, ⟨#[98, 99]⟩] (SlS.mk2 (by rw [hget_app0]; rfl) (by simp) rfl rfl) (by simp)) (by simp [pv_iv, pv_int, pv_bool, pv_string, pv_tup2, pv_tup3, iv_plain, p2_int, p2_bool, p2_string]) ?_⟩
  rw [hk]
  have hkl : katL.length = 32 := rfl
  have hsx : setR (iv .u8 (zl 32)) 0 (iv .u8 katL) = iv .u8 katL := setR_all _ _ (by simp [hkl])
  have g0 : (iv .u8 katL)[0]? = some (.int .u8 186) := rfl
  have g1 : (iv .u8 katL)[1]? = some (.int .u8 120) := rfl
  have g2 : (iv .u8 katL)[30]? = some (.int .u8 21) := rfl
  have g3 : (iv .u8 katL)[31]? = some (.int .u8 173) := rfl
  simp (disch := first | omega | (simp only [List.length_set, List.length_append, List.length_cons, List.length_nil, iv_length, zl_length]; done) | (simp only [List.length_set, List.length_append, List.length_cons, List.length_nil, iv_length, zl_length]; omega)) [wb_bool, wb_undef, XL_nil, XL_cons, XLc_val, XLc_call, step1_eq, stepW_t, stepW_f, stepC_n, stepC_s, stepX_s, xop_eq, xopR_s, xopR_n, wantedA_eq, wantedG_n, wantedG_s, plain1_int, plain1_bool, plain1_string, bits_i64, bits_u64, bits_u32, bits_u16, bits_u8, xeqA, xarr, allK_iv, num_iv, calleeOf, xread, xeff, xbin, xint, xnil, xun, xstr, xload, xconv, xpart, xfield, xfieldAddr, xindexAddr, xindex, bnd, asInt?, xslice, xlen, xmin, xmax, xbuild, xfill, xappend, xcopy, xcells, eval_tmp, eval_const, put_at, put_none, fr0_at, cells_agg, cells_int, cells_bool, cells_string, cells_ptr, cells_slice, notTuple, tab, iv_all, hget_app, hget_app0, hget_cons0, hget_cons, set_app, set_app0, setR, setR_one, QL_nil, QL_cons, QLc_val, stepQ_t, stepQ_f, stepQC_n, stepQC_s, stepQX_s, SL_nil, SL_cons, SLc_val, stepS_t, stepS_f, hkl, hsx, ltT, ltF, leT, leF, eqT, eqF, ltTn, ltFn, leTn, leFn, eqTn, eqFn, beqT, beqF, bneT, bneF, wi64, wu64, wu32, wu16, wu8, tmodP, tdivP, hgetL, hgetNe, hgetEq, setL, nums_def, nums_len, Nat.succ_le_of_lt, List.getElem?_cons_zero, List.getElem?_cons_succ, Option.getD_some, -getElem?_pos, -getElem?_neg, Int.toNat_add, Int.toNat_mul, agB, agI, agS, agP, agL, agA, okB, okI, okS, okP, okSl, okA]
  refine hK _ _ ?_; clear hK K
  refine aw_seq ?_
  (refine aw_ops (by kernel_rfl) (fun K hK => ?_); simp (disch := first | omega | (simp only [List.length_set, List.length_append, List.length_cons, List.length_nil, iv_length, zl_length]; done) | (simp only [List.length_set, List.length_append, List.length_cons, List.length_nil, iv_length, zl_length]; omega)) [wb_bool, wb_undef, XL_nil, XL_cons, XLc_val, XLc_call, step1_eq, stepW_t, stepW_f, stepC_n, stepC_s, stepX_s, xop_eq, xopR_s, xopR_n, wantedA_eq, wantedG_n, wantedG_s, plain1_int, plain1_bool, plain1_string, bits_i64, bits_u64, bits_u32, bits_u16, bits_u8, xeqA, xarr, allK_iv, num_iv, calleeOf, xread, xeff, xbin, xint, xnil, xun, xstr, xload, xconv, xpart, xfield, xfieldAddr, xindexAddr, xindex, bnd, asInt?, xslice, xlen, xmin, xmax, xbuild, xfill, xappend, xcopy, xcells, eval_tmp, eval_const, put_at, put_none, fr0_at, cells_agg, cells_int, cells_bool, cells_string, cells_ptr, cells_slice, notTuple, tab, iv_all, hget_app, hget_app0, hget_cons0, hget_cons, set_app, set_app0, setR, setR_one, QL_nil, QL_cons, QLc_val, stepQ_t, stepQ_f, stepQC_n, stepQC_s, stepQX_s, SL_nil, SL_cons, SLc_val, stepS_t, stepS_f, g0, g1, g2, g3, ltT, ltF, leT, leF, eqT, eqF, ltTn, ltFn, leTn, leFn, eqTn, eqFn, beqT, beqF, bneT, bneF, wi64, wu64, wu32, wu16, wu8, tmodP, tdivP, hgetL, hgetNe, hgetEq, setL, nums_def, nums_len, Nat.succ_le_of_lt, List.getElem?_cons_zero, List.getElem?_cons_succ, Option.getD_some, -getElem?_pos, -getElem?_neg, Int.toNat_add, Int.toNat_mul, agB, agI, agS, agP, agL, agA, okB, okI, okS, okP, okSl, okA]; refine hK _ _ ?_; clear hK K)
  (refine aw_ret ?_; simp [thenQ_ret, inBlockQ_ret, RQ, resL, resV, xload, tab, okD, isAggD, hget_app, hget_app0, hget_cons0, hget_cons, notTuple, put_at, put_none])
end Go.Proofs.YthnbfldileoemaaDoor
