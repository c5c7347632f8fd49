/-
  (*Poly).Tag, walked.
  The reference's rest modulo 2^130 - 5, by digits.
  The reference's high, walked.
  The reference's rest, walked.
-/
import Derived.Test.YtjfjakighnibpaaOtA
import Derived.Test.YtjfjakighnibpaaLibC
import Derived.Test.YtjfjakighnibpaaLibB
import Derived.Shelf.Spec.BitsCarry
import Derived.Test.YtjfjakighnibpaaDig
namespace Go.Proofs.Ytjfjakighnibpaa
section
open Go Go.RowKit
set_option linter.unusedVariables false
set_option linter.unusedSimpArgs false
set_option maxRecDepth 100000
set_option maxHeartbeats 4000000

theorem add_vc {x y c : Int} (hx : 0 ≤ x ∧ x < 18446744073709551616) (hy : 0 ≤ y ∧ y < 18446744073709551616) (hc : 0 ≤ c ∧ c ≤ 1) : VC Try.prog 40 #[.int .u64 x, .int .u64 y, .int .u64 c] (.tuple #[.int .u64 ((x + y + c) % 18446744073709551616), .int .u64 ((x + y + c) / 18446744073709551616)]) := by
  intro w
  refine .inr ⟨_, ?_, rfl, ⟨rfl, rfl, rfl, Nat.le_refl _, fun _ _ => rfl⟩⟩
  rw [run_callFunc_extern (fn := Try.f40) (by kernel_rfl) (by kernel_rfl) (by kernel_rfl) (by kernel_rfl) (e := add64Entry) (by kernel_rfl), run_add64 x y c hx.1 hy.1 hc.1 hc.2]
  rfl
/-- The tag's number, and its bytes. -/
def tagV (R S : Int) (T : List Int) : Int := (ac R T ((T.length + 15) / 16) + S) % 340282366920938463463374607431768211456
def tagB (V : Int) : List Int := (List.range 16).map fun i => V / 256 ^ i % 256
theorem tagB_len (V : Int) : (tagB V).length = 16 := by simp [tagB]
theorem tagB_by (V : Int) : By (tagB V) := by
  intro x hx
  unfold tagB at hx
  obtain ⟨i, _, rfl⟩ := List.mem_map.1 hx
  omega
def oT (lo hi : Int) : Nat → List Int
  | 0 => zl 16
  | i + 1 => ((oT lo hi i).set i (lo / 256 ^ i % 256)).set (8 + i) (hi / 256 ^ i % 256)
theorem oT_len (lo hi : Int) : ∀ i, (oT lo hi i).length = 16
  | 0 => by simp [oT]
  | i + 1 => by rw [oT]; simp [oT_len lo hi i]
theorem oT_end (lo hi : Int) (hl : 0 ≤ lo ∧ lo < 18446744073709551616) : oT lo hi 8 = tagB (lo + hi * 18446744073709551616) := by
  have e1 : oT lo hi 8 = [lo / 256 ^ 0 % 256, lo / 256 ^ 1 % 256, lo / 256 ^ 2 % 256, lo / 256 ^ 3 % 256, lo / 256 ^ 4 % 256, lo / 256 ^ 5 % 256, lo / 256 ^ 6 % 256, lo / 256 ^ 7 % 256,
      hi / 256 ^ 0 % 256, hi / 256 ^ 1 % 256, hi / 256 ^ 2 % 256, hi / 256 ^ 3 % 256, hi / 256 ^ 4 % 256, hi / 256 ^ 5 % 256, hi / 256 ^ 6 % 256, hi / 256 ^ 7 % 256] := by
    simp only [oT]; rfl
  rw [e1]
  unfold tagB
  simp only [List.range_succ, List.range_zero, List.nil_append, List.map_append, List.map_cons, List.map_nil, List.cons_append, List.cons.injEq, and_true]
  refine ⟨?_, ?_, ?_, ?_, ?_, ?_, ?_, ?_, ?_, ?_, ?_, ?_, ?_, ?_, ?_, ?_⟩ <;> omega
theorem byte_at {w : Int} (hw : 0 ≤ w) (i : Nat) : IntKind.u8.wrap (w.fdiv (2 ^ (8 * i))) = w / 256 ^ i % 256 := by
  have hp : (256 : Int) ^ i = 2 ^ (8 * i) := by rw [Int.pow_mul]; rfl
  rw [hp, Int.fdiv_eq_ediv_of_nonneg _ (Int.le_of_lt (Int.pow_pos (by omega)))]
  simp [IntKind.wrap, IntKind.bits, IntKind.signed]
/-- The last part, with its 1. -/
def lastL (rs : List Int) (o : Nat) : List Int := (setI (zl 16) 0 (rs.take o)).set o 1
theorem last_ok {rs : List Int} {o : Nat} (hl : rs.length = 16) (ho : o < 16) (hb : By rs) : (lastL rs o).length = 16 ∧ By (lastL rs o) ∧ dv (lastL rs o) = dv (rs.take o) + 256 ^ o := by
  have h1 : (rs.take o).length = o := by rw [List.length_take]; omega
  have h2 : setI (zl 16) 0 (rs.take o) = rs.take o ++ zl (16 - o) := by
    apply List.ext_getElem?
    intro p
    by_cases hp : p < 16
    · have h := setI_get (rs.take o) (zl 16) 0 p (by simp; omega)
      rw [List.getD_eq_getElem?_getD, List.getElem?_eq_getElem (by rw [setI_len]; simpa using hp)] at h
      rw [List.getElem?_eq_getElem (by rw [setI_len]; simpa using hp)]
      have h' : (setI (zl 16) 0 (rs.take o))[p]'(by rw [setI_len]; simpa using hp) = _ := h
      rw [h', h1]
      by_cases h3 : p < o
      · rw [if_pos (by omega), List.getElem?_append_left (by omega), Nat.sub_zero, List.getD_eq_getElem?_getD, List.getElem?_eq_getElem (by omega)]
        rfl
      · rw [if_neg (by omega), List.getElem?_append_right (by omega), h1]
        unfold zl
        rw [List.getD_eq_getElem?_getD, List.getElem?_replicate, if_pos (by omega), List.getElem?_replicate, if_pos (by omega)]
        rfl
    · rw [List.getElem?_eq_none (by rw [setI_len]; simp; omega), List.getElem?_eq_none (by simp; omega)]
  have h3 : lastL rs o = rs.take o ++ (1 :: zl (15 - o)) := by
    unfold lastL
    rw [h2, List.set_append_right _ _ (by omega), h1, Nat.sub_self, show 16 - o = (15 - o) + 1 by omega]
    rfl
  rw [h3]
  refine ⟨by simp; omega, By.app (hb.take o) (By.cons (by omega) (zl_by _)), ?_⟩
  rw [dv_append, h1, dv, dv_zl]
  omega
theorem PS.done {r T s rs : List Int} {o : Nat} (h : PS r T s rs o) (h0 : o = 0) : v5 s % pP = ac (v5 r) T ((T.length + 15) / 16) := by
  have := h.ho
  rw [h.hv, show (T.length + 15) / 16 = T.length / 16 by omega]
theorem PS.last {r T s rs p : List Int} {o : Nat} (h : PS r T s rs o) (h0 : 0 < o) (hr : Nm r) (hp : Nm p) (hpv : v5 p = dv (rs.take o) + 256 ^ o) : v5 (takF s p r) % pP = ac (v5 r) T ((T.length + 15) / 16) := by
  have ho := h.ho
  have ho2 := h.lt
  have e1 : (T.length + 15) / 16 = T.length / 16 + 1 := by omega
  have e2 : blk T (T.length / 16) = rs.take o := by
    unfold blk
    rw [List.take_of_length_le (by rw [List.length_drop]; omega), h.hr]
  rw [e1, ac, e2, List.length_take, h.hl, Nat.min_eq_left (by omega), ← h.hv, takF_p h.iv hp hr, hpv, Int.mul_emod (v5 s % pP + _), Int.add_emod (v5 s % pP), Int.emod_emod, ← Int.add_emod, ← Int.mul_emod]
theorem sl_off {H : AH} {j o : Nat} {l : List Int} {ty : TypeId} {es : Option Nat} {n : Nat} (hj : hget H j = some ⟨iv .u8 l, ty, es⟩) (ho : o ≤ l.length) (hn : n = l.length - o) : SlV H (.slice (some ⟨j, o, none⟩) n n) (iv .u8 (l.drop o)) := by
  subst hn
  refine .inr ⟨j, o, _, ?_, hj, fun i x hi => ?_⟩
  · rw [iv_length, List.length_drop]
  · have h1 : i < l.length - o := by
      have := (List.getElem?_eq_some_iff.1 hi).1
      simpa using this
    show (iv .u8 l)[o + i]? = _
    rw [← hi, iv_getN _ _ _ (by omega), iv_getN _ _ _ (by rw [List.length_drop]; omega)]
    congr 2
    simp [List.getD_eq_getElem?_getD]
theorem set_mid {H L : AH} {x y : Option Blk} : (H ++ x :: L).set H.length y = H ++ y :: L := by
  rw [List.set_append_right _ _ (Nat.le_refl _), Nat.sub_self]
  rfl
attribute [local irreducible] pcells carF takF dv ac setI redF v5 oT lastL
theorem tagm_ac {nro : Nat} {γ : Nat → Option Nat} {H : AH} {r T s rs : List Int} {lo hi : Int} {o : Nat} (hr : Nm r) (hP : PS r T s rs o) (hlo : 0 ≤ lo ∧ lo < 18446744073709551616) (hhi : 0 ≤ hi ∧ hi < 18446744073709551616) (hn : nro ≤ H.length) (b : Nat) (ty : TypeId) (hg : hget H b = some ⟨pcells r s lo hi rs o, ty, none⟩) :
    AC Try.prog nro γ 27 #[.pointer (some ⟨b, 0, none⟩)] H (fun v' H' => v' = .string (strOfNums (tagB (tagV (v5 r) (lo + hi * 18446744073709551616) T))) ∧ ∃ L, H' = H ++ L) := by
  have hbl := hget_lt hg
  have hrl := hr.len
  have hsl := hP.iv.len
  have hl := hP.hl
  have o0 := hP.lt
  have cl := pc_len (lo := lo) (hi := hi) (f := (o : Int)) hrl hsl hl
  have ct := pc_all (lo := lo) (hi := hi) (f := (o : Int)) hrl hsl hl
  have co := pc_over (lo := lo) (hi := hi) (f := (o : Int)) hrl hsl hl
  have cf := pc_f (lo := lo) (hi := hi) (f := (o : Int)) hrl hsl hl
  have cd := pc_tail (lo := lo) (hi := hi) (f := (o : Int)) hrl hsl hl
  refine ac_of_aw Try.func27 rfl Try.ntmps27 Try.results27 (by simp) ?_
  refine aw_seq ?_
  (refine aw_ops (by kernel_rfl) (fun K hK => ?_); simp (disch := first | omega | (simp only [List.length_set, List.length_append, List.length_cons, List.length_nil, iv_length, zl_length]; done) | (simp only [List.length_set, List.length_append, List.length_cons, List.length_nil, iv_length, zl_length]; omega)) [wb_bool, wb_undef, XL_nil, XL_cons, XLc_val, XLc_call, step1_eq, stepW_t, stepW_f, stepC_n, stepC_s, stepX_s, xop_eq, xopR_s, xopR_n, wantedA_eq, wantedG_n, wantedG_s, plain1_int, plain1_bool, plain1_string, bits_i64, bits_u64, bits_u32, bits_u16, bits_u8, xeqA, xarr, allK_iv, num_iv, calleeOf, xread, xeff, xbin, xint, xnil, xun, xstr, xload, xconv, xpart, xfield, xfieldAddr, xindexAddr, xindex, bnd, asInt?, xslice, xlen, xmin, xmax, xbuild, xfill, xappend, xcopy, xcells, eval_tmp, eval_const, put_at, put_none, fr0_at, cells_agg, cells_int, cells_bool, cells_string, cells_ptr, cells_slice, notTuple, tab, iv_all, hget_app, hget_app0, hget_cons0, hget_cons, set_app, set_app0, setR, setR_one, QL_nil, QL_cons, QLc_val, stepQ_t, stepQ_f, stepQC_n, stepQC_s, stepQX_s, SL_nil, SL_cons, SLc_val, stepS_t, stepS_f, ltT, ltF, leT, leF, eqT, eqF, ltTn, ltFn, leTn, leFn, eqTn, eqFn, beqT, beqF, bneT, bneF, wi64, wu64, wu32, wu16, wu8, tmodP, tdivP, hgetL, hgetNe, hgetEq, setL, nums_def, nums_len, Nat.succ_le_of_lt, List.getElem?_cons_zero, List.getElem?_cons_succ, Option.getD_some, -getElem?_pos, -getElem?_neg, Int.toNat_add, Int.toNat_mul, agB, agI, agS, agP, agL, agA, okB, okI, okS, okP, okSl, okA]; refine hK _ _ ?_; clear hK K)
  refine aw_seq ?_
  refine aw_seq ?_
  (refine aw_ops (by kernel_rfl) (fun K hK => ?_); simp (disch := first | omega | (simp only [List.length_set, List.length_append, List.length_cons, List.length_nil, iv_length, zl_length]; done) | (simp only [List.length_set, List.length_append, List.length_cons, List.length_nil, iv_length, zl_length]; omega)) [wb_bool, wb_undef, XL_nil, XL_cons, XLc_val, XLc_call, step1_eq, stepW_t, stepW_f, stepC_n, stepC_s, stepX_s, xop_eq, xopR_s, xopR_n, wantedA_eq, wantedG_n, wantedG_s, plain1_int, plain1_bool, plain1_string, bits_i64, bits_u64, bits_u32, bits_u16, bits_u8, xeqA, xarr, allK_iv, num_iv, calleeOf, xread, xeff, xbin, xint, xnil, xun, xstr, xload, xconv, xpart, xfield, xfieldAddr, xindexAddr, xindex, bnd, asInt?, xslice, xlen, xmin, xmax, xbuild, xfill, xappend, xcopy, xcells, eval_tmp, eval_const, put_at, put_none, fr0_at, cells_agg, cells_int, cells_bool, cells_string, cells_ptr, cells_slice, notTuple, tab, iv_all, hget_app, hget_app0, hget_cons0, hget_cons, set_app, set_app0, setR, setR_one, QL_nil, QL_cons, QLc_val, stepQ_t, stepQ_f, stepQC_n, stepQC_s, stepQX_s, SL_nil, SL_cons, SLc_val, stepS_t, stepS_f, ltT, ltF, leT, leF, eqT, eqF, ltTn, ltFn, leTn, leFn, eqTn, eqFn, beqT, beqF, bneT, bneF, wi64, wu64, wu32, wu16, wu8, tmodP, tdivP, hgetL, hgetNe, hgetEq, setL, nums_def, nums_len, Nat.succ_le_of_lt, List.getElem?_cons_zero, List.getElem?_cons_succ, Option.getD_some, -getElem?_pos, -getElem?_neg, Int.toNat_add, Int.toNat_mul, agB, agI, agS, agP, agL, agA, okB, okI, okS, okP, okSl, okA]; refine hK _ _ ?_; clear hK K)
  refine aw_f (by (first | (simp [eval_tmp, put_at]; done) | (simp [eval_tmp, put_at]; omega))) (by kernel_rfl) ?_
  refine aw_skip ?_
  refine aw_seq ?_
  (refine aw_ops (by kernel_rfl) (fun K hK => ?_); simp (disch := first | omega | (simp only [List.length_set, List.length_append, List.length_cons, List.length_nil, iv_length, zl_length]; done) | (simp only [List.length_set, List.length_append, List.length_cons, List.length_nil, iv_length, zl_length]; omega)) [wb_bool, wb_undef, XL_nil, XL_cons, XLc_val, XLc_call, step1_eq, stepW_t, stepW_f, stepC_n, stepC_s, stepX_s, xop_eq, xopR_s, xopR_n, wantedA_eq, wantedG_n, wantedG_s, plain1_int, plain1_bool, plain1_string, bits_i64, bits_u64, bits_u32, bits_u16, bits_u8, xeqA, xarr, allK_iv, num_iv, calleeOf, xread, xeff, xbin, xint, xnil, xun, xstr, xload, xconv, xpart, xfield, xfieldAddr, xindexAddr, xindex, bnd, asInt?, xslice, xlen, xmin, xmax, xbuild, xfill, xappend, xcopy, xcells, eval_tmp, eval_const, put_at, put_none, fr0_at, cells_agg, cells_int, cells_bool, cells_string, cells_ptr, cells_slice, notTuple, tab, iv_all, hget_app, hget_app0, hget_cons0, hget_cons, set_app, set_app0, setR, setR_one, QL_nil, QL_cons, QLc_val, stepQ_t, stepQ_f, stepQC_n, stepQC_s, stepQX_s, SL_nil, SL_cons, SLc_val, stepS_t, stepS_f, hg, cl, ct, co, ltT, ltF, leT, leF, eqT, eqF, ltTn, ltFn, leTn, leFn, eqTn, eqFn, beqT, beqF, bneT, bneF, wi64, wu64, wu32, wu16, wu8, tmodP, tdivP, hgetL, hgetNe, hgetEq, setL, nums_def, nums_len, Nat.succ_le_of_lt, List.getElem?_cons_zero, List.getElem?_cons_succ, Option.getD_some, -getElem?_pos, -getElem?_neg, Int.toNat_add, Int.toNat_mul, agB, agI, agS, agP, agL, agA, okB, okI, okS, okP, okSl, okA]; refine hK _ _ ?_; clear hK K)
  refine aw_seq ?_
  refine aw_seq ?_
  (refine aw_ops (by kernel_rfl) (fun K hK => ?_); simp (disch := first | omega | (simp only [List.length_set, List.length_append, List.length_cons, List.length_nil, iv_length, zl_length]; done) | (simp only [List.length_set, List.length_append, List.length_cons, List.length_nil, iv_length, zl_length]; omega)) [wb_bool, wb_undef, XL_nil, XL_cons, XLc_val, XLc_call, step1_eq, stepW_t, stepW_f, stepC_n, stepC_s, stepX_s, xop_eq, xopR_s, xopR_n, wantedA_eq, wantedG_n, wantedG_s, plain1_int, plain1_bool, plain1_string, bits_i64, bits_u64, bits_u32, bits_u16, bits_u8, xeqA, xarr, allK_iv, num_iv, calleeOf, xread, xeff, xbin, xint, xnil, xun, xstr, xload, xconv, xpart, xfield, xfieldAddr, xindexAddr, xindex, bnd, asInt?, xslice, xlen, xmin, xmax, xbuild, xfill, xappend, xcopy, xcells, eval_tmp, eval_const, put_at, put_none, fr0_at, cells_agg, cells_int, cells_bool, cells_string, cells_ptr, cells_slice, notTuple, tab, iv_all, hget_app, hget_app0, hget_cons0, hget_cons, set_app, set_app0, setR, setR_one, QL_nil, QL_cons, QLc_val, stepQ_t, stepQ_f, stepQC_n, stepQC_s, stepQX_s, SL_nil, SL_cons, SLc_val, stepS_t, stepS_f, cf, cl, ltT, ltF, leT, leF, eqT, eqF, ltTn, ltFn, leTn, leFn, eqTn, eqFn, beqT, beqF, bneT, bneF, wi64, wu64, wu32, wu16, wu8, tmodP, tdivP, hgetL, hgetNe, hgetEq, setL, nums_def, nums_len, Nat.succ_le_of_lt, List.getElem?_cons_zero, List.getElem?_cons_succ, Option.getD_some, -getElem?_pos, -getElem?_neg, Int.toNat_add, Int.toNat_mul, agB, agI, agS, agP, agL, agA, okB, okI, okS, okP, okSl, okA]; refine hK _ _ ?_; clear hK K)
  refine aw_cut (fun α H' => α 3 = .pointer (some ⟨H.length, 0, none⟩) ∧ ∃ S L, Iv S ∧ v5 S % pP = ac (v5 r) T ((T.length + 15) / 16) ∧ H' = H ++ some ⟨pcells r S lo hi rs o, 69, none⟩ :: L) ?_ ?_
  · refine aw_seq ?_
    by_cases hz : o = 0
    · have hd := hP.done hz
      have hz' : ¬ (0 : Int) < (o : Int) := by omega
      (refine aw_ops (by kernel_rfl) (fun K hK => ?_); simp (disch := first | omega | (simp only [List.length_set, List.length_append, List.length_cons, List.length_nil, iv_length, zl_length]; done) | (simp only [List.length_set, List.length_append, List.length_cons, List.length_nil, iv_length, zl_length]; omega)) [wb_bool, wb_undef, XL_nil, XL_cons, XLc_val, XLc_call, step1_eq, stepW_t, stepW_f, stepC_n, stepC_s, stepX_s, xop_eq, xopR_s, xopR_n, wantedA_eq, wantedG_n, wantedG_s, plain1_int, plain1_bool, plain1_string, bits_i64, bits_u64, bits_u32, bits_u16, bits_u8, xeqA, xarr, allK_iv, num_iv, calleeOf, xread, xeff, xbin, xint, xnil, xun, xstr, xload, xconv, xpart, xfield, xfieldAddr, xindexAddr, xindex, bnd, asInt?, xslice, xlen, xmin, xmax, xbuild, xfill, xappend, xcopy, xcells, eval_tmp, eval_const, put_at, put_none, fr0_at, cells_agg, cells_int, cells_bool, cells_string, cells_ptr, cells_slice, notTuple, tab, iv_all, hget_app, hget_app0, hget_cons0, hget_cons, set_app, set_app0, setR, setR_one, QL_nil, QL_cons, QLc_val, stepQ_t, stepQ_f, stepQC_n, stepQC_s, stepQX_s, SL_nil, SL_cons, SLc_val, stepS_t, stepS_f, ltT, ltF, leT, leF, eqT, eqF, ltTn, ltFn, leTn, leFn, eqTn, eqFn, beqT, beqF, bneT, bneF, wi64, wu64, wu32, wu16, wu8, tmodP, tdivP, hgetL, hgetNe, hgetEq, setL, nums_def, nums_len, Nat.succ_le_of_lt, List.getElem?_cons_zero, List.getElem?_cons_succ, Option.getD_some, -getElem?_pos, -getElem?_neg, Int.toNat_add, Int.toNat_mul, agB, agI, agS, agP, agL, agA, okB, okI, okS, okP, okSl, okA]; refine hK _ _ ?_; clear hK K)
      refine aw_f (by (first | (simp [eval_tmp, put_at, hz']; done) | (simp [eval_tmp, put_at, hz']; omega))) (by kernel_rfl) ?_
      refine aw_skip ?_
      exact ⟨by (first | (simp [put_at, put_none, fr0_at]; done) | rfl), s, [], hP.iv, hd, by simp⟩
    · have hz' : (0 : Int) < (o : Int) := by omega
      (refine aw_ops (by kernel_rfl) (fun K hK => ?_); simp (disch := first | omega | (simp only [List.length_set, List.length_append, List.length_cons, List.length_nil, iv_length, zl_length]; done) | (simp only [List.length_set, List.length_append, List.length_cons, List.length_nil, iv_length, zl_length]; omega)) [wb_bool, wb_undef, XL_nil, XL_cons, XLc_val, XLc_call, step1_eq, stepW_t, stepW_f, stepC_n, stepC_s, stepX_s, xop_eq, xopR_s, xopR_n, wantedA_eq, wantedG_n, wantedG_s, plain1_int, plain1_bool, plain1_string, bits_i64, bits_u64, bits_u32, bits_u16, bits_u8, xeqA, xarr, allK_iv, num_iv, calleeOf, xread, xeff, xbin, xint, xnil, xun, xstr, xload, xconv, xpart, xfield, xfieldAddr, xindexAddr, xindex, bnd, asInt?, xslice, xlen, xmin, xmax, xbuild, xfill, xappend, xcopy, xcells, eval_tmp, eval_const, put_at, put_none, fr0_at, cells_agg, cells_int, cells_bool, cells_string, cells_ptr, cells_slice, notTuple, tab, iv_all, hget_app, hget_app0, hget_cons0, hget_cons, set_app, set_app0, setR, setR_one, QL_nil, QL_cons, QLc_val, stepQ_t, stepQ_f, stepQC_n, stepQC_s, stepQX_s, SL_nil, SL_cons, SLc_val, stepS_t, stepS_f, ltT, ltF, leT, leF, eqT, eqF, ltTn, ltFn, leTn, leFn, eqTn, eqFn, beqT, beqF, bneT, bneF, wi64, wu64, wu32, wu16, wu8, tmodP, tdivP, hgetL, hgetNe, hgetEq, setL, nums_def, nums_len, Nat.succ_le_of_lt, List.getElem?_cons_zero, List.getElem?_cons_succ, Option.getD_some, -getElem?_pos, -getElem?_neg, Int.toNat_add, Int.toNat_mul, agB, agI, agS, agP, agL, agA, okB, okI, okS, okP, okSl, okA]; refine hK _ _ ?_; clear hK K)
      refine aw_t (by (first | (simp [eval_tmp, put_at, hz']; done) | (simp [eval_tmp, put_at, hz']; omega))) (by kernel_rfl) ?_
      refine aw_seq ?_
      (refine aw_ops (by kernel_rfl) (fun K hK => ?_); simp (disch := first | omega | (simp only [List.length_set, List.length_append, List.length_cons, List.length_nil, iv_length, zl_length]; done) | (simp only [List.length_set, List.length_append, List.length_cons, List.length_nil, iv_length, zl_length]; omega)) [wb_bool, wb_undef, XL_nil, XL_cons, XLc_val, XLc_call, step1_eq, stepW_t, stepW_f, stepC_n, stepC_s, stepX_s, xop_eq, xopR_s, xopR_n, wantedA_eq, wantedG_n, wantedG_s, plain1_int, plain1_bool, plain1_string, bits_i64, bits_u64, bits_u32, bits_u16, bits_u8, xeqA, xarr, allK_iv, num_iv, calleeOf, xread, xeff, xbin, xint, xnil, xun, xstr, xload, xconv, xpart, xfield, xfieldAddr, xindexAddr, xindex, bnd, asInt?, xslice, xlen, xmin, xmax, xbuild, xfill, xappend, xcopy, xcells, eval_tmp, eval_const, put_at, put_none, fr0_at, cells_agg, cells_int, cells_bool, cells_string, cells_ptr, cells_slice, notTuple, tab, iv_all, hget_app, hget_app0, hget_cons0, hget_cons, set_app, set_app0, setR, setR_one, QL_nil, QL_cons, QLc_val, stepQ_t, stepQ_f, stepQC_n, stepQC_s, stepQX_s, SL_nil, SL_cons, SLc_val, stepS_t, stepS_f, ltT, ltF, leT, leF, eqT, eqF, ltTn, ltFn, leTn, leFn, eqTn, eqFn, beqT, beqF, bneT, bneF, wi64, wu64, wu32, wu16, wu8, tmodP, tdivP, hgetL, hgetNe, hgetEq, setL, nums_def, nums_len, Nat.succ_le_of_lt, List.getElem?_cons_zero, List.getElem?_cons_succ, Option.getD_some, -getElem?_pos, -getElem?_neg, Int.toNat_add, Int.toNat_mul, agB, agI, agS, agP, agL, agA, okB, okI, okS, okP, okSl, okA]; refine hK _ _ ?_; clear hK K)
      refine aw_seq ?_
      have hio : iv .u8 (rs.take o) = (iv .u8 rs).take o := (iv_take ..).symm
      have hcd : ((pcells r s lo hi rs o).drop 12).take o = iv .u8 (rs.take o) := by rw [cd, List.take_append_of_le_length (by simp [hl]; omega), hio]
      have hzo : ((iv .u8 (rs.take o)).take o) = iv .u8 (rs.take o) := List.take_of_length_le (by simp; omega)
      have hlo' : (rs.take o).length = o := by rw [List.length_take]; omega
      (refine aw_plan [] [] [0, 1, 2, 3] 4 1 (by kernel_rfl) (by kernel_rfl) (by kernel_rfl) (fun K hK => ?_)); simp only [sel, List.getElem?_cons_succ, List.getElem?_cons_zero, List.drop_succ_cons, List.drop_zero]; simp (disch := first | omega | (simp only [List.length_set, List.length_append, List.length_cons, List.length_nil, iv_length, zl_length]; done) | (simp only [List.length_set, List.length_append, List.length_cons, List.length_nil, iv_length, zl_length]; omega)) [wb_bool, wb_undef, XL_nil, XL_cons, XLc_val, XLc_call, step1_eq, stepW_t, stepW_f, stepC_n, stepC_s, stepX_s, xop_eq, xopR_s, xopR_n, wantedA_eq, wantedG_n, wantedG_s, plain1_int, plain1_bool, plain1_string, bits_i64, bits_u64, bits_u32, bits_u16, bits_u8, xeqA, xarr, allK_iv, num_iv, calleeOf, xread, xeff, xbin, xint, xnil, xun, xstr, xload, xconv, xpart, xfield, xfieldAddr, xindexAddr, xindex, bnd, asInt?, xslice, xlen, xmin, xmax, xbuild, xfill, xappend, xcopy, xcells, eval_tmp, eval_const, put_at, put_none, fr0_at, cells_agg, cells_int, cells_bool, cells_string, cells_ptr, cells_slice, notTuple, tab, iv_all, hget_app, hget_app0, hget_cons0, hget_cons, set_app, set_app0, setR, setR_one, QL_nil, QL_cons, QLc_val, stepQ_t, stepQ_f, stepQC_n, stepQC_s, stepQX_s, SL_nil, SL_cons, SLc_val, stepS_t, stepS_f, cl, hcd, hzo, hlo', PL_nil, PL_cons, PLc_val, PLc_new, stepP_t, stepP_f, stepPC_n, stepPC_s, stepPX_s, stepPX_n, stepPA_t, stepPA_c, stepPA_l, stepPN_s, allocOp, reloc_sl, reloc_ptr, List.map_cons, List.map_nil, List.nil_append, List.append_assoc, List.cons_append, Nat.add_assoc, ltT, ltF, leT, leF, eqT, eqF, ltTn, ltFn, leTn, leFn, eqTn, eqFn, beqT, beqF, bneT, bneF, wi64, wu64, wu32, wu16, wu8, tmodP, tdivP, hgetL, hgetNe, hgetEq, setL, nums_def, nums_len, Nat.succ_le_of_lt, List.getElem?_cons_zero, List.getElem?_cons_succ, Option.getD_some, -getElem?_pos, -getElem?_neg, Int.toNat_add, Int.toNat_mul, agB, agI, agS, agP, agL, agA, okB, okI, okS, okP, okSl, okA]
      refine hK _ _ ?_; clear hK K
      have hsI := iv_setI .u8 (rs.take o) (zl 16) 0
      have hLL : (setI (zl 16) 0 (rs.take o)).set o 1 = lastL rs o := by unfold lastL; rfl
      have hIl : (setI (zl 16) 0 (rs.take o)).length = 16 := by rw [setI_len]; simp
      obtain ⟨q1, q2, q3⟩ := last_ok hl o0 hP.by'
      refine aw_seq ?_
      (refine aw_ops (by kernel_rfl) (fun K hK => ?_); simp (disch := first | omega | (simp only [List.length_set, List.length_append, List.length_cons, List.length_nil, iv_length, zl_length]; done) | (simp only [List.length_set, List.length_append, List.length_cons, List.length_nil, iv_length, zl_length]; omega)) [wb_bool, wb_undef, XL_nil, XL_cons, XLc_val, XLc_call, step1_eq, stepW_t, stepW_f, stepC_n, stepC_s, stepX_s, xop_eq, xopR_s, xopR_n, wantedA_eq, wantedG_n, wantedG_s, plain1_int, plain1_bool, plain1_string, bits_i64, bits_u64, bits_u32, bits_u16, bits_u8, xeqA, xarr, allK_iv, num_iv, calleeOf, xread, xeff, xbin, xint, xnil, xun, xstr, xload, xconv, xpart, xfield, xfieldAddr, xindexAddr, xindex, bnd, asInt?, xslice, xlen, xmin, xmax, xbuild, xfill, xappend, xcopy, xcells, eval_tmp, eval_const, put_at, put_none, fr0_at, cells_agg, cells_int, cells_bool, cells_string, cells_ptr, cells_slice, notTuple, tab, iv_all, hget_app, hget_app0, hget_cons0, hget_cons, set_app, set_app0, setR, setR_one, QL_nil, QL_cons, QLc_val, stepQ_t, stepQ_f, stepQC_n, stepQC_s, stepQX_s, SL_nil, SL_cons, SLc_val, stepS_t, stepS_f, hsI, hIl, iv_set, hLL, ltT, ltF, leT, leF, eqT, eqF, ltTn, ltFn, leTn, leFn, eqTn, eqFn, beqT, beqF, bneT, bneF, wi64, wu64, wu32, wu16, wu8, tmodP, tdivP, hgetL, hgetNe, hgetEq, setL, nums_def, nums_len, Nat.succ_le_of_lt, List.getElem?_cons_zero, List.getElem?_cons_succ, Option.getD_some, -getElem?_pos, -getElem?_neg, Int.toNat_add, Int.toNat_mul, agB, agI, agS, agP, agL, agA, okB, okI, okS, okP, okSl, okA]; refine hK _ _ ?_; clear hK K)
      have hd8 : ((lastL rs o).drop 8).take 8 = (lastL rs o).drop 8 := List.take_of_length_le (by rw [List.length_drop, q1]; omega)
      have hds := dv_split (l := lastL rs o) (i := 8) (by omega)
      have hb1 := dv_bd (q2.take 8)
      have hb2 := dv_bd (q2.drop 8)
      rw [List.length_take, q1] at hb1
      rw [List.length_drop, q1] at hb2
      rw [show (256 : Int) ^ min 8 16 = 18446744073709551616 by decide] at hb1
      rw [show (256 : Int) ^ (16 - 8) = 18446744073709551616 by decide] at hb2
      rw [show (256 : Int) ^ 8 = 18446744073709551616 by decide] at hds
      obtain ⟨pl, hmk, hpn, hp5⟩ := make_vc hb1 hb2 (top := 0) (by omega)
      have hfin := hP.last (by omega) hr hpn (by rw [hp5, ← q3, hds]; omega)
      have hiv := takF_iv hP.iv hpn hr
      have hw1 : ∀ (x : Option Blk) (L2 : AH), AC Try.prog (H ++ [x, some (⟨iv .u8 (lastL rs o), 67, none⟩ : Blk)] ++ L2 : AH).length γ 35 #[.slice (some ⟨H.length + 1, 0, none⟩) 16 16] (H ++ [x, some ⟨iv .u8 (lastL rs o), 67, none⟩] ++ L2) (fun v' _ => v' = .int .u64 (dv ((lastL rs o).take 8))) := fun x L2 => by
        have := sl_off (H := H ++ [x, some ⟨iv .u8 (lastL rs o), 67, none⟩] ++ L2) (j := H.length + 1) (o := 0) (l := lastL rs o) (ty := 67) (es := none) (n := 16) (by rw [List.append_assoc, hget_app]; rfl) (by omega) (by omega)
        rw [List.drop_zero] at this
        exact word_rc q2 this (by omega)
      have hw2 : ∀ (x : Option Blk) (L2 : AH), AC Try.prog (H ++ [x, some (⟨iv .u8 (lastL rs o), 67, none⟩ : Blk)] ++ L2 : AH).length γ 35 #[.slice (some ⟨H.length + 1, 8, none⟩) 8 8] (H ++ [x, some ⟨iv .u8 (lastL rs o), 67, none⟩] ++ L2) (fun v' _ => v' = .int .u64 (dv ((lastL rs o).drop 8))) := fun x L2 => by
        have := sl_off (H := H ++ [x, some ⟨iv .u8 (lastL rs o), 67, none⟩] ++ L2) (j := H.length + 1) (o := 8) (l := lastL rs o) (ty := 67) (es := none) (n := 8) (by rw [List.append_assoc, hget_app]; rfl) (by omega) (by omega)
        have h := word_rc (γ := γ) (q2.drop 8) this (by rw [List.length_drop]; omega)
        rw [hd8] at h
        exact h
      have hTK := fun (L2 : AH) => take_ac (nro := nro) (γ := γ) (H := H ++ some ⟨pcells r s lo hi rs o, 69, none⟩ :: L2) (lo := lo) (hi := hi) (f := (o : Int)) hr hP.iv hpn hl (by simp; omega) H.length hn 69 (by rw [hget_app0]; rfl)
      generalize dv ((lastL rs o).take 8) = d1 at *
      generalize dv ((lastL rs o).drop 8) = d2 at *
      (refine aw_plan [] [] [0, 1, 2, 3, 4] 5 1 (by kernel_rfl) (by kernel_rfl) (by kernel_rfl) (fun K hK => ?_)); simp only [sel, List.getElem?_cons_succ, List.getElem?_cons_zero, List.drop_succ_cons, List.drop_zero]; simp (disch := first | omega | (simp only [List.length_set, List.length_append, List.length_cons, List.length_nil, iv_length, zl_length]; done) | (simp only [List.length_set, List.length_append, List.length_cons, List.length_nil, iv_length, zl_length]; omega)) [wb_bool, wb_undef, XL_nil, XL_cons, XLc_val, XLc_call, step1_eq, stepW_t, stepW_f, stepC_n, stepC_s, stepX_s, xop_eq, xopR_s, xopR_n, wantedA_eq, wantedG_n, wantedG_s, plain1_int, plain1_bool, plain1_string, bits_i64, bits_u64, bits_u32, bits_u16, bits_u8, xeqA, xarr, allK_iv, num_iv, calleeOf, xread, xeff, xbin, xint, xnil, xun, xstr, xload, xconv, xpart, xfield, xfieldAddr, xindexAddr, xindex, bnd, asInt?, xslice, xlen, xmin, xmax, xbuild, xfill, xappend, xcopy, xcells, eval_tmp, eval_const, put_at, put_none, fr0_at, cells_agg, cells_int, cells_bool, cells_string, cells_ptr, cells_slice, notTuple, tab, iv_all, hget_app, hget_app0, hget_cons0, hget_cons, set_app, set_app0, setR, setR_one, QL_nil, QL_cons, QLc_val, stepQ_t, stepQ_f, stepQC_n, stepQC_s, stepQX_s, SL_nil, SL_cons, SLc_val, stepS_t, stepS_f, q1, PL_nil, PL_cons, PLc_val, PLc_new, stepP_t, stepP_f, stepPC_n, stepPC_s, stepPX_s, stepPX_n, stepPA_t, stepPA_c, stepPA_l, stepPN_s, allocOp, reloc_sl, reloc_ptr, List.map_cons, List.map_nil, List.nil_append, List.append_assoc, List.cons_append, Nat.add_assoc, ltT, ltF, leT, leF, eqT, eqF, ltTn, ltFn, leTn, leFn, eqTn, eqFn, beqT, beqF, bneT, bneF, wi64, wu64, wu32, wu16, wu8, tmodP, tdivP, hgetL, hgetNe, hgetEq, setL, nums_def, nums_len, Nat.succ_le_of_lt, List.getElem?_cons_zero, List.getElem?_cons_succ, Option.getD_some, -getElem?_pos, -getElem?_neg, Int.toNat_add, Int.toNat_mul, agB, agI, agS, agP, agL, agA, okB, okI, okS, okP, okSl, okA]
      refine PLc_call (by kernel_rfl) (fun L2 hL => hw1 _ L2) (by simp [pv_iv, pv_int, pv_bool, pv_string, pv_tup2, pv_tup3, iv_plain, p2_int, p2_bool, p2_string]) ?_
      try simp (disch := first | omega | (simp only [List.length_set, List.length_append, List.length_cons, List.length_nil, iv_length, zl_length]; done) | (simp only [List.length_set, List.length_append, List.length_cons, List.length_nil, iv_length, zl_length]; omega)) [wb_bool, wb_undef, XL_nil, XL_cons, XLc_val, XLc_call, step1_eq, stepW_t, stepW_f, stepC_n, stepC_s, stepX_s, xop_eq, xopR_s, xopR_n, wantedA_eq, wantedG_n, wantedG_s, plain1_int, plain1_bool, plain1_string, bits_i64, bits_u64, bits_u32, bits_u16, bits_u8, xeqA, xarr, allK_iv, num_iv, calleeOf, xread, xeff, xbin, xint, xnil, xun, xstr, xload, xconv, xpart, xfield, xfieldAddr, xindexAddr, xindex, bnd, asInt?, xslice, xlen, xmin, xmax, xbuild, xfill, xappend, xcopy, xcells, eval_tmp, eval_const, put_at, put_none, fr0_at, cells_agg, cells_int, cells_bool, cells_string, cells_ptr, cells_slice, notTuple, tab, iv_all, hget_app, hget_app0, hget_cons0, hget_cons, set_app, set_app0, setR, setR_one, QL_nil, QL_cons, QLc_val, stepQ_t, stepQ_f, stepQC_n, stepQC_s, stepQX_s, SL_nil, SL_cons, SLc_val, stepS_t, stepS_f, q1, PL_nil, PL_cons, PLc_val, PLc_new, stepP_t, stepP_f, stepPC_n, stepPC_s, stepPX_s, stepPX_n, stepPA_t, stepPA_c, stepPA_l, stepPN_s, allocOp, reloc_sl, reloc_ptr, List.map_cons, List.map_nil, List.nil_append, List.append_assoc, List.cons_append, Nat.add_assoc, ltT, ltF, leT, leF, eqT, eqF, ltTn, ltFn, leTn, leFn, eqTn, eqFn, beqT, beqF, bneT, bneF, wi64, wu64, wu32, wu16, wu8, tmodP, tdivP, hgetL, hgetNe, hgetEq, setL, nums_def, nums_len, Nat.succ_le_of_lt, List.getElem?_cons_zero, List.getElem?_cons_succ, Option.getD_some, -getElem?_pos, -getElem?_neg, Int.toNat_add, Int.toNat_mul, agB, agI, agS, agP, agL, agA, okB, okI, okS, okP, okSl, okA]
      refine PLc_call (by kernel_rfl) (fun L2 hL => hw2 _ L2) (by simp [pv_iv, pv_int, pv_bool, pv_string, pv_tup2, pv_tup3, iv_plain, p2_int, p2_bool, p2_string]) ?_
      try simp (disch := first | omega | (simp only [List.length_set, List.length_append, List.length_cons, List.length_nil, iv_length, zl_length]; done) | (simp only [List.length_set, List.length_append, List.length_cons, List.length_nil, iv_length, zl_length]; omega)) [wb_bool, wb_undef, XL_nil, XL_cons, XLc_val, XLc_call, step1_eq, stepW_t, stepW_f, stepC_n, stepC_s, stepX_s, xop_eq, xopR_s, xopR_n, wantedA_eq, wantedG_n, wantedG_s, plain1_int, plain1_bool, plain1_string, bits_i64, bits_u64, bits_u32, bits_u16, bits_u8, xeqA, xarr, allK_iv, num_iv, calleeOf, xread, xeff, xbin, xint, xnil, xun, xstr, xload, xconv, xpart, xfield, xfieldAddr, xindexAddr, xindex, bnd, asInt?, xslice, xlen, xmin, xmax, xbuild, xfill, xappend, xcopy, xcells, eval_tmp, eval_const, put_at, put_none, fr0_at, cells_agg, cells_int, cells_bool, cells_string, cells_ptr, cells_slice, notTuple, tab, iv_all, hget_app, hget_app0, hget_cons0, hget_cons, set_app, set_app0, setR, setR_one, QL_nil, QL_cons, QLc_val, stepQ_t, stepQ_f, stepQC_n, stepQC_s, stepQX_s, SL_nil, SL_cons, SLc_val, stepS_t, stepS_f, q1, PL_nil, PL_cons, PLc_val, PLc_new, stepP_t, stepP_f, stepPC_n, stepPC_s, stepPX_s, stepPX_n, stepPA_t, stepPA_c, stepPA_l, stepPN_s, allocOp, reloc_sl, reloc_ptr, List.map_cons, List.map_nil, List.nil_append, List.append_assoc, List.cons_append, Nat.add_assoc, ltT, ltF, leT, leF, eqT, eqF, ltTn, ltFn, leTn, leFn, eqTn, eqFn, beqT, beqF, bneT, bneF, wi64, wu64, wu32, wu16, wu8, tmodP, tdivP, hgetL, hgetNe, hgetEq, setL, nums_def, nums_len, Nat.succ_le_of_lt, List.getElem?_cons_zero, List.getElem?_cons_succ, Option.getD_some, -getElem?_pos, -getElem?_neg, Int.toNat_add, Int.toNat_mul, agB, agI, agS, agP, agL, agA, okB, okI, okS, okP, okSl, okA]
      refine PLc_call (by kernel_rfl) (fun L2 hL => ac_of_vc (by simp [pv_iv, pv_int, pv_bool, pv_string, pv_tup2, pv_tup3, iv_plain, p2_int, p2_bool, p2_string]) hmk rfl) (by simp [pv_iv, pv_int, pv_bool, pv_string, pv_tup2, pv_tup3, iv_plain, p2_int, p2_bool, p2_string]) ?_
      try simp (disch := first | omega | (simp only [List.length_set, List.length_append, List.length_cons, List.length_nil, iv_length, zl_length]; done) | (simp only [List.length_set, List.length_append, List.length_cons, List.length_nil, iv_length, zl_length]; omega)) [wb_bool, wb_undef, XL_nil, XL_cons, XLc_val, XLc_call, step1_eq, stepW_t, stepW_f, stepC_n, stepC_s, stepX_s, xop_eq, xopR_s, xopR_n, wantedA_eq, wantedG_n, wantedG_s, plain1_int, plain1_bool, plain1_string, bits_i64, bits_u64, bits_u32, bits_u16, bits_u8, xeqA, xarr, allK_iv, num_iv, calleeOf, xread, xeff, xbin, xint, xnil, xun, xstr, xload, xconv, xpart, xfield, xfieldAddr, xindexAddr, xindex, bnd, asInt?, xslice, xlen, xmin, xmax, xbuild, xfill, xappend, xcopy, xcells, eval_tmp, eval_const, put_at, put_none, fr0_at, cells_agg, cells_int, cells_bool, cells_string, cells_ptr, cells_slice, notTuple, tab, iv_all, hget_app, hget_app0, hget_cons0, hget_cons, set_app, set_app0, setR, setR_one, QL_nil, QL_cons, QLc_val, stepQ_t, stepQ_f, stepQC_n, stepQC_s, stepQX_s, SL_nil, SL_cons, SLc_val, stepS_t, stepS_f, q1, PL_nil, PL_cons, PLc_val, PLc_new, stepP_t, stepP_f, stepPC_n, stepPC_s, stepPX_s, stepPX_n, stepPA_t, stepPA_c, stepPA_l, stepPN_s, allocOp, reloc_sl, reloc_ptr, List.map_cons, List.map_nil, List.nil_append, List.append_assoc, List.cons_append, Nat.add_assoc, ltT, ltF, leT, leF, eqT, eqF, ltTn, ltFn, leTn, leFn, eqTn, eqFn, beqT, beqF, bneT, bneF, wi64, wu64, wu32, wu16, wu8, tmodP, tdivP, hgetL, hgetNe, hgetEq, setL, nums_def, nums_len, Nat.succ_le_of_lt, List.getElem?_cons_zero, List.getElem?_cons_succ, Option.getD_some, -getElem?_pos, -getElem?_neg, Int.toNat_add, Int.toNat_mul, agB, agI, agS, agP, agL, agA, okB, okI, okS, okP, okSl, okA]
      refine ⟨by kernel_rfl, AC.mono (hTK _) ?_⟩
      rintro v' H2 ⟨L2, rfl⟩
      rw [set_mid]
      try simp (disch := first | omega | (simp only [List.length_set, List.length_append, List.length_cons, List.length_nil, iv_length, zl_length]; done) | (simp only [List.length_set, List.length_append, List.length_cons, List.length_nil, iv_length, zl_length]; omega)) [wb_bool, wb_undef, XL_nil, XL_cons, XLc_val, XLc_call, step1_eq, stepW_t, stepW_f, stepC_n, stepC_s, stepX_s, xop_eq, xopR_s, xopR_n, wantedA_eq, wantedG_n, wantedG_s, plain1_int, plain1_bool, plain1_string, bits_i64, bits_u64, bits_u32, bits_u16, bits_u8, xeqA, xarr, allK_iv, num_iv, calleeOf, xread, xeff, xbin, xint, xnil, xun, xstr, xload, xconv, xpart, xfield, xfieldAddr, xindexAddr, xindex, bnd, asInt?, xslice, xlen, xmin, xmax, xbuild, xfill, xappend, xcopy, xcells, eval_tmp, eval_const, put_at, put_none, fr0_at, cells_agg, cells_int, cells_bool, cells_string, cells_ptr, cells_slice, notTuple, tab, iv_all, hget_app, hget_app0, hget_cons0, hget_cons, set_app, set_app0, setR, setR_one, QL_nil, QL_cons, QLc_val, stepQ_t, stepQ_f, stepQC_n, stepQC_s, stepQX_s, SL_nil, SL_cons, SLc_val, stepS_t, stepS_f, PL_nil, PL_cons, PLc_val, PLc_new, stepP_t, stepP_f, stepPC_n, stepPC_s, stepPX_s, stepPX_n, stepPA_t, stepPA_c, stepPA_l, stepPN_s, allocOp, reloc_sl, reloc_ptr, List.map_cons, List.map_nil, List.nil_append, List.append_assoc, List.cons_append, Nat.add_assoc, ltT, ltF, leT, leF, eqT, eqF, ltTn, ltFn, leTn, leFn, eqTn, eqFn, beqT, beqF, bneT, bneF, wi64, wu64, wu32, wu16, wu8, tmodP, tdivP, hgetL, hgetNe, hgetEq, setL, nums_def, nums_len, Nat.succ_le_of_lt, List.getElem?_cons_zero, List.getElem?_cons_succ, Option.getD_some, -getElem?_pos, -getElem?_neg, Int.toNat_add, Int.toNat_mul, agB, agI, agS, agP, agL, agA, okB, okI, okS, okP, okSl, okA]
      refine hK _ _ ?_; clear hK K
      exact ⟨by (first | (simp [put_at, put_none, fr0_at]; done) | rfl), takF s pl r, _, hiv, hfin, by first | rfl | (rw [List.append_assoc]; rfl) | (simp only [List.append_assoc, List.cons_append]; rfl)⟩
  clear hP cl ct co cf cd hg hbl
  rintro α H' ⟨h3, S, L, hSi, hSv, rfl⟩
  have hSl := hSi.len
  obtain ⟨hN, hNv⟩ := redF_ok hSi
  rw [hSv] at hNv
  have cl := pc_len (lo := lo) (hi := hi) (f := (o : Int)) hrl hSl hl
  have cs := pc_sums (lo := lo) (hi := hi) (f := (o : Int)) hrl hSl hl
  have clo := pc_lo (lo := lo) (hi := hi) (f := (o : Int)) hrl hSl hl
  have chi := pc_hi (lo := lo) (hi := hi) (f := (o : Int)) hrl hSl hl
  have hgX : hget (H ++ some ⟨pcells r S lo hi rs o, 69, none⟩ :: L) H.length = some ⟨pcells r S lo hi rs o, 69, none⟩ := by rw [hget_app0]; rfl
  have v1 := reduced_vc hSi
  have v2 := halves_vc hN
  rw [hNv] at v2
  have hV : 0 ≤ ac (v5 r) T ((T.length + 15) / 16) := by rw [← hSv]; unfold pP; omega
  have hT : tagV (v5 r) (lo + hi * 18446744073709551616) T = (ac (v5 r) T ((T.length + 15) / 16) + (lo + hi * 18446744073709551616)) % 340282366920938463463374607431768211456 := rfl
  rw [hT]
  generalize ac (v5 r) T ((T.length + 15) / 16) = A at *
  have a1 := add_vc (x := A % 18446744073709551616) (y := lo) (c := 0) (by omega) hlo (by omega)
  have a2 := add_vc (x := A / 18446744073709551616 % 18446744073709551616) (y := hi) (c := (A % 18446744073709551616 + lo + 0) / 18446744073709551616) (by omega) hhi (by omega)
  have hsum : (A % 18446744073709551616 + lo + 0) % 18446744073709551616 + (A / 18446744073709551616 % 18446744073709551616 + hi + (A % 18446744073709551616 + lo + 0) / 18446744073709551616) % 18446744073709551616 * 18446744073709551616 = (A + (lo + hi * 18446744073709551616)) % 340282366920938463463374607431768211456 := by omega
  have hb1 : 0 ≤ (A % 18446744073709551616 + lo + 0) % 18446744073709551616 ∧ (A % 18446744073709551616 + lo + 0) % 18446744073709551616 < 18446744073709551616 := by omega
  have hb2 : 0 ≤ (A / 18446744073709551616 % 18446744073709551616 + hi + (A % 18446744073709551616 + lo + 0) / 18446744073709551616) % 18446744073709551616 := by omega
  rw [← hsum]
  clear hsum hT hV hNv hSv
  generalize (A % 18446744073709551616 + lo + 0) / 18446744073709551616 = c1 at *
  generalize (A % 18446744073709551616 + lo + 0) % 18446744073709551616 = l1 at *
  generalize (A / 18446744073709551616 % 18446744073709551616 + hi + c1) / 18446744073709551616 = c2 at *
  generalize (A / 18446744073709551616 % 18446744073709551616 + hi + c1) % 18446744073709551616 = h1 at *
  generalize A % 18446744073709551616 = A0 at *
  generalize A / 18446744073709551616 % 18446744073709551616 = A1 at *
  refine aw_seq ?_
  refine aw_ops (by kernel_rfl) (fun K hK => ?_)
  simp (disch := first | omega | (simp only [List.length_set, List.length_append, List.length_cons, List.length_nil, iv_length, zl_length]; done) | (simp only [List.length_set, List.length_append, List.length_cons, List.length_nil, iv_length, zl_length]; omega)) [wb_bool, wb_undef, XL_nil, XL_cons, XLc_val, XLc_call, step1_eq, stepW_t, stepW_f, stepC_n, stepC_s, stepX_s, xop_eq, xopR_s, xopR_n, wantedA_eq, wantedG_n, wantedG_s, plain1_int, plain1_bool, plain1_string, bits_i64, bits_u64, bits_u32, bits_u16, bits_u8, xeqA, xarr, allK_iv, num_iv, calleeOf, xread, xeff, xbin, xint, xnil, xun, xstr, xload, xconv, xpart, xfield, xfieldAddr, xindexAddr, xindex, bnd, asInt?, xslice, xlen, xmin, xmax, xbuild, xfill, xappend, xcopy, xcells, eval_tmp, eval_const, put_at, put_none, fr0_at, cells_agg, cells_int, cells_bool, cells_string, cells_ptr, cells_slice, notTuple, tab, iv_all, hget_app, hget_app0, hget_cons0, hget_cons, set_app, set_app0, setR, setR_one, QL_nil, QL_cons, QLc_val, stepQ_t, stepQ_f, stepQC_n, stepQC_s, stepQX_s, SL_nil, SL_cons, SLc_val, stepS_t, stepS_f, h3, hgX, cl, cs, ltT, ltF, leT, leF, eqT, eqF, ltTn, ltFn, leTn, leFn, eqTn, eqFn, beqT, beqF, bneT, bneF, wi64, wu64, wu32, wu16, wu8, tmodP, tdivP, hgetL, hgetNe, hgetEq, setL, nums_def, nums_len, Nat.succ_le_of_lt, List.getElem?_cons_zero, List.getElem?_cons_succ, Option.getD_some, -getElem?_pos, -getElem?_neg, Int.toNat_add, Int.toNat_mul, agB, agI, agS, agP, agL, agA, okB, okI, okS, okP, okSl, okA]
  refine ⟨by kernel_rfl, ac_of_vc (by simp [pv_iv, pv_int, pv_bool, pv_string, pv_tup2, pv_tup3, iv_plain, p2_int, p2_bool, p2_string]) v1 ?_⟩
  try simp (disch := first | omega | (simp only [List.length_set, List.length_append, List.length_cons, List.length_nil, iv_length, zl_length]; done) | (simp only [List.length_set, List.length_append, List.length_cons, List.length_nil, iv_length, zl_length]; omega)) [wb_bool, wb_undef, XL_nil, XL_cons, XLc_val, XLc_call, step1_eq, stepW_t, stepW_f, stepC_n, stepC_s, stepX_s, xop_eq, xopR_s, xopR_n, wantedA_eq, wantedG_n, wantedG_s, plain1_int, plain1_bool, plain1_string, bits_i64, bits_u64, bits_u32, bits_u16, bits_u8, xeqA, xarr, allK_iv, num_iv, calleeOf, xread, xeff, xbin, xint, xnil, xun, xstr, xload, xconv, xpart, xfield, xfieldAddr, xindexAddr, xindex, bnd, asInt?, xslice, xlen, xmin, xmax, xbuild, xfill, xappend, xcopy, xcells, eval_tmp, eval_const, put_at, put_none, fr0_at, cells_agg, cells_int, cells_bool, cells_string, cells_ptr, cells_slice, notTuple, tab, iv_all, hget_app, hget_app0, hget_cons0, hget_cons, set_app, set_app0, setR, setR_one, QL_nil, QL_cons, QLc_val, stepQ_t, stepQ_f, stepQC_n, stepQC_s, stepQX_s, SL_nil, SL_cons, SLc_val, stepS_t, stepS_f, ltT, ltF, leT, leF, eqT, eqF, ltTn, ltFn, leTn, leFn, eqTn, eqFn, beqT, beqF, bneT, bneF, wi64, wu64, wu32, wu16, wu8, tmodP, tdivP, hgetL, hgetNe, hgetEq, setL, nums_def, nums_len, Nat.succ_le_of_lt, List.getElem?_cons_zero, List.getElem?_cons_succ, Option.getD_some, -getElem?_pos, -getElem?_neg, Int.toNat_add, Int.toNat_mul, agB, agI, agS, agP, agL, agA, okB, okI, okS, okP, okSl, okA]
  refine ⟨by kernel_rfl, ac_of_vc (by simp [pv_iv, pv_int, pv_bool, pv_string, pv_tup2, pv_tup3, iv_plain, p2_int, p2_bool, p2_string]) v2 ?_⟩
  try simp (disch := first | omega | (simp only [List.length_set, List.length_append, List.length_cons, List.length_nil, iv_length, zl_length]; done) | (simp only [List.length_set, List.length_append, List.length_cons, List.length_nil, iv_length, zl_length]; omega)) [wb_bool, wb_undef, XL_nil, XL_cons, XLc_val, XLc_call, step1_eq, stepW_t, stepW_f, stepC_n, stepC_s, stepX_s, xop_eq, xopR_s, xopR_n, wantedA_eq, wantedG_n, wantedG_s, plain1_int, plain1_bool, plain1_string, bits_i64, bits_u64, bits_u32, bits_u16, bits_u8, xeqA, xarr, allK_iv, num_iv, calleeOf, xread, xeff, xbin, xint, xnil, xun, xstr, xload, xconv, xpart, xfield, xfieldAddr, xindexAddr, xindex, bnd, asInt?, xslice, xlen, xmin, xmax, xbuild, xfill, xappend, xcopy, xcells, eval_tmp, eval_const, put_at, put_none, fr0_at, cells_agg, cells_int, cells_bool, cells_string, cells_ptr, cells_slice, notTuple, tab, iv_all, hget_app, hget_app0, hget_cons0, hget_cons, set_app, set_app0, setR, setR_one, QL_nil, QL_cons, QLc_val, stepQ_t, stepQ_f, stepQC_n, stepQC_s, stepQX_s, SL_nil, SL_cons, SLc_val, stepS_t, stepS_f, ltT, ltF, leT, leF, eqT, eqF, ltTn, ltFn, leTn, leFn, eqTn, eqFn, beqT, beqF, bneT, bneF, wi64, wu64, wu32, wu16, wu8, tmodP, tdivP, hgetL, hgetNe, hgetEq, setL, nums_def, nums_len, Nat.succ_le_of_lt, List.getElem?_cons_zero, List.getElem?_cons_succ, Option.getD_some, -getElem?_pos, -getElem?_neg, Int.toNat_add, Int.toNat_mul, agB, agI, agS, agP, agL, agA, okB, okI, okS, okP, okSl, okA]
  refine hK _ _ ?_; clear hK K
  refine aw_seq ?_
  refine aw_ops (by kernel_rfl) (fun K hK => ?_)
  simp (disch := first | omega | (simp only [List.length_set, List.length_append, List.length_cons, List.length_nil, iv_length, zl_length]; done) | (simp only [List.length_set, List.length_append, List.length_cons, List.length_nil, iv_length, zl_length]; omega)) [wb_bool, wb_undef, XL_nil, XL_cons, XLc_val, XLc_call, step1_eq, stepW_t, stepW_f, stepC_n, stepC_s, stepX_s, xop_eq, xopR_s, xopR_n, wantedA_eq, wantedG_n, wantedG_s, plain1_int, plain1_bool, plain1_string, bits_i64, bits_u64, bits_u32, bits_u16, bits_u8, xeqA, xarr, allK_iv, num_iv, calleeOf, xread, xeff, xbin, xint, xnil, xun, xstr, xload, xconv, xpart, xfield, xfieldAddr, xindexAddr, xindex, bnd, asInt?, xslice, xlen, xmin, xmax, xbuild, xfill, xappend, xcopy, xcells, eval_tmp, eval_const, put_at, put_none, fr0_at, cells_agg, cells_int, cells_bool, cells_string, cells_ptr, cells_slice, notTuple, tab, iv_all, hget_app, hget_app0, hget_cons0, hget_cons, set_app, set_app0, setR, setR_one, QL_nil, QL_cons, QLc_val, stepQ_t, stepQ_f, stepQC_n, stepQC_s, stepQX_s, SL_nil, SL_cons, SLc_val, stepS_t, stepS_f, h3, hgX, cl, clo, ltT, ltF, leT, leF, eqT, eqF, ltTn, ltFn, leTn, leFn, eqTn, eqFn, beqT, beqF, bneT, bneF, wi64, wu64, wu32, wu16, wu8, tmodP, tdivP, hgetL, hgetNe, hgetEq, setL, nums_def, nums_len, Nat.succ_le_of_lt, List.getElem?_cons_zero, List.getElem?_cons_succ, Option.getD_some, -getElem?_pos, -getElem?_neg, Int.toNat_add, Int.toNat_mul, agB, agI, agS, agP, agL, agA, okB, okI, okS, okP, okSl, okA]
  refine ⟨by kernel_rfl, ac_of_vc (by simp [pv_iv, pv_int, pv_bool, pv_string, pv_tup2, pv_tup3, iv_plain, p2_int, p2_bool, p2_string]) a1 ?_⟩
  try simp (disch := first | omega | (simp only [List.length_set, List.length_append, List.length_cons, List.length_nil, iv_length, zl_length]; done) | (simp only [List.length_set, List.length_append, List.length_cons, List.length_nil, iv_length, zl_length]; omega)) [wb_bool, wb_undef, XL_nil, XL_cons, XLc_val, XLc_call, step1_eq, stepW_t, stepW_f, stepC_n, stepC_s, stepX_s, xop_eq, xopR_s, xopR_n, wantedA_eq, wantedG_n, wantedG_s, plain1_int, plain1_bool, plain1_string, bits_i64, bits_u64, bits_u32, bits_u16, bits_u8, xeqA, xarr, allK_iv, num_iv, calleeOf, xread, xeff, xbin, xint, xnil, xun, xstr, xload, xconv, xpart, xfield, xfieldAddr, xindexAddr, xindex, bnd, asInt?, xslice, xlen, xmin, xmax, xbuild, xfill, xappend, xcopy, xcells, eval_tmp, eval_const, put_at, put_none, fr0_at, cells_agg, cells_int, cells_bool, cells_string, cells_ptr, cells_slice, notTuple, tab, iv_all, hget_app, hget_app0, hget_cons0, hget_cons, set_app, set_app0, setR, setR_one, QL_nil, QL_cons, QLc_val, stepQ_t, stepQ_f, stepQC_n, stepQC_s, stepQX_s, SL_nil, SL_cons, SLc_val, stepS_t, stepS_f, ltT, ltF, leT, leF, eqT, eqF, ltTn, ltFn, leTn, leFn, eqTn, eqFn, beqT, beqF, bneT, bneF, wi64, wu64, wu32, wu16, wu8, tmodP, tdivP, hgetL, hgetNe, hgetEq, setL, nums_def, nums_len, Nat.succ_le_of_lt, List.getElem?_cons_zero, List.getElem?_cons_succ, Option.getD_some, -getElem?_pos, -getElem?_neg, Int.toNat_add, Int.toNat_mul, agB, agI, agS, agP, agL, agA, okB, okI, okS, okP, okSl, okA]
  refine hK _ _ ?_; clear hK K
  refine aw_seq ?_
  refine aw_ops (by kernel_rfl) (fun K hK => ?_)
  simp (disch := first | omega | (simp only [List.length_set, List.length_append, List.length_cons, List.length_nil, iv_length, zl_length]; done) | (simp only [List.length_set, List.length_append, List.length_cons, List.length_nil, iv_length, zl_length]; omega)) [wb_bool, wb_undef, XL_nil, XL_cons, XLc_val, XLc_call, step1_eq, stepW_t, stepW_f, stepC_n, stepC_s, stepX_s, xop_eq, xopR_s, xopR_n, wantedA_eq, wantedG_n, wantedG_s, plain1_int, plain1_bool, plain1_string, bits_i64, bits_u64, bits_u32, bits_u16, bits_u8, xeqA, xarr, allK_iv, num_iv, calleeOf, xread, xeff, xbin, xint, xnil, xun, xstr, xload, xconv, xpart, xfield, xfieldAddr, xindexAddr, xindex, bnd, asInt?, xslice, xlen, xmin, xmax, xbuild, xfill, xappend, xcopy, xcells, eval_tmp, eval_const, put_at, put_none, fr0_at, cells_agg, cells_int, cells_bool, cells_string, cells_ptr, cells_slice, notTuple, tab, iv_all, hget_app, hget_app0, hget_cons0, hget_cons, set_app, set_app0, setR, setR_one, QL_nil, QL_cons, QLc_val, stepQ_t, stepQ_f, stepQC_n, stepQC_s, stepQX_s, SL_nil, SL_cons, SLc_val, stepS_t, stepS_f, h3, hgX, cl, chi, ltT, ltF, leT, leF, eqT, eqF, ltTn, ltFn, leTn, leFn, eqTn, eqFn, beqT, beqF, bneT, bneF, wi64, wu64, wu32, wu16, wu8, tmodP, tdivP, hgetL, hgetNe, hgetEq, setL, nums_def, nums_len, Nat.succ_le_of_lt, List.getElem?_cons_zero, List.getElem?_cons_succ, Option.getD_some, -getElem?_pos, -getElem?_neg, Int.toNat_add, Int.toNat_mul, agB, agI, agS, agP, agL, agA, okB, okI, okS, okP, okSl, okA]
  refine ⟨by kernel_rfl, ac_of_vc (by simp [pv_iv, pv_int, pv_bool, pv_string, pv_tup2, pv_tup3, iv_plain, p2_int, p2_bool, p2_string]) a2 ?_⟩
  try simp (disch := first | omega | (simp only [List.length_set, List.length_append, List.length_cons, List.length_nil, iv_length, zl_length]; done) | (simp only [List.length_set, List.length_append, List.length_cons, List.length_nil, iv_length, zl_length]; omega)) [wb_bool, wb_undef, XL_nil, XL_cons, XLc_val, XLc_call, step1_eq, stepW_t, stepW_f, stepC_n, stepC_s, stepX_s, xop_eq, xopR_s, xopR_n, wantedA_eq, wantedG_n, wantedG_s, plain1_int, plain1_bool, plain1_string, bits_i64, bits_u64, bits_u32, bits_u16, bits_u8, xeqA, xarr, allK_iv, num_iv, calleeOf, xread, xeff, xbin, xint, xnil, xun, xstr, xload, xconv, xpart, xfield, xfieldAddr, xindexAddr, xindex, bnd, asInt?, xslice, xlen, xmin, xmax, xbuild, xfill, xappend, xcopy, xcells, eval_tmp, eval_const, put_at, put_none, fr0_at, cells_agg, cells_int, cells_bool, cells_string, cells_ptr, cells_slice, notTuple, tab, iv_all, hget_app, hget_app0, hget_cons0, hget_cons, set_app, set_app0, setR, setR_one, QL_nil, QL_cons, QLc_val, stepQ_t, stepQ_f, stepQC_n, stepQC_s, stepQX_s, SL_nil, SL_cons, SLc_val, stepS_t, stepS_f, ltT, ltF, leT, leF, eqT, eqF, ltTn, ltFn, leTn, leFn, eqTn, eqFn, beqT, beqF, bneT, bneF, wi64, wu64, wu32, wu16, wu8, tmodP, tdivP, hgetL, hgetNe, hgetEq, setL, nums_def, nums_len, Nat.succ_le_of_lt, List.getElem?_cons_zero, List.getElem?_cons_succ, Option.getD_some, -getElem?_pos, -getElem?_neg, Int.toNat_add, Int.toNat_mul, agB, agI, agS, agP, agL, agA, okB, okI, okS, okP, okSl, okA]
  refine hK _ _ ?_; clear hK K
  obtain ⟨H1, hH1⟩ : ∃ H1, H1 = H ++ some ⟨pcells r S lo hi rs o, 69, none⟩ :: L := ⟨_, rfl⟩
  have hn1 : nro ≤ H1.length := by rw [hH1]; simp; omega
  rw [← hH1]
  clear hgX cl cs clo chi v1 v2 a1 a2 h3
  refine aw_seq ?_
  (refine aw_ops (by kernel_rfl) (fun K hK => ?_); simp (disch := first | omega | (simp only [List.length_set, List.length_append, List.length_cons, List.length_nil, iv_length, zl_length]; done) | (simp only [List.length_set, List.length_append, List.length_cons, List.length_nil, iv_length, zl_length]; omega)) [wb_bool, wb_undef, XL_nil, XL_cons, XLc_val, XLc_call, step1_eq, stepW_t, stepW_f, stepC_n, stepC_s, stepX_s, xop_eq, xopR_s, xopR_n, wantedA_eq, wantedG_n, wantedG_s, plain1_int, plain1_bool, plain1_string, bits_i64, bits_u64, bits_u32, bits_u16, bits_u8, xeqA, xarr, allK_iv, num_iv, calleeOf, xread, xeff, xbin, xint, xnil, xun, xstr, xload, xconv, xpart, xfield, xfieldAddr, xindexAddr, xindex, bnd, asInt?, xslice, xlen, xmin, xmax, xbuild, xfill, xappend, xcopy, xcells, eval_tmp, eval_const, put_at, put_none, fr0_at, cells_agg, cells_int, cells_bool, cells_string, cells_ptr, cells_slice, notTuple, tab, iv_all, hget_app, hget_app0, hget_cons0, hget_cons, set_app, set_app0, setR, setR_one, QL_nil, QL_cons, QLc_val, stepQ_t, stepQ_f, stepQC_n, stepQC_s, stepQX_s, SL_nil, SL_cons, SLc_val, stepS_t, stepS_f, ltT, ltF, leT, leF, eqT, eqF, ltTn, ltFn, leTn, leFn, eqTn, eqFn, beqT, beqF, bneT, bneF, wi64, wu64, wu32, wu16, wu8, tmodP, tdivP, hgetL, hgetNe, hgetEq, setL, nums_def, nums_len, Nat.succ_le_of_lt, List.getElem?_cons_zero, List.getElem?_cons_succ, Option.getD_some, -getElem?_pos, -getElem?_neg, Int.toNat_add, Int.toNat_mul, agB, agI, agS, agP, agL, agA, okB, okI, okS, okP, okSl, okA]; refine hK _ _ ?_; clear hK K)
  refine aw_seq ?_
  refine aw_seq ?_
  (refine aw_ops (by kernel_rfl) (fun K hK => ?_); simp (disch := first | omega | (simp only [List.length_set, List.length_append, List.length_cons, List.length_nil, iv_length, zl_length]; done) | (simp only [List.length_set, List.length_append, List.length_cons, List.length_nil, iv_length, zl_length]; omega)) [wb_bool, wb_undef, XL_nil, XL_cons, XLc_val, XLc_call, step1_eq, stepW_t, stepW_f, stepC_n, stepC_s, stepX_s, xop_eq, xopR_s, xopR_n, wantedA_eq, wantedG_n, wantedG_s, plain1_int, plain1_bool, plain1_string, bits_i64, bits_u64, bits_u32, bits_u16, bits_u8, xeqA, xarr, allK_iv, num_iv, calleeOf, xread, xeff, xbin, xint, xnil, xun, xstr, xload, xconv, xpart, xfield, xfieldAddr, xindexAddr, xindex, bnd, asInt?, xslice, xlen, xmin, xmax, xbuild, xfill, xappend, xcopy, xcells, eval_tmp, eval_const, put_at, put_none, fr0_at, cells_agg, cells_int, cells_bool, cells_string, cells_ptr, cells_slice, notTuple, tab, iv_all, hget_app, hget_app0, hget_cons0, hget_cons, set_app, set_app0, setR, setR_one, QL_nil, QL_cons, QLc_val, stepQ_t, stepQ_f, stepQC_n, stepQC_s, stepQX_s, SL_nil, SL_cons, SLc_val, stepS_t, stepS_f, ltT, ltF, leT, leF, eqT, eqF, ltTn, ltFn, leTn, leFn, eqTn, eqFn, beqT, beqF, bneT, bneF, wi64, wu64, wu32, wu16, wu8, tmodP, tdivP, hgetL, hgetNe, hgetEq, setL, nums_def, nums_len, Nat.succ_le_of_lt, List.getElem?_cons_zero, List.getElem?_cons_succ, Option.getD_some, -getElem?_pos, -getElem?_neg, Int.toNat_add, Int.toNat_mul, agB, agI, agS, agP, agL, agA, okB, okI, okS, okP, okSl, okA]; refine hK _ _ ?_; clear hK K)
  have ho0 : oT l1 h1 0 = zl 16 := by rw [oT]
  refine aw_block ?_
  refine aw_loop (fun q α H' => ∃ i : Nat, i + q = 8 ∧ α 56 = .int .i64 (i : Nat) ∧ α 6 = .int .u64 l1 ∧ α 7 = .int .u64 h1 ∧ α 9 = .pointer (some ⟨H1.length, 0, none⟩) ∧ H' = H1 ++ [some ⟨iv .u8 (oT l1 h1 i), 67, none⟩]) 8 ?_ ?_
  · exact ⟨0, by omega, by (first | (simp [put_at, put_none, fr0_at]; done) | rfl), by (first | (simp [put_at, put_none, fr0_at]; done) | rfl), by (first | (simp [put_at, put_none, fr0_at]; done) | rfl), by (first | (simp [put_at, put_none, fr0_at]; done) | rfl), by rw [ho0]⟩
  rintro q α H' ⟨i, hiq, h56, h6, h7, h9, rfl⟩
  refine aw_seq ?_
  by_cases hi8 : i < 8
  · have e1 := byte_at hb1.1 i
    have e2 := byte_at hb2 i
    have ho := oT_len l1 h1 i
    have hos : oT l1 h1 (i + 1) = ((oT l1 h1 i).set i (l1 / 256 ^ i % 256)).set (8 + i) (h1 / 256 ^ i % 256) := by rw [oT]
    generalize oT l1 h1 i = O at *
    generalize l1 / 256 ^ i % 256 = x1 at *
    generalize h1 / 256 ^ i % 256 = x2 at *
    have hs1 : (iv .u8 O).set i (.int .u8 x1) = iv .u8 (O.set i x1) := iv_set ..
    have hs2 : (iv .u8 (O.set i x1)).set (8 + i) (.int .u8 x2) = iv .u8 ((O.set i x1).set (8 + i) x2) := iv_set ..
    (refine aw_ops (by kernel_rfl) (fun K hK => ?_); simp (disch := first | omega | (simp only [List.length_set, List.length_append, List.length_cons, List.length_nil, iv_length, zl_length]; done) | (simp only [List.length_set, List.length_append, List.length_cons, List.length_nil, iv_length, zl_length]; omega)) [wb_bool, wb_undef, XL_nil, XL_cons, XLc_val, XLc_call, step1_eq, stepW_t, stepW_f, stepC_n, stepC_s, stepX_s, xop_eq, xopR_s, xopR_n, wantedA_eq, wantedG_n, wantedG_s, plain1_int, plain1_bool, plain1_string, bits_i64, bits_u64, bits_u32, bits_u16, bits_u8, xeqA, xarr, allK_iv, num_iv, calleeOf, xread, xeff, xbin, xint, xnil, xun, xstr, xload, xconv, xpart, xfield, xfieldAddr, xindexAddr, xindex, bnd, asInt?, xslice, xlen, xmin, xmax, xbuild, xfill, xappend, xcopy, xcells, eval_tmp, eval_const, put_at, put_none, fr0_at, cells_agg, cells_int, cells_bool, cells_string, cells_ptr, cells_slice, notTuple, tab, iv_all, hget_app, hget_app0, hget_cons0, hget_cons, set_app, set_app0, setR, setR_one, QL_nil, QL_cons, QLc_val, stepQ_t, stepQ_f, stepQC_n, stepQC_s, stepQX_s, SL_nil, SL_cons, SLc_val, stepS_t, stepS_f, h56, ltT, ltF, leT, leF, eqT, eqF, ltTn, ltFn, leTn, leFn, eqTn, eqFn, beqT, beqF, bneT, bneF, wi64, wu64, wu32, wu16, wu8, tmodP, tdivP, hgetL, hgetNe, hgetEq, setL, nums_def, nums_len, Nat.succ_le_of_lt, List.getElem?_cons_zero, List.getElem?_cons_succ, Option.getD_some, -getElem?_pos, -getElem?_neg, Int.toNat_add, Int.toNat_mul, agB, agI, agS, agP, agL, agA, okB, okI, okS, okP, okSl, okA]; refine hK _ _ ?_; clear hK K)
    refine aw_seq ?_
    refine aw_t (by (first | (simp [eval_tmp, put_at, hi8]; done) | (simp [eval_tmp, put_at, hi8]; omega))) (by kernel_rfl) ?_
    refine aw_skip ?_
    refine aw_seq ?_
    refine aw_block ?_
    refine aw_seq ?_
    (refine aw_ops (by kernel_rfl) (fun K hK => ?_); simp (disch := first | omega | (simp only [List.length_set, List.length_append, List.length_cons, List.length_nil, iv_length, zl_length]; done) | (simp only [List.length_set, List.length_append, List.length_cons, List.length_nil, iv_length, zl_length]; omega)) [wb_bool, wb_undef, XL_nil, XL_cons, XLc_val, XLc_call, step1_eq, stepW_t, stepW_f, stepC_n, stepC_s, stepX_s, xop_eq, xopR_s, xopR_n, wantedA_eq, wantedG_n, wantedG_s, plain1_int, plain1_bool, plain1_string, bits_i64, bits_u64, bits_u32, bits_u16, bits_u8, xeqA, xarr, allK_iv, num_iv, calleeOf, xread, xeff, xbin, xint, xnil, xun, xstr, xload, xconv, xpart, xfield, xfieldAddr, xindexAddr, xindex, bnd, asInt?, xslice, xlen, xmin, xmax, xbuild, xfill, xappend, xcopy, xcells, eval_tmp, eval_const, put_at, put_none, fr0_at, cells_agg, cells_int, cells_bool, cells_string, cells_ptr, cells_slice, notTuple, tab, iv_all, hget_app, hget_app0, hget_cons0, hget_cons, set_app, set_app0, setR, setR_one, QL_nil, QL_cons, QLc_val, stepQ_t, stepQ_f, stepQC_n, stepQC_s, stepQX_s, SL_nil, SL_cons, SLc_val, stepS_t, stepS_f, h56, ltT, ltF, leT, leF, eqT, eqF, ltTn, ltFn, leTn, leFn, eqTn, eqFn, beqT, beqF, bneT, bneF, wi64, wu64, wu32, wu16, wu8, tmodP, tdivP, hgetL, hgetNe, hgetEq, setL, nums_def, nums_len, Nat.succ_le_of_lt, List.getElem?_cons_zero, List.getElem?_cons_succ, Option.getD_some, -getElem?_pos, -getElem?_neg, Int.toNat_add, Int.toNat_mul, agB, agI, agS, agP, agL, agA, okB, okI, okS, okP, okSl, okA]; refine hK _ _ ?_; clear hK K)
    (refine aw_floatC [0, 1, 2, 3, 4, 5, 6, 7, 8, 9, 10, 11, 12] [] 13 3 (by kernel_rfl) (by kernel_rfl) (by kernel_rfl) (fun K hK => ?_); simp only [sel, List.getElem?_cons_succ, List.getElem?_cons_zero, List.drop_succ_cons, List.drop_zero]; simp (disch := first | omega | (simp only [List.length_set, List.length_append, List.length_cons, List.length_nil, iv_length, zl_length]; done) | (simp only [List.length_set, List.length_append, List.length_cons, List.length_nil, iv_length, zl_length]; omega)) [wb_bool, wb_undef, XL_nil, XL_cons, XLc_val, XLc_call, step1_eq, stepW_t, stepW_f, stepC_n, stepC_s, stepX_s, xop_eq, xopR_s, xopR_n, wantedA_eq, wantedG_n, wantedG_s, plain1_int, plain1_bool, plain1_string, bits_i64, bits_u64, bits_u32, bits_u16, bits_u8, xeqA, xarr, allK_iv, num_iv, calleeOf, xread, xeff, xbin, xint, xnil, xun, xstr, xload, xconv, xpart, xfield, xfieldAddr, xindexAddr, xindex, bnd, asInt?, xslice, xlen, xmin, xmax, xbuild, xfill, xappend, xcopy, xcells, eval_tmp, eval_const, put_at, put_none, fr0_at, cells_agg, cells_int, cells_bool, cells_string, cells_ptr, cells_slice, notTuple, tab, iv_all, hget_app, hget_app0, hget_cons0, hget_cons, set_app, set_app0, setR, setR_one, QL_nil, QL_cons, QLc_val, stepQ_t, stepQ_f, stepQC_n, stepQC_s, stepQX_s, SL_nil, SL_cons, SLc_val, stepS_t, stepS_f, h6, h7, h9, e1, e2, ho, hs1, hs2, ltT, ltF, leT, leF, eqT, eqF, ltTn, ltFn, leTn, leFn, eqTn, eqFn, beqT, beqF, bneT, bneF, wi64, wu64, wu32, wu16, wu8, tmodP, tdivP, hgetL, hgetNe, hgetEq, setL, nums_def, nums_len, Nat.succ_le_of_lt, List.getElem?_cons_zero, List.getElem?_cons_succ, Option.getD_some, -getElem?_pos, -getElem?_neg, Int.toNat_add, Int.toNat_mul, agB, agI, agS, agP, agL, agA, okB, okI, okS, okP, okSl, okA]; refine hK _ _ ?_; clear hK K)
    (refine aw_ops (by kernel_rfl) (fun K hK => ?_); simp (disch := first | omega | (simp only [List.length_set, List.length_append, List.length_cons, List.length_nil, iv_length, zl_length]; done) | (simp only [List.length_set, List.length_append, List.length_cons, List.length_nil, iv_length, zl_length]; omega)) [wb_bool, wb_undef, XL_nil, XL_cons, XLc_val, XLc_call, step1_eq, stepW_t, stepW_f, stepC_n, stepC_s, stepX_s, xop_eq, xopR_s, xopR_n, wantedA_eq, wantedG_n, wantedG_s, plain1_int, plain1_bool, plain1_string, bits_i64, bits_u64, bits_u32, bits_u16, bits_u8, xeqA, xarr, allK_iv, num_iv, calleeOf, xread, xeff, xbin, xint, xnil, xun, xstr, xload, xconv, xpart, xfield, xfieldAddr, xindexAddr, xindex, bnd, asInt?, xslice, xlen, xmin, xmax, xbuild, xfill, xappend, xcopy, xcells, eval_tmp, eval_const, put_at, put_none, fr0_at, cells_agg, cells_int, cells_bool, cells_string, cells_ptr, cells_slice, notTuple, tab, iv_all, hget_app, hget_app0, hget_cons0, hget_cons, set_app, set_app0, setR, setR_one, QL_nil, QL_cons, QLc_val, stepQ_t, stepQ_f, stepQC_n, stepQC_s, stepQX_s, SL_nil, SL_cons, SLc_val, stepS_t, stepS_f, h56, ltT, ltF, leT, leF, eqT, eqF, ltTn, ltFn, leTn, leFn, eqTn, eqFn, beqT, beqF, bneT, bneF, wi64, wu64, wu32, wu16, wu8, tmodP, tdivP, hgetL, hgetNe, hgetEq, setL, nums_def, nums_len, Nat.succ_le_of_lt, List.getElem?_cons_zero, List.getElem?_cons_succ, Option.getD_some, -getElem?_pos, -getElem?_neg, Int.toNat_add, Int.toNat_mul, agB, agI, agS, agP, agL, agA, okB, okI, okS, okP, okSl, okA]; refine hK _ _ ?_; clear hK K)
    exact ⟨q - 1, by omega, i + 1, by omega, by (first | (simp [put_at, put_none, fr0_at]; done) | rfl), by (first | (simp [put_at, put_none, fr0_at, h6]; done) | rfl), by (first | (simp [put_at, put_none, fr0_at, h7]; done) | rfl), by (first | (simp [put_at, put_none, fr0_at, h9]; done) | rfl), by rw [hos]⟩
  · (refine aw_ops (by kernel_rfl) (fun K hK => ?_); simp (disch := first | omega | (simp only [List.length_set, List.length_append, List.length_cons, List.length_nil, iv_length, zl_length]; done) | (simp only [List.length_set, List.length_append, List.length_cons, List.length_nil, iv_length, zl_length]; omega)) [wb_bool, wb_undef, XL_nil, XL_cons, XLc_val, XLc_call, step1_eq, stepW_t, stepW_f, stepC_n, stepC_s, stepX_s, xop_eq, xopR_s, xopR_n, wantedA_eq, wantedG_n, wantedG_s, plain1_int, plain1_bool, plain1_string, bits_i64, bits_u64, bits_u32, bits_u16, bits_u8, xeqA, xarr, allK_iv, num_iv, calleeOf, xread, xeff, xbin, xint, xnil, xun, xstr, xload, xconv, xpart, xfield, xfieldAddr, xindexAddr, xindex, bnd, asInt?, xslice, xlen, xmin, xmax, xbuild, xfill, xappend, xcopy, xcells, eval_tmp, eval_const, put_at, put_none, fr0_at, cells_agg, cells_int, cells_bool, cells_string, cells_ptr, cells_slice, notTuple, tab, iv_all, hget_app, hget_app0, hget_cons0, hget_cons, set_app, set_app0, setR, setR_one, QL_nil, QL_cons, QLc_val, stepQ_t, stepQ_f, stepQC_n, stepQC_s, stepQX_s, SL_nil, SL_cons, SLc_val, stepS_t, stepS_f, h56, ltT, ltF, leT, leF, eqT, eqF, ltTn, ltFn, leTn, leFn, eqTn, eqFn, beqT, beqF, bneT, bneF, wi64, wu64, wu32, wu16, wu8, tmodP, tdivP, hgetL, hgetNe, hgetEq, setL, nums_def, nums_len, Nat.succ_le_of_lt, List.getElem?_cons_zero, List.getElem?_cons_succ, Option.getD_some, -getElem?_pos, -getElem?_neg, Int.toNat_add, Int.toNat_mul, agB, agI, agS, agP, agL, agA, okB, okI, okS, okP, okSl, okA]; refine hK _ _ ?_; clear hK K)
    refine aw_seq ?_
    refine aw_f (by (first | (simp [eval_tmp, put_at, hi8]; done) | (simp [eval_tmp, put_at, hi8]; omega))) (by kernel_rfl) ?_
    refine aw_exit ?_
    obtain rfl : i = 8 := by omega
    have hoe := oT_end l1 h1 hb1
    have hol := oT_len l1 h1 8
    have hby := tagB_by (l1 + h1 * 18446744073709551616)
    rw [hoe] at hol ⊢
    generalize tagB (l1 + h1 * 18446744073709551616) = B at *
    refine aw_seq ?_
    (refine aw_ops (by kernel_rfl) (fun K hK => ?_); simp (disch := first | omega | (simp only [List.length_set, List.length_append, List.length_cons, List.length_nil, iv_length, zl_length]; done) | (simp only [List.length_set, List.length_append, List.length_cons, List.length_nil, iv_length, zl_length]; omega)) [wb_bool, wb_undef, XL_nil, XL_cons, XLc_val, XLc_call, step1_eq, stepW_t, stepW_f, stepC_n, stepC_s, stepX_s, xop_eq, xopR_s, xopR_n, wantedA_eq, wantedG_n, wantedG_s, plain1_int, plain1_bool, plain1_string, bits_i64, bits_u64, bits_u32, bits_u16, bits_u8, xeqA, xarr, allK_iv, num_iv, calleeOf, xread, xeff, xbin, xint, xnil, xun, xstr, xload, xconv, xpart, xfield, xfieldAddr, xindexAddr, xindex, bnd, asInt?, xslice, xlen, xmin, xmax, xbuild, xfill, xappend, xcopy, xcells, eval_tmp, eval_const, put_at, put_none, fr0_at, cells_agg, cells_int, cells_bool, cells_string, cells_ptr, cells_slice, notTuple, tab, iv_all, hget_app, hget_app0, hget_cons0, hget_cons, set_app, set_app0, setR, setR_one, QL_nil, QL_cons, QLc_val, stepQ_t, stepQ_f, stepQC_n, stepQC_s, stepQX_s, SL_nil, SL_cons, SLc_val, stepS_t, stepS_f, h9, hol, List.take_of_length_le, byteList_iv, ltT, ltF, leT, leF, eqT, eqF, ltTn, ltFn, leTn, leFn, eqTn, eqFn, beqT, beqF, bneT, bneF, wi64, wu64, wu32, wu16, wu8, tmodP, tdivP, hgetL, hgetNe, hgetEq, setL, nums_def, nums_len, Nat.succ_le_of_lt, List.getElem?_cons_zero, List.getElem?_cons_succ, Option.getD_some, -getElem?_pos, -getElem?_neg, Int.toNat_add, Int.toNat_mul, agB, agI, agS, agP, agL, agA, okB, okI, okS, okP, okSl, okA]; refine hK _ _ ?_; clear hK K)
    (refine aw_ret ?_; simp (disch := first | omega | (simp only [List.length_set, List.length_append, List.length_cons, List.length_nil, iv_length, zl_length]; done) | (simp only [List.length_set, List.length_append, List.length_cons, List.length_nil, iv_length, zl_length]; omega)) [wb_bool, wb_undef, XL_nil, XL_cons, XLc_val, XLc_call, step1_eq, stepW_t, stepW_f, stepC_n, stepC_s, stepX_s, xop_eq, xopR_s, xopR_n, wantedA_eq, wantedG_n, wantedG_s, plain1_int, plain1_bool, plain1_string, bits_i64, bits_u64, bits_u32, bits_u16, bits_u8, xeqA, xarr, allK_iv, num_iv, calleeOf, xread, xeff, xbin, xint, xnil, xun, xstr, xload, xconv, xpart, xfield, xfieldAddr, xindexAddr, xindex, bnd, asInt?, xslice, xlen, xmin, xmax, xbuild, xfill, xappend, xcopy, xcells, eval_tmp, eval_const, put_at, put_none, fr0_at, cells_agg, cells_int, cells_bool, cells_string, cells_ptr, cells_slice, notTuple, tab, iv_all, hget_app, hget_app0, hget_cons0, hget_cons, set_app, set_app0, setR, setR_one, QL_nil, QL_cons, QLc_val, stepQ_t, stepQ_f, stepQC_n, stepQC_s, stepQX_s, SL_nil, SL_cons, SLc_val, stepS_t, stepS_f, thenQ_ret, inBlockQ_ret, RQ, resL, resV, ltT, ltF, leT, leF, eqT, eqF, ltTn, ltFn, leTn, leFn, eqTn, eqFn, beqT, beqF, bneT, bneF, wi64, wu64, wu32, wu16, wu8, tmodP, tdivP, hgetL, hgetNe, hgetEq, setL, nums_def, nums_len, Nat.succ_le_of_lt, List.getElem?_cons_zero, List.getElem?_cons_succ, Option.getD_some, -getElem?_pos, -getElem?_neg, Int.toNat_add, Int.toNat_mul, agB, agI, agS, agP, agL, agA, okB, okI, okS, okP, okSl, okA])
    exact ⟨_, by rw [hH1, List.append_assoc]⟩
end

section
open Go Go.RowKit
set_option linter.unusedVariables false
set_option linter.unusedSimpArgs false
set_option maxRecDepth 100000
set_option maxHeartbeats 2000000

/-- 2^130. -/
def qP : Int := 1361129467683753853853498429727072845824
theorem qP_eq : qP = 256 ^ 16 * 4 := by unfold qP; decide
theorem p16_17 : (256 : Int) ^ 17 = qP * 64 := by unfold qP; decide
theorem qp : pP = qP - 5 := by unfold pP qP; decide
theorem qP_pos : 1000 < qP := by unfold qP; decide
def hiR : List Int → List Int
  | [] => []
  | d :: l => (d / 4 + l.getD 0 0 % 4 * 64) :: hiR l
theorem hiR_len : ∀ l, (hiR l).length = l.length
  | [] => rfl
  | d :: l => by simp [hiR, hiR_len l]
theorem hiR_dv : ∀ {l : List Int}, By l → dv (hiR l) = dv l / 4
  | [], _ => by simp [hiR, dv]
  | d :: l, h => by
    have h1 := hiR_dv h.tail
    have h2 := h d (by simp)
    have h3 : dv l % 4 = l.getD 0 0 % 4 := by
      cases l with
      | nil => simp [dv]
      | cons e l => simp [dv]; omega
    simp only [hiR, dv, h1]
    omega
theorem hiR_by : ∀ {l : List Int}, By l → By (hiR l)
  | [], _ => By.nil
  | d :: l, h => by
    have h2 := h d (by simp)
    have h3 := h.tail.get 0
    exact By.cons (by omega) (hiR_by h.tail)
theorem hiR_get : ∀ (l : List Int) (j : Nat), j < l.length → (hiR l).getD j 0 = l.getD j 0 / 4 + l.getD (j + 1) 0 % 4 * 64
  | d :: l, 0, _ => by simp [hiR]
  | d :: l, j + 1, h => by
    have := hiR_get l j (by simpa using h)
    simpa [hiR] using this
def hiL (a : List Int) : List Int := hiR (a.drop 16)
def loL (a : List Int) : List Int := (List.range 17).map fun i => if i = 16 then a.getD i 0 % 4 else a.getD i 0
theorem loL_len (a : List Int) : (loL a).length = 17 := by simp [loL]
theorem loL_get (a : List Int) {i : Nat} (h : i < 17) : (loL a).getD i 0 = if i = 16 then a.getD i 0 % 4 else a.getD i 0 := by simp [loL, h]
theorem loL_by {a : List Int} (h : By a) : By (loL a) := by
  intro x hx
  unfold loL at hx
  obtain ⟨i, _, rfl⟩ := List.mem_map.1 hx
  have := h.get i
  split <;> omega
theorem take_loL (a : List Int) : ∀ i, i ≤ 16 → dv ((loL a).take i) = dv (a.take i)
  | 0, _ => by simp
  | i + 1, h => by
    rw [dv_take_succ, dv_take_succ, take_loL a i (by omega), loL_get a (by omega), if_neg (by omega)]
theorem loL_dv {a : List Int} (h : By a) (hl : 16 < a.length) : dv (loL a) = dv a % qP := by
  have h1 := dv_take_succ (loL a) 16
  rw [List.take_of_length_le (by rw [loL_len]; omega), take_loL a 16 (by omega), loL_get a (by omega), if_pos rfl] at h1
  have h2 := dv_split (l := a) (i := 16) (by omega)
  have h3 := dv_drop (l := a) (i := 16) hl
  have h4 := dv_bd (h.take 16)
  have h5 := h.get 16
  rw [List.length_take, Nat.min_eq_left (by omega)] at h4
  rw [h1, h2, h3, qP_eq]
  generalize dv (a.drop (16 + 1)) = W at *
  generalize dv (a.take 16) = t at *
  generalize a.getD 16 0 = d at *
  have e : ((256 : Int) ^ 16) = 340282366920938463463374607431768211456 := by decide
  rw [e] at *
  omega
theorem hiL_dv {a : List Int} (h : By a) (hl : 16 < a.length) : dv (hiL a) = dv a / qP := by
  have h2 := dv_split (l := a) (i := 16) (by omega)
  have h4 := dv_bd (h.take 16)
  rw [List.length_take, Nat.min_eq_left (by omega)] at h4
  unfold hiL
  rw [hiR_dv (h.drop 16), h2, qP_eq]
  generalize dv (a.drop 16) = W at *
  generalize dv (a.take 16) = t at *
  have e : ((256 : Int) ^ 16) = 340282366920938463463374607431768211456 := by decide
  rw [e] at *
  omega
def nextL (a : List Int) : List Int := plusL (loL a) (timesL (hiL a) [5])
theorem by5 : By [5] := By.cons (by omega) By.nil
theorem hiL_by {a : List Int} (h : By a) : By (hiL a) := hiR_by (h.drop 16)
theorem hiL_len (a : List Int) : (hiL a).length = a.length - 16 := by unfold hiL; rw [hiR_len, List.length_drop]
theorem nextL_by (a : List Int) : By (nextL a) := plusL_by _ _
theorem nextL_dv {a : List Int} (h : By a) (hl : 16 < a.length) : dv (nextL a) = dv a % qP + dv a / qP * 5 := by
  unfold nextL
  rw [plusL_dv (loL_by h) (timesL_by (hiL_by h) by5), timesL_dv (hiL_by h) by5, loL_dv h hl, hiL_dv h hl]
  simp [dv]
theorem nextL_len (a : List Int) (hl : 16 < a.length) : 17 ≤ (nextL a).length ∧ (nextL a).length ≤ max 18 a.length := by
  unfold nextL
  have := plusN_le (loL a) (timesL (hiL a) [5])
  rw [loL_len, timesL_len, hiL_len] at this
  rw [plusL_len]
  simp at this
  omega
theorem len_of_big {a : List Int} (h : By a) (hq : qP ≤ dv a) : 16 < a.length := by
  have h1 := dv_bd h
  rcases Nat.lt_or_ge 16 a.length with h2 | h2
  · exact h2
  · have h3 := pow_le' h2
    rw [qP_eq] at hq
    have := q256_pos 16
    omega
/-- Once less the prime, when it is reached. -/
def subL (b : List Int) : List Int := b.set 16 (b.getD 16 0 - 4)
def restF : Nat → List Int → List Int
  | 0, a => a
  | f + 1, a => if qP ≤ dv a then restF f (nextL a) else if pP ≤ dv a then subL (plusL a [5]) else a
def restL (a : List Int) : List Int := restF ((dv a).toNat + 1) a
theorem next_less {a : List Int} (h : By a) (hq : qP ≤ dv a) : 0 ≤ dv (nextL a) ∧ dv (nextL a) < dv a ∧ dv (nextL a) % pP = dv a % pP := by
  have hl := len_of_big h hq
  rw [nextL_dv h hl, qp]
  have h2 := qP_pos
  generalize dv a = X at *
  have e1 : X = X / qP * qP + X % qP := by rw [Int.mul_comm]; exact (Int.mul_ediv_add_emod X qP).symm
  have e2 : 0 ≤ X % qP := Int.emod_nonneg _ (by omega)
  have e3 : 1 ≤ X / qP := by
    have : qP / qP ≤ X / qP := Int.ediv_le_ediv (by omega) hq
    rwa [Int.ediv_self (by omega)] at this
  generalize hY : X / qP = Y at *
  generalize X % qP = R at *
  refine ⟨by omega, ?_, ?_⟩
  · have : Y * 5 < Y * qP := Int.mul_lt_mul_of_pos_left (by omega) (by omega)
    omega
  · have e4 : X = R + Y * 5 + Y * (qP - 5) := by rw [Int.mul_sub]; omega
    rw [e4, Int.add_mul_emod_self_right]
theorem sub_spec {a : List Int} (h : By a) (hq : dv a < qP) (hp : pP ≤ dv a) : By (subL (plusL a [5])) ∧ dv (subL (plusL a [5])) = dv a - pP ∧ 16 < (plusL a [5]).length ∧ qP ≤ dv (plusL a [5]) ∧ 4 ≤ (plusL a [5]).getD 16 0 ∧ (plusL a [5]).getD 16 0 ≤ 255 := by
  have hb := plusL_by a [5]
  have hd := plusL_dv h by5
  have e5 : dv [5] = 5 := by simp [dv]
  rw [e5] at hd
  have h1 := qp
  have h2 := qP_pos
  have hbig : qP ≤ dv (plusL a [5]) := by omega
  have hl := len_of_big hb hbig
  have hg := dv_get hb 16
  have h3 := hb.get 16
  have e : ((256 : Int) ^ 16) = 340282366920938463463374607431768211456 := by decide
  have eq : qP = 1361129467683753853853498429727072845824 := rfl
  have h4 : 4 ≤ (plusL a [5]).getD 16 0 := by
    rw [hg, e]
    omega
  refine ⟨hb.set (by omega), ?_, hl, hbig, h4, h3.2⟩
  unfold subL
  rw [dv_set _ hl, hd, e]
  omega
theorem restF_spec : ∀ (f : Nat) (a : List Int), By a → (dv a).toNat < f → By (restF f a) ∧ dv (restF f a) = dv a % pP ∧ (restF f a).length ≤ max 18 a.length + 1 ∧ (0 < a.length → 0 < (restF f a).length)
  | 0, a, _, h => by omega
  | f + 1, a, ha, hf => by
    have hbd := dv_bd ha
    have h1 := qp
    have h2 := qP_pos
    simp only [restF]
    split
    · rename_i hq
      have hl := len_of_big ha hq
      obtain ⟨n1, n2, n3⟩ := next_less ha hq
      have n4 := nextL_len a hl
      obtain ⟨k1, k2, k3, k4⟩ := restF_spec f (nextL a) (nextL_by a) (by omega)
      exact ⟨k1, by rw [k2, n3], by omega, fun _ => k4 (by omega)⟩
    · rename_i hq
      split
      · rename_i hp
        obtain ⟨s1, s2, s3, _⟩ := sub_spec ha (by omega) hp
        have hn := plusN_le a [5]
        refine ⟨s1, ?_, ?_, fun _ => ?_⟩
        · rw [s2, ← Int.sub_emod_right, Int.emod_eq_of_lt (by omega) (by omega)]
        · unfold subL; rw [List.length_set, plusL_len]; simp at hn; omega
        · unfold subL; rw [List.length_set]; omega
      · rename_i hp
        exact ⟨ha, by rw [Int.emod_eq_of_lt (by omega) (by omega)], by omega, fun h => h⟩
theorem restL_spec {a : List Int} (ha : By a) : By (restL a) ∧ dv (restL a) = dv a % pP ∧ (restL a).length ≤ max 18 a.length + 1 ∧ (0 < a.length → 0 < (restL a).length) := restF_spec _ a ha (by omega)
theorem restL_same {a : List Int} (ha : By a) (h : dv a < pP) : restL a = a := by
  have h1 := qp
  unfold restL
  simp only [restF]
  rw [if_neg (by omega), if_neg (by omega)]
end

section
open Go Go.RowKit
set_option linter.unusedVariables false
set_option linter.unusedSimpArgs false
set_option maxRecDepth 100000
set_option maxHeartbeats 2000000

theorem dv_mono {a : List Int} (h : By a) (i : Nat) : dv (a.take i) ≤ dv a := by
  rcases Nat.lt_or_ge i a.length with hi | hi
  · have h1 := dv_split (l := a) (i := i) (by omega)
    have h2 := dv_bd (h.drop i)
    have h3 : 0 ≤ 256 ^ i * dv (a.drop i) := Int.mul_nonneg (Int.le_of_lt (q256_pos i)) h2.1
    omega
  · rw [List.take_of_length_le hi]; omega
theorem q16 : (256 : Int) ^ 16 * 4 = qP := qP_eq.symm
/-- One digit looked at. -/
theorem high_step {a : List Int} (h : By a) {i : Nat} (hi : 16 ≤ i) (hl : i < a.length) (hs : i = 16 ∨ dv (a.take i) < qP) :
    ((i = 16 ∧ 3 < a.getD i 0) → qP ≤ dv a) ∧ ((16 < i ∧ 0 < a.getD i 0) → qP ≤ dv a) ∧ (¬ (i = 16 ∧ 3 < a.getD i 0) → ¬ (16 < i ∧ 0 < a.getD i 0) → dv (a.take (i + 1)) < qP) := by
  have h1 := dv_mono h (i + 1)
  have h2 := dv_take_succ a i
  have h3 := dv_bd (h.take i)
  rw [List.length_take, Nat.min_eq_left (by omega)] at h3
  have h4 := h.get i
  have h5 := q16
  have hp := q256_pos i
  refine ⟨fun ⟨e, g⟩ => ?_, fun ⟨e, g⟩ => ?_, fun n1 n2 => ?_⟩
  · subst e
    have : (256 : Int) ^ 16 * 4 ≤ 256 ^ 16 * a.getD 16 0 := Int.mul_le_mul_of_nonneg_left (by omega) (by omega)
    omega
  · have k1 : (256 : Int) ^ i * 1 ≤ 256 ^ i * a.getD i 0 := Int.mul_le_mul_of_nonneg_left (by omega) (by omega)
    have k2 := pow_le' (show 17 ≤ i by omega)
    have k3 := p16_17
    have k4 := qP_pos
    omega
  · rcases Nat.lt_or_ge 16 i with hc | hc
    · have : a.getD i 0 = 0 := by omega
      rw [h2, this, Int.mul_zero, Int.add_zero]
      rcases hs with hs | hs
      · omega
      · exact hs
    · obtain rfl : i = 16 := by omega
      have : (256 : Int) ^ 16 * a.getD 16 0 ≤ 256 ^ 16 * 3 := Int.mul_le_mul_of_nonneg_left (by omega) (by omega)
      rw [h2]
      have e1 : (256 : Int) ^ 16 * 4 = 256 ^ 16 * 3 + 256 ^ 16 := by rw [show (4 : Int) = 3 + 1 by decide, Int.mul_add, Int.mul_one]
      omega
attribute [local irreducible] qP pP dv
attribute [local simp] wb_bool wb_undef XL_nil XL_cons XLc_val XLc_call step1_eq stepW_t stepW_f stepC_n stepC_s stepX_s xop_eq xopR_s xopR_n wantedA_eq wantedG_n wantedG_s plain1_int plain1_bool plain1_string bits_i64 bits_u64 bits_u32 bits_u16 bits_u8 xeqA xarr allK_iv num_iv calleeOf xread xeff xbin xint xnil xun xstr xload xconv xpart xfield xfieldAddr xindexAddr xindex bnd asInt? xslice xlen xmin xmax xbuild xfill xappend xcopy xcells eval_tmp eval_const put_at put_none fr0_at cells_agg cells_int cells_bool cells_string cells_ptr cells_slice notTuple tab iv_all hget_app hget_app0 hget_cons0 hget_cons set_app set_app0 setR setR_one QL_nil QL_cons QLc_val stepQ_t stepQ_f stepQC_n stepQC_s stepQX_s SL_nil SL_cons SLc_val stepS_t stepS_f ltT ltF leT leF eqT eqF ltTn ltFn leTn leFn eqTn eqFn beqT beqF bneT bneF wi64 wu64 wu32 wu16 wu8 tmodP tdivP hgetL hgetNe hgetEq setL nums_def nums_len Nat.succ_le_of_lt List.getElem?_cons_zero List.getElem?_cons_succ Option.getD_some Int.toNat_add Int.toNat_mul agB agI agS agP agL agA okB okI okS okP okSl okA
theorem high_rc {H : AH} {γ : Nat → Option Nat} {a : List Int} {va : Value} (ha : By a) (hva : SlV H va (iv .u64 a)) (hla : a.length ≤ 1000000) : AC Try.prog H.length γ 58 #[va] H (fun v' _ => v' = .bool (decide (qP ≤ dv a))) := by
  refine ac_of_aw Try.func58 rfl Try.ntmps58 Try.results58 (by simp) ?_
  have hxa := hva.len (P := Try.prog) (t := 83) (e := 45) rfl
  rw [iv_length] at hxa
  refine aw_seq ?_
  (refine aw_ops (by kernel_rfl) (fun K hK => ?_); simp (disch := first | omega | (simp only [List.length_set, List.length_append, List.length_cons, List.length_nil, iv_length, zl_length]; try omega; done)) [-getElem?_pos, -getElem?_neg]; refine hK _ _ ?_; clear hK K)
  refine aw_seq ?_
  refine aw_seq ?_
  (refine aw_ops (by kernel_rfl) (fun K hK => ?_); simp (disch := first | omega | (simp only [List.length_set, List.length_append, List.length_cons, List.length_nil, iv_length, zl_length]; try omega; done)) [-getElem?_pos, -getElem?_neg]; refine hK _ _ ?_; clear hK K)
  refine aw_block ?_
  refine aw_loop (fun q α H' => ∃ i : Nat, i + q = 16 + a.length ∧ 16 ≤ i ∧ α 3 = .int .i64 (i : Nat) ∧ α 0 = va ∧ (i = 16 ∨ (i ≤ a.length ∧ dv (a.take i) < qP)) ∧ H' = H) a.length ?_ ?_
  · exact ⟨16, by omega, by omega, by (first | (simp [put_at, put_none, fr0_at]; done) | rfl), by (first | (simp [put_at, put_none, fr0_at]; done) | rfl), .inl rfl, rfl⟩
  rintro q α H' ⟨i, hiq, h16, h3, h0, hs, rfl⟩
  refine aw_seq ?_
  refine aw_seq ?_
  by_cases hi : i < a.length
  · obtain ⟨p, e1, e2⟩ := hva.at (P := Try.prog) (t := 83) (e := 45) rfl rfl rfl rfl hi
    have e2 := e2 H' (fun _ _ => rfl)
    obtain ⟨s1, s2, s3⟩ := high_step ha h16 hi (hs.imp id (·.2))
    have hd := ha.get i
    generalize a.getD i 0 = d at *
    (refine aw_ops (by kernel_rfl) (fun K hK => ?_); simp (disch := first | omega | (simp only [List.length_set, List.length_append, List.length_cons, List.length_nil, iv_length, zl_length]; try omega; done)) [-getElem?_pos, -getElem?_neg, -xlen, h3, h0, hxa]; refine hK _ _ ?_; clear hK K)
    refine aw_t (by (first | (simp [eval_tmp, put_at, hi]; done) | (simp [eval_tmp, put_at, hi]; omega))) (by kernel_rfl) ?_
    refine aw_skip ?_
    refine aw_seq ?_
    refine aw_block ?_
    refine aw_seq ?_
    by_cases c1 : i = 16
    · by_cases c2 : 3 < d
      · have hq : qP ≤ dv a := s1 ⟨c1, c2⟩
        (refine aw_ops (by kernel_rfl) (fun K hK => ?_); simp (disch := first | omega | (simp only [List.length_set, List.length_append, List.length_cons, List.length_nil, iv_length, zl_length]; try omega; done)) [-getElem?_pos, -getElem?_neg, -xindexAddr, -xload, h3, h0, e1, e2]; refine hK _ _ ?_; clear hK K)
        refine aw_t (by (first | (simp [eval_tmp, put_at]; done) | (simp [eval_tmp, put_at]; omega))) (by kernel_rfl) ?_
        refine aw_seq ?_
        (refine aw_ops (by kernel_rfl) (fun K hK => ?_); simp (disch := first | omega | (simp only [List.length_set, List.length_append, List.length_cons, List.length_nil, iv_length, zl_length]; try omega; done)) [-getElem?_pos, -getElem?_neg]; refine hK _ _ ?_; clear hK K)
        rw [decide_eq_true hq]
        (refine aw_ret ?_; simp [thenQ_ret, inBlockQ_ret, RQ, resL, resV, xload, tab, okD, isAggD, hget_app, hget_app0, hget_cons0, hget_cons, notTuple, put_at, put_none])
      · have hq := s3 (by omega) (by omega)
        (refine aw_ops (by kernel_rfl) (fun K hK => ?_); simp (disch := first | omega | (simp only [List.length_set, List.length_append, List.length_cons, List.length_nil, iv_length, zl_length]; try omega; done)) [-getElem?_pos, -getElem?_neg, -xindexAddr, -xload, h3, h0, e1, e2]; refine hK _ _ ?_; clear hK K)
        refine aw_f (by (first | (simp [eval_tmp, put_at]; done) | (simp [eval_tmp, put_at]; omega))) (by kernel_rfl) ?_
        refine aw_skip ?_
        (refine aw_ops (by kernel_rfl) (fun K hK => ?_); simp (disch := first | omega | (simp only [List.length_set, List.length_append, List.length_cons, List.length_nil, iv_length, zl_length]; try omega; done)) [-getElem?_pos, -getElem?_neg, h3]; refine hK _ _ ?_; clear hK K)
        exact ⟨q - 1, by omega, i + 1, by omega, by omega, by (first | (simp [put_at, put_none, fr0_at]; done) | rfl), by (first | (simp [put_at, put_none, fr0_at, h0]; done) | rfl), .inr ⟨by omega, hq⟩, rfl⟩
    · by_cases c2 : 0 < d
      · have hq : qP ≤ dv a := s2 ⟨by omega, c2⟩
        (refine aw_ops (by kernel_rfl) (fun K hK => ?_); simp (disch := first | omega | (simp only [List.length_set, List.length_append, List.length_cons, List.length_nil, iv_length, zl_length]; try omega; done)) [-getElem?_pos, -getElem?_neg, -xindexAddr, -xload, h3, h0, e1, e2]; refine hK _ _ ?_; clear hK K)
        refine aw_t (by (first | (simp [eval_tmp, put_at]; done) | (simp [eval_tmp, put_at]; omega))) (by kernel_rfl) ?_
        refine aw_seq ?_
        (refine aw_ops (by kernel_rfl) (fun K hK => ?_); simp (disch := first | omega | (simp only [List.length_set, List.length_append, List.length_cons, List.length_nil, iv_length, zl_length]; try omega; done)) [-getElem?_pos, -getElem?_neg]; refine hK _ _ ?_; clear hK K)
        rw [decide_eq_true hq]
        (refine aw_ret ?_; simp [thenQ_ret, inBlockQ_ret, RQ, resL, resV, xload, tab, okD, isAggD, hget_app, hget_app0, hget_cons0, hget_cons, notTuple, put_at, put_none])
      · have hq := s3 (by omega) (by omega)
        (refine aw_ops (by kernel_rfl) (fun K hK => ?_); simp (disch := first | omega | (simp only [List.length_set, List.length_append, List.length_cons, List.length_nil, iv_length, zl_length]; try omega; done)) [-getElem?_pos, -getElem?_neg, -xindexAddr, -xload, h3, h0, e1, e2]; refine hK _ _ ?_; clear hK K)
        refine aw_f (by (first | (simp [eval_tmp, put_at]; done) | (simp [eval_tmp, put_at]; omega))) (by kernel_rfl) ?_
        refine aw_skip ?_
        (refine aw_ops (by kernel_rfl) (fun K hK => ?_); simp (disch := first | omega | (simp only [List.length_set, List.length_append, List.length_cons, List.length_nil, iv_length, zl_length]; try omega; done)) [-getElem?_pos, -getElem?_neg, h3]; refine hK _ _ ?_; clear hK K)
        exact ⟨q - 1, by omega, i + 1, by omega, by omega, by (first | (simp [put_at, put_none, fr0_at]; done) | rfl), by (first | (simp [put_at, put_none, fr0_at, h0]; done) | rfl), .inr ⟨by omega, hq⟩, rfl⟩
  · have hq : ¬ qP ≤ dv a := by
      intro h
      have := len_of_big ha h
      rcases hs with rfl | ⟨k1, k2⟩
      · omega
      · rw [List.take_of_length_le (by omega)] at k2
        omega
    (refine aw_ops (by kernel_rfl) (fun K hK => ?_); simp (disch := first | omega | (simp only [List.length_set, List.length_append, List.length_cons, List.length_nil, iv_length, zl_length]; try omega; done)) [-getElem?_pos, -getElem?_neg, -xlen, h3, h0, hxa]; refine hK _ _ ?_; clear hK K)
    refine aw_f (by (first | (simp [eval_tmp, put_at, hi]; done) | (simp [eval_tmp, put_at, hi]; omega))) (by kernel_rfl) ?_
    refine aw_exit ?_
    refine aw_seq ?_
    (refine aw_ops (by kernel_rfl) (fun K hK => ?_); simp (disch := first | omega | (simp only [List.length_set, List.length_append, List.length_cons, List.length_nil, iv_length, zl_length]; try omega; done)) [-getElem?_pos, -getElem?_neg]; refine hK _ _ ?_; clear hK K)
    rw [decide_eq_false hq]
    (refine aw_ret ?_; simp [thenQ_ret, inBlockQ_ret, RQ, resL, resV, xload, tab, okD, isAggD, hget_app, hget_app0, hget_cons0, hget_cons, notTuple, put_at, put_none])
theorem own_app1 {lo nro : Nat} {H : AH} {v : Value} {l : List Int} (x : Int) (ho : OwnC lo H v 45 1 (iv .u64 l)) (hlo : lo ≤ H.length) (hn : nro ≤ lo) (hl : l.length ≤ 2000000) : ∃ v' H', xappend Try.prog nro 83 v (.slice (some ⟨H.length, 0, none⟩) 1 1) (H ++ [some ⟨[.int .u64 x], 45, some 1⟩]) = some (v', H') ∧ OwnC lo H' v' 45 1 (iv .u64 (l ++ [x])) ∧ Low lo H H' := by
  obtain ⟨v', H2, hap, ho', hlow'⟩ := own_append (P := Try.prog) (nro := nro) (lo := lo) (t := 83) (e := 45) (H := H ++ [some ⟨[.int .u64 x], 45, some 1⟩]) (x := .slice (some ⟨H.length, 0, none⟩) 1 1) (sz := 1) (news := [.int .u64 x])
      (by simp [tab]) (by simp [tab]) (by omega) (by simp [tab, cells_int]) (ho.push _) (by simp; omega) (by omega) (by simp) (by simp [xcells, hget_app0, hget_cons0]) (by simp) (by simp) (by simp [tab]; omega) (by simp [maxLen]; omega)
  exact ⟨v', H2, hap, by rw [iv_append]; exact ho', (Low.push hlo _).trans hlow'⟩
theorem OwnC.slv {lo : Nat} {H : AH} {v : Value} {e : TypeId} {cells : List Value} (h : OwnC lo H v e 1 cells) : SlV H v cells := by
  rcases h with ⟨rfl, rfl⟩ | ⟨j, n, h1, rfl, h3, h4⟩
  · exact .inl ⟨none, rfl, rfl⟩
  · exact SlV.of h3 (by omega)
theorem SlV.low {H H' : AH} {v : Value} {cells : List Value} (h : SlV H v cells) (hl : ∀ j, j < H.length → hget H' j = hget H j) : SlV H' v cells := by
  rcases h with h | ⟨j, off, k, h1, h2, h3⟩
  · exact .inl h
  · exact .inr ⟨j, off, k, h1, by rw [hl j (hget_lt h2)]; exact h2, h3⟩
end

section
open Go Go.RowKit
set_option linter.unusedVariables false
set_option linter.unusedSimpArgs false
set_option maxRecDepth 100000
set_option maxHeartbeats 4000000

theorem OwnC.low' {lo lo2 : Nat} {H H' : AH} {v : Value} {e : TypeId} {sz : Nat} {cells : List Value} (h : OwnC lo H v e sz cells) (hl : H.length ≤ lo2) (hw : Low lo2 H H') : OwnC lo H' v e sz cells := by
  rcases h with h | ⟨j, n, h1, h2, h3, h4⟩
  · exact .inl h
  · exact .inr ⟨j, n, h1, h2, by rw [hw.1 j (by have := hget_lt h3; omega)]; exact h3, h4⟩
theorem Low.weak {lo lo2 : Nat} {H H' : AH} (h : Low lo2 H H') (hl : lo ≤ lo2) : Low lo H H' := ⟨fun i hi => h.1 i (by omega), by have := h.2; omega⟩
attribute [local irreducible] qP pP dv plusL timesL loL hiL restL plusN
attribute [local simp] wb_bool wb_undef XL_nil XL_cons XLc_val XLc_call step1_eq stepW_t stepW_f stepC_n stepC_s stepX_s xop_eq xopR_s xopR_n wantedA_eq wantedG_n wantedG_s plain1_int plain1_bool plain1_string bits_i64 bits_u64 bits_u32 bits_u16 bits_u8 xeqA xarr allK_iv num_iv calleeOf xread xeff xbin xint xnil xun xstr xload xconv xpart xfield xfieldAddr xindexAddr xindex bnd asInt? xslice xlen xmin xmax xbuild xfill xappend xcopy xcells eval_tmp eval_const put_at put_none fr0_at cells_agg cells_int cells_bool cells_string cells_ptr cells_slice notTuple tab iv_all hget_app hget_app0 hget_cons0 hget_cons set_app set_app0 setR setR_one QL_nil QL_cons QLc_val stepQ_t stepQ_f stepQC_n stepQC_s stepQX_s SL_nil SL_cons SLc_val stepS_t stepS_f ltT ltF leT leF eqT eqF ltTn ltFn leTn leFn eqTn eqFn beqT beqF bneT bneF wi64 wu64 wu32 wu16 wu8 tmodP tdivP hgetL hgetNe hgetEq setL nums_def nums_len Nat.succ_le_of_lt List.getElem?_cons_zero List.getElem?_cons_succ Option.getD_some Int.toNat_add Int.toNat_mul agB agI agS agP agL agA okB okI okS okP okSl okA
theorem rest_rc {H : AH} {γ : Nat → Option Nat} {a : List Int} {va : Value} (ha : By a) (hva : SlV H va (iv .u64 a)) (hla : a.length ≤ 500000) (hla0 : 0 < a.length) :
    AC Try.prog H.length γ 45 #[va] H (fun v' H' => (dv a < pP → v' = va) ∧ (pP ≤ dv a → Fresh H.length (dB (restL a)) (restL a).length v' H')) := by
  refine ac_of_aw Try.func45 rfl Try.ntmps45 Try.results45 (by simp) ?_
  have hqp := qp
  refine aw_seq ?_
  (refine aw_ops (by kernel_rfl) (fun K hK => ?_); simp (disch := first | omega | (simp only [List.length_set, List.length_append, List.length_cons, List.length_nil, iv_length, zl_length]; try omega; done)) [-getElem?_pos, -getElem?_neg]; refine hK _ _ ?_; clear hK K)
  refine aw_seq ?_
  refine aw_block ?_
  refine aw_loop (fun q α H' => ∃ (A : List Int) (v : Value) (f : Nat), q = (dv A).toNat ∧ By A ∧ 0 < A.length ∧ A.length ≤ 500000 ∧ (dv A).toNat < f ∧ restF f A = restL a ∧ α 0 = v ∧ ((v = va ∧ A = a) ∨ (OwnC H.length H' v 45 1 (iv .u64 A) ∧ qP ≤ dv a)) ∧ Low H.length H H') (dv a).toNat ?_ ?_
  · exact ⟨a, va, (dv a).toNat + 1, rfl, ha, hla0, hla, by omega, by unfold restL; rfl, by (first | (simp [put_at, put_none, fr0_at]; done) | rfl), .inl ⟨rfl, rfl⟩, Low.refl (Nat.le_refl _)⟩
  rintro q α G ⟨A, v, f, rfl, hA, hA0, hAl, hf, hres, h0, hcase, hlow⟩
  have hvA : SlV G v (iv .u64 A) := by
    rcases hcase with ⟨rfl, rfl⟩ | ⟨h, _⟩
    · exact hva.low hlow.1
    · exact h.slv
  have hxA := hvA.len (P := Try.prog) (t := 83) (e := 45) rfl
  rw [iv_length] at hxA
  have hGl := hlow.2
  refine aw_seq ?_
  refine aw_seq ?_
  refine aw_ops (by kernel_rfl) (fun K hK => ?_)
  simp (disch := first | omega | (simp only [List.length_set, List.length_append, List.length_cons, List.length_nil, iv_length, zl_length]; try omega; done)) [-getElem?_pos, -getElem?_neg, h0]
  refine ⟨by kernel_rfl, ac_of_rc (high_rc hA hvA (by omega)) (by simp [pv_iv, pv_int, pv_bool, pv_string, pv_tup2, pv_tup3, iv_plain, p2_int, p2_bool, p2_string]) ?_⟩
  try simp (disch := first | omega | (simp only [List.length_set, List.length_append, List.length_cons, List.length_nil, iv_length, zl_length]; try omega; done)) [-getElem?_pos, -getElem?_neg]
  refine hK _ _ ?_; clear hK K
  by_cases hq : qP ≤ dv A
  · obtain ⟨f, rfl⟩ : ∃ f', f = f' + 1 := ⟨f - 1, by omega⟩
    have hl31 := len_of_big hA hq
    obtain ⟨n1, n2, n3⟩ := next_less hA hq
    have n4 := nextL_len A hl31
    have hres' : restF f (nextL A) = restL a := by
      simp only [restF] at hres
      rwa [if_pos hq] at hres
    have hll := loL_len A
    have hlg := fun i hi => loL_get A (i := i) hi
    have hlb := loL_by hA
    have hhb := hiL_by hA
    have hhl := hiL_len A
    have hhg : ∀ j, j < A.length - 16 → (hiL A).getD j 0 = A.getD (16 + j) 0 / 4 + A.getD (16 + j + 1) 0 % 4 * 64 := fun j hj => by
      unfold hiL
      rw [hiR_get _ _ (by rw [List.length_drop]; exact hj)]
      simp only [List.getD_eq_getElem?_getD, List.getElem?_drop]
      rw [Nat.add_assoc]
    have hnx : nextL A = plusL (loL A) (timesL (hiL A) [5]) := rfl
    rw [decide_eq_true hq]
    refine aw_t (by (first | (simp [eval_tmp, put_at]; done) | (simp [eval_tmp, put_at]; omega))) (by kernel_rfl) ?_
    refine aw_skip ?_
    refine aw_block ?_
    refine aw_seq ?_
    (refine aw_ops (by kernel_rfl) (fun K hK => ?_); simp (disch := first | omega | (simp only [List.length_set, List.length_append, List.length_cons, List.length_nil, iv_length, zl_length]; try omega; done)) [-getElem?_pos, -getElem?_neg]; refine hK _ _ ?_; clear hK K)
    refine aw_seq ?_
    refine aw_seq ?_
    (refine aw_ops (by kernel_rfl) (fun K hK => ?_); simp (disch := first | omega | (simp only [List.length_set, List.length_append, List.length_cons, List.length_nil, iv_length, zl_length]; try omega; done)) [-getElem?_pos, -getElem?_neg]; refine hK _ _ ?_; clear hK K)
    refine aw_cut (fun α' H1 => ∃ vl : Value, α' 0 = v ∧ α' 3 = vl ∧ α' 4 = .slice none 0 0 ∧ OwnC G.length H1 vl 45 1 (iv .u64 (loL A)) ∧ Low G.length G H1) ?_ ?_
    · refine aw_block ?_
      refine aw_loop (fun q2 α H1 => ∃ (i : Nat) (vl : Value), i + q2 = 17 ∧ α 5 = .int .i64 (i : Nat) ∧ α 0 = v ∧ α 3 = vl ∧ α 4 = .slice none 0 0 ∧ OwnC G.length H1 vl 45 1 (iv .u64 ((loL A).take i)) ∧ Low G.length G H1) 17 ?_ ?_
      · exact ⟨0, _, by omega, by (first | (simp [put_at, put_none, fr0_at]; done) | rfl), by (first | (simp [put_at, put_none, fr0_at, h0]; done) | rfl), by (first | (simp [put_at, put_none, fr0_at]; done) | rfl), by (first | (simp [put_at, put_none, fr0_at]; done) | rfl), .inl ⟨rfl, rfl⟩, Low.refl (Nat.le_refl _)⟩
      clear h0
      rintro q2 α H1 ⟨i, vl, hiq, h5, h0, h3, h4, ho, hlow1⟩
      refine aw_seq ?_
      refine aw_seq ?_
      by_cases hi : i < 17
      · have hd := hA.get i
        (refine aw_ops (by kernel_rfl) (fun K hK => ?_); simp (disch := first | omega | (simp only [List.length_set, List.length_append, List.length_cons, List.length_nil, iv_length, zl_length]; try omega; done)) [-getElem?_pos, -getElem?_neg, h5]; refine hK _ _ ?_; clear hK K)
        refine aw_t (by (first | (simp [eval_tmp, put_at, hi]; done) | (simp [eval_tmp, put_at, hi]; omega))) (by kernel_rfl) ?_
        refine aw_skip ?_
        refine aw_seq ?_
        refine aw_block ?_
        refine aw_seq ?_
        (refine aw_ops (by kernel_rfl) (fun K hK => ?_); simp (disch := first | omega | (simp only [List.length_set, List.length_append, List.length_cons, List.length_nil, iv_length, zl_length]; try omega; done)) [-getElem?_pos, -getElem?_neg]; refine hK _ _ ?_; clear hK K)
        refine aw_seq ?_
        refine aw_seq ?_
        (refine aw_ops (by kernel_rfl) (fun K hK => ?_); simp (disch := first | omega | (simp only [List.length_set, List.length_append, List.length_cons, List.length_nil, iv_length, zl_length]; try omega; done)) [-getElem?_pos, -getElem?_neg, -xlen, h5, h0, hxA]; refine hK _ _ ?_; clear hK K)
        refine aw_cut (fun α' H2 => α' 6 = .int .u64 (A.getD i 0) ∧ α' 5 = .int .i64 (i : Nat) ∧ α' 0 = v ∧ α' 3 = vl ∧ α' 4 = .slice none 0 0 ∧ H1 = H2) ?_ ?_
        · by_cases c1 : i < A.length
          · obtain ⟨p, e1, e2⟩ := hvA.at (P := Try.prog) (t := 83) (e := 45) rfl rfl rfl rfl c1
            have e2 := e2 H1 hlow1.1
            generalize A.getD i 0 = d at *
            refine aw_t (by (first | (simp [eval_tmp, put_at, c1]; done) | (simp [eval_tmp, put_at, c1]; omega))) (by kernel_rfl) ?_
            (refine aw_ops (by kernel_rfl) (fun K hK => ?_); simp (disch := first | omega | (simp only [List.length_set, List.length_append, List.length_cons, List.length_nil, iv_length, zl_length]; try omega; done)) [-getElem?_pos, -getElem?_neg, -xindexAddr, -xload, h5, h0, e1, e2]; refine hK _ _ ?_; clear hK K)
            exact ⟨by (first | (simp [put_at, put_none, fr0_at]; done) | rfl), by (first | (simp [put_at, put_none, fr0_at, h5]; done) | rfl), by (first | (simp [put_at, put_none, fr0_at, h0]; done) | rfl), by (first | (simp [put_at, put_none, fr0_at, h3]; done) | rfl), by (first | (simp [put_at, put_none, fr0_at, h4]; done) | rfl), rfl⟩
          · have : A.getD i 0 = 0 := by rw [List.getD_eq_getElem?_getD, List.getElem?_eq_none (by omega)]; rfl
            rw [this]
            refine aw_f (by (first | (simp [eval_tmp, put_at, c1]; done) | (simp [eval_tmp, put_at, c1]; omega))) (by kernel_rfl) ?_
            refine aw_skip ?_
            exact ⟨by (first | (simp [put_at, put_none, fr0_at]; done) | rfl), by (first | (simp [put_at, put_none, fr0_at, h5]; done) | rfl), by (first | (simp [put_at, put_none, fr0_at, h0]; done) | rfl), by (first | (simp [put_at, put_none, fr0_at, h3]; done) | rfl), by (first | (simp [put_at, put_none, fr0_at, h4]; done) | rfl), rfl⟩
        clear h5 h0 h3 h4
        rintro α H2 ⟨h6, h5, h0, h3, h4, rfl⟩
        have hgi := hlg i hi
        have hts : (loL A).take (i + 1) = (loL A).take i ++ [(loL A).getD i 0] := by rw [List.take_add_one, List.getElem?_eq_getElem (by omega), List.getD_eq_getElem?_getD, List.getElem?_eq_getElem (by omega)]; rfl
        generalize A.getD i 0 = d at *
        refine aw_seq ?_
        refine aw_seq ?_
        (refine aw_ops (by kernel_rfl) (fun K hK => ?_); simp (disch := first | omega | (simp only [List.length_set, List.length_append, List.length_cons, List.length_nil, iv_length, zl_length]; try omega; done)) [-getElem?_pos, -getElem?_neg, h5]; refine hK _ _ ?_; clear hK K)
        refine aw_cut (fun α' H2 => α' 6 = .int .u64 ((loL A).getD i 0) ∧ α' 5 = .int .i64 (i : Nat) ∧ α' 0 = v ∧ α' 3 = vl ∧ α' 4 = .slice none 0 0 ∧ H1 = H2) ?_ ?_
        · rw [hgi]
          by_cases c1 : i = 16
          · rw [if_pos c1]
            refine aw_t (by (first | (simp [eval_tmp, put_at, c1]; done) | (simp [eval_tmp, put_at, c1]; omega))) (by kernel_rfl) ?_
            (refine aw_ops (by kernel_rfl) (fun K hK => ?_); simp (disch := first | omega | (simp only [List.length_set, List.length_append, List.length_cons, List.length_nil, iv_length, zl_length]; try omega; done)) [-getElem?_pos, -getElem?_neg, h6]; refine hK _ _ ?_; clear hK K)
            exact ⟨by (first | (simp [put_at, put_none, fr0_at]; done) | rfl), by (first | (simp [put_at, put_none, fr0_at, h5]; done) | rfl), by (first | (simp [put_at, put_none, fr0_at, h0]; done) | rfl), by (first | (simp [put_at, put_none, fr0_at, h3]; done) | rfl), by (first | (simp [put_at, put_none, fr0_at, h4]; done) | rfl), rfl⟩
          · rw [if_neg c1]
            refine aw_f (by (first | (simp [eval_tmp, put_at, c1]; done) | (simp [eval_tmp, put_at, c1]; omega))) (by kernel_rfl) ?_
            refine aw_skip ?_
            exact ⟨by (first | (simp [put_at, put_none, fr0_at, h6]; done) | rfl), by (first | (simp [put_at, put_none, fr0_at, h5]; done) | rfl), by (first | (simp [put_at, put_none, fr0_at, h0]; done) | rfl), by (first | (simp [put_at, put_none, fr0_at, h3]; done) | rfl), by (first | (simp [put_at, put_none, fr0_at, h4]; done) | rfl), rfl⟩
        clear h6 h5 h0 h3 h4
        rintro α H2 ⟨h6, h5, h0, h3, h4, rfl⟩
        clear hgi hlg
        obtain ⟨v', H2, hap, ho', hlow'⟩ := own_app1 (nro := H.length) ((loL A).getD i 0) ho hlow1.2 hGl (by rw [List.length_take]; omega)
        rw [← hts] at ho'
        generalize (loL A).getD i 0 = x at *
        (refine aw_ops (by kernel_rfl) (fun K hK => ?_); simp (disch := first | omega | (simp only [List.length_set, List.length_append, List.length_cons, List.length_nil, iv_length, zl_length]; try omega; done)) [-getElem?_pos, -getElem?_neg, -xappend, h3, h6, hap]; refine hK _ _ ?_; clear hK K)
        (refine aw_ops (by kernel_rfl) (fun K hK => ?_); simp (disch := first | omega | (simp only [List.length_set, List.length_append, List.length_cons, List.length_nil, iv_length, zl_length]; try omega; done)) [-getElem?_pos, -getElem?_neg, h5]; refine hK _ _ ?_; clear hK K)
        exact ⟨q2 - 1, by omega, i + 1, v', by omega, by (first | (simp [put_at, put_none, fr0_at]; done) | rfl), by (first | (simp [put_at, put_none, fr0_at, h0]; done) | rfl), by (first | (simp [put_at, put_none, fr0_at]; done) | rfl), by (first | (simp [put_at, put_none, fr0_at, h4]; done) | rfl), ho', hlow1.trans hlow'⟩
      · (refine aw_ops (by kernel_rfl) (fun K hK => ?_); simp (disch := first | omega | (simp only [List.length_set, List.length_append, List.length_cons, List.length_nil, iv_length, zl_length]; try omega; done)) [-getElem?_pos, -getElem?_neg, h5]; refine hK _ _ ?_; clear hK K)
        refine aw_f (by (first | (simp [eval_tmp, put_at, hi]; done) | (simp [eval_tmp, put_at, hi]; omega))) (by kernel_rfl) ?_
        obtain rfl : i = 17 := by omega
        refine aw_exit ?_
        rw [List.take_of_length_le (by omega)] at ho
        exact ⟨vl, h0, h3, h4, ho, hlow1⟩
    clear h0
    rintro α G2 ⟨vl, h0, h3, h4, hol, hlow1⟩
    have hG2 := hlow1.2
    refine aw_seq ?_
    refine aw_seq ?_
    (refine aw_ops (by kernel_rfl) (fun K hK => ?_); simp (disch := first | omega | (simp only [List.length_set, List.length_append, List.length_cons, List.length_nil, iv_length, zl_length]; try omega; done)) [-getElem?_pos, -getElem?_neg]; refine hK _ _ ?_; clear hK K)
    refine aw_cut (fun α' H3 => ∃ vh : Value, α' 3 = vl ∧ α' 4 = vh ∧ OwnC G2.length H3 vh 45 1 (iv .u64 (hiL A)) ∧ Low G2.length G2 H3) ?_ ?_
    · refine aw_block ?_
      refine aw_loop (fun q2 α H3 => ∃ (j : Nat) (vh : Value), j + q2 = A.length - 16 ∧ α 7 = .int .i64 ((16 + j : Nat) : Int) ∧ α 0 = v ∧ α 3 = vl ∧ α 4 = vh ∧ OwnC G2.length H3 vh 45 1 (iv .u64 ((hiL A).take j)) ∧ Low G2.length G2 H3) (A.length - 16) ?_ ?_
      · exact ⟨0, _, by omega, by (first | (simp [put_at, put_none, fr0_at]; done) | rfl), by (first | (simp [put_at, put_none, fr0_at, h0]; done) | rfl), by (first | (simp [put_at, put_none, fr0_at, h3]; done) | rfl), by (first | (simp [put_at, put_none, fr0_at, h4]; done) | rfl), .inl ⟨rfl, rfl⟩, Low.refl (Nat.le_refl _)⟩
      clear h0 h3 h4
      rintro q2 α H3 ⟨j, vh, hjq, h7, h0, h3, h4, ho, hlow2⟩
      obtain ⟨i, hi⟩ : ∃ i, i = 16 + j := ⟨_, rfl⟩
      rw [← hi] at h7
      refine aw_seq ?_
      refine aw_seq ?_
      by_cases hil : i < A.length
      · have hd := hA.get i
        have hd1 := hA.get (i + 1)
        have hgi := hhg j (by omega)
        rw [← hi] at hgi
        have hts : (hiL A).take (j + 1) = (hiL A).take j ++ [(hiL A).getD j 0] := by rw [List.take_add_one, List.getElem?_eq_getElem (by omega), List.getD_eq_getElem?_getD, List.getElem?_eq_getElem (by omega)]; rfl
        obtain ⟨p, e1, e2⟩ := hvA.at (P := Try.prog) (t := 83) (e := 45) rfl rfl rfl rfl hil
        have hlow3 : ∀ k, k < G.length → hget H3 k = hget G k := fun k hk => by rw [hlow2.1 k (by omega), hlow1.1 k hk]
        have e2 := e2 H3 hlow3
        generalize A.getD i 0 = d at *
        (refine aw_ops (by kernel_rfl) (fun K hK => ?_); simp (disch := first | omega | (simp only [List.length_set, List.length_append, List.length_cons, List.length_nil, iv_length, zl_length]; try omega; done)) [-getElem?_pos, -getElem?_neg, -xlen, h7, h0, hxA]; refine hK _ _ ?_; clear hK K)
        refine aw_t (by (first | (simp [eval_tmp, put_at, hil]; done) | (simp [eval_tmp, put_at, hil]; omega))) (by kernel_rfl) ?_
        refine aw_skip ?_
        refine aw_seq ?_
        refine aw_block ?_
        refine aw_seq ?_
        (refine aw_ops (by kernel_rfl) (fun K hK => ?_); simp (disch := first | omega | (simp only [List.length_set, List.length_append, List.length_cons, List.length_nil, iv_length, zl_length]; try omega; done)) [-getElem?_pos, -getElem?_neg, -xindexAddr, -xload, h7, h0, e1, e2]; refine hK _ _ ?_; clear hK K)
        refine aw_seq ?_
        refine aw_seq ?_
        (refine aw_ops (by kernel_rfl) (fun K hK => ?_); simp (disch := first | omega | (simp only [List.length_set, List.length_append, List.length_cons, List.length_nil, iv_length, zl_length]; try omega; done)) [-getElem?_pos, -getElem?_neg, -xlen, h7, h0, hxA]; refine hK _ _ ?_; clear hK K)
        refine aw_cut (fun α' H2 => α' 8 = .int .u64 (d / 4 + A.getD (i + 1) 0 % 4 * 64) ∧ α' 7 = .int .i64 (i : Nat) ∧ α' 0 = v ∧ α' 3 = vl ∧ α' 4 = vh ∧ H3 = H2) ?_ ?_
        · by_cases c1 : i + 1 < A.length
          · obtain ⟨p1, e3, e4⟩ := hvA.at (P := Try.prog) (t := 83) (e := 45) rfl rfl rfl rfl c1
            have e4 := e4 H3 hlow3
            have ei : ((i + 1 : Nat) : Int) = (i : Int) + 1 := by omega
            rw [ei] at e3
            generalize A.getD (i + 1) 0 = d1 at *
            refine aw_t (by (first | (simp [eval_tmp, put_at, c1]; done) | (simp [eval_tmp, put_at, c1]; omega))) (by kernel_rfl) ?_
            (refine aw_ops (by kernel_rfl) (fun K hK => ?_); simp (disch := first | omega | (simp only [List.length_set, List.length_append, List.length_cons, List.length_nil, iv_length, zl_length]; try omega; done)) [-getElem?_pos, -getElem?_neg, -xindexAddr, -xload, h7, h0, e3, e4]; refine hK _ _ ?_; clear hK K)
            exact ⟨by (first | (simp [put_at, put_none, fr0_at]; done) | rfl), by (first | (simp [put_at, put_none, fr0_at, h7]; done) | rfl), by (first | (simp [put_at, put_none, fr0_at, h0]; done) | rfl), by (first | (simp [put_at, put_none, fr0_at, h3]; done) | rfl), by (first | (simp [put_at, put_none, fr0_at, h4]; done) | rfl), rfl⟩
          · have : A.getD (i + 1) 0 = 0 := by rw [List.getD_eq_getElem?_getD, List.getElem?_eq_none (by omega)]; rfl
            rw [this]
            refine aw_f (by (first | (simp [eval_tmp, put_at, c1]; done) | (simp [eval_tmp, put_at, c1]; omega))) (by kernel_rfl) ?_
            refine aw_skip ?_
            exact ⟨by (first | (simp [put_at, put_none, fr0_at]; done) | rfl), by (first | (simp [put_at, put_none, fr0_at, h7]; done) | rfl), by (first | (simp [put_at, put_none, fr0_at, h0]; done) | rfl), by (first | (simp [put_at, put_none, fr0_at, h3]; done) | rfl), by (first | (simp [put_at, put_none, fr0_at, h4]; done) | rfl), rfl⟩
        clear h7 h0 h3 h4
        rintro α H2 ⟨h8, h7, h0, h3, h4, rfl⟩
        rw [← hgi] at h8
        obtain ⟨v', H4, hap, ho', hlow'⟩ := own_app1 (nro := H.length) ((hiL A).getD j 0) ho hlow2.2 (by omega) (by rw [List.length_take]; omega)
        rw [← hts] at ho'
        clear hgi hhg
        generalize (hiL A).getD j 0 = x at *
        (refine aw_ops (by kernel_rfl) (fun K hK => ?_); simp (disch := first | omega | (simp only [List.length_set, List.length_append, List.length_cons, List.length_nil, iv_length, zl_length]; try omega; done)) [-getElem?_pos, -getElem?_neg, -xappend, h4, h8, hap]; refine hK _ _ ?_; clear hK K)
        (refine aw_ops (by kernel_rfl) (fun K hK => ?_); simp (disch := first | omega | (simp only [List.length_set, List.length_append, List.length_cons, List.length_nil, iv_length, zl_length]; try omega; done)) [-getElem?_pos, -getElem?_neg, h7]; refine hK _ _ ?_; clear hK K)
        exact ⟨q2 - 1, by omega, j + 1, v', by omega, by rw [show ((16 + (j + 1) : Nat) : Int) = (i : Int) + 1 by omega]; (first | (simp [put_at, put_none, fr0_at]; done) | rfl), by (first | (simp [put_at, put_none, fr0_at, h0]; done) | rfl), by (first | (simp [put_at, put_none, fr0_at, h3]; done) | rfl), by (first | (simp [put_at, put_none, fr0_at]; done) | rfl), ho', hlow2.trans hlow'⟩
      · (refine aw_ops (by kernel_rfl) (fun K hK => ?_); simp (disch := first | omega | (simp only [List.length_set, List.length_append, List.length_cons, List.length_nil, iv_length, zl_length]; try omega; done)) [-getElem?_pos, -getElem?_neg, -xlen, h7, h0, hxA]; refine hK _ _ ?_; clear hK K)
        refine aw_f (by (first | (simp [eval_tmp, put_at, hil]; done) | (simp [eval_tmp, put_at, hil]; omega))) (by kernel_rfl) ?_
        refine aw_exit ?_
        rw [List.take_of_length_le (by omega)] at ho
        exact ⟨vh, h3, h4, ho, hlow2⟩
    clear h0 h3 h4
    rintro α H3 ⟨vh, h3, h4, hoh, hlow2⟩
    have hvl : SlV H3 vl (iv .u64 (loL A)) := hol.slv.low hlow2.1
    have hvh : SlV H3 vh (iv .u64 (hiL A)) := hoh.slv
    have hH3 := hlow2.2
    have T := fun L => dtimes_rc (H := H3 ++ L) (γ := γ) (vb := .slice (some ⟨H3.length, 0, none⟩) 1 1) hhb by5 (hvh.app L)
    have hn1 : 0 < (timesL (hiL A) [5]).length := by rw [timesL_len]; omega
    have htb := timesL_by hhb by5
    have htl := timesL_len (hiL A) [5]
    have hpl := plusL_len (loL A) (timesL (hiL A) [5])
    have hpn := plusN_le (loL A) (timesL (hiL A) [5])
    simp only [List.length_cons, List.length_nil] at htl
    refine aw_ops (by kernel_rfl) (fun K hK => ?_)
    simp (disch := first | omega | (simp only [List.length_set, List.length_append, List.length_cons, List.length_nil, iv_length, zl_length]; try omega; done)) [-getElem?_pos, -getElem?_neg, h3, h4]
    refine ⟨by kernel_rfl, ac_of_fresh (T _ (SlV.of (by rw [hget_app0]; rfl) rfl) (by omega) (by simp)) (by unfold dB; exact iv_all _ _) ?_⟩
    simp (disch := first | omega | (simp only [List.length_set, List.length_append, List.length_cons, List.length_nil, iv_length, zl_length]; try omega; done)) [-getElem?_pos, -getElem?_neg]
    refine ⟨by kernel_rfl, ac_of_fresh (dplus_rc (γ := γ) hlb htb (hvl.app _) (SlV.of (by rw [hget_app]; rfl) (by rw [iv_length, htl])) (by omega) (by omega) (by omega)) (by unfold dB; exact iv_all _ _) ?_⟩
    try simp (disch := first | omega | (simp only [List.length_set, List.length_append, List.length_cons, List.length_nil, iv_length, zl_length]; try omega; done)) [-getElem?_pos, -getElem?_neg]
    refine hK _ _ ?_; clear hK K
    refine ⟨(dv (nextL A)).toNat, by omega, nextL A, _, f, rfl, nextL_by A, by omega, by omega, by omega, hres', by (first | (simp [put_at, put_none, fr0_at]; done) | rfl), .inr ⟨.inr ⟨H3.length + 2, _, by omega, rfl, ?_, ?_⟩, ?_⟩, ?_⟩
    · rw [hnx]
      first | (rw [hget_app]; rfl) | (simp [hget_app, dB]; rfl)
    · rw [hnx, iv_length, hpl]; simp
    · rcases hcase with ⟨_, rfl⟩ | ⟨_, h⟩
      · exact hq
      · exact h
    · exact (((hlow.trans (hlow1.weak hGl)).trans (hlow2.weak (by omega))).trans (Low.push (by omega) _))
  · obtain ⟨f, rfl⟩ : ∃ f', f = f' + 1 := ⟨f - 1, by omega⟩
    have hfin : (if pP ≤ dv A then subL (plusL A [5]) else A) = restL a := by
      simp only [restF] at hres
      rwa [if_neg hq] at hres
    have hpl := plusL_len A [5]
    have hpn := plusN_le A [5]
    have hpb := plusL_by A [5]
    have hpd := plusL_dv hA by5
    have e5 : dv [5] = 5 := by simp [dv]
    rw [e5] at hpd
    rw [decide_eq_false hq]
    simp only [List.length_cons, List.length_nil] at hpn
    have hB : ∀ L, SlV (G ++ (some ⟨[.int .u64 5], 45, some 1⟩ :: some (dB (plusL A [5])) :: L)) (.slice (some ⟨G.length + 1, 0, none⟩) (plusN A [5]) (plusN A [5])) (iv .u64 (plusL A [5])) := fun L => SlV.of (by rw [hget_app]; rfl) (by rw [iv_length, hpl])
    refine aw_f (by (first | (simp [eval_tmp, put_at]; done) | (simp [eval_tmp, put_at]; omega))) (by kernel_rfl) ?_
    refine aw_exit ?_
    refine aw_seq ?_
    refine aw_ops (by kernel_rfl) (fun K hK => ?_)
    simp (disch := first | omega | (simp only [List.length_set, List.length_append, List.length_cons, List.length_nil, iv_length, zl_length]; try omega; done)) [-getElem?_pos, -getElem?_neg, h0]
    refine ⟨by kernel_rfl, ac_of_fresh (dplus_rc (γ := γ) hA by5 (hvA.app _) (SlV.of (by rw [hget_app0]; rfl) rfl) (by omega) (by simp) (by omega)) (by unfold dB; exact iv_all _ _) ?_⟩
    simp (disch := first | omega | (simp only [List.length_set, List.length_append, List.length_cons, List.length_nil, iv_length, zl_length]; try omega; done)) [-getElem?_pos, -getElem?_neg]
    refine hK _ _ ?_; clear hK K
    refine aw_seq ?_
    refine aw_seq ?_
    refine aw_ops (by kernel_rfl) (fun K hK => ?_)
    simp (disch := first | omega | (simp only [List.length_set, List.length_append, List.length_cons, List.length_nil, iv_length, zl_length]; try omega; done)) [-getElem?_pos, -getElem?_neg]
    refine ⟨by kernel_rfl, ac_of_rc (high_rc hpb (hB []) (by omega)) (by simp [pv_iv, pv_int, pv_bool, pv_string, pv_tup2, pv_tup3, iv_plain, p2_int, p2_bool, p2_string]) ?_⟩
    try simp (disch := first | omega | (simp only [List.length_set, List.length_append, List.length_cons, List.length_nil, iv_length, zl_length]; try omega; done)) [-getElem?_pos, -getElem?_neg]
    refine hK _ _ ?_; clear hK K
    by_cases hp : pP ≤ dv A
    · have hqB : qP ≤ dv (plusL A [5]) := by omega
      obtain ⟨s1, s2, s3, _, s5, s6⟩ := sub_spec hA (by omega) hp
      rw [if_pos hp] at hfin
      have h16 : (iv .u64 (plusL A [5]))[16]? = some (.int .u64 ((plusL A [5]).getD 16 0)) := iv_getN _ _ _ s3
      have hsub : (plusL A [5]).set 16 ((plusL A [5]).getD 16 0 - 4) = restL a := hfin
      have hnp : pP ≤ dv a := by
        rcases hcase with ⟨_, rfl⟩ | ⟨_, h⟩
        · exact hp
        · omega
      have hrl : (restL a).length = plusN A [5] := by rw [← hfin]; unfold subL; rw [List.length_set, hpl]
      rw [decide_eq_true hqB]
      clear hfin
      generalize plusL A [5] = B at *
      generalize B.getD 16 0 = d at *
      refine aw_t (by (first | (simp [eval_tmp, put_at]; done) | (simp [eval_tmp, put_at]; omega))) (by kernel_rfl) ?_
      refine aw_seq ?_
      unfold dB
      (refine aw_ops (by kernel_rfl) (fun K hK => ?_); simp (disch := first | omega | (simp only [List.length_set, List.length_append, List.length_cons, List.length_nil, iv_length, zl_length]; try omega; done)) [-getElem?_pos, -getElem?_neg, h16, hpl, iv_set, hsub]; refine hK _ _ ?_; clear hK K)
      refine aw_seq ?_
      (refine aw_ops (by kernel_rfl) (fun K hK => ?_); simp (disch := first | omega | (simp only [List.length_set, List.length_append, List.length_cons, List.length_nil, iv_length, zl_length]; try omega; done)) [-getElem?_pos, -getElem?_neg]; refine hK _ _ ?_; clear hK K)
      (refine aw_ret ?_; simp (disch := first | omega | (simp only [List.length_set, List.length_append, List.length_cons, List.length_nil, iv_length, zl_length]; try omega; done)) [-getElem?_pos, -getElem?_neg, thenQ_ret, inBlockQ_ret, RQ, resL, resV])
      exact ⟨G.length + 1, by omega, by rw [hrl], by rw [hget_app]; rfl⟩
    · have hqB : ¬ qP ≤ dv (plusL A [5]) := by omega
      rw [if_neg hp] at hfin
      rw [decide_eq_false hqB]
      refine aw_f (by (first | (simp [eval_tmp, put_at]; done) | (simp [eval_tmp, put_at]; omega))) (by kernel_rfl) ?_
      refine aw_skip ?_
      refine aw_seq ?_
      (refine aw_ops (by kernel_rfl) (fun K hK => ?_); simp (disch := first | omega | (simp only [List.length_set, List.length_append, List.length_cons, List.length_nil, iv_length, zl_length]; try omega; done)) [-getElem?_pos, -getElem?_neg, h0]; refine hK _ _ ?_; clear hK K)
      (refine aw_ret ?_; simp (disch := first | omega | (simp only [List.length_set, List.length_append, List.length_cons, List.length_nil, iv_length, zl_length]; try omega; done)) [-getElem?_pos, -getElem?_neg, thenQ_ret, inBlockQ_ret, RQ, resL, resV, h0])
      refine ⟨fun h => ?_, fun h => ?_⟩
      · rcases hcase with ⟨h1, _⟩ | ⟨_, h2⟩
        · exact h1
        · exact absurd h (by rw [hqp]; omega)
      · rcases hcase with ⟨_, rfl⟩ | ⟨h1, _⟩
        · omega
        · rw [← hfin]
          rcases h1 with ⟨_, h2⟩ | ⟨j, n, k1, k2, k3, k4⟩
          · have := congrArg List.length h2
            rw [iv_length, List.length_nil] at this
            omega
          · have hn : n = A.length := by rw [iv_length] at k4; omega
            subst hn
            exact ⟨j, k1, k2, hget_left' k3⟩
theorem rest_same {H : AH} {γ : Nat → Option Nat} {a : List Int} {va : Value} (ha : By a) (hva : SlV H va (iv .u64 a)) (hla : a.length ≤ 500000) (hla0 : 0 < a.length) (h : dv a < pP) : AC Try.prog H.length γ 45 #[va] H (fun v' _ => v' = va) :=
  (rest_rc ha hva hla hla0).mono fun v' H' hq => hq.1 h
theorem rest_new {H : AH} {γ : Nat → Option Nat} {a : List Int} {va : Value} (ha : By a) (hva : SlV H va (iv .u64 a)) (hla : a.length ≤ 500000) (hla0 : 0 < a.length) (h : pP ≤ dv a) : AC Try.prog H.length γ 45 #[va] H (Fresh H.length (dB (restL a)) (restL a).length) :=
  (rest_rc ha hva hla hla0).mono fun v' H' hq => hq.2 h
end
end Go.Proofs.Ytjfjakighnibpaa
