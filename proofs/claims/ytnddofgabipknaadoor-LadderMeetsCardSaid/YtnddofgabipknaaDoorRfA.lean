/-
  The reference's rest modulo the prime, by digits.
  The reference's digits, walked: high, Digits, Key.
  The reference's rest, walked.
-/
import Derived.Test.YtnddofgabipknaaDoorDig
import Derived.Test.YtnddofgabipknaaDoorFlB
namespace Go.Proofs.YtnddofgabipknaaDoor
section
open Go Go.RowKit
set_option linter.unusedVariables false
set_option linter.unusedSimpArgs false
set_option maxRecDepth 100000
set_option maxHeartbeats 2000000

/-- 2^255. -/
def qM : Int := 57896044618658097711785492504343953926634992332820282019728792003956564819968
theorem qM_eq : qM = 256 ^ 31 * 128 := by unfold qM; decide
theorem p31_32 : (256 : Int) ^ 32 = qM * 2 := by unfold qM; decide
theorem qp : pM = qM - 19 := by unfold pM qM; decide
theorem qM_pos : 1000 < qM := by unfold qM; decide
def hiR : List Int → List Int
  | [] => []
  | d :: l => (d / 128 + l.getD 0 0 % 128 * 2) :: hiR l
theorem hiR_len : ∀ l, (hiR l).length = l.length
  | [] => rfl
  | d :: l => by simp [hiR, hiR_len l]
theorem hiR_dv : ∀ {l : List Int}, By l → dv (hiR l) = dv l / 128
  | [], _ => by simp [hiR, dv]
  | d :: l, h => by
    have h1 := hiR_dv h.tail
    have h2 := h d (by simp)
    have h3 : dv l % 128 = l.getD 0 0 % 128 := by
      cases l with
      | nil => simp [dv]
      | cons e l => simp [dv]; omega
    simp only [hiR, dv, h1]
    omega
theorem hiR_by : ∀ {l : List Int}, By l → By (hiR l)
  | [], _ => By.nil
  | d :: l, h => by
    have h2 := h d (by simp)
    have h3 := h.tail.get 0
    exact By.cons (by omega) (hiR_by h.tail)
theorem hiR_get : ∀ (l : List Int) (j : Nat), j < l.length → (hiR l).getD j 0 = l.getD j 0 / 128 + l.getD (j + 1) 0 % 128 * 2
  | d :: l, 0, _ => by simp [hiR]
  | d :: l, j + 1, h => by
    have := hiR_get l j (by simpa using h)
    simpa [hiR] using this
def hiL (a : List Int) : List Int := hiR (a.drop 31)
def loL (a : List Int) : List Int := (List.range 32).map fun i => if i = 31 then a.getD i 0 % 128 else a.getD i 0
theorem loL_len (a : List Int) : (loL a).length = 32 := by simp [loL]
theorem loL_get (a : List Int) {i : Nat} (h : i < 32) : (loL a).getD i 0 = if i = 31 then a.getD i 0 % 128 else a.getD i 0 := by simp [loL, h]
theorem loL_by {a : List Int} (h : By a) : By (loL a) := by
  intro x hx
  unfold loL at hx
  obtain ⟨i, _, rfl⟩ := List.mem_map.1 hx
  have := h.get i
  split <;> omega
theorem take_loL (a : List Int) : ∀ i, i ≤ 31 → dv ((loL a).take i) = dv (a.take i)
  | 0, _ => by simp
  | i + 1, h => by
    rw [dv_take_succ, dv_take_succ, take_loL a i (by omega), loL_get a (by omega), if_neg (by omega)]
theorem loL_dv {a : List Int} (h : By a) (hl : 31 < a.length) : dv (loL a) = dv a % qM := by
  have h1 := dv_take_succ (loL a) 31
  rw [List.take_of_length_le (by rw [loL_len]; omega), take_loL a 31 (by omega), loL_get a (by omega), if_pos rfl] at h1
  have h2 := dv_split (l := a) (i := 31) (by omega)
  have h3 := dv_drop (l := a) (i := 31) hl
  have h4 := dv_bd (h.take 31)
  have h5 := h.get 31
  rw [List.length_take, Nat.min_eq_left (by omega)] at h4
  rw [h1, h2, h3, qM_eq]
  generalize dv (a.drop (31 + 1)) = W at *
  generalize dv (a.take 31) = t at *
  generalize a.getD 31 0 = d at *
  have e : ((256 : Int) ^ 31) = 452312848583266388373324160190187140051835877600158453279131187530910662656 := by decide
  rw [e] at *
  omega
theorem hiL_dv {a : List Int} (h : By a) (hl : 31 < a.length) : dv (hiL a) = dv a / qM := by
  have h2 := dv_split (l := a) (i := 31) (by omega)
  have h4 := dv_bd (h.take 31)
  rw [List.length_take, Nat.min_eq_left (by omega)] at h4
  unfold hiL
  rw [hiR_dv (h.drop 31), h2, qM_eq]
  generalize dv (a.drop 31) = W at *
  generalize dv (a.take 31) = t at *
  have e : ((256 : Int) ^ 31) = 452312848583266388373324160190187140051835877600158453279131187530910662656 := by decide
  rw [e] at *
  omega
def nextL (a : List Int) : List Int := plusL (loL a) (timesL (hiL a) [19])
theorem by19 : By [19] := By.cons (by omega) By.nil
theorem hiL_by {a : List Int} (h : By a) : By (hiL a) := hiR_by (h.drop 31)
theorem hiL_len (a : List Int) : (hiL a).length = a.length - 31 := by unfold hiL; rw [hiR_len, List.length_drop]
theorem nextL_by (a : List Int) : By (nextL a) := plusL_by _ _
theorem nextL_dv {a : List Int} (h : By a) (hl : 31 < a.length) : dv (nextL a) = dv a % qM + dv a / qM * 19 := by
  unfold nextL
  rw [plusL_dv (loL_by h) (timesL_by (hiL_by h) by19), timesL_dv (hiL_by h) by19, loL_dv h hl, hiL_dv h hl]
  simp [dv]
theorem nextL_len (a : List Int) (hl : 31 < a.length) : 32 ≤ (nextL a).length ∧ (nextL a).length ≤ max 33 a.length := by
  unfold nextL
  have := plusN_le (loL a) (timesL (hiL a) [19])
  rw [loL_len, timesL_len, hiL_len] at this
  rw [plusL_len]
  simp at this
  omega
theorem len_of_big {a : List Int} (h : By a) (hq : qM ≤ dv a) : 31 < a.length := by
  have h1 := dv_bd h
  rcases Nat.lt_or_ge 31 a.length with h2 | h2
  · exact h2
  · have h3 := pow_le' h2
    rw [qM_eq] at hq
    have := q256_pos 31
    omega
/-- Once less the prime, when it is reached. -/
def subL (b : List Int) : List Int := b.set 31 (b.getD 31 0 - 128)
def restF : Nat → List Int → List Int
  | 0, a => a
  | f + 1, a => if qM ≤ dv a then restF f (nextL a) else if pM ≤ dv a then subL (plusL a [19]) else a
def restL (a : List Int) : List Int := restF ((dv a).toNat + 1) a
theorem next_less {a : List Int} (h : By a) (hq : qM ≤ dv a) : 0 ≤ dv (nextL a) ∧ dv (nextL a) < dv a ∧ dv (nextL a) % pM = dv a % pM := by
  have hl := len_of_big h hq
  rw [nextL_dv h hl, qp]
  have h2 := qM_pos
  generalize dv a = X at *
  have e1 : X = X / qM * qM + X % qM := by rw [Int.mul_comm]; exact (Int.mul_ediv_add_emod X qM).symm
  have e2 : 0 ≤ X % qM := Int.emod_nonneg _ (by omega)
  have e3 : 1 ≤ X / qM := by
    have : qM / qM ≤ X / qM := Int.ediv_le_ediv (by omega) hq
    rwa [Int.ediv_self (by omega)] at this
  generalize hY : X / qM = Y at *
  generalize X % qM = R at *
  refine ⟨by omega, ?_, ?_⟩
  · have : Y * 19 < Y * qM := Int.mul_lt_mul_of_pos_left (by omega) (by omega)
    omega
  · have e4 : X = R + Y * 19 + Y * (qM - 19) := by rw [Int.mul_sub]; omega
    rw [e4, Int.add_mul_emod_self_right]
theorem sub_spec {a : List Int} (h : By a) (hq : dv a < qM) (hp : pM ≤ dv a) : By (subL (plusL a [19])) ∧ dv (subL (plusL a [19])) = dv a - pM ∧ 31 < (plusL a [19]).length ∧ qM ≤ dv (plusL a [19]) ∧ 128 ≤ (plusL a [19]).getD 31 0 ∧ (plusL a [19]).getD 31 0 ≤ 255 := by
  have hb := plusL_by a [19]
  have hd := plusL_dv h by19
  have e19 : dv [19] = 19 := by simp [dv]
  rw [e19] at hd
  have h1 := qp
  have h2 := qM_pos
  have hbig : qM ≤ dv (plusL a [19]) := by omega
  have hl := len_of_big hb hbig
  have hg := dv_get hb 31
  have h3 := hb.get 31
  have e : ((256 : Int) ^ 31) = 452312848583266388373324160190187140051835877600158453279131187530910662656 := by decide
  have eq : qM = 57896044618658097711785492504343953926634992332820282019728792003956564819968 := rfl
  have h4 : 128 ≤ (plusL a [19]).getD 31 0 := by
    rw [hg, e]
    omega
  refine ⟨hb.set (by omega), ?_, hl, hbig, h4, h3.2⟩
  unfold subL
  rw [dv_set _ hl, hd, e]
  omega
theorem restF_spec : ∀ (f : Nat) (a : List Int), By a → (dv a).toNat < f → By (restF f a) ∧ dv (restF f a) = dv a % pM ∧ (restF f a).length ≤ max 33 a.length + 1 ∧ (0 < a.length → 0 < (restF f a).length)
  | 0, a, _, h => by omega
  | f + 1, a, ha, hf => by
    have hbd := dv_bd ha
    have h1 := qp
    have h2 := qM_pos
    simp only [restF]
    split
    · rename_i hq
      have hl := len_of_big ha hq
      obtain ⟨n1, n2, n3⟩ := next_less ha hq
      have n4 := nextL_len a hl
      obtain ⟨k1, k2, k3, k4⟩ := restF_spec f (nextL a) (nextL_by a) (by omega)
      exact ⟨k1, by rw [k2, n3], by omega, fun _ => k4 (by omega)⟩
    · rename_i hq
      split
      · rename_i hp
        obtain ⟨s1, s2, s3, _⟩ := sub_spec ha (by omega) hp
        have hn := plusN_le a [19]
        refine ⟨s1, ?_, ?_, fun _ => ?_⟩
        · rw [s2, ← Int.sub_emod_right, Int.emod_eq_of_lt (by omega) (by omega)]
        · unfold subL; rw [List.length_set, plusL_len]; simp at hn; omega
        · unfold subL; rw [List.length_set]; omega
      · rename_i hp
        exact ⟨ha, by rw [Int.emod_eq_of_lt (by omega) (by omega)], by omega, fun h => h⟩
theorem restL_spec {a : List Int} (ha : By a) : By (restL a) ∧ dv (restL a) = dv a % pM ∧ (restL a).length ≤ max 33 a.length + 1 ∧ (0 < a.length → 0 < (restL a).length) := restF_spec _ a ha (by omega)
theorem restL_same {a : List Int} (ha : By a) (h : dv a < pM) : restL a = a := by
  have h1 := qp
  unfold restL
  simp only [restF]
  rw [if_neg (by omega), if_neg (by omega)]
/-- The bytes of 32 and their number. -/
theorem le_dv (k : List Int) : ∀ i, le k i = dv (k.take i)
  | 0 => by simp [le, dv]
  | i + 1 => by rw [le, dv_take_succ, le_dv k i, Int.mul_comm]
def digL (k : List Int) : List Int := k.set 31 (k.getD 31 0 % 128)
theorem digL_by {k : List Int} (h : By k) : By (digL k) := h.set (by have := h.get 31; omega)
theorem digL_dv {k : List Int} (h : By k) (hl : k.length = 32) : dv (digL k) = le k 32 % qM := by
  rw [le_dv, List.take_of_length_le (by omega)]
  unfold digL
  rw [dv_set _ (by omega)]
  have h2 := dv_split (l := k) (i := 31) (by omega)
  have h3 := dv_drop (l := k) (i := 31) (by omega)
  have h4 := dv_bd (h.take 31)
  have h5 := h.get 31
  rw [List.length_take, Nat.min_eq_left (by omega)] at h4
  rw [List.drop_of_length_le (i := 31 + 1) (by omega)] at h3
  simp only [dv] at h3
  rw [h2, h3, qM_eq]
  generalize dv (k.take 31) = t at *
  generalize k.getD 31 0 = d at *
  have e : ((256 : Int) ^ 31) = 452312848583266388373324160190187140051835877600158453279131187530910662656 := by decide
  rw [e] at *
  omega
/-- The first 32 digits. -/
def keyL (a : List Int) : List Int := (List.range 32).map fun i => a.getD i 0
theorem keyL_len (a : List Int) : (keyL a).length = 32 := by simp [keyL]
theorem keyL_at (a : List Int) {i : Nat} (h : i < 32) : (keyL a).getD i 0 = a.getD i 0 := by simp [keyL, h]
theorem keyL_eq {a : List Int} (h : By a) : keyL a = bytesM (dv a) := by
  unfold keyL bytesM
  exact List.map_congr_left fun i _ => dv_get h i
theorem ofM {k : List Int} (h : By k) (hl : k.length = 32) : keyL (restL (digL k)) = bytesM (fromM k) := by
  obtain ⟨r1, r2, _⟩ := restL_spec (digL_by h)
  rw [keyL_eq r1, r2, digL_dv h hl]
  rfl
theorem bytes_le {X : Int} (hX : El X) : le (bytesM X) 32 = X := by
  have h : ∀ i, i ≤ 32 → le (bytesM X) i = X % 256 ^ i := by
    intro i
    induction i with
    | zero => intro _; simp [le, Int.emod_one]
    | succ i ih =>
      intro hi
      rw [le, ih (by omega), bytesM_at X i (by omega), q256, Int.mul_comm (X / 256 ^ i % 256)]
      have hp := q256_pos i
      have e := emod_div X (256 ^ i) 256 hp
      have e2 := Int.mul_ediv_add_emod (X % (256 ^ i * 256)) (256 ^ i)
      rw [e] at e2
      have e3 : X % (256 ^ i * 256) % 256 ^ i = X % 256 ^ i := Int.emod_emod_of_dvd _ (Int.dvd_mul_right _ _)
      rw [e3] at e2
      omega
  rw [h 32 (Nat.le_refl _)]
  unfold El at hX
  rw [show (256 : Int) ^ 32 = 115792089237316195423570985008687907853269984665640564039457584007913129639936 by decide]
  omega
theorem dig_bytes {X : Int} (hX : El X) : dv (digL (bytesM X)) = X := by
  rw [digL_dv (bytesM_by X) (bytesM_len X), bytes_le hX]
  unfold El at hX
  unfold qM
  omega
theorem plus_ref {a b : List Int} (ha : By a) (hb : By b) (la : a.length = 32) (lb : b.length = 32) : keyL (restL (plusL (digL a) (digL b))) = bytesM ((dv (digL a) + dv (digL b)) % pM) := by
  obtain ⟨r1, r2, _⟩ := restL_spec (plusL_by (digL a) (digL b))
  rw [keyL_eq r1, r2, plusL_dv (digL_by ha) (digL_by hb)]
theorem times_ref {a b : List Int} (ha : By a) (hb : By b) (la : a.length = 32) (lb : b.length = 32) : keyL (restL (timesL (digL a) (digL b))) = bytesM (dv (digL a) * dv (digL b) % pM) := by
  obtain ⟨r1, r2, _⟩ := restL_spec (timesL_by (digL_by ha) (digL_by hb))
  rw [keyL_eq r1, r2, timesL_dv (digL_by ha) (digL_by hb)]
end

section
open Go Go.RowKit
set_option linter.unusedVariables false
set_option linter.unusedSimpArgs false
set_option maxRecDepth 100000
set_option maxHeartbeats 2000000

theorem dv_mono {a : List Int} (h : By a) (i : Nat) : dv (a.take i) ≤ dv a := by
  rcases Nat.lt_or_ge i a.length with hi | hi
  · have h1 := dv_split (l := a) (i := i) (by omega)
    have h2 := dv_bd (h.drop i)
    have h3 : 0 ≤ 256 ^ i * dv (a.drop i) := Int.mul_nonneg (Int.le_of_lt (q256_pos i)) h2.1
    omega
  · rw [List.take_of_length_le hi]; omega
theorem q31 : (256 : Int) ^ 31 * 128 = qM := qM_eq.symm
/-- One digit looked at. -/
theorem high_step {a : List Int} (h : By a) {i : Nat} (hi : 31 ≤ i) (hl : i < a.length) (hs : i = 31 ∨ dv (a.take i) < qM) :
    ((i = 31 ∧ 127 < a.getD i 0) → qM ≤ dv a) ∧ ((31 < i ∧ 0 < a.getD i 0) → qM ≤ dv a) ∧ (¬ (i = 31 ∧ 127 < a.getD i 0) → ¬ (31 < i ∧ 0 < a.getD i 0) → dv (a.take (i + 1)) < qM) := by
  have h1 := dv_mono h (i + 1)
  have h2 := dv_take_succ a i
  have h3 := dv_bd (h.take i)
  rw [List.length_take, Nat.min_eq_left (by omega)] at h3
  have h4 := h.get i
  have h5 := q31
  have hp := q256_pos i
  refine ⟨fun ⟨e, g⟩ => ?_, fun ⟨e, g⟩ => ?_, fun n1 n2 => ?_⟩
  · subst e
    have : (256 : Int) ^ 31 * 128 ≤ 256 ^ 31 * a.getD 31 0 := Int.mul_le_mul_of_nonneg_left (by omega) (by omega)
    omega
  · have k1 : (256 : Int) ^ i * 1 ≤ 256 ^ i * a.getD i 0 := Int.mul_le_mul_of_nonneg_left (by omega) (by omega)
    have k2 := pow_le' (show 32 ≤ i by omega)
    have k3 := p31_32
    have k4 := qM_pos
    omega
  · rcases Nat.lt_or_ge 31 i with hc | hc
    · have : a.getD i 0 = 0 := by omega
      rw [h2, this, Int.mul_zero, Int.add_zero]
      rcases hs with hs | hs
      · omega
      · exact hs
    · obtain rfl : i = 31 := by omega
      have : (256 : Int) ^ 31 * a.getD 31 0 ≤ 256 ^ 31 * 127 := Int.mul_le_mul_of_nonneg_left (by omega) (by omega)
      rw [h2]
      have e1 : (256 : Int) ^ 31 * 128 = 256 ^ 31 * 127 + 256 ^ 31 := by rw [show (128 : Int) = 127 + 1 by decide, Int.mul_add, Int.mul_one]
      omega
attribute [local irreducible] qM pM dv
theorem high_rc {H : AH} {γ : Nat → Option Nat} {a : List Int} {va : Value} (ha : By a) (hva : SlV H va (iv .u64 a)) (hla : a.length ≤ 1000000) : AC Tryd.prog H.length γ 40 #[va] H (fun v' _ => v' = .bool (decide (qM ≤ dv a))) := by
  refine ac_of_aw Tryd.func40 rfl Tryd.ntmps40 Tryd.results40 (by simp) ?_
  have hxa := hva.len (P := Tryd.prog) (t := 53) (e := 32) rfl
  rw [iv_length] at hxa
  refine aw_seq ?_
  (refine aw_ops (by kernel_rfl) (fun K hK => ?_); simp (disch := first | omega | (simp only [lnS]; done) | (simp only [lnS]; omega)) [wb_bool, wb_undef, with_lit, XL_nil, XL_cons, XLc_val, XLc_call, step1_eq, stepW_t, stepW_f, stepC_n, stepC_s, stepX_s, stepX_n, stepN_s, calleeX, xrecv, oneV, xop_eq, xopR_s, xopR_n, wantedA_eq, wantedG_n, wantedG_s, plain1_int, plain1_bool, plain1_string, bits_i64, bits_u64, bits_u32, bits_u16, bits_u8, xeqA, xagg, xcmp, xarr, allK_iv, num_iv, calleeOf, xread, xeff, xbin, xint, xnil, xun, xstr, xload, xconv, xpart, xfield, xfieldAddr, xindexAddr, xindex, bnd, asInt?, xslice, xlen, xmin, xmax, xbuild, xfill, xappend, xapp2, xappstr, xappmk, xcap, xcopy, xcells, eval_tmp, eval_const, put_at, put_none, fr0_at, cells_agg, cells_int, cells_bool, cells_string, cells_ptr, cells_slice, notTuple, tab, iv_all, hget_app, hget_app0, hget_cons0, hget_cons, set_app, set_app0, setR, setR_one, QL_nil, QL_cons, QLc_val, stepQ_t, stepQ_f, stepQC_n, stepQC_s, stepQX_s, SL_nil, SL_cons, SLc_val, stepS_t, stepS_f, ltT, ltF, leT, leF, eqT, eqF, ltTn, ltFn, leTn, leFn, eqTn, eqFn, beqT, beqF, bneT, bneF, wi64, wu64, wu32, wu16, wu8, tmodP, tdivP, hgetL, hgetNe, hgetEq, setL, nums_def, nums_len, Nat.succ_le_of_lt, List.getElem?_cons_zero, List.getElem?_cons_succ, Option.getD_some, -getElem?_pos, -getElem?_neg, Int.toNat_add, Int.toNat_mul, agM, okM, agB, agI, agS, agP, agL, agA, okB, okI, okS, okP, okSl, okA]; refine hK _ _ ?_; clear hK K)
  refine aw_seq ?_
  refine aw_seq ?_
  (refine aw_ops (by kernel_rfl) (fun K hK => ?_); simp (disch := first | omega | (simp only [lnS]; done) | (simp only [lnS]; omega)) [wb_bool, wb_undef, with_lit, XL_nil, XL_cons, XLc_val, XLc_call, step1_eq, stepW_t, stepW_f, stepC_n, stepC_s, stepX_s, stepX_n, stepN_s, calleeX, xrecv, oneV, xop_eq, xopR_s, xopR_n, wantedA_eq, wantedG_n, wantedG_s, plain1_int, plain1_bool, plain1_string, bits_i64, bits_u64, bits_u32, bits_u16, bits_u8, xeqA, xagg, xcmp, xarr, allK_iv, num_iv, calleeOf, xread, xeff, xbin, xint, xnil, xun, xstr, xload, xconv, xpart, xfield, xfieldAddr, xindexAddr, xindex, bnd, asInt?, xslice, xlen, xmin, xmax, xbuild, xfill, xappend, xapp2, xappstr, xappmk, xcap, xcopy, xcells, eval_tmp, eval_const, put_at, put_none, fr0_at, cells_agg, cells_int, cells_bool, cells_string, cells_ptr, cells_slice, notTuple, tab, iv_all, hget_app, hget_app0, hget_cons0, hget_cons, set_app, set_app0, setR, setR_one, QL_nil, QL_cons, QLc_val, stepQ_t, stepQ_f, stepQC_n, stepQC_s, stepQX_s, SL_nil, SL_cons, SLc_val, stepS_t, stepS_f, ltT, ltF, leT, leF, eqT, eqF, ltTn, ltFn, leTn, leFn, eqTn, eqFn, beqT, beqF, bneT, bneF, wi64, wu64, wu32, wu16, wu8, tmodP, tdivP, hgetL, hgetNe, hgetEq, setL, nums_def, nums_len, Nat.succ_le_of_lt, List.getElem?_cons_zero, List.getElem?_cons_succ, Option.getD_some, -getElem?_pos, -getElem?_neg, Int.toNat_add, Int.toNat_mul, agM, okM, agB, agI, agS, agP, agL, agA, okB, okI, okS, okP, okSl, okA]; refine hK _ _ ?_; clear hK K)
  refine aw_block ?_
  refine aw_loop (fun q α H' => ∃ i : Nat, i + q = 31 + a.length ∧ 31 ≤ i ∧ α 3 = .int .i64 (i : Nat) ∧ α 0 = va ∧ (i = 31 ∨ (i ≤ a.length ∧ dv (a.take i) < qM)) ∧ H' = H) a.length ?_ ?_
  · exact ⟨31, by omega, by omega, by (first | (simp [put_at, put_none, fr0_at]; done) | rfl), by (first | (simp [put_at, put_none, fr0_at]; done) | rfl), .inl rfl, rfl⟩
  rintro q α H' ⟨i, hiq, h31, h3, h0, hs, rfl⟩
  refine aw_seq ?_
  refine aw_seq ?_
  by_cases hi : i < a.length
  · obtain ⟨p, e1, e2⟩ := hva.at (P := Tryd.prog) (t := 53) (e := 32) rfl rfl rfl rfl hi
    have e2 := e2 H' (fun _ _ => rfl)
    obtain ⟨s1, s2, s3⟩ := high_step ha h31 hi (hs.imp id (·.2))
    have hd := ha.get i
    generalize a.getD i 0 = d at *
    (refine aw_ops (by kernel_rfl) (fun K hK => ?_); simp (disch := first | omega | (simp only [lnS]; done) | (simp only [lnS]; omega)) [wb_bool, wb_undef, with_lit, XL_nil, XL_cons, XLc_val, XLc_call, step1_eq, stepW_t, stepW_f, stepC_n, stepC_s, stepX_s, stepX_n, stepN_s, calleeX, xrecv, oneV, xop_eq, xopR_s, xopR_n, wantedA_eq, wantedG_n, wantedG_s, plain1_int, plain1_bool, plain1_string, bits_i64, bits_u64, bits_u32, bits_u16, bits_u8, xeqA, xagg, xcmp, xarr, allK_iv, num_iv, calleeOf, xread, xeff, xbin, xint, xnil, xun, xstr, xload, xconv, xpart, xfield, xfieldAddr, xindexAddr, xindex, bnd, asInt?, xslice, xmin, xmax, xbuild, xfill, xappend, xapp2, xappstr, xappmk, xcap, xcopy, xcells, eval_tmp, eval_const, put_at, put_none, fr0_at, cells_agg, cells_int, cells_bool, cells_string, cells_ptr, cells_slice, notTuple, tab, iv_all, hget_app, hget_app0, hget_cons0, hget_cons, set_app, set_app0, setR, setR_one, QL_nil, QL_cons, QLc_val, stepQ_t, stepQ_f, stepQC_n, stepQC_s, stepQX_s, SL_nil, SL_cons, SLc_val, stepS_t, stepS_f, h3, h0, hxa, ltT, ltF, leT, leF, eqT, eqF, ltTn, ltFn, leTn, leFn, eqTn, eqFn, beqT, beqF, bneT, bneF, wi64, wu64, wu32, wu16, wu8, tmodP, tdivP, hgetL, hgetNe, hgetEq, setL, nums_def, nums_len, Nat.succ_le_of_lt, List.getElem?_cons_zero, List.getElem?_cons_succ, Option.getD_some, -getElem?_pos, -getElem?_neg, Int.toNat_add, Int.toNat_mul, agM, okM, agB, agI, agS, agP, agL, agA, okB, okI, okS, okP, okSl, okA]; refine hK _ _ ?_; clear hK K)
    refine aw_t (by (first | (simp [eval_tmp, put_at, hi]; done) | (simp [eval_tmp, put_at, hi]; omega))) (by kernel_rfl) ?_
    refine aw_skip ?_
    refine aw_seq ?_
    refine aw_block ?_
    refine aw_seq ?_
    by_cases c1 : i = 31
    · by_cases c2 : 127 < d
      · have hq : qM ≤ dv a := s1 ⟨c1, c2⟩
        (refine aw_ops (by kernel_rfl) (fun K hK => ?_); simp (disch := first | omega | (simp only [lnS]; done) | (simp only [lnS]; omega)) [wb_bool, wb_undef, with_lit, XL_nil, XL_cons, XLc_val, XLc_call, step1_eq, stepW_t, stepW_f, stepC_n, stepC_s, stepX_s, stepX_n, stepN_s, calleeX, xrecv, oneV, xop_eq, xopR_s, xopR_n, wantedA_eq, wantedG_n, wantedG_s, plain1_int, plain1_bool, plain1_string, bits_i64, bits_u64, bits_u32, bits_u16, bits_u8, xeqA, xagg, xcmp, xarr, allK_iv, num_iv, calleeOf, xread, xeff, xbin, xint, xnil, xun, xstr, xconv, xpart, xfield, xfieldAddr, xindex, bnd, asInt?, xslice, xlen, xmin, xmax, xbuild, xfill, xappend, xapp2, xappstr, xappmk, xcap, xcopy, xcells, eval_tmp, eval_const, put_at, put_none, fr0_at, cells_agg, cells_int, cells_bool, cells_string, cells_ptr, cells_slice, notTuple, tab, iv_all, hget_app, hget_app0, hget_cons0, hget_cons, set_app, set_app0, setR, setR_one, QL_nil, QL_cons, QLc_val, stepQ_t, stepQ_f, stepQC_n, stepQC_s, stepQX_s, SL_nil, SL_cons, SLc_val, stepS_t, stepS_f, h3, h0, e1, e2, ltT, ltF, leT, leF, eqT, eqF, ltTn, ltFn, leTn, leFn, eqTn, eqFn, beqT, beqF, bneT, bneF, wi64, wu64, wu32, wu16, wu8, tmodP, tdivP, hgetL, hgetNe, hgetEq, setL, nums_def, nums_len, Nat.succ_le_of_lt, List.getElem?_cons_zero, List.getElem?_cons_succ, Option.getD_some, -getElem?_pos, -getElem?_neg, Int.toNat_add, Int.toNat_mul, agM, okM, agB, agI, agS, agP, agL, agA, okB, okI, okS, okP, okSl, okA]; refine hK _ _ ?_; clear hK K)
        refine aw_t (by (first | (simp [eval_tmp, put_at]; done) | (simp [eval_tmp, put_at]; omega))) (by kernel_rfl) ?_
        refine aw_seq ?_
        (refine aw_ops (by kernel_rfl) (fun K hK => ?_); simp (disch := first | omega | (simp only [lnS]; done) | (simp only [lnS]; omega)) [wb_bool, wb_undef, with_lit, XL_nil, XL_cons, XLc_val, XLc_call, step1_eq, stepW_t, stepW_f, stepC_n, stepC_s, stepX_s, stepX_n, stepN_s, calleeX, xrecv, oneV, xop_eq, xopR_s, xopR_n, wantedA_eq, wantedG_n, wantedG_s, plain1_int, plain1_bool, plain1_string, bits_i64, bits_u64, bits_u32, bits_u16, bits_u8, xeqA, xagg, xcmp, xarr, allK_iv, num_iv, calleeOf, xread, xeff, xbin, xint, xnil, xun, xstr, xload, xconv, xpart, xfield, xfieldAddr, xindexAddr, xindex, bnd, asInt?, xslice, xlen, xmin, xmax, xbuild, xfill, xappend, xapp2, xappstr, xappmk, xcap, xcopy, xcells, eval_tmp, eval_const, put_at, put_none, fr0_at, cells_agg, cells_int, cells_bool, cells_string, cells_ptr, cells_slice, notTuple, tab, iv_all, hget_app, hget_app0, hget_cons0, hget_cons, set_app, set_app0, setR, setR_one, QL_nil, QL_cons, QLc_val, stepQ_t, stepQ_f, stepQC_n, stepQC_s, stepQX_s, SL_nil, SL_cons, SLc_val, stepS_t, stepS_f, ltT, ltF, leT, leF, eqT, eqF, ltTn, ltFn, leTn, leFn, eqTn, eqFn, beqT, beqF, bneT, bneF, wi64, wu64, wu32, wu16, wu8, tmodP, tdivP, hgetL, hgetNe, hgetEq, setL, nums_def, nums_len, Nat.succ_le_of_lt, List.getElem?_cons_zero, List.getElem?_cons_succ, Option.getD_some, -getElem?_pos, -getElem?_neg, Int.toNat_add, Int.toNat_mul, agM, okM, agB, agI, agS, agP, agL, agA, okB, okI, okS, okP, okSl, okA]; refine hK _ _ ?_; clear hK K)
        rw [decide_eq_true hq]
        (refine aw_ret ?_; simp [thenQ_ret, inBlockQ_ret, RQ, resL, resV, xload, tab, okD, isAggD, hget_app, hget_app0, hget_cons0, hget_cons, notTuple, put_at, put_none])
      · have hq := s3 (by omega) (by omega)
        (refine aw_ops (by kernel_rfl) (fun K hK => ?_); simp (disch := first | omega | (simp only [lnS]; done) | (simp only [lnS]; omega)) [wb_bool, wb_undef, with_lit, XL_nil, XL_cons, XLc_val, XLc_call, step1_eq, stepW_t, stepW_f, stepC_n, stepC_s, stepX_s, stepX_n, stepN_s, calleeX, xrecv, oneV, xop_eq, xopR_s, xopR_n, wantedA_eq, wantedG_n, wantedG_s, plain1_int, plain1_bool, plain1_string, bits_i64, bits_u64, bits_u32, bits_u16, bits_u8, xeqA, xagg, xcmp, xarr, allK_iv, num_iv, calleeOf, xread, xeff, xbin, xint, xnil, xun, xstr, xconv, xpart, xfield, xfieldAddr, xindex, bnd, asInt?, xslice, xlen, xmin, xmax, xbuild, xfill, xappend, xapp2, xappstr, xappmk, xcap, xcopy, xcells, eval_tmp, eval_const, put_at, put_none, fr0_at, cells_agg, cells_int, cells_bool, cells_string, cells_ptr, cells_slice, notTuple, tab, iv_all, hget_app, hget_app0, hget_cons0, hget_cons, set_app, set_app0, setR, setR_one, QL_nil, QL_cons, QLc_val, stepQ_t, stepQ_f, stepQC_n, stepQC_s, stepQX_s, SL_nil, SL_cons, SLc_val, stepS_t, stepS_f, h3, h0, e1, e2, ltT, ltF, leT, leF, eqT, eqF, ltTn, ltFn, leTn, leFn, eqTn, eqFn, beqT, beqF, bneT, bneF, wi64, wu64, wu32, wu16, wu8, tmodP, tdivP, hgetL, hgetNe, hgetEq, setL, nums_def, nums_len, Nat.succ_le_of_lt, List.getElem?_cons_zero, List.getElem?_cons_succ, Option.getD_some, -getElem?_pos, -getElem?_neg, Int.toNat_add, Int.toNat_mul, agM, okM, agB, agI, agS, agP, agL, agA, okB, okI, okS, okP, okSl, okA]; refine hK _ _ ?_; clear hK K)
        refine aw_f (by (first | (simp [eval_tmp, put_at]; done) | (simp [eval_tmp, put_at]; omega))) (by kernel_rfl) ?_
        refine aw_skip ?_
        (refine aw_ops (by kernel_rfl) (fun K hK => ?_); simp (disch := first | omega | (simp only [lnS]; done) | (simp only [lnS]; omega)) [wb_bool, wb_undef, with_lit, XL_nil, XL_cons, XLc_val, XLc_call, step1_eq, stepW_t, stepW_f, stepC_n, stepC_s, stepX_s, stepX_n, stepN_s, calleeX, xrecv, oneV, xop_eq, xopR_s, xopR_n, wantedA_eq, wantedG_n, wantedG_s, plain1_int, plain1_bool, plain1_string, bits_i64, bits_u64, bits_u32, bits_u16, bits_u8, xeqA, xagg, xcmp, xarr, allK_iv, num_iv, calleeOf, xread, xeff, xbin, xint, xnil, xun, xstr, xload, xconv, xpart, xfield, xfieldAddr, xindexAddr, xindex, bnd, asInt?, xslice, xlen, xmin, xmax, xbuild, xfill, xappend, xapp2, xappstr, xappmk, xcap, xcopy, xcells, eval_tmp, eval_const, put_at, put_none, fr0_at, cells_agg, cells_int, cells_bool, cells_string, cells_ptr, cells_slice, notTuple, tab, iv_all, hget_app, hget_app0, hget_cons0, hget_cons, set_app, set_app0, setR, setR_one, QL_nil, QL_cons, QLc_val, stepQ_t, stepQ_f, stepQC_n, stepQC_s, stepQX_s, SL_nil, SL_cons, SLc_val, stepS_t, stepS_f, h3, ltT, ltF, leT, leF, eqT, eqF, ltTn, ltFn, leTn, leFn, eqTn, eqFn, beqT, beqF, bneT, bneF, wi64, wu64, wu32, wu16, wu8, tmodP, tdivP, hgetL, hgetNe, hgetEq, setL, nums_def, nums_len, Nat.succ_le_of_lt, List.getElem?_cons_zero, List.getElem?_cons_succ, Option.getD_some, -getElem?_pos, -getElem?_neg, Int.toNat_add, Int.toNat_mul, agM, okM, agB, agI, agS, agP, agL, agA, okB, okI, okS, okP, okSl, okA]; refine hK _ _ ?_; clear hK K)
        exact ⟨q - 1, by omega, i + 1, by omega, by omega, by (first | (simp [put_at, put_none, fr0_at]; done) | rfl), by (first | (simp [put_at, put_none, fr0_at, h0]; done) | rfl), .inr ⟨by omega, hq⟩, rfl⟩
    · by_cases c2 : 0 < d
      · have hq : qM ≤ dv a := s2 ⟨by omega, c2⟩
        (refine aw_ops (by kernel_rfl) (fun K hK => ?_); simp (disch := first | omega | (simp only [lnS]; done) | (simp only [lnS]; omega)) [wb_bool, wb_undef, with_lit, XL_nil, XL_cons, XLc_val, XLc_call, step1_eq, stepW_t, stepW_f, stepC_n, stepC_s, stepX_s, stepX_n, stepN_s, calleeX, xrecv, oneV, xop_eq, xopR_s, xopR_n, wantedA_eq, wantedG_n, wantedG_s, plain1_int, plain1_bool, plain1_string, bits_i64, bits_u64, bits_u32, bits_u16, bits_u8, xeqA, xagg, xcmp, xarr, allK_iv, num_iv, calleeOf, xread, xeff, xbin, xint, xnil, xun, xstr, xconv, xpart, xfield, xfieldAddr, xindex, bnd, asInt?, xslice, xlen, xmin, xmax, xbuild, xfill, xappend, xapp2, xappstr, xappmk, xcap, xcopy, xcells, eval_tmp, eval_const, put_at, put_none, fr0_at, cells_agg, cells_int, cells_bool, cells_string, cells_ptr, cells_slice, notTuple, tab, iv_all, hget_app, hget_app0, hget_cons0, hget_cons, set_app, set_app0, setR, setR_one, QL_nil, QL_cons, QLc_val, stepQ_t, stepQ_f, stepQC_n, stepQC_s, stepQX_s, SL_nil, SL_cons, SLc_val, stepS_t, stepS_f, h3, h0, e1, e2, ltT, ltF, leT, leF, eqT, eqF, ltTn, ltFn, leTn, leFn, eqTn, eqFn, beqT, beqF, bneT, bneF, wi64, wu64, wu32, wu16, wu8, tmodP, tdivP, hgetL, hgetNe, hgetEq, setL, nums_def, nums_len, Nat.succ_le_of_lt, List.getElem?_cons_zero, List.getElem?_cons_succ, Option.getD_some, -getElem?_pos, -getElem?_neg, Int.toNat_add, Int.toNat_mul, agM, okM, agB, agI, agS, agP, agL, agA, okB, okI, okS, okP, okSl, okA]; refine hK _ _ ?_; clear hK K)
        refine aw_t (by (first | (simp [eval_tmp, put_at]; done) | (simp [eval_tmp, put_at]; omega))) (by kernel_rfl) ?_
        refine aw_seq ?_
        (refine aw_ops (by kernel_rfl) (fun K hK => ?_); simp (disch := first | omega | (simp only [lnS]; done) | (simp only [lnS]; omega)) [wb_bool, wb_undef, with_lit, XL_nil, XL_cons, XLc_val, XLc_call, step1_eq, stepW_t, stepW_f, stepC_n, stepC_s, stepX_s, stepX_n, stepN_s, calleeX, xrecv, oneV, xop_eq, xopR_s, xopR_n, wantedA_eq, wantedG_n, wantedG_s, plain1_int, plain1_bool, plain1_string, bits_i64, bits_u64, bits_u32, bits_u16, bits_u8, xeqA, xagg, xcmp, xarr, allK_iv, num_iv, calleeOf, xread, xeff, xbin, xint, xnil, xun, xstr, xload, xconv, xpart, xfield, xfieldAddr, xindexAddr, xindex, bnd, asInt?, xslice, xlen, xmin, xmax, xbuild, xfill, xappend, xapp2, xappstr, xappmk, xcap, xcopy, xcells, eval_tmp, eval_const, put_at, put_none, fr0_at, cells_agg, cells_int, cells_bool, cells_string, cells_ptr, cells_slice, notTuple, tab, iv_all, hget_app, hget_app0, hget_cons0, hget_cons, set_app, set_app0, setR, setR_one, QL_nil, QL_cons, QLc_val, stepQ_t, stepQ_f, stepQC_n, stepQC_s, stepQX_s, SL_nil, SL_cons, SLc_val, stepS_t, stepS_f, ltT, ltF, leT, leF, eqT, eqF, ltTn, ltFn, leTn, leFn, eqTn, eqFn, beqT, beqF, bneT, bneF, wi64, wu64, wu32, wu16, wu8, tmodP, tdivP, hgetL, hgetNe, hgetEq, setL, nums_def, nums_len, Nat.succ_le_of_lt, List.getElem?_cons_zero, List.getElem?_cons_succ, Option.getD_some, -getElem?_pos, -getElem?_neg, Int.toNat_add, Int.toNat_mul, agM, okM, agB, agI, agS, agP, agL, agA, okB, okI, okS, okP, okSl, okA]; refine hK _ _ ?_; clear hK K)
        rw [decide_eq_true hq]
        (refine aw_ret ?_; simp [thenQ_ret, inBlockQ_ret, RQ, resL, resV, xload, tab, okD, isAggD, hget_app, hget_app0, hget_cons0, hget_cons, notTuple, put_at, put_none])
      · have hq := s3 (by omega) (by omega)
        (refine aw_ops (by kernel_rfl) (fun K hK => ?_); simp (disch := first | omega | (simp only [lnS]; done) | (simp only [lnS]; omega)) [wb_bool, wb_undef, with_lit, XL_nil, XL_cons, XLc_val, XLc_call, step1_eq, stepW_t, stepW_f, stepC_n, stepC_s, stepX_s, stepX_n, stepN_s, calleeX, xrecv, oneV, xop_eq, xopR_s, xopR_n, wantedA_eq, wantedG_n, wantedG_s, plain1_int, plain1_bool, plain1_string, bits_i64, bits_u64, bits_u32, bits_u16, bits_u8, xeqA, xagg, xcmp, xarr, allK_iv, num_iv, calleeOf, xread, xeff, xbin, xint, xnil, xun, xstr, xconv, xpart, xfield, xfieldAddr, xindex, bnd, asInt?, xslice, xlen, xmin, xmax, xbuild, xfill, xappend, xapp2, xappstr, xappmk, xcap, xcopy, xcells, eval_tmp, eval_const, put_at, put_none, fr0_at, cells_agg, cells_int, cells_bool, cells_string, cells_ptr, cells_slice, notTuple, tab, iv_all, hget_app, hget_app0, hget_cons0, hget_cons, set_app, set_app0, setR, setR_one, QL_nil, QL_cons, QLc_val, stepQ_t, stepQ_f, stepQC_n, stepQC_s, stepQX_s, SL_nil, SL_cons, SLc_val, stepS_t, stepS_f, h3, h0, e1, e2, ltT, ltF, leT, leF, eqT, eqF, ltTn, ltFn, leTn, leFn, eqTn, eqFn, beqT, beqF, bneT, bneF, wi64, wu64, wu32, wu16, wu8, tmodP, tdivP, hgetL, hgetNe, hgetEq, setL, nums_def, nums_len, Nat.succ_le_of_lt, List.getElem?_cons_zero, List.getElem?_cons_succ, Option.getD_some, -getElem?_pos, -getElem?_neg, Int.toNat_add, Int.toNat_mul, agM, okM, agB, agI, agS, agP, agL, agA, okB, okI, okS, okP, okSl, okA]; refine hK _ _ ?_; clear hK K)
        refine aw_f (by (first | (simp [eval_tmp, put_at]; done) | (simp [eval_tmp, put_at]; omega))) (by kernel_rfl) ?_
        refine aw_skip ?_
        (refine aw_ops (by kernel_rfl) (fun K hK => ?_); simp (disch := first | omega | (simp only [lnS]; done) | (simp only [lnS]; omega)) [wb_bool, wb_undef, with_lit, XL_nil, XL_cons, XLc_val, XLc_call, step1_eq, stepW_t, stepW_f, stepC_n, stepC_s, stepX_s, stepX_n, stepN_s, calleeX, xrecv, oneV, xop_eq, xopR_s, xopR_n, wantedA_eq, wantedG_n, wantedG_s, plain1_int, plain1_bool, plain1_string, bits_i64, bits_u64, bits_u32, bits_u16, bits_u8, xeqA, xagg, xcmp, xarr, allK_iv, num_iv, calleeOf, xread, xeff, xbin, xint, xnil, xun, xstr, xload, xconv, xpart, xfield, xfieldAddr, xindexAddr, xindex, bnd, asInt?, xslice, xlen, xmin, xmax, xbuild, xfill, xappend, xapp2, xappstr, xappmk, xcap, xcopy, xcells, eval_tmp, eval_const, put_at, put_none, fr0_at, cells_agg, cells_int, cells_bool, cells_string, cells_ptr, cells_slice, notTuple, tab, iv_all, hget_app, hget_app0, hget_cons0, hget_cons, set_app, set_app0, setR, setR_one, QL_nil, QL_cons, QLc_val, stepQ_t, stepQ_f, stepQC_n, stepQC_s, stepQX_s, SL_nil, SL_cons, SLc_val, stepS_t, stepS_f, h3, ltT, ltF, leT, leF, eqT, eqF, ltTn, ltFn, leTn, leFn, eqTn, eqFn, beqT, beqF, bneT, bneF, wi64, wu64, wu32, wu16, wu8, tmodP, tdivP, hgetL, hgetNe, hgetEq, setL, nums_def, nums_len, Nat.succ_le_of_lt, List.getElem?_cons_zero, List.getElem?_cons_succ, Option.getD_some, -getElem?_pos, -getElem?_neg, Int.toNat_add, Int.toNat_mul, agM, okM, agB, agI, agS, agP, agL, agA, okB, okI, okS, okP, okSl, okA]; refine hK _ _ ?_; clear hK K)
        exact ⟨q - 1, by omega, i + 1, by omega, by omega, by (first | (simp [put_at, put_none, fr0_at]; done) | rfl), by (first | (simp [put_at, put_none, fr0_at, h0]; done) | rfl), .inr ⟨by omega, hq⟩, rfl⟩
  · have hq : ¬ qM ≤ dv a := by
      intro h
      have := len_of_big ha h
      rcases hs with rfl | ⟨k1, k2⟩
      · omega
      · rw [List.take_of_length_le (by omega)] at k2
        omega
    (refine aw_ops (by kernel_rfl) (fun K hK => ?_); simp (disch := first | omega | (simp only [lnS]; done) | (simp only [lnS]; omega)) [wb_bool, wb_undef, with_lit, XL_nil, XL_cons, XLc_val, XLc_call, step1_eq, stepW_t, stepW_f, stepC_n, stepC_s, stepX_s, stepX_n, stepN_s, calleeX, xrecv, oneV, xop_eq, xopR_s, xopR_n, wantedA_eq, wantedG_n, wantedG_s, plain1_int, plain1_bool, plain1_string, bits_i64, bits_u64, bits_u32, bits_u16, bits_u8, xeqA, xagg, xcmp, xarr, allK_iv, num_iv, calleeOf, xread, xeff, xbin, xint, xnil, xun, xstr, xload, xconv, xpart, xfield, xfieldAddr, xindexAddr, xindex, bnd, asInt?, xslice, xmin, xmax, xbuild, xfill, xappend, xapp2, xappstr, xappmk, xcap, xcopy, xcells, eval_tmp, eval_const, put_at, put_none, fr0_at, cells_agg, cells_int, cells_bool, cells_string, cells_ptr, cells_slice, notTuple, tab, iv_all, hget_app, hget_app0, hget_cons0, hget_cons, set_app, set_app0, setR, setR_one, QL_nil, QL_cons, QLc_val, stepQ_t, stepQ_f, stepQC_n, stepQC_s, stepQX_s, SL_nil, SL_cons, SLc_val, stepS_t, stepS_f, h3, h0, hxa, ltT, ltF, leT, leF, eqT, eqF, ltTn, ltFn, leTn, leFn, eqTn, eqFn, beqT, beqF, bneT, bneF, wi64, wu64, wu32, wu16, wu8, tmodP, tdivP, hgetL, hgetNe, hgetEq, setL, nums_def, nums_len, Nat.succ_le_of_lt, List.getElem?_cons_zero, List.getElem?_cons_succ, Option.getD_some, -getElem?_pos, -getElem?_neg, Int.toNat_add, Int.toNat_mul, agM, okM, agB, agI, agS, agP, agL, agA, okB, okI, okS, okP, okSl, okA]; refine hK _ _ ?_; clear hK K)
    refine aw_f (by (first | (simp [eval_tmp, put_at, hi]; done) | (simp [eval_tmp, put_at, hi]; omega))) (by kernel_rfl) ?_
    refine aw_exit ?_
    refine aw_seq ?_
    (refine aw_ops (by kernel_rfl) (fun K hK => ?_); simp (disch := first | omega | (simp only [lnS]; done) | (simp only [lnS]; omega)) [wb_bool, wb_undef, with_lit, XL_nil, XL_cons, XLc_val, XLc_call, step1_eq, stepW_t, stepW_f, stepC_n, stepC_s, stepX_s, stepX_n, stepN_s, calleeX, xrecv, oneV, xop_eq, xopR_s, xopR_n, wantedA_eq, wantedG_n, wantedG_s, plain1_int, plain1_bool, plain1_string, bits_i64, bits_u64, bits_u32, bits_u16, bits_u8, xeqA, xagg, xcmp, xarr, allK_iv, num_iv, calleeOf, xread, xeff, xbin, xint, xnil, xun, xstr, xload, xconv, xpart, xfield, xfieldAddr, xindexAddr, xindex, bnd, asInt?, xslice, xlen, xmin, xmax, xbuild, xfill, xappend, xapp2, xappstr, xappmk, xcap, xcopy, xcells, eval_tmp, eval_const, put_at, put_none, fr0_at, cells_agg, cells_int, cells_bool, cells_string, cells_ptr, cells_slice, notTuple, tab, iv_all, hget_app, hget_app0, hget_cons0, hget_cons, set_app, set_app0, setR, setR_one, QL_nil, QL_cons, QLc_val, stepQ_t, stepQ_f, stepQC_n, stepQC_s, stepQX_s, SL_nil, SL_cons, SLc_val, stepS_t, stepS_f, ltT, ltF, leT, leF, eqT, eqF, ltTn, ltFn, leTn, leFn, eqTn, eqFn, beqT, beqF, bneT, bneF, wi64, wu64, wu32, wu16, wu8, tmodP, tdivP, hgetL, hgetNe, hgetEq, setL, nums_def, nums_len, Nat.succ_le_of_lt, List.getElem?_cons_zero, List.getElem?_cons_succ, Option.getD_some, -getElem?_pos, -getElem?_neg, Int.toNat_add, Int.toNat_mul, agM, okM, agB, agI, agS, agP, agL, agA, okB, okI, okS, okP, okSl, okA]; refine hK _ _ ?_; clear hK K)
    rw [decide_eq_false hq]
    (refine aw_ret ?_; simp [thenQ_ret, inBlockQ_ret, RQ, resL, resV, xload, tab, okD, isAggD, hget_app, hget_app0, hget_cons0, hget_cons, notTuple, put_at, put_none])
theorem own_app1 {lo nro : Nat} {H : AH} {v : Value} {l : List Int} (x : Int) (ho : OwnC lo H v 32 1 (iv .u64 l)) (hlo : lo ≤ H.length) (hn : nro ≤ lo) (hl : l.length ≤ 2000000) : ∃ v' H', xappend Tryd.prog nro 53 v (.slice (some ⟨H.length, 0, none⟩) 1 1) (H ++ [some ⟨[.int .u64 x], 32, some 1⟩]) = some (v', H') ∧ OwnC lo H' v' 32 1 (iv .u64 (l ++ [x])) ∧ Low lo H H' := by
  obtain ⟨v', H2, hap, ho', hlow'⟩ := own_append (P := Tryd.prog) (nro := nro) (lo := lo) (t := 53) (e := 32) (H := H ++ [some ⟨[.int .u64 x], 32, some 1⟩]) (x := .slice (some ⟨H.length, 0, none⟩) 1 1) (sz := 1) (news := [.int .u64 x])
      (by simp [tab]) (by simp [tab]) (by omega) (by simp [tab, cells_int]) (ho.push _) (by simp; omega) (by omega) (by simp) (by simp [xcells, hget_app0, hget_cons0]) (by simp) (by simp) (by simp [tab]; omega) (by simp [maxLen]; omega)
  exact ⟨v', H2, hap, by rw [iv_append]; exact ho', (Low.push hlo _).trans hlow'⟩
theorem OwnC.slv {lo : Nat} {H : AH} {v : Value} {e : TypeId} {cells : List Value} (h : OwnC lo H v e 1 cells) : SlV H v cells := by
  rcases h with ⟨rfl, rfl⟩ | ⟨j, n, h1, rfl, h3, h4⟩
  · exact .inl ⟨none, rfl, rfl⟩
  · exact SlV.of h3 (by omega)
theorem SlV.low {H H' : AH} {v : Value} {cells : List Value} (h : SlV H v cells) (hl : ∀ j, j < H.length → hget H' j = hget H j) : SlV H' v cells := by
  rcases h with h | ⟨j, off, k, h1, h2, h3⟩
  · exact .inl h
  · exact .inr ⟨j, off, k, h1, by rw [hl j (hget_lt h2)]; exact h2, h3⟩
theorem digits_rc {H : AH} {γ : Nat → Option Nat} {k : List Int} (hk : By k) (hlk : k.length = 32) : AC Tryd.prog H.length γ 31 #[.agg (iv .u8 k).toArray] H (Fresh H.length (dB (digL k)) 32) := by
  refine ac_of_aw Tryd.func31 rfl Tryd.ntmps31 Tryd.results31 (by simp) ?_
  refine aw_seq ?_
  (refine aw_ops (by kernel_rfl) (fun K hK => ?_); simp (disch := first | omega | (simp only [lnS]; done) | (simp only [lnS]; omega)) [wb_bool, wb_undef, with_lit, XL_nil, XL_cons, XLc_val, XLc_call, step1_eq, stepW_t, stepW_f, stepC_n, stepC_s, stepX_s, stepX_n, stepN_s, calleeX, xrecv, oneV, xop_eq, xopR_s, xopR_n, wantedA_eq, wantedG_n, wantedG_s, plain1_int, plain1_bool, plain1_string, bits_i64, bits_u64, bits_u32, bits_u16, bits_u8, xeqA, xagg, xcmp, xarr, allK_iv, num_iv, calleeOf, xread, xeff, xbin, xint, xnil, xun, xstr, xload, xconv, xpart, xfield, xfieldAddr, xindexAddr, xindex, bnd, asInt?, xslice, xlen, xmin, xmax, xbuild, xfill, xappend, xapp2, xappstr, xappmk, xcap, xcopy, xcells, eval_tmp, eval_const, put_at, put_none, fr0_at, cells_agg, cells_int, cells_bool, cells_string, cells_ptr, cells_slice, notTuple, tab, iv_all, hget_app, hget_app0, hget_cons0, hget_cons, set_app, set_app0, setR, setR_one, QL_nil, QL_cons, QLc_val, stepQ_t, stepQ_f, stepQC_n, stepQC_s, stepQX_s, SL_nil, SL_cons, SLc_val, stepS_t, stepS_f, ltT, ltF, leT, leF, eqT, eqF, ltTn, ltFn, leTn, leFn, eqTn, eqFn, beqT, beqF, bneT, bneF, wi64, wu64, wu32, wu16, wu8, tmodP, tdivP, hgetL, hgetNe, hgetEq, setL, nums_def, nums_len, Nat.succ_le_of_lt, List.getElem?_cons_zero, List.getElem?_cons_succ, Option.getD_some, -getElem?_pos, -getElem?_neg, Int.toNat_add, Int.toNat_mul, agM, okM, agB, agI, agS, agP, agL, agA, okB, okI, okS, okP, okSl, okA]; refine hK _ _ ?_; clear hK K)
  refine aw_seq ?_
  (refine aw_ops (by kernel_rfl) (fun K hK => ?_); simp (disch := first | omega | (simp only [lnS]; done) | (simp only [lnS]; omega)) [wb_bool, wb_undef, with_lit, XL_nil, XL_cons, XLc_val, XLc_call, step1_eq, stepW_t, stepW_f, stepC_n, stepC_s, stepX_s, stepX_n, stepN_s, calleeX, xrecv, oneV, xop_eq, xopR_s, xopR_n, wantedA_eq, wantedG_n, wantedG_s, plain1_int, plain1_bool, plain1_string, bits_i64, bits_u64, bits_u32, bits_u16, bits_u8, xeqA, xagg, xcmp, xarr, allK_iv, num_iv, calleeOf, xread, xeff, xbin, xint, xnil, xun, xstr, xload, xconv, xpart, xfield, xfieldAddr, xindexAddr, xindex, bnd, asInt?, xslice, xlen, xmin, xmax, xbuild, xfill, xappend, xapp2, xappstr, xappmk, xcap, xcopy, xcells, eval_tmp, eval_const, put_at, put_none, fr0_at, cells_agg, cells_int, cells_bool, cells_string, cells_ptr, cells_slice, notTuple, tab, iv_all, hget_app, hget_app0, hget_cons0, hget_cons, set_app, set_app0, setR, setR_one, QL_nil, QL_cons, QLc_val, stepQ_t, stepQ_f, stepQC_n, stepQC_s, stepQX_s, SL_nil, SL_cons, SLc_val, stepS_t, stepS_f, ltT, ltF, leT, leF, eqT, eqF, ltTn, ltFn, leTn, leFn, eqTn, eqFn, beqT, beqF, bneT, bneF, wi64, wu64, wu32, wu16, wu8, tmodP, tdivP, hgetL, hgetNe, hgetEq, setL, nums_def, nums_len, Nat.succ_le_of_lt, List.getElem?_cons_zero, List.getElem?_cons_succ, Option.getD_some, -getElem?_pos, -getElem?_neg, Int.toNat_add, Int.toNat_mul, agM, okM, agB, agI, agS, agP, agL, agA, okB, okI, okS, okP, okSl, okA]; refine hK _ _ ?_; clear hK K)
  refine aw_seq ?_
  refine aw_seq ?_
  (refine aw_ops (by kernel_rfl) (fun K hK => ?_); simp (disch := first | omega | (simp only [lnS]; done) | (simp only [lnS]; omega)) [wb_bool, wb_undef, with_lit, XL_nil, XL_cons, XLc_val, XLc_call, step1_eq, stepW_t, stepW_f, stepC_n, stepC_s, stepX_s, stepX_n, stepN_s, calleeX, xrecv, oneV, xop_eq, xopR_s, xopR_n, wantedA_eq, wantedG_n, wantedG_s, plain1_int, plain1_bool, plain1_string, bits_i64, bits_u64, bits_u32, bits_u16, bits_u8, xeqA, xagg, xcmp, xarr, allK_iv, num_iv, calleeOf, xread, xeff, xbin, xint, xnil, xun, xstr, xload, xconv, xpart, xfield, xfieldAddr, xindexAddr, xindex, bnd, asInt?, xslice, xlen, xmin, xmax, xbuild, xfill, xappend, xapp2, xappstr, xappmk, xcap, xcopy, xcells, eval_tmp, eval_const, put_at, put_none, fr0_at, cells_agg, cells_int, cells_bool, cells_string, cells_ptr, cells_slice, notTuple, tab, iv_all, hget_app, hget_app0, hget_cons0, hget_cons, set_app, set_app0, setR, setR_one, QL_nil, QL_cons, QLc_val, stepQ_t, stepQ_f, stepQC_n, stepQC_s, stepQX_s, SL_nil, SL_cons, SLc_val, stepS_t, stepS_f, ltT, ltF, leT, leF, eqT, eqF, ltTn, ltFn, leTn, leFn, eqTn, eqFn, beqT, beqF, bneT, bneF, wi64, wu64, wu32, wu16, wu8, tmodP, tdivP, hgetL, hgetNe, hgetEq, setL, nums_def, nums_len, Nat.succ_le_of_lt, List.getElem?_cons_zero, List.getElem?_cons_succ, Option.getD_some, -getElem?_pos, -getElem?_neg, Int.toNat_add, Int.toNat_mul, agM, okM, agB, agI, agS, agP, agL, agA, okB, okI, okS, okP, okSl, okA]; refine hK _ _ ?_; clear hK K)
  refine aw_block ?_
  refine aw_loop (fun q α H' => ∃ (i : Nat) (v : Value), i + q = 32 ∧ α 4 = .int .i64 (i : Nat) ∧ α 1 = .pointer (some ⟨H.length, 0, none⟩) ∧ α 3 = v ∧ OwnC (H.length + 1) H' v 32 1 (iv .u64 (k.take i)) ∧ Low (H.length + 1) (H ++ [some ⟨iv .u8 k, 23, none⟩]) H') 32 ?_ ?_
  · exact ⟨0, _, by omega, by (first | (simp [put_at, put_none, fr0_at]; done) | rfl), by (first | (simp [put_at, put_none, fr0_at]; done) | rfl), by (first | (simp [put_at, put_none, fr0_at]; done) | rfl), .inl ⟨rfl, rfl⟩, Low.refl (by simp)⟩
  rintro q α H' ⟨i, v, hiq, h4, h1, h3, ho, hlow⟩
  have hbx : hget H' H.length = some ⟨iv .u8 k, 23, none⟩ := by rw [hlow.1 _ (by omega), hget_app0]; rfl
  refine aw_seq ?_
  refine aw_seq ?_
  by_cases hi : i < 32
  · have hki : (iv .u8 k)[i]? = some (.int .u8 (k.getD i 0)) := iv_getN _ _ _ (by omega)
    have hd := hk.get i
    have hts : k.take (i + 1) = k.take i ++ [k.getD i 0] := by rw [List.take_add_one, List.getElem?_eq_getElem (by omega), List.getD_eq_getElem?_getD, List.getElem?_eq_getElem (by omega)]; rfl
    obtain ⟨v', H2, hap, ho', hlow'⟩ := own_app1 (nro := H.length) (k.getD i 0) ho (by have := hlow.2; omega) (by omega) (by simp; omega)
    rw [← hts] at ho'
    generalize k.getD i 0 = d at *
    (refine aw_ops (by kernel_rfl) (fun K hK => ?_); simp (disch := first | omega | (simp only [lnS]; done) | (simp only [lnS]; omega)) [wb_bool, wb_undef, with_lit, XL_nil, XL_cons, XLc_val, XLc_call, step1_eq, stepW_t, stepW_f, stepC_n, stepC_s, stepX_s, stepX_n, stepN_s, calleeX, xrecv, oneV, xop_eq, xopR_s, xopR_n, wantedA_eq, wantedG_n, wantedG_s, plain1_int, plain1_bool, plain1_string, bits_i64, bits_u64, bits_u32, bits_u16, bits_u8, xeqA, xagg, xcmp, xarr, allK_iv, num_iv, calleeOf, xread, xeff, xbin, xint, xnil, xun, xstr, xload, xconv, xpart, xfield, xfieldAddr, xindexAddr, xindex, bnd, asInt?, xslice, xlen, xmin, xmax, xbuild, xfill, xappend, xapp2, xappstr, xappmk, xcap, xcopy, xcells, eval_tmp, eval_const, put_at, put_none, fr0_at, cells_agg, cells_int, cells_bool, cells_string, cells_ptr, cells_slice, notTuple, tab, iv_all, hget_app, hget_app0, hget_cons0, hget_cons, set_app, set_app0, setR, setR_one, QL_nil, QL_cons, QLc_val, stepQ_t, stepQ_f, stepQC_n, stepQC_s, stepQX_s, SL_nil, SL_cons, SLc_val, stepS_t, stepS_f, h4, ltT, ltF, leT, leF, eqT, eqF, ltTn, ltFn, leTn, leFn, eqTn, eqFn, beqT, beqF, bneT, bneF, wi64, wu64, wu32, wu16, wu8, tmodP, tdivP, hgetL, hgetNe, hgetEq, setL, nums_def, nums_len, Nat.succ_le_of_lt, List.getElem?_cons_zero, List.getElem?_cons_succ, Option.getD_some, -getElem?_pos, -getElem?_neg, Int.toNat_add, Int.toNat_mul, agM, okM, agB, agI, agS, agP, agL, agA, okB, okI, okS, okP, okSl, okA]; refine hK _ _ ?_; clear hK K)
    refine aw_t (by (first | (simp [eval_tmp, put_at, hi]; done) | (simp [eval_tmp, put_at, hi]; omega))) (by kernel_rfl) ?_
    refine aw_skip ?_
    refine aw_seq ?_
    refine aw_block ?_
    (refine aw_ops (by kernel_rfl) (fun K hK => ?_); simp (disch := first | omega | (simp only [lnS]; done) | (simp only [lnS]; omega)) [wb_bool, wb_undef, with_lit, XL_nil, XL_cons, XLc_val, XLc_call, step1_eq, stepW_t, stepW_f, stepC_n, stepC_s, stepX_s, stepX_n, stepN_s, calleeX, xrecv, oneV, xop_eq, xopR_s, xopR_n, wantedA_eq, wantedG_n, wantedG_s, plain1_int, plain1_bool, plain1_string, bits_i64, bits_u64, bits_u32, bits_u16, bits_u8, xeqA, xagg, xcmp, xarr, allK_iv, num_iv, calleeOf, xread, xeff, xbin, xint, xnil, xun, xstr, xload, xconv, xpart, xfield, xfieldAddr, xindexAddr, xindex, bnd, asInt?, xslice, xlen, xmin, xmax, xbuild, xfill, xapp2, xappstr, xappmk, xcap, xcopy, xcells, eval_tmp, eval_const, put_at, put_none, fr0_at, cells_agg, cells_int, cells_bool, cells_string, cells_ptr, cells_slice, notTuple, tab, iv_all, hget_app, hget_app0, hget_cons0, hget_cons, set_app, set_app0, setR, setR_one, QL_nil, QL_cons, QLc_val, stepQ_t, stepQ_f, stepQC_n, stepQC_s, stepQX_s, SL_nil, SL_cons, SLc_val, stepS_t, stepS_f, h3, h4, h1, hbx, hki, hap, ltT, ltF, leT, leF, eqT, eqF, ltTn, ltFn, leTn, leFn, eqTn, eqFn, beqT, beqF, bneT, bneF, wi64, wu64, wu32, wu16, wu8, tmodP, tdivP, hgetL, hgetNe, hgetEq, setL, nums_def, nums_len, Nat.succ_le_of_lt, List.getElem?_cons_zero, List.getElem?_cons_succ, Option.getD_some, -getElem?_pos, -getElem?_neg, Int.toNat_add, Int.toNat_mul, agM, okM, agB, agI, agS, agP, agL, agA, okB, okI, okS, okP, okSl, okA]; refine hK _ _ ?_; clear hK K)
    (refine aw_ops (by kernel_rfl) (fun K hK => ?_); simp (disch := first | omega | (simp only [lnS]; done) | (simp only [lnS]; omega)) [wb_bool, wb_undef, with_lit, XL_nil, XL_cons, XLc_val, XLc_call, step1_eq, stepW_t, stepW_f, stepC_n, stepC_s, stepX_s, stepX_n, stepN_s, calleeX, xrecv, oneV, xop_eq, xopR_s, xopR_n, wantedA_eq, wantedG_n, wantedG_s, plain1_int, plain1_bool, plain1_string, bits_i64, bits_u64, bits_u32, bits_u16, bits_u8, xeqA, xagg, xcmp, xarr, allK_iv, num_iv, calleeOf, xread, xeff, xbin, xint, xnil, xun, xstr, xload, xconv, xpart, xfield, xfieldAddr, xindexAddr, xindex, bnd, asInt?, xslice, xlen, xmin, xmax, xbuild, xfill, xappend, xapp2, xappstr, xappmk, xcap, xcopy, xcells, eval_tmp, eval_const, put_at, put_none, fr0_at, cells_agg, cells_int, cells_bool, cells_string, cells_ptr, cells_slice, notTuple, tab, iv_all, hget_app, hget_app0, hget_cons0, hget_cons, set_app, set_app0, setR, setR_one, QL_nil, QL_cons, QLc_val, stepQ_t, stepQ_f, stepQC_n, stepQC_s, stepQX_s, SL_nil, SL_cons, SLc_val, stepS_t, stepS_f, h4, ltT, ltF, leT, leF, eqT, eqF, ltTn, ltFn, leTn, leFn, eqTn, eqFn, beqT, beqF, bneT, bneF, wi64, wu64, wu32, wu16, wu8, tmodP, tdivP, hgetL, hgetNe, hgetEq, setL, nums_def, nums_len, Nat.succ_le_of_lt, List.getElem?_cons_zero, List.getElem?_cons_succ, Option.getD_some, -getElem?_pos, -getElem?_neg, Int.toNat_add, Int.toNat_mul, agM, okM, agB, agI, agS, agP, agL, agA, okB, okI, okS, okP, okSl, okA]; refine hK _ _ ?_; clear hK K)
    exact ⟨q - 1, by omega, i + 1, v', by omega, by (first | (simp [put_at, put_none, fr0_at]; done) | rfl), by (first | (simp [put_at, put_none, fr0_at, h1]; done) | rfl), by (first | (simp [put_at, put_none, fr0_at]; done) | rfl), ho', hlow.trans hlow'⟩
  · (refine aw_ops (by kernel_rfl) (fun K hK => ?_); simp (disch := first | omega | (simp only [lnS]; done) | (simp only [lnS]; omega)) [wb_bool, wb_undef, with_lit, XL_nil, XL_cons, XLc_val, XLc_call, step1_eq, stepW_t, stepW_f, stepC_n, stepC_s, stepX_s, stepX_n, stepN_s, calleeX, xrecv, oneV, xop_eq, xopR_s, xopR_n, wantedA_eq, wantedG_n, wantedG_s, plain1_int, plain1_bool, plain1_string, bits_i64, bits_u64, bits_u32, bits_u16, bits_u8, xeqA, xagg, xcmp, xarr, allK_iv, num_iv, calleeOf, xread, xeff, xbin, xint, xnil, xun, xstr, xload, xconv, xpart, xfield, xfieldAddr, xindexAddr, xindex, bnd, asInt?, xslice, xlen, xmin, xmax, xbuild, xfill, xappend, xapp2, xappstr, xappmk, xcap, xcopy, xcells, eval_tmp, eval_const, put_at, put_none, fr0_at, cells_agg, cells_int, cells_bool, cells_string, cells_ptr, cells_slice, notTuple, tab, iv_all, hget_app, hget_app0, hget_cons0, hget_cons, set_app, set_app0, setR, setR_one, QL_nil, QL_cons, QLc_val, stepQ_t, stepQ_f, stepQC_n, stepQC_s, stepQX_s, SL_nil, SL_cons, SLc_val, stepS_t, stepS_f, h4, ltT, ltF, leT, leF, eqT, eqF, ltTn, ltFn, leTn, leFn, eqTn, eqFn, beqT, beqF, bneT, bneF, wi64, wu64, wu32, wu16, wu8, tmodP, tdivP, hgetL, hgetNe, hgetEq, setL, nums_def, nums_len, Nat.succ_le_of_lt, List.getElem?_cons_zero, List.getElem?_cons_succ, Option.getD_some, -getElem?_pos, -getElem?_neg, Int.toNat_add, Int.toNat_mul, agM, okM, agB, agI, agS, agP, agL, agA, okB, okI, okS, okP, okSl, okA]; refine hK _ _ ?_; clear hK K)
    refine aw_f (by (first | (simp [eval_tmp, put_at, hi]; done) | (simp [eval_tmp, put_at, hi]; omega))) (by kernel_rfl) ?_
    obtain rfl : i = 32 := by omega
    refine aw_exit ?_
    rw [List.take_of_length_le (by omega)] at ho
    rcases ho with ⟨_, h⟩ | ⟨j, n, hj, rfl, hb, hn⟩
    · have := congrArg List.length h
      rw [iv_length, hlk] at this
      simp at this
    · have hn2 : n = 32 := by simp at hn; omega
      subst hn2
      have h31 : (iv .u64 k)[31]? = some (.int .u64 (k.getD 31 0)) := iv_getN _ _ _ (by omega)
      have hd := hk.get 31
      have hdg : k.set 31 (k.getD 31 0 % 128) = digL k := rfl
      have hjl := hget_lt hb
      generalize k.getD 31 0 = d at *
      refine aw_seq ?_
      (refine aw_ops (by kernel_rfl) (fun K hK => ?_); simp (disch := first | omega | (simp only [lnS]; done) | (simp only [lnS]; omega)) [wb_bool, wb_undef, with_lit, XL_nil, XL_cons, XLc_val, XLc_call, step1_eq, stepW_t, stepW_f, stepC_n, stepC_s, stepX_s, stepX_n, stepN_s, calleeX, xrecv, oneV, xop_eq, xopR_s, xopR_n, wantedA_eq, wantedG_n, wantedG_s, plain1_int, plain1_bool, plain1_string, bits_i64, bits_u64, bits_u32, bits_u16, bits_u8, xeqA, xagg, xcmp, xarr, allK_iv, num_iv, calleeOf, xread, xeff, xbin, xint, xnil, xun, xstr, xload, xconv, xpart, xfield, xfieldAddr, xindexAddr, xindex, bnd, asInt?, xslice, xlen, xmin, xmax, xbuild, xfill, xappend, xapp2, xappstr, xappmk, xcap, xcopy, xcells, eval_tmp, eval_const, put_at, put_none, fr0_at, cells_agg, cells_int, cells_bool, cells_string, cells_ptr, cells_slice, notTuple, tab, iv_all, hget_app, hget_app0, hget_cons0, hget_cons, set_app, set_app0, setR, setR_one, QL_nil, QL_cons, QLc_val, stepQ_t, stepQ_f, stepQC_n, stepQC_s, stepQX_s, SL_nil, SL_cons, SLc_val, stepS_t, stepS_f, h3, hb, h31, hlk, iv_set, hdg, ltT, ltF, leT, leF, eqT, eqF, ltTn, ltFn, leTn, leFn, eqTn, eqFn, beqT, beqF, bneT, bneF, wi64, wu64, wu32, wu16, wu8, tmodP, tdivP, hgetL, hgetNe, hgetEq, setL, nums_def, nums_len, Nat.succ_le_of_lt, List.getElem?_cons_zero, List.getElem?_cons_succ, Option.getD_some, -getElem?_pos, -getElem?_neg, Int.toNat_add, Int.toNat_mul, agM, okM, agB, agI, agS, agP, agL, agA, okB, okI, okS, okP, okSl, okA]; refine hK _ _ ?_; clear hK K)
      refine aw_seq ?_
      (refine aw_ops (by kernel_rfl) (fun K hK => ?_); simp (disch := first | omega | (simp only [lnS]; done) | (simp only [lnS]; omega)) [wb_bool, wb_undef, with_lit, XL_nil, XL_cons, XLc_val, XLc_call, step1_eq, stepW_t, stepW_f, stepC_n, stepC_s, stepX_s, stepX_n, stepN_s, calleeX, xrecv, oneV, xop_eq, xopR_s, xopR_n, wantedA_eq, wantedG_n, wantedG_s, plain1_int, plain1_bool, plain1_string, bits_i64, bits_u64, bits_u32, bits_u16, bits_u8, xeqA, xagg, xcmp, xarr, allK_iv, num_iv, calleeOf, xread, xeff, xbin, xint, xnil, xun, xstr, xload, xconv, xpart, xfield, xfieldAddr, xindexAddr, xindex, bnd, asInt?, xslice, xlen, xmin, xmax, xbuild, xfill, xappend, xapp2, xappstr, xappmk, xcap, xcopy, xcells, eval_tmp, eval_const, put_at, put_none, fr0_at, cells_agg, cells_int, cells_bool, cells_string, cells_ptr, cells_slice, notTuple, tab, iv_all, hget_app, hget_app0, hget_cons0, hget_cons, set_app, set_app0, setR, setR_one, QL_nil, QL_cons, QLc_val, stepQ_t, stepQ_f, stepQC_n, stepQC_s, stepQX_s, SL_nil, SL_cons, SLc_val, stepS_t, stepS_f, h3, ltT, ltF, leT, leF, eqT, eqF, ltTn, ltFn, leTn, leFn, eqTn, eqFn, beqT, beqF, bneT, bneF, wi64, wu64, wu32, wu16, wu8, tmodP, tdivP, hgetL, hgetNe, hgetEq, setL, nums_def, nums_len, Nat.succ_le_of_lt, List.getElem?_cons_zero, List.getElem?_cons_succ, Option.getD_some, -getElem?_pos, -getElem?_neg, Int.toNat_add, Int.toNat_mul, agM, okM, agB, agI, agS, agP, agL, agA, okB, okI, okS, okP, okSl, okA]; refine hK _ _ ?_; clear hK K)
      (refine aw_ret ?_; simp (disch := first | omega | (simp only [lnS]; done) | (simp only [lnS]; omega)) [wb_bool, wb_undef, with_lit, XL_nil, XL_cons, XLc_val, XLc_call, step1_eq, stepW_t, stepW_f, stepC_n, stepC_s, stepX_s, stepX_n, stepN_s, calleeX, xrecv, oneV, xop_eq, xopR_s, xopR_n, wantedA_eq, wantedG_n, wantedG_s, plain1_int, plain1_bool, plain1_string, bits_i64, bits_u64, bits_u32, bits_u16, bits_u8, xeqA, xagg, xcmp, xarr, allK_iv, num_iv, calleeOf, xread, xeff, xbin, xint, xnil, xun, xstr, xload, xconv, xpart, xfield, xfieldAddr, xindexAddr, xindex, bnd, asInt?, xslice, xlen, xmin, xmax, xbuild, xfill, xappend, xapp2, xappstr, xappmk, xcap, xcopy, xcells, eval_tmp, eval_const, put_at, put_none, fr0_at, cells_agg, cells_int, cells_bool, cells_string, cells_ptr, cells_slice, notTuple, tab, iv_all, hget_app, hget_app0, hget_cons0, hget_cons, set_app, set_app0, setR, setR_one, QL_nil, QL_cons, QLc_val, stepQ_t, stepQ_f, stepQC_n, stepQC_s, stepQX_s, SL_nil, SL_cons, SLc_val, stepS_t, stepS_f, thenQ_ret, scopeQ_ret, inBlockQ_ret, RQ, resL, resV, ltT, ltF, leT, leF, eqT, eqF, ltTn, ltFn, leTn, leFn, eqTn, eqFn, beqT, beqF, bneT, bneF, wi64, wu64, wu32, wu16, wu8, tmodP, tdivP, hgetL, hgetNe, hgetEq, setL, nums_def, nums_len, Nat.succ_le_of_lt, List.getElem?_cons_zero, List.getElem?_cons_succ, Option.getD_some, -getElem?_pos, -getElem?_neg, Int.toNat_add, Int.toNat_mul, agM, okM, agB, agI, agS, agP, agL, agA, okB, okI, okS, okP, okSl, okA])
      exact ⟨j, by omega, rfl, by rw [hget_set_eq hjl]; rfl⟩
theorem key_rc {H : AH} {γ : Nat → Option Nat} {a : List Int} {va : Value} (ha : By a) (hva : SlV H va (iv .u64 a)) (hla : a.length ≤ 1000000) : AC Tryd.prog H.length γ 29 #[va] H (fun v' _ => v' = .agg (iv .u8 (keyL a)).toArray) := by
  refine ac_of_aw Tryd.func29 rfl Tryd.ntmps29 Tryd.results29 (by simp) ?_
  have hxa := hva.len (P := Tryd.prog) (t := 53) (e := 32) rfl
  rw [iv_length] at hxa
  have hkl := keyL_len a
  have hka := fun i hi => keyL_at a (i := i) hi
  have hlow : ∀ (L : AH) (j : Nat), j < H.length → hget (H ++ L) j = hget H j := fun L j hj => hget_left hj
  generalize keyL a = B at *
  refine aw_seq ?_
  (refine aw_ops (by kernel_rfl) (fun K hK => ?_); simp (disch := first | omega | (simp only [lnS]; done) | (simp only [lnS]; omega)) [wb_bool, wb_undef, with_lit, XL_nil, XL_cons, XLc_val, XLc_call, step1_eq, stepW_t, stepW_f, stepC_n, stepC_s, stepX_s, stepX_n, stepN_s, calleeX, xrecv, oneV, xop_eq, xopR_s, xopR_n, wantedA_eq, wantedG_n, wantedG_s, plain1_int, plain1_bool, plain1_string, bits_i64, bits_u64, bits_u32, bits_u16, bits_u8, xeqA, xagg, xcmp, xarr, allK_iv, num_iv, calleeOf, xread, xeff, xbin, xint, xnil, xun, xstr, xload, xconv, xpart, xfield, xfieldAddr, xindexAddr, xindex, bnd, asInt?, xslice, xlen, xmin, xmax, xbuild, xfill, xappend, xapp2, xappstr, xappmk, xcap, xcopy, xcells, eval_tmp, eval_const, put_at, put_none, fr0_at, cells_agg, cells_int, cells_bool, cells_string, cells_ptr, cells_slice, notTuple, tab, iv_all, hget_app, hget_app0, hget_cons0, hget_cons, set_app, set_app0, setR, setR_one, QL_nil, QL_cons, QLc_val, stepQ_t, stepQ_f, stepQC_n, stepQC_s, stepQX_s, SL_nil, SL_cons, SLc_val, stepS_t, stepS_f, ltT, ltF, leT, leF, eqT, eqF, ltTn, ltFn, leTn, leFn, eqTn, eqFn, beqT, beqF, bneT, bneF, wi64, wu64, wu32, wu16, wu8, tmodP, tdivP, hgetL, hgetNe, hgetEq, setL, nums_def, nums_len, Nat.succ_le_of_lt, List.getElem?_cons_zero, List.getElem?_cons_succ, Option.getD_some, -getElem?_pos, -getElem?_neg, Int.toNat_add, Int.toNat_mul, agM, okM, agB, agI, agS, agP, agL, agA, okB, okI, okS, okP, okSl, okA]; refine hK _ _ ?_; clear hK K)
  refine aw_seq ?_
  (refine aw_ops (by kernel_rfl) (fun K hK => ?_); simp (disch := first | omega | (simp only [lnS]; done) | (simp only [lnS]; omega)) [wb_bool, wb_undef, with_lit, XL_nil, XL_cons, XLc_val, XLc_call, step1_eq, stepW_t, stepW_f, stepC_n, stepC_s, stepX_s, stepX_n, stepN_s, calleeX, xrecv, oneV, xop_eq, xopR_s, xopR_n, wantedA_eq, wantedG_n, wantedG_s, plain1_int, plain1_bool, plain1_string, bits_i64, bits_u64, bits_u32, bits_u16, bits_u8, xeqA, xagg, xcmp, xarr, allK_iv, num_iv, calleeOf, xread, xeff, xbin, xint, xnil, xun, xstr, xload, xconv, xpart, xfield, xfieldAddr, xindexAddr, xindex, bnd, asInt?, xslice, xlen, xmin, xmax, xbuild, xfill, xappend, xapp2, xappstr, xappmk, xcap, xcopy, xcells, eval_tmp, eval_const, put_at, put_none, fr0_at, cells_agg, cells_int, cells_bool, cells_string, cells_ptr, cells_slice, notTuple, tab, iv_all, hget_app, hget_app0, hget_cons0, hget_cons, set_app, set_app0, setR, setR_one, QL_nil, QL_cons, QLc_val, stepQ_t, stepQ_f, stepQC_n, stepQC_s, stepQX_s, SL_nil, SL_cons, SLc_val, stepS_t, stepS_f, ltT, ltF, leT, leF, eqT, eqF, ltTn, ltFn, leTn, leFn, eqTn, eqFn, beqT, beqF, bneT, bneF, wi64, wu64, wu32, wu16, wu8, tmodP, tdivP, hgetL, hgetNe, hgetEq, setL, nums_def, nums_len, Nat.succ_le_of_lt, List.getElem?_cons_zero, List.getElem?_cons_succ, Option.getD_some, -getElem?_pos, -getElem?_neg, Int.toNat_add, Int.toNat_mul, agM, okM, agB, agI, agS, agP, agL, agA, okB, okI, okS, okP, okSl, okA]; refine hK _ _ ?_; clear hK K)
  refine aw_seq ?_
  refine aw_seq ?_
  (refine aw_ops (by kernel_rfl) (fun K hK => ?_); simp (disch := first | omega | (simp only [lnS]; done) | (simp only [lnS]; omega)) [wb_bool, wb_undef, with_lit, XL_nil, XL_cons, XLc_val, XLc_call, step1_eq, stepW_t, stepW_f, stepC_n, stepC_s, stepX_s, stepX_n, stepN_s, calleeX, xrecv, oneV, xop_eq, xopR_s, xopR_n, wantedA_eq, wantedG_n, wantedG_s, plain1_int, plain1_bool, plain1_string, bits_i64, bits_u64, bits_u32, bits_u16, bits_u8, xeqA, xagg, xcmp, xarr, allK_iv, num_iv, calleeOf, xread, xeff, xbin, xint, xnil, xun, xstr, xload, xconv, xpart, xfield, xfieldAddr, xindexAddr, xindex, bnd, asInt?, xslice, xlen, xmin, xmax, xbuild, xfill, xappend, xapp2, xappstr, xappmk, xcap, xcopy, xcells, eval_tmp, eval_const, put_at, put_none, fr0_at, cells_agg, cells_int, cells_bool, cells_string, cells_ptr, cells_slice, notTuple, tab, iv_all, hget_app, hget_app0, hget_cons0, hget_cons, set_app, set_app0, setR, setR_one, QL_nil, QL_cons, QLc_val, stepQ_t, stepQ_f, stepQC_n, stepQC_s, stepQX_s, SL_nil, SL_cons, SLc_val, stepS_t, stepS_f, ltT, ltF, leT, leF, eqT, eqF, ltTn, ltFn, leTn, leFn, eqTn, eqFn, beqT, beqF, bneT, bneF, wi64, wu64, wu32, wu16, wu8, tmodP, tdivP, hgetL, hgetNe, hgetEq, setL, nums_def, nums_len, Nat.succ_le_of_lt, List.getElem?_cons_zero, List.getElem?_cons_succ, Option.getD_some, -getElem?_pos, -getElem?_neg, Int.toNat_add, Int.toNat_mul, agM, okM, agB, agI, agS, agP, agL, agA, okB, okI, okS, okP, okSl, okA]; refine hK _ _ ?_; clear hK K)
  refine aw_block ?_
  refine aw_loop (fun q α H' => ∃ i : Nat, i + q = 32 ∧ α 4 = .int .i64 (i : Nat) ∧ α 0 = va ∧ α 2 = .pointer (some ⟨H.length, 0, none⟩) ∧ α 3 = .pointer (some ⟨H.length + 1, 0, none⟩) ∧
    H' = H ++ [some ⟨iv .u8 (zl 32), 23, none⟩, some ⟨iv .u8 (B.take i ++ zl (32 - i)), 23, none⟩]) 32 ?_ ?_
  · exact ⟨0, by omega, by (first | (simp [put_at, put_none, fr0_at]; done) | rfl), by (first | (simp [put_at, put_none, fr0_at]; done) | rfl), by (first | (simp [put_at, put_none, fr0_at]; done) | rfl), by (first | (simp [put_at, put_none, fr0_at]; done) | rfl), by simp⟩
  rintro q α H' ⟨i, hiq, h4, h0, h2, h3, rfl⟩
  have hfl := fill_len B 32 i hkl (by omega)
  refine aw_seq ?_
  refine aw_seq ?_
  by_cases hi : i < 32 ∧ i < a.length
  · obtain ⟨hi, hi2⟩ := hi
    obtain ⟨p, e1, e2⟩ := hva.at (P := Tryd.prog) (t := 53) (e := 32) rfl rfl rfl rfl hi2
    have e2 := e2 (H ++ [some ⟨iv .u8 (zl 32), 23, none⟩, some ⟨iv .u8 (B.take i ++ zl (32 - i)), 23, none⟩]) (hlow _)
    have hd := ha.get i
    have hnx := set_next B 32 i hkl hi
    rw [hka i hi] at hnx
    generalize a.getD i 0 = d at *
    (refine aw_ops (by kernel_rfl) (fun K hK => ?_); simp (disch := first | omega | (simp only [lnS]; done) | (simp only [lnS]; omega)) [wb_bool, wb_undef, with_lit, XL_nil, XL_cons, XLc_val, XLc_call, step1_eq, stepW_t, stepW_f, stepC_n, stepC_s, stepX_s, stepX_n, stepN_s, calleeX, xrecv, oneV, xop_eq, xopR_s, xopR_n, wantedA_eq, wantedG_n, wantedG_s, plain1_int, plain1_bool, plain1_string, bits_i64, bits_u64, bits_u32, bits_u16, bits_u8, xeqA, xagg, xcmp, xarr, allK_iv, num_iv, calleeOf, xread, xeff, xbin, xint, xnil, xun, xstr, xload, xconv, xpart, xfield, xfieldAddr, xindexAddr, xindex, bnd, asInt?, xslice, xmin, xmax, xbuild, xfill, xappend, xapp2, xappstr, xappmk, xcap, xcopy, xcells, eval_tmp, eval_const, put_at, put_none, fr0_at, cells_agg, cells_int, cells_bool, cells_string, cells_ptr, cells_slice, notTuple, tab, iv_all, hget_app, hget_app0, hget_cons0, hget_cons, set_app, set_app0, setR, setR_one, QL_nil, QL_cons, QLc_val, stepQ_t, stepQ_f, stepQC_n, stepQC_s, stepQX_s, SL_nil, SL_cons, SLc_val, stepS_t, stepS_f, h4, h0, hxa, ltT, ltF, leT, leF, eqT, eqF, ltTn, ltFn, leTn, leFn, eqTn, eqFn, beqT, beqF, bneT, bneF, wi64, wu64, wu32, wu16, wu8, tmodP, tdivP, hgetL, hgetNe, hgetEq, setL, nums_def, nums_len, Nat.succ_le_of_lt, List.getElem?_cons_zero, List.getElem?_cons_succ, Option.getD_some, -getElem?_pos, -getElem?_neg, Int.toNat_add, Int.toNat_mul, agM, okM, agB, agI, agS, agP, agL, agA, okB, okI, okS, okP, okSl, okA]; refine hK _ _ ?_; clear hK K)
    refine aw_t (by (first | (simp [eval_tmp, put_at]; done) | (simp [eval_tmp, put_at]; omega))) (by kernel_rfl) ?_
    refine aw_skip ?_
    refine aw_seq ?_
    refine aw_block ?_
    have e3 : xindexAddr Tryd.prog 23 (.pointer (some ⟨H.length + 1, 0, none⟩)) (.int .i64 (i : Nat)) = some (.pointer (some ⟨H.length + 1, i, none⟩)) := by simp (disch := first | omega | (simp only [lnS]; done) | (simp only [lnS]; omega)) [wb_bool, wb_undef, with_lit, XL_nil, XL_cons, XLc_val, XLc_call, step1_eq, stepW_t, stepW_f, stepC_n, stepC_s, stepX_s, stepX_n, stepN_s, calleeX, xrecv, oneV, xop_eq, xopR_s, xopR_n, wantedA_eq, wantedG_n, wantedG_s, plain1_int, plain1_bool, plain1_string, bits_i64, bits_u64, bits_u32, bits_u16, bits_u8, xeqA, xagg, xcmp, xarr, allK_iv, num_iv, calleeOf, xread, xeff, xbin, xint, xnil, xun, xstr, xload, xconv, xpart, xfield, xfieldAddr, xindexAddr, xindex, bnd, asInt?, xslice, xlen, xmin, xmax, xbuild, xfill, xappend, xapp2, xappstr, xappmk, xcap, xcopy, xcells, eval_tmp, eval_const, put_at, put_none, fr0_at, cells_agg, cells_int, cells_bool, cells_string, cells_ptr, cells_slice, notTuple, tab, iv_all, hget_app, hget_app0, hget_cons0, hget_cons, set_app, set_app0, setR, setR_one, QL_nil, QL_cons, QLc_val, stepQ_t, stepQ_f, stepQC_n, stepQC_s, stepQX_s, SL_nil, SL_cons, SLc_val, stepS_t, stepS_f, ltT, ltF, leT, leF, eqT, eqF, ltTn, ltFn, leTn, leFn, eqTn, eqFn, beqT, beqF, bneT, bneF, wi64, wu64, wu32, wu16, wu8, tmodP, tdivP, hgetL, hgetNe, hgetEq, setL, nums_def, nums_len, Nat.succ_le_of_lt, List.getElem?_cons_zero, List.getElem?_cons_succ, Option.getD_some, -getElem?_pos, -getElem?_neg, Int.toNat_add, Int.toNat_mul, agM, okM, agB, agI, agS, agP, agL, agA, okB, okI, okS, okP, okSl, okA]
    (refine aw_ops (by kernel_rfl) (fun K hK => ?_); simp (disch := first | omega | (simp only [lnS]; done) | (simp only [lnS]; omega)) [wb_bool, wb_undef, with_lit, XL_nil, XL_cons, XLc_val, XLc_call, step1_eq, stepW_t, stepW_f, stepC_n, stepC_s, stepX_s, stepX_n, stepN_s, calleeX, xrecv, oneV, xop_eq, xopR_s, xopR_n, wantedA_eq, wantedG_n, wantedG_s, plain1_int, plain1_bool, plain1_string, bits_i64, bits_u64, bits_u32, bits_u16, bits_u8, xeqA, xagg, xcmp, xarr, allK_iv, num_iv, calleeOf, xread, xeff, xbin, xint, xnil, xun, xstr, xconv, xpart, xfield, xfieldAddr, xindex, bnd, asInt?, xslice, xlen, xmin, xmax, xbuild, xfill, xappend, xapp2, xappstr, xappmk, xcap, xcopy, xcells, eval_tmp, eval_const, put_at, put_none, fr0_at, cells_agg, cells_int, cells_bool, cells_string, cells_ptr, cells_slice, notTuple, tab, iv_all, hget_app, hget_app0, hget_cons0, hget_cons, set_app, set_app0, setR, setR_one, QL_nil, QL_cons, QLc_val, stepQ_t, stepQ_f, stepQC_n, stepQC_s, stepQX_s, SL_nil, SL_cons, SLc_val, stepS_t, stepS_f, h4, h0, h3, e1, e2, e3, hfl, iv_set, hnx, ltT, ltF, leT, leF, eqT, eqF, ltTn, ltFn, leTn, leFn, eqTn, eqFn, beqT, beqF, bneT, bneF, wi64, wu64, wu32, wu16, wu8, tmodP, tdivP, hgetL, hgetNe, hgetEq, setL, nums_def, nums_len, Nat.succ_le_of_lt, List.getElem?_cons_zero, List.getElem?_cons_succ, Option.getD_some, -getElem?_pos, -getElem?_neg, Int.toNat_add, Int.toNat_mul, agM, okM, agB, agI, agS, agP, agL, agA, okB, okI, okS, okP, okSl, okA]; refine hK _ _ ?_; clear hK K)
    (refine aw_ops (by kernel_rfl) (fun K hK => ?_); simp (disch := first | omega | (simp only [lnS]; done) | (simp only [lnS]; omega)) [wb_bool, wb_undef, with_lit, XL_nil, XL_cons, XLc_val, XLc_call, step1_eq, stepW_t, stepW_f, stepC_n, stepC_s, stepX_s, stepX_n, stepN_s, calleeX, xrecv, oneV, xop_eq, xopR_s, xopR_n, wantedA_eq, wantedG_n, wantedG_s, plain1_int, plain1_bool, plain1_string, bits_i64, bits_u64, bits_u32, bits_u16, bits_u8, xeqA, xagg, xcmp, xarr, allK_iv, num_iv, calleeOf, xread, xeff, xbin, xint, xnil, xun, xstr, xload, xconv, xpart, xfield, xfieldAddr, xindexAddr, xindex, bnd, asInt?, xslice, xlen, xmin, xmax, xbuild, xfill, xappend, xapp2, xappstr, xappmk, xcap, xcopy, xcells, eval_tmp, eval_const, put_at, put_none, fr0_at, cells_agg, cells_int, cells_bool, cells_string, cells_ptr, cells_slice, notTuple, tab, iv_all, hget_app, hget_app0, hget_cons0, hget_cons, set_app, set_app0, setR, setR_one, QL_nil, QL_cons, QLc_val, stepQ_t, stepQ_f, stepQC_n, stepQC_s, stepQX_s, SL_nil, SL_cons, SLc_val, stepS_t, stepS_f, h4, ltT, ltF, leT, leF, eqT, eqF, ltTn, ltFn, leTn, leFn, eqTn, eqFn, beqT, beqF, bneT, bneF, wi64, wu64, wu32, wu16, wu8, tmodP, tdivP, hgetL, hgetNe, hgetEq, setL, nums_def, nums_len, Nat.succ_le_of_lt, List.getElem?_cons_zero, List.getElem?_cons_succ, Option.getD_some, -getElem?_pos, -getElem?_neg, Int.toNat_add, Int.toNat_mul, agM, okM, agB, agI, agS, agP, agL, agA, okB, okI, okS, okP, okSl, okA]; refine hK _ _ ?_; clear hK K)
    exact ⟨q - 1, by omega, i + 1, by omega, by (first | (simp [put_at, put_none, fr0_at]; done) | rfl), by (first | (simp [put_at, put_none, fr0_at, h0]; done) | rfl), by (first | (simp [put_at, put_none, fr0_at, h2]; done) | rfl), by (first | (simp [put_at, put_none, fr0_at, h3]; done) | rfl), by simp⟩
  · have hend : B.take i ++ zl (32 - i) = B := by
      apply List.ext_getElem
      · omega
      · intro j h1 h2
        rcases Nat.lt_or_ge j i with hj | hj
        · rw [List.getElem_append_left (by rw [List.length_take]; omega), List.getElem_take]
        · rw [List.getElem_append_right (by rw [List.length_take]; omega)]
          have hz := hka j (by omega)
          rw [List.getD_eq_getElem?_getD, List.getElem?_eq_getElem (by omega), List.getD_eq_getElem?_getD, List.getElem?_eq_none (by omega)] at hz
          simp [zl] at hz ⊢
          exact hz.symm
    have hs : setR (iv .u8 (zl 32)) 0 (iv .u8 B) = iv .u8 B := setR_all _ _ (by simp [hkl])
    have ht : (iv .u8 B).take 32 = iv .u8 B := List.take_of_length_le (by simp [hkl])
    rw [hend]
    refine aw_cut (fun α' H'' => α' 12 = .bool false ∧ α' 2 = .pointer (some ⟨H.length, 0, none⟩) ∧ α' 3 = .pointer (some ⟨H.length + 1, 0, none⟩) ∧ H'' = H ++ [some ⟨iv .u8 (zl 32), 23, none⟩, some ⟨iv .u8 B, 23, none⟩]) ?_ ?_
    · by_cases c1 : i < 32
      · (refine aw_ops (by kernel_rfl) (fun K hK => ?_); simp (disch := first | omega | (simp only [lnS]; done) | (simp only [lnS]; omega)) [wb_bool, wb_undef, with_lit, XL_nil, XL_cons, XLc_val, XLc_call, step1_eq, stepW_t, stepW_f, stepC_n, stepC_s, stepX_s, stepX_n, stepN_s, calleeX, xrecv, oneV, xop_eq, xopR_s, xopR_n, wantedA_eq, wantedG_n, wantedG_s, plain1_int, plain1_bool, plain1_string, bits_i64, bits_u64, bits_u32, bits_u16, bits_u8, xeqA, xagg, xcmp, xarr, allK_iv, num_iv, calleeOf, xread, xeff, xbin, xint, xnil, xun, xstr, xload, xconv, xpart, xfield, xfieldAddr, xindexAddr, xindex, bnd, asInt?, xslice, xmin, xmax, xbuild, xfill, xappend, xapp2, xappstr, xappmk, xcap, xcopy, xcells, eval_tmp, eval_const, put_at, put_none, fr0_at, cells_agg, cells_int, cells_bool, cells_string, cells_ptr, cells_slice, notTuple, tab, iv_all, hget_app, hget_app0, hget_cons0, hget_cons, set_app, set_app0, setR, setR_one, QL_nil, QL_cons, QLc_val, stepQ_t, stepQ_f, stepQC_n, stepQC_s, stepQX_s, SL_nil, SL_cons, SLc_val, stepS_t, stepS_f, h4, h0, hxa, ltT, ltF, leT, leF, eqT, eqF, ltTn, ltFn, leTn, leFn, eqTn, eqFn, beqT, beqF, bneT, bneF, wi64, wu64, wu32, wu16, wu8, tmodP, tdivP, hgetL, hgetNe, hgetEq, setL, nums_def, nums_len, Nat.succ_le_of_lt, List.getElem?_cons_zero, List.getElem?_cons_succ, Option.getD_some, -getElem?_pos, -getElem?_neg, Int.toNat_add, Int.toNat_mul, agM, okM, agB, agI, agS, agP, agL, agA, okB, okI, okS, okP, okSl, okA]; refine hK _ _ ?_; clear hK K)
        exact ⟨by (first | (simp [put_at, put_none, fr0_at]; done) | rfl), by (first | (simp [put_at, put_none, fr0_at, h2]; done) | rfl), by (first | (simp [put_at, put_none, fr0_at, h3]; done) | rfl), rfl⟩
      · (refine aw_ops (by kernel_rfl) (fun K hK => ?_); simp (disch := first | omega | (simp only [lnS]; done) | (simp only [lnS]; omega)) [wb_bool, wb_undef, with_lit, XL_nil, XL_cons, XLc_val, XLc_call, step1_eq, stepW_t, stepW_f, stepC_n, stepC_s, stepX_s, stepX_n, stepN_s, calleeX, xrecv, oneV, xop_eq, xopR_s, xopR_n, wantedA_eq, wantedG_n, wantedG_s, plain1_int, plain1_bool, plain1_string, bits_i64, bits_u64, bits_u32, bits_u16, bits_u8, xeqA, xagg, xcmp, xarr, allK_iv, num_iv, calleeOf, xread, xeff, xbin, xint, xnil, xun, xstr, xload, xconv, xpart, xfield, xfieldAddr, xindexAddr, xindex, bnd, asInt?, xslice, xmin, xmax, xbuild, xfill, xappend, xapp2, xappstr, xappmk, xcap, xcopy, xcells, eval_tmp, eval_const, put_at, put_none, fr0_at, cells_agg, cells_int, cells_bool, cells_string, cells_ptr, cells_slice, notTuple, tab, iv_all, hget_app, hget_app0, hget_cons0, hget_cons, set_app, set_app0, setR, setR_one, QL_nil, QL_cons, QLc_val, stepQ_t, stepQ_f, stepQC_n, stepQC_s, stepQX_s, SL_nil, SL_cons, SLc_val, stepS_t, stepS_f, h4, h0, hxa, ltT, ltF, leT, leF, eqT, eqF, ltTn, ltFn, leTn, leFn, eqTn, eqFn, beqT, beqF, bneT, bneF, wi64, wu64, wu32, wu16, wu8, tmodP, tdivP, hgetL, hgetNe, hgetEq, setL, nums_def, nums_len, Nat.succ_le_of_lt, List.getElem?_cons_zero, List.getElem?_cons_succ, Option.getD_some, -getElem?_pos, -getElem?_neg, Int.toNat_add, Int.toNat_mul, agM, okM, agB, agI, agS, agP, agL, agA, okB, okI, okS, okP, okSl, okA]; refine hK _ _ ?_; clear hK K)
        exact ⟨by (first | (simp [put_at, put_none, fr0_at]; done) | rfl), by (first | (simp [put_at, put_none, fr0_at, h2]; done) | rfl), by (first | (simp [put_at, put_none, fr0_at, h3]; done) | rfl), rfl⟩
    clear h4 h0 h2 h3
    rintro α H'' ⟨h12, h2, h3, rfl⟩
    refine aw_f (by (first | (simp [eval_tmp, put_at, h12]; done) | (simp [eval_tmp, put_at, h12]; omega))) (by kernel_rfl) ?_
    refine aw_exit ?_
    refine aw_seq ?_
    (refine aw_ops (by kernel_rfl) (fun K hK => ?_); simp (disch := first | omega | (simp only [lnS]; done) | (simp only [lnS]; omega)) [wb_bool, wb_undef, with_lit, XL_nil, XL_cons, XLc_val, XLc_call, step1_eq, stepW_t, stepW_f, stepC_n, stepC_s, stepX_s, stepX_n, stepN_s, calleeX, xrecv, oneV, xop_eq, xopR_s, xopR_n, wantedA_eq, wantedG_n, wantedG_s, plain1_int, plain1_bool, plain1_string, bits_i64, bits_u64, bits_u32, bits_u16, bits_u8, xeqA, xagg, xcmp, xarr, allK_iv, num_iv, calleeOf, xread, xeff, xbin, xint, xnil, xun, xstr, xload, xconv, xpart, xfield, xfieldAddr, xindexAddr, xindex, bnd, asInt?, xslice, xlen, xmin, xmax, xbuild, xfill, xappend, xapp2, xappstr, xappmk, xcap, xcopy, xcells, eval_tmp, eval_const, put_at, put_none, fr0_at, cells_agg, cells_int, cells_bool, cells_string, cells_ptr, cells_slice, notTuple, tab, iv_all, hget_app, hget_app0, hget_cons0, hget_cons, set_app, set_app0, setR, setR_one, QL_nil, QL_cons, QLc_val, stepQ_t, stepQ_f, stepQC_n, stepQC_s, stepQX_s, SL_nil, SL_cons, SLc_val, stepS_t, stepS_f, h2, h3, hkl, ht, hs, ltT, ltF, leT, leF, eqT, eqF, ltTn, ltFn, leTn, leFn, eqTn, eqFn, beqT, beqF, bneT, bneF, wi64, wu64, wu32, wu16, wu8, tmodP, tdivP, hgetL, hgetNe, hgetEq, setL, nums_def, nums_len, Nat.succ_le_of_lt, List.getElem?_cons_zero, List.getElem?_cons_succ, Option.getD_some, -getElem?_pos, -getElem?_neg, Int.toNat_add, Int.toNat_mul, agM, okM, agB, agI, agS, agP, agL, agA, okB, okI, okS, okP, okSl, okA]; refine hK _ _ ?_; clear hK K)
    (refine aw_ret ?_; simp (disch := first | omega | (simp only [lnS]; done) | (simp only [lnS]; omega)) [wb_bool, wb_undef, with_lit, XL_nil, XL_cons, XLc_val, XLc_call, step1_eq, stepW_t, stepW_f, stepC_n, stepC_s, stepX_s, stepX_n, stepN_s, calleeX, xrecv, oneV, xop_eq, xopR_s, xopR_n, wantedA_eq, wantedG_n, wantedG_s, plain1_int, plain1_bool, plain1_string, bits_i64, bits_u64, bits_u32, bits_u16, bits_u8, xeqA, xagg, xcmp, xarr, allK_iv, num_iv, calleeOf, xread, xeff, xbin, xint, xnil, xun, xstr, xload, xconv, xpart, xfield, xfieldAddr, xindexAddr, xindex, bnd, asInt?, xslice, xlen, xmin, xmax, xbuild, xfill, xappend, xapp2, xappstr, xappmk, xcap, xcopy, xcells, eval_tmp, eval_const, put_at, put_none, fr0_at, cells_agg, cells_int, cells_bool, cells_string, cells_ptr, cells_slice, notTuple, tab, iv_all, hget_app, hget_app0, hget_cons0, hget_cons, set_app, set_app0, setR, setR_one, QL_nil, QL_cons, QLc_val, stepQ_t, stepQ_f, stepQC_n, stepQC_s, stepQX_s, SL_nil, SL_cons, SLc_val, stepS_t, stepS_f, thenQ_ret, scopeQ_ret, inBlockQ_ret, RQ, resL, resV, h2, hkl, ht, ltT, ltF, leT, leF, eqT, eqF, ltTn, ltFn, leTn, leFn, eqTn, eqFn, beqT, beqF, bneT, bneF, wi64, wu64, wu32, wu16, wu8, tmodP, tdivP, hgetL, hgetNe, hgetEq, setL, nums_def, nums_len, Nat.succ_le_of_lt, List.getElem?_cons_zero, List.getElem?_cons_succ, Option.getD_some, -getElem?_pos, -getElem?_neg, Int.toNat_add, Int.toNat_mul, agM, okM, agB, agI, agS, agP, agL, agA, okB, okI, okS, okP, okSl, okA])
end

section
open Go Go.RowKit
set_option linter.unusedVariables false
set_option linter.unusedSimpArgs false
set_option maxRecDepth 100000
set_option maxHeartbeats 4000000

theorem OwnC.low' {lo lo2 : Nat} {H H' : AH} {v : Value} {e : TypeId} {sz : Nat} {cells : List Value} (h : OwnC lo H v e sz cells) (hl : H.length ≤ lo2) (hw : Low lo2 H H') : OwnC lo H' v e sz cells := by
  rcases h with h | ⟨j, n, h1, h2, h3, h4⟩
  · exact .inl h
  · exact .inr ⟨j, n, h1, h2, by rw [hw.1 j (by have := hget_lt h3; omega)]; exact h3, h4⟩
theorem Low.weak {lo lo2 : Nat} {H H' : AH} (h : Low lo2 H H') (hl : lo ≤ lo2) : Low lo H H' := ⟨fun i hi => h.1 i (by omega), by have := h.2; omega⟩
attribute [local irreducible] qM pM dv plusL timesL loL hiL restL plusN
theorem rest_rc {H : AH} {γ : Nat → Option Nat} {a : List Int} {va : Value} (ha : By a) (hva : SlV H va (iv .u64 a)) (hla : a.length ≤ 1000) (hla0 : 0 < a.length) :
    AC Tryd.prog H.length γ 30 #[va] H (fun v' H' => (dv a < pM → v' = va) ∧ (pM ≤ dv a → Fresh H.length (dB (restL a)) (restL a).length v' H')) := by
  refine ac_of_aw Tryd.func30 rfl Tryd.ntmps30 Tryd.results30 (by simp) ?_
  have hqp := qp
  refine aw_seq ?_
  (refine aw_ops (by kernel_rfl) (fun K hK => ?_); simp (disch := first | omega | (simp only [lnS]; done) | (simp only [lnS]; omega)) [wb_bool, wb_undef, with_lit, XL_nil, XL_cons, XLc_val, XLc_call, step1_eq, stepW_t, stepW_f, stepC_n, stepC_s, stepX_s, stepX_n, stepN_s, calleeX, xrecv, oneV, xop_eq, xopR_s, xopR_n, wantedA_eq, wantedG_n, wantedG_s, plain1_int, plain1_bool, plain1_string, bits_i64, bits_u64, bits_u32, bits_u16, bits_u8, xeqA, xagg, xcmp, xarr, allK_iv, num_iv, calleeOf, xread, xeff, xbin, xint, xnil, xun, xstr, xload, xconv, xpart, xfield, xfieldAddr, xindexAddr, xindex, bnd, asInt?, xslice, xlen, xmin, xmax, xbuild, xfill, xappend, xapp2, xappstr, xappmk, xcap, xcopy, xcells, eval_tmp, eval_const, put_at, put_none, fr0_at, cells_agg, cells_int, cells_bool, cells_string, cells_ptr, cells_slice, notTuple, tab, iv_all, hget_app, hget_app0, hget_cons0, hget_cons, set_app, set_app0, setR, setR_one, QL_nil, QL_cons, QLc_val, stepQ_t, stepQ_f, stepQC_n, stepQC_s, stepQX_s, SL_nil, SL_cons, SLc_val, stepS_t, stepS_f, ltT, ltF, leT, leF, eqT, eqF, ltTn, ltFn, leTn, leFn, eqTn, eqFn, beqT, beqF, bneT, bneF, wi64, wu64, wu32, wu16, wu8, tmodP, tdivP, hgetL, hgetNe, hgetEq, setL, nums_def, nums_len, Nat.succ_le_of_lt, List.getElem?_cons_zero, List.getElem?_cons_succ, Option.getD_some, -getElem?_pos, -getElem?_neg, Int.toNat_add, Int.toNat_mul, agM, okM, agB, agI, agS, agP, agL, agA, okB, okI, okS, okP, okSl, okA]; refine hK _ _ ?_; clear hK K)
  refine aw_seq ?_
  refine aw_block ?_
  refine aw_loop (fun q α H' => ∃ (A : List Int) (v : Value) (f : Nat), q = (dv A).toNat ∧ By A ∧ 0 < A.length ∧ A.length ≤ 1000 ∧ (dv A).toNat < f ∧ restF f A = restL a ∧ α 0 = v ∧ ((v = va ∧ A = a) ∨ (OwnC H.length H' v 32 1 (iv .u64 A) ∧ qM ≤ dv a)) ∧ Low H.length H H') (dv a).toNat ?_ ?_
  · exact ⟨a, va, (dv a).toNat + 1, rfl, ha, hla0, hla, by omega, by unfold restL; rfl, by (first | (simp [put_at, put_none, fr0_at]; done) | rfl), .inl ⟨rfl, rfl⟩, Low.refl (Nat.le_refl _)⟩
  rintro q α G ⟨A, v, f, rfl, hA, hA0, hAl, hf, hres, h0, hcase, hlow⟩
  have hvA : SlV G v (iv .u64 A) := by
    rcases hcase with ⟨rfl, rfl⟩ | ⟨h, _⟩
    · exact hva.low hlow.1
    · exact h.slv
  have hxA := hvA.len (P := Tryd.prog) (t := 53) (e := 32) rfl
  rw [iv_length] at hxA
  have hGl := hlow.2
  refine aw_seq ?_
  refine aw_seq ?_
  refine aw_ops (by kernel_rfl) (fun K hK => ?_)
  simp (disch := first | omega | (simp only [lnS]; done) | (simp only [lnS]; omega)) [wb_bool, wb_undef, with_lit, XL_nil, XL_cons, XLc_val, XLc_call, step1_eq, stepW_t, stepW_f, stepC_n, stepC_s, stepX_s, stepX_n, stepN_s, calleeX, xrecv, oneV, xop_eq, xopR_s, xopR_n, wantedA_eq, wantedG_n, wantedG_s, plain1_int, plain1_bool, plain1_string, bits_i64, bits_u64, bits_u32, bits_u16, bits_u8, xeqA, xagg, xcmp, xarr, allK_iv, num_iv, calleeOf, xread, xeff, xbin, xint, xnil, xun, xstr, xload, xconv, xpart, xfield, xfieldAddr, xindexAddr, xindex, bnd, asInt?, xslice, xlen, xmin, xmax, xbuild, xfill, xappend, xapp2, xappstr, xappmk, xcap, xcopy, xcells, eval_tmp, eval_const, put_at, put_none, fr0_at, cells_agg, cells_int, cells_bool, cells_string, cells_ptr, cells_slice, notTuple, tab, iv_all, hget_app, hget_app0, hget_cons0, hget_cons, set_app, set_app0, setR, setR_one, QL_nil, QL_cons, QLc_val, stepQ_t, stepQ_f, stepQC_n, stepQC_s, stepQX_s, SL_nil, SL_cons, SLc_val, stepS_t, stepS_f, h0, ltT, ltF, leT, leF, eqT, eqF, ltTn, ltFn, leTn, leFn, eqTn, eqFn, beqT, beqF, bneT, bneF, wi64, wu64, wu32, wu16, wu8, tmodP, tdivP, hgetL, hgetNe, hgetEq, setL, nums_def, nums_len, Nat.succ_le_of_lt, List.getElem?_cons_zero, List.getElem?_cons_succ, Option.getD_some, -getElem?_pos, -getElem?_neg, Int.toNat_add, Int.toNat_mul, agM, okM, agB, agI, agS, agP, agL, agA, okB, okI, okS, okP, okSl, okA]
  refine ⟨by kernel_rfl, ac_of_rc (high_rc hA hvA (by omega)) (by simp [pv_iv, pv_int, pv_bool, pv_string, pv_tup2, pv_tup3, iv_plain, p2_int, p2_bool, p2_string]) ?_⟩
  try simp (disch := first | omega | (simp only [lnS]; done) | (simp only [lnS]; omega)) [wb_bool, wb_undef, with_lit, XL_nil, XL_cons, XLc_val, XLc_call, step1_eq, stepW_t, stepW_f, stepC_n, stepC_s, stepX_s, stepX_n, stepN_s, calleeX, xrecv, oneV, xop_eq, xopR_s, xopR_n, wantedA_eq, wantedG_n, wantedG_s, plain1_int, plain1_bool, plain1_string, bits_i64, bits_u64, bits_u32, bits_u16, bits_u8, xeqA, xagg, xcmp, xarr, allK_iv, num_iv, calleeOf, xread, xeff, xbin, xint, xnil, xun, xstr, xload, xconv, xpart, xfield, xfieldAddr, xindexAddr, xindex, bnd, asInt?, xslice, xlen, xmin, xmax, xbuild, xfill, xappend, xapp2, xappstr, xappmk, xcap, xcopy, xcells, eval_tmp, eval_const, put_at, put_none, fr0_at, cells_agg, cells_int, cells_bool, cells_string, cells_ptr, cells_slice, notTuple, tab, iv_all, hget_app, hget_app0, hget_cons0, hget_cons, set_app, set_app0, setR, setR_one, QL_nil, QL_cons, QLc_val, stepQ_t, stepQ_f, stepQC_n, stepQC_s, stepQX_s, SL_nil, SL_cons, SLc_val, stepS_t, stepS_f, ltT, ltF, leT, leF, eqT, eqF, ltTn, ltFn, leTn, leFn, eqTn, eqFn, beqT, beqF, bneT, bneF, wi64, wu64, wu32, wu16, wu8, tmodP, tdivP, hgetL, hgetNe, hgetEq, setL, nums_def, nums_len, Nat.succ_le_of_lt, List.getElem?_cons_zero, List.getElem?_cons_succ, Option.getD_some, -getElem?_pos, -getElem?_neg, Int.toNat_add, Int.toNat_mul, agM, okM, agB, agI, agS, agP, agL, agA, okB, okI, okS, okP, okSl, okA]
  refine hK _ _ ?_; clear hK K
  by_cases hq : qM ≤ dv A
  · obtain ⟨f, rfl⟩ : ∃ f', f = f' + 1 := ⟨f - 1, by omega⟩
    have hl31 := len_of_big hA hq
    obtain ⟨n1, n2, n3⟩ := next_less hA hq
    have n4 := nextL_len A hl31
    have hres' : restF f (nextL A) = restL a := by
      simp only [restF] at hres
      rwa [if_pos hq] at hres
    have hll := loL_len A
    have hlg := fun i hi => loL_get A (i := i) hi
    have hlb := loL_by hA
    have hhb := hiL_by hA
    have hhl := hiL_len A
    have hhg : ∀ j, j < A.length - 31 → (hiL A).getD j 0 = A.getD (31 + j) 0 / 128 + A.getD (31 + j + 1) 0 % 128 * 2 := fun j hj => by
      unfold hiL
      rw [hiR_get _ _ (by rw [List.length_drop]; exact hj)]
      simp only [List.getD_eq_getElem?_getD, List.getElem?_drop]
      rw [Nat.add_assoc]
    have hnx : nextL A = plusL (loL A) (timesL (hiL A) [19]) := rfl
    rw [decide_eq_true hq]
    refine aw_t (by (first | (simp [eval_tmp, put_at]; done) | (simp [eval_tmp, put_at]; omega))) (by kernel_rfl) ?_
    refine aw_skip ?_
    refine aw_block ?_
    refine aw_seq ?_
    (refine aw_ops (by kernel_rfl) (fun K hK => ?_); simp (disch := first | omega | (simp only [lnS]; done) | (simp only [lnS]; omega)) [wb_bool, wb_undef, with_lit, XL_nil, XL_cons, XLc_val, XLc_call, step1_eq, stepW_t, stepW_f, stepC_n, stepC_s, stepX_s, stepX_n, stepN_s, calleeX, xrecv, oneV, xop_eq, xopR_s, xopR_n, wantedA_eq, wantedG_n, wantedG_s, plain1_int, plain1_bool, plain1_string, bits_i64, bits_u64, bits_u32, bits_u16, bits_u8, xeqA, xagg, xcmp, xarr, allK_iv, num_iv, calleeOf, xread, xeff, xbin, xint, xnil, xun, xstr, xload, xconv, xpart, xfield, xfieldAddr, xindexAddr, xindex, bnd, asInt?, xslice, xlen, xmin, xmax, xbuild, xfill, xappend, xapp2, xappstr, xappmk, xcap, xcopy, xcells, eval_tmp, eval_const, put_at, put_none, fr0_at, cells_agg, cells_int, cells_bool, cells_string, cells_ptr, cells_slice, notTuple, tab, iv_all, hget_app, hget_app0, hget_cons0, hget_cons, set_app, set_app0, setR, setR_one, QL_nil, QL_cons, QLc_val, stepQ_t, stepQ_f, stepQC_n, stepQC_s, stepQX_s, SL_nil, SL_cons, SLc_val, stepS_t, stepS_f, ltT, ltF, leT, leF, eqT, eqF, ltTn, ltFn, leTn, leFn, eqTn, eqFn, beqT, beqF, bneT, bneF, wi64, wu64, wu32, wu16, wu8, tmodP, tdivP, hgetL, hgetNe, hgetEq, setL, nums_def, nums_len, Nat.succ_le_of_lt, List.getElem?_cons_zero, List.getElem?_cons_succ, Option.getD_some, -getElem?_pos, -getElem?_neg, Int.toNat_add, Int.toNat_mul, agM, okM, agB, agI, agS, agP, agL, agA, okB, okI, okS, okP, okSl, okA]; refine hK _ _ ?_; clear hK K)
    refine aw_seq ?_
    refine aw_seq ?_
    (refine aw_ops (by kernel_rfl) (fun K hK => ?_); simp (disch := first | omega | (simp only [lnS]; done) | (simp only [lnS]; omega)) [wb_bool, wb_undef, with_lit, XL_nil, XL_cons, XLc_val, XLc_call, step1_eq, stepW_t, stepW_f, stepC_n, stepC_s, stepX_s, stepX_n, stepN_s, calleeX, xrecv, oneV, xop_eq, xopR_s, xopR_n, wantedA_eq, wantedG_n, wantedG_s, plain1_int, plain1_bool, plain1_string, bits_i64, bits_u64, bits_u32, bits_u16, bits_u8, xeqA, xagg, xcmp, xarr, allK_iv, num_iv, calleeOf, xread, xeff, xbin, xint, xnil, xun, xstr, xload, xconv, xpart, xfield, xfieldAddr, xindexAddr, xindex, bnd, asInt?, xslice, xlen, xmin, xmax, xbuild, xfill, xappend, xapp2, xappstr, xappmk, xcap, xcopy, xcells, eval_tmp, eval_const, put_at, put_none, fr0_at, cells_agg, cells_int, cells_bool, cells_string, cells_ptr, cells_slice, notTuple, tab, iv_all, hget_app, hget_app0, hget_cons0, hget_cons, set_app, set_app0, setR, setR_one, QL_nil, QL_cons, QLc_val, stepQ_t, stepQ_f, stepQC_n, stepQC_s, stepQX_s, SL_nil, SL_cons, SLc_val, stepS_t, stepS_f, ltT, ltF, leT, leF, eqT, eqF, ltTn, ltFn, leTn, leFn, eqTn, eqFn, beqT, beqF, bneT, bneF, wi64, wu64, wu32, wu16, wu8, tmodP, tdivP, hgetL, hgetNe, hgetEq, setL, nums_def, nums_len, Nat.succ_le_of_lt, List.getElem?_cons_zero, List.getElem?_cons_succ, Option.getD_some, -getElem?_pos, -getElem?_neg, Int.toNat_add, Int.toNat_mul, agM, okM, agB, agI, agS, agP, agL, agA, okB, okI, okS, okP, okSl, okA]; refine hK _ _ ?_; clear hK K)
    refine aw_cut (fun α' H1 => ∃ vl : Value, α' 0 = v ∧ α' 3 = vl ∧ α' 4 = .slice none 0 0 ∧ OwnC G.length H1 vl 32 1 (iv .u64 (loL A)) ∧ Low G.length G H1) ?_ ?_
    · refine aw_block ?_
      refine aw_loop (fun q2 α H1 => ∃ (i : Nat) (vl : Value), i + q2 = 32 ∧ α 5 = .int .i64 (i : Nat) ∧ α 0 = v ∧ α 3 = vl ∧ α 4 = .slice none 0 0 ∧ OwnC G.length H1 vl 32 1 (iv .u64 ((loL A).take i)) ∧ Low G.length G H1) 32 ?_ ?_
      · exact ⟨0, _, by omega, by (first | (simp [put_at, put_none, fr0_at]; done) | rfl), by (first | (simp [put_at, put_none, fr0_at, h0]; done) | rfl), by (first | (simp [put_at, put_none, fr0_at]; done) | rfl), by (first | (simp [put_at, put_none, fr0_at]; done) | rfl), .inl ⟨rfl, rfl⟩, Low.refl (Nat.le_refl _)⟩
      clear h0
      rintro q2 α H1 ⟨i, vl, hiq, h5, h0, h3, h4, ho, hlow1⟩
      refine aw_seq ?_
      refine aw_seq ?_
      by_cases hi : i < 32
      · have hd := hA.get i
        (refine aw_ops (by kernel_rfl) (fun K hK => ?_); simp (disch := first | omega | (simp only [lnS]; done) | (simp only [lnS]; omega)) [wb_bool, wb_undef, with_lit, XL_nil, XL_cons, XLc_val, XLc_call, step1_eq, stepW_t, stepW_f, stepC_n, stepC_s, stepX_s, stepX_n, stepN_s, calleeX, xrecv, oneV, xop_eq, xopR_s, xopR_n, wantedA_eq, wantedG_n, wantedG_s, plain1_int, plain1_bool, plain1_string, bits_i64, bits_u64, bits_u32, bits_u16, bits_u8, xeqA, xagg, xcmp, xarr, allK_iv, num_iv, calleeOf, xread, xeff, xbin, xint, xnil, xun, xstr, xload, xconv, xpart, xfield, xfieldAddr, xindexAddr, xindex, bnd, asInt?, xslice, xlen, xmin, xmax, xbuild, xfill, xappend, xapp2, xappstr, xappmk, xcap, xcopy, xcells, eval_tmp, eval_const, put_at, put_none, fr0_at, cells_agg, cells_int, cells_bool, cells_string, cells_ptr, cells_slice, notTuple, tab, iv_all, hget_app, hget_app0, hget_cons0, hget_cons, set_app, set_app0, setR, setR_one, QL_nil, QL_cons, QLc_val, stepQ_t, stepQ_f, stepQC_n, stepQC_s, stepQX_s, SL_nil, SL_cons, SLc_val, stepS_t, stepS_f, h5, ltT, ltF, leT, leF, eqT, eqF, ltTn, ltFn, leTn, leFn, eqTn, eqFn, beqT, beqF, bneT, bneF, wi64, wu64, wu32, wu16, wu8, tmodP, tdivP, hgetL, hgetNe, hgetEq, setL, nums_def, nums_len, Nat.succ_le_of_lt, List.getElem?_cons_zero, List.getElem?_cons_succ, Option.getD_some, -getElem?_pos, -getElem?_neg, Int.toNat_add, Int.toNat_mul, agM, okM, agB, agI, agS, agP, agL, agA, okB, okI, okS, okP, okSl, okA]; refine hK _ _ ?_; clear hK K)
        refine aw_t (by (first | (simp [eval_tmp, put_at, hi]; done) | (simp [eval_tmp, put_at, hi]; omega))) (by kernel_rfl) ?_
        refine aw_skip ?_
        refine aw_seq ?_
        refine aw_block ?_
        refine aw_seq ?_
        (refine aw_ops (by kernel_rfl) (fun K hK => ?_); simp (disch := first | omega | (simp only [lnS]; done) | (simp only [lnS]; omega)) [wb_bool, wb_undef, with_lit, XL_nil, XL_cons, XLc_val, XLc_call, step1_eq, stepW_t, stepW_f, stepC_n, stepC_s, stepX_s, stepX_n, stepN_s, calleeX, xrecv, oneV, xop_eq, xopR_s, xopR_n, wantedA_eq, wantedG_n, wantedG_s, plain1_int, plain1_bool, plain1_string, bits_i64, bits_u64, bits_u32, bits_u16, bits_u8, xeqA, xagg, xcmp, xarr, allK_iv, num_iv, calleeOf, xread, xeff, xbin, xint, xnil, xun, xstr, xload, xconv, xpart, xfield, xfieldAddr, xindexAddr, xindex, bnd, asInt?, xslice, xlen, xmin, xmax, xbuild, xfill, xappend, xapp2, xappstr, xappmk, xcap, xcopy, xcells, eval_tmp, eval_const, put_at, put_none, fr0_at, cells_agg, cells_int, cells_bool, cells_string, cells_ptr, cells_slice, notTuple, tab, iv_all, hget_app, hget_app0, hget_cons0, hget_cons, set_app, set_app0, setR, setR_one, QL_nil, QL_cons, QLc_val, stepQ_t, stepQ_f, stepQC_n, stepQC_s, stepQX_s, SL_nil, SL_cons, SLc_val, stepS_t, stepS_f, ltT, ltF, leT, leF, eqT, eqF, ltTn, ltFn, leTn, leFn, eqTn, eqFn, beqT, beqF, bneT, bneF, wi64, wu64, wu32, wu16, wu8, tmodP, tdivP, hgetL, hgetNe, hgetEq, setL, nums_def, nums_len, Nat.succ_le_of_lt, List.getElem?_cons_zero, List.getElem?_cons_succ, Option.getD_some, -getElem?_pos, -getElem?_neg, Int.toNat_add, Int.toNat_mul, agM, okM, agB, agI, agS, agP, agL, agA, okB, okI, okS, okP, okSl, okA]; refine hK _ _ ?_; clear hK K)
        refine aw_seq ?_
        refine aw_seq ?_
        (refine aw_ops (by kernel_rfl) (fun K hK => ?_); simp (disch := first | omega | (simp only [lnS]; done) | (simp only [lnS]; omega)) [wb_bool, wb_undef, with_lit, XL_nil, XL_cons, XLc_val, XLc_call, step1_eq, stepW_t, stepW_f, stepC_n, stepC_s, stepX_s, stepX_n, stepN_s, calleeX, xrecv, oneV, xop_eq, xopR_s, xopR_n, wantedA_eq, wantedG_n, wantedG_s, plain1_int, plain1_bool, plain1_string, bits_i64, bits_u64, bits_u32, bits_u16, bits_u8, xeqA, xagg, xcmp, xarr, allK_iv, num_iv, calleeOf, xread, xeff, xbin, xint, xnil, xun, xstr, xload, xconv, xpart, xfield, xfieldAddr, xindexAddr, xindex, bnd, asInt?, xslice, xmin, xmax, xbuild, xfill, xappend, xapp2, xappstr, xappmk, xcap, xcopy, xcells, eval_tmp, eval_const, put_at, put_none, fr0_at, cells_agg, cells_int, cells_bool, cells_string, cells_ptr, cells_slice, notTuple, tab, iv_all, hget_app, hget_app0, hget_cons0, hget_cons, set_app, set_app0, setR, setR_one, QL_nil, QL_cons, QLc_val, stepQ_t, stepQ_f, stepQC_n, stepQC_s, stepQX_s, SL_nil, SL_cons, SLc_val, stepS_t, stepS_f, h5, h0, hxA, ltT, ltF, leT, leF, eqT, eqF, ltTn, ltFn, leTn, leFn, eqTn, eqFn, beqT, beqF, bneT, bneF, wi64, wu64, wu32, wu16, wu8, tmodP, tdivP, hgetL, hgetNe, hgetEq, setL, nums_def, nums_len, Nat.succ_le_of_lt, List.getElem?_cons_zero, List.getElem?_cons_succ, Option.getD_some, -getElem?_pos, -getElem?_neg, Int.toNat_add, Int.toNat_mul, agM, okM, agB, agI, agS, agP, agL, agA, okB, okI, okS, okP, okSl, okA]; refine hK _ _ ?_; clear hK K)
        refine aw_cut (fun α' H2 => α' 6 = .int .u64 (A.getD i 0) ∧ α' 5 = .int .i64 (i : Nat) ∧ α' 0 = v ∧ α' 3 = vl ∧ α' 4 = .slice none 0 0 ∧ H1 = H2) ?_ ?_
        · by_cases c1 : i < A.length
          · obtain ⟨p, e1, e2⟩ := hvA.at (P := Tryd.prog) (t := 53) (e := 32) rfl rfl rfl rfl c1
            have e2 := e2 H1 hlow1.1
            generalize A.getD i 0 = d at *
            refine aw_t (by (first | (simp [eval_tmp, put_at, c1]; done) | (simp [eval_tmp, put_at, c1]; omega))) (by kernel_rfl) ?_
            (refine aw_ops (by kernel_rfl) (fun K hK => ?_); simp (disch := first | omega | (simp only [lnS]; done) | (simp only [lnS]; omega)) [wb_bool, wb_undef, with_lit, XL_nil, XL_cons, XLc_val, XLc_call, step1_eq, stepW_t, stepW_f, stepC_n, stepC_s, stepX_s, stepX_n, stepN_s, calleeX, xrecv, oneV, xop_eq, xopR_s, xopR_n, wantedA_eq, wantedG_n, wantedG_s, plain1_int, plain1_bool, plain1_string, bits_i64, bits_u64, bits_u32, bits_u16, bits_u8, xeqA, xagg, xcmp, xarr, allK_iv, num_iv, calleeOf, xread, xeff, xbin, xint, xnil, xun, xstr, xconv, xpart, xfield, xfieldAddr, xindex, bnd, asInt?, xslice, xlen, xmin, xmax, xbuild, xfill, xappend, xapp2, xappstr, xappmk, xcap, xcopy, xcells, eval_tmp, eval_const, put_at, put_none, fr0_at, cells_agg, cells_int, cells_bool, cells_string, cells_ptr, cells_slice, notTuple, tab, iv_all, hget_app, hget_app0, hget_cons0, hget_cons, set_app, set_app0, setR, setR_one, QL_nil, QL_cons, QLc_val, stepQ_t, stepQ_f, stepQC_n, stepQC_s, stepQX_s, SL_nil, SL_cons, SLc_val, stepS_t, stepS_f, h5, h0, e1, e2, ltT, ltF, leT, leF, eqT, eqF, ltTn, ltFn, leTn, leFn, eqTn, eqFn, beqT, beqF, bneT, bneF, wi64, wu64, wu32, wu16, wu8, tmodP, tdivP, hgetL, hgetNe, hgetEq, setL, nums_def, nums_len, Nat.succ_le_of_lt, List.getElem?_cons_zero, List.getElem?_cons_succ, Option.getD_some, -getElem?_pos, -getElem?_neg, Int.toNat_add, Int.toNat_mul, agM, okM, agB, agI, agS, agP, agL, agA, okB, okI, okS, okP, okSl, okA]; refine hK _ _ ?_; clear hK K)
            exact ⟨by (first | (simp [put_at, put_none, fr0_at]; done) | rfl), by (first | (simp [put_at, put_none, fr0_at, h5]; done) | rfl), by (first | (simp [put_at, put_none, fr0_at, h0]; done) | rfl), by (first | (simp [put_at, put_none, fr0_at, h3]; done) | rfl), by (first | (simp [put_at, put_none, fr0_at, h4]; done) | rfl), rfl⟩
          · have : A.getD i 0 = 0 := by rw [List.getD_eq_getElem?_getD, List.getElem?_eq_none (by omega)]; rfl
            rw [this]
            refine aw_f (by (first | (simp [eval_tmp, put_at, c1]; done) | (simp [eval_tmp, put_at, c1]; omega))) (by kernel_rfl) ?_
            refine aw_skip ?_
            exact ⟨by (first | (simp [put_at, put_none, fr0_at]; done) | rfl), by (first | (simp [put_at, put_none, fr0_at, h5]; done) | rfl), by (first | (simp [put_at, put_none, fr0_at, h0]; done) | rfl), by (first | (simp [put_at, put_none, fr0_at, h3]; done) | rfl), by (first | (simp [put_at, put_none, fr0_at, h4]; done) | rfl), rfl⟩
        clear h5 h0 h3 h4
        rintro α H2 ⟨h6, h5, h0, h3, h4, rfl⟩
        have hgi := hlg i hi
        have hts : (loL A).take (i + 1) = (loL A).take i ++ [(loL A).getD i 0] := by rw [List.take_add_one, List.getElem?_eq_getElem (by omega), List.getD_eq_getElem?_getD, List.getElem?_eq_getElem (by omega)]; rfl
        generalize A.getD i 0 = d at *
        refine aw_seq ?_
        refine aw_seq ?_
        (refine aw_ops (by kernel_rfl) (fun K hK => ?_); simp (disch := first | omega | (simp only [lnS]; done) | (simp only [lnS]; omega)) [wb_bool, wb_undef, with_lit, XL_nil, XL_cons, XLc_val, XLc_call, step1_eq, stepW_t, stepW_f, stepC_n, stepC_s, stepX_s, stepX_n, stepN_s, calleeX, xrecv, oneV, xop_eq, xopR_s, xopR_n, wantedA_eq, wantedG_n, wantedG_s, plain1_int, plain1_bool, plain1_string, bits_i64, bits_u64, bits_u32, bits_u16, bits_u8, xeqA, xagg, xcmp, xarr, allK_iv, num_iv, calleeOf, xread, xeff, xbin, xint, xnil, xun, xstr, xload, xconv, xpart, xfield, xfieldAddr, xindexAddr, xindex, bnd, asInt?, xslice, xlen, xmin, xmax, xbuild, xfill, xappend, xapp2, xappstr, xappmk, xcap, xcopy, xcells, eval_tmp, eval_const, put_at, put_none, fr0_at, cells_agg, cells_int, cells_bool, cells_string, cells_ptr, cells_slice, notTuple, tab, iv_all, hget_app, hget_app0, hget_cons0, hget_cons, set_app, set_app0, setR, setR_one, QL_nil, QL_cons, QLc_val, stepQ_t, stepQ_f, stepQC_n, stepQC_s, stepQX_s, SL_nil, SL_cons, SLc_val, stepS_t, stepS_f, h5, ltT, ltF, leT, leF, eqT, eqF, ltTn, ltFn, leTn, leFn, eqTn, eqFn, beqT, beqF, bneT, bneF, wi64, wu64, wu32, wu16, wu8, tmodP, tdivP, hgetL, hgetNe, hgetEq, setL, nums_def, nums_len, Nat.succ_le_of_lt, List.getElem?_cons_zero, List.getElem?_cons_succ, Option.getD_some, -getElem?_pos, -getElem?_neg, Int.toNat_add, Int.toNat_mul, agM, okM, agB, agI, agS, agP, agL, agA, okB, okI, okS, okP, okSl, okA]; refine hK _ _ ?_; clear hK K)
        refine aw_cut (fun α' H2 => α' 6 = .int .u64 ((loL A).getD i 0) ∧ α' 5 = .int .i64 (i : Nat) ∧ α' 0 = v ∧ α' 3 = vl ∧ α' 4 = .slice none 0 0 ∧ H1 = H2) ?_ ?_
        · rw [hgi]
          by_cases c1 : i = 31
          · rw [if_pos c1]
            refine aw_t (by (first | (simp [eval_tmp, put_at, c1]; done) | (simp [eval_tmp, put_at, c1]; omega))) (by kernel_rfl) ?_
            (refine aw_ops (by kernel_rfl) (fun K hK => ?_); simp (disch := first | omega | (simp only [lnS]; done) | (simp only [lnS]; omega)) [wb_bool, wb_undef, with_lit, XL_nil, XL_cons, XLc_val, XLc_call, step1_eq, stepW_t, stepW_f, stepC_n, stepC_s, stepX_s, stepX_n, stepN_s, calleeX, xrecv, oneV, xop_eq, xopR_s, xopR_n, wantedA_eq, wantedG_n, wantedG_s, plain1_int, plain1_bool, plain1_string, bits_i64, bits_u64, bits_u32, bits_u16, bits_u8, xeqA, xagg, xcmp, xarr, allK_iv, num_iv, calleeOf, xread, xeff, xbin, xint, xnil, xun, xstr, xload, xconv, xpart, xfield, xfieldAddr, xindexAddr, xindex, bnd, asInt?, xslice, xlen, xmin, xmax, xbuild, xfill, xappend, xapp2, xappstr, xappmk, xcap, xcopy, xcells, eval_tmp, eval_const, put_at, put_none, fr0_at, cells_agg, cells_int, cells_bool, cells_string, cells_ptr, cells_slice, notTuple, tab, iv_all, hget_app, hget_app0, hget_cons0, hget_cons, set_app, set_app0, setR, setR_one, QL_nil, QL_cons, QLc_val, stepQ_t, stepQ_f, stepQC_n, stepQC_s, stepQX_s, SL_nil, SL_cons, SLc_val, stepS_t, stepS_f, h6, ltT, ltF, leT, leF, eqT, eqF, ltTn, ltFn, leTn, leFn, eqTn, eqFn, beqT, beqF, bneT, bneF, wi64, wu64, wu32, wu16, wu8, tmodP, tdivP, hgetL, hgetNe, hgetEq, setL, nums_def, nums_len, Nat.succ_le_of_lt, List.getElem?_cons_zero, List.getElem?_cons_succ, Option.getD_some, -getElem?_pos, -getElem?_neg, Int.toNat_add, Int.toNat_mul, agM, okM, agB, agI, agS, agP, agL, agA, okB, okI, okS, okP, okSl, okA]; refine hK _ _ ?_; clear hK K)
            exact ⟨by (first | (simp [put_at, put_none, fr0_at]; done) | rfl), by (first | (simp [put_at, put_none, fr0_at, h5]; done) | rfl), by (first | (simp [put_at, put_none, fr0_at, h0]; done) | rfl), by (first | (simp [put_at, put_none, fr0_at, h3]; done) | rfl), by (first | (simp [put_at, put_none, fr0_at, h4]; done) | rfl), rfl⟩
          · rw [if_neg c1]
            refine aw_f (by (first | (simp [eval_tmp, put_at, c1]; done) | (simp [eval_tmp, put_at, c1]; omega))) (by kernel_rfl) ?_
            refine aw_skip ?_
            exact ⟨by (first | (simp [put_at, put_none, fr0_at, h6]; done) | rfl), by (first | (simp [put_at, put_none, fr0_at, h5]; done) | rfl), by (first | (simp [put_at, put_none, fr0_at, h0]; done) | rfl), by (first | (simp [put_at, put_none, fr0_at, h3]; done) | rfl), by (first | (simp [put_at, put_none, fr0_at, h4]; done) | rfl), rfl⟩
        clear h6 h5 h0 h3 h4
        rintro α H2 ⟨h6, h5, h0, h3, h4, rfl⟩
        clear hgi hlg
        obtain ⟨v', H2, hap, ho', hlow'⟩ := own_app1 (nro := H.length) ((loL A).getD i 0) ho hlow1.2 hGl (by rw [List.length_take]; omega)
        rw [← hts] at ho'
        generalize (loL A).getD i 0 = x at *
        (refine aw_ops (by kernel_rfl) (fun K hK => ?_); simp (disch := first | omega | (simp only [lnS]; done) | (simp only [lnS]; omega)) [wb_bool, wb_undef, with_lit, XL_nil, XL_cons, XLc_val, XLc_call, step1_eq, stepW_t, stepW_f, stepC_n, stepC_s, stepX_s, stepX_n, stepN_s, calleeX, xrecv, oneV, xop_eq, xopR_s, xopR_n, wantedA_eq, wantedG_n, wantedG_s, plain1_int, plain1_bool, plain1_string, bits_i64, bits_u64, bits_u32, bits_u16, bits_u8, xeqA, xagg, xcmp, xarr, allK_iv, num_iv, calleeOf, xread, xeff, xbin, xint, xnil, xun, xstr, xload, xconv, xpart, xfield, xfieldAddr, xindexAddr, xindex, bnd, asInt?, xslice, xlen, xmin, xmax, xbuild, xfill, xapp2, xappstr, xappmk, xcap, xcopy, xcells, eval_tmp, eval_const, put_at, put_none, fr0_at, cells_agg, cells_int, cells_bool, cells_string, cells_ptr, cells_slice, notTuple, tab, iv_all, hget_app, hget_app0, hget_cons0, hget_cons, set_app, set_app0, setR, setR_one, QL_nil, QL_cons, QLc_val, stepQ_t, stepQ_f, stepQC_n, stepQC_s, stepQX_s, SL_nil, SL_cons, SLc_val, stepS_t, stepS_f, h3, h6, hap, ltT, ltF, leT, leF, eqT, eqF, ltTn, ltFn, leTn, leFn, eqTn, eqFn, beqT, beqF, bneT, bneF, wi64, wu64, wu32, wu16, wu8, tmodP, tdivP, hgetL, hgetNe, hgetEq, setL, nums_def, nums_len, Nat.succ_le_of_lt, List.getElem?_cons_zero, List.getElem?_cons_succ, Option.getD_some, -getElem?_pos, -getElem?_neg, Int.toNat_add, Int.toNat_mul, agM, okM, agB, agI, agS, agP, agL, agA, okB, okI, okS, okP, okSl, okA]; refine hK _ _ ?_; clear hK K)
        (refine aw_ops (by kernel_rfl) (fun K hK => ?_); simp (disch := first | omega | (simp only [lnS]; done) | (simp only [lnS]; omega)) [wb_bool, wb_undef, with_lit, XL_nil, XL_cons, XLc_val, XLc_call, step1_eq, stepW_t, stepW_f, stepC_n, stepC_s, stepX_s, stepX_n, stepN_s, calleeX, xrecv, oneV, xop_eq, xopR_s, xopR_n, wantedA_eq, wantedG_n, wantedG_s, plain1_int, plain1_bool, plain1_string, bits_i64, bits_u64, bits_u32, bits_u16, bits_u8, xeqA, xagg, xcmp, xarr, allK_iv, num_iv, calleeOf, xread, xeff, xbin, xint, xnil, xun, xstr, xload, xconv, xpart, xfield, xfieldAddr, xindexAddr, xindex, bnd, asInt?, xslice, xlen, xmin, xmax, xbuild, xfill, xappend, xapp2, xappstr, xappmk, xcap, xcopy, xcells, eval_tmp, eval_const, put_at, put_none, fr0_at, cells_agg, cells_int, cells_bool, cells_string, cells_ptr, cells_slice, notTuple, tab, iv_all, hget_app, hget_app0, hget_cons0, hget_cons, set_app, set_app0, setR, setR_one, QL_nil, QL_cons, QLc_val, stepQ_t, stepQ_f, stepQC_n, stepQC_s, stepQX_s, SL_nil, SL_cons, SLc_val, stepS_t, stepS_f, h5, ltT, ltF, leT, leF, eqT, eqF, ltTn, ltFn, leTn, leFn, eqTn, eqFn, beqT, beqF, bneT, bneF, wi64, wu64, wu32, wu16, wu8, tmodP, tdivP, hgetL, hgetNe, hgetEq, setL, nums_def, nums_len, Nat.succ_le_of_lt, List.getElem?_cons_zero, List.getElem?_cons_succ, Option.getD_some, -getElem?_pos, -getElem?_neg, Int.toNat_add, Int.toNat_mul, agM, okM, agB, agI, agS, agP, agL, agA, okB, okI, okS, okP, okSl, okA]; refine hK _ _ ?_; clear hK K)
        exact ⟨q2 - 1, by omega, i + 1, v', by omega, by (first | (simp [put_at, put_none, fr0_at]; done) | rfl), by (first | (simp [put_at, put_none, fr0_at, h0]; done) | rfl), by (first | (simp [put_at, put_none, fr0_at]; done) | rfl), by (first | (simp [put_at, put_none, fr0_at, h4]; done) | rfl), ho', hlow1.trans hlow'⟩
      · (refine aw_ops (by kernel_rfl) (fun K hK => ?_); simp (disch := first | omega | (simp only [lnS]; done) | (simp only [lnS]; omega)) [wb_bool, wb_undef, with_lit, XL_nil, XL_cons, XLc_val, XLc_call, step1_eq, stepW_t, stepW_f, stepC_n, stepC_s, stepX_s, stepX_n, stepN_s, calleeX, xrecv, oneV, xop_eq, xopR_s, xopR_n, wantedA_eq, wantedG_n, wantedG_s, plain1_int, plain1_bool, plain1_string, bits_i64, bits_u64, bits_u32, bits_u16, bits_u8, xeqA, xagg, xcmp, xarr, allK_iv, num_iv, calleeOf, xread, xeff, xbin, xint, xnil, xun, xstr, xload, xconv, xpart, xfield, xfieldAddr, xindexAddr, xindex, bnd, asInt?, xslice, xlen, xmin, xmax, xbuild, xfill, xappend, xapp2, xappstr, xappmk, xcap, xcopy, xcells, eval_tmp, eval_const, put_at, put_none, fr0_at, cells_agg, cells_int, cells_bool, cells_string, cells_ptr, cells_slice, notTuple, tab, iv_all, hget_app, hget_app0, hget_cons0, hget_cons, set_app, set_app0, setR, setR_one, QL_nil, QL_cons, QLc_val, stepQ_t, stepQ_f, stepQC_n, stepQC_s, stepQX_s, SL_nil, SL_cons, SLc_val, stepS_t, stepS_f, h5, ltT, ltF, leT, leF, eqT, eqF, ltTn, ltFn, leTn, leFn, eqTn, eqFn, beqT, beqF, bneT, bneF, wi64, wu64, wu32, wu16, wu8, tmodP, tdivP, hgetL, hgetNe, hgetEq, setL, nums_def, nums_len, Nat.succ_le_of_lt, List.getElem?_cons_zero, List.getElem?_cons_succ, Option.getD_some, -getElem?_pos, -getElem?_neg, Int.toNat_add, Int.toNat_mul, agM, okM, agB, agI, agS, agP, agL, agA, okB, okI, okS, okP, okSl, okA]; refine hK _ _ ?_; clear hK K)
        refine aw_f (by (first | (simp [eval_tmp, put_at, hi]; done) | (simp [eval_tmp, put_at, hi]; omega))) (by kernel_rfl) ?_
        obtain rfl : i = 32 := by omega
        refine aw_exit ?_
        rw [List.take_of_length_le (by omega)] at ho
        exact ⟨vl, h0, h3, h4, ho, hlow1⟩
    clear h0
    rintro α G2 ⟨vl, h0, h3, h4, hol, hlow1⟩
    have hG2 := hlow1.2
    refine aw_seq ?_
    refine aw_seq ?_
    (refine aw_ops (by kernel_rfl) (fun K hK => ?_); simp (disch := first | omega | (simp only [lnS]; done) | (simp only [lnS]; omega)) [wb_bool, wb_undef, with_lit, XL_nil, XL_cons, XLc_val, XLc_call, step1_eq, stepW_t, stepW_f, stepC_n, stepC_s, stepX_s, stepX_n, stepN_s, calleeX, xrecv, oneV, xop_eq, xopR_s, xopR_n, wantedA_eq, wantedG_n, wantedG_s, plain1_int, plain1_bool, plain1_string, bits_i64, bits_u64, bits_u32, bits_u16, bits_u8, xeqA, xagg, xcmp, xarr, allK_iv, num_iv, calleeOf, xread, xeff, xbin, xint, xnil, xun, xstr, xload, xconv, xpart, xfield, xfieldAddr, xindexAddr, xindex, bnd, asInt?, xslice, xlen, xmin, xmax, xbuild, xfill, xappend, xapp2, xappstr, xappmk, xcap, xcopy, xcells, eval_tmp, eval_const, put_at, put_none, fr0_at, cells_agg, cells_int, cells_bool, cells_string, cells_ptr, cells_slice, notTuple, tab, iv_all, hget_app, hget_app0, hget_cons0, hget_cons, set_app, set_app0, setR, setR_one, QL_nil, QL_cons, QLc_val, stepQ_t, stepQ_f, stepQC_n, stepQC_s, stepQX_s, SL_nil, SL_cons, SLc_val, stepS_t, stepS_f, ltT, ltF, leT, leF, eqT, eqF, ltTn, ltFn, leTn, leFn, eqTn, eqFn, beqT, beqF, bneT, bneF, wi64, wu64, wu32, wu16, wu8, tmodP, tdivP, hgetL, hgetNe, hgetEq, setL, nums_def, nums_len, Nat.succ_le_of_lt, List.getElem?_cons_zero, List.getElem?_cons_succ, Option.getD_some, -getElem?_pos, -getElem?_neg, Int.toNat_add, Int.toNat_mul, agM, okM, agB, agI, agS, agP, agL, agA, okB, okI, okS, okP, okSl, okA]; refine hK _ _ ?_; clear hK K)
    refine aw_cut (fun α' H3 => ∃ vh : Value, α' 3 = vl ∧ α' 4 = vh ∧ OwnC G2.length H3 vh 32 1 (iv .u64 (hiL A)) ∧ Low G2.length G2 H3) ?_ ?_
    · refine aw_block ?_
      refine aw_loop (fun q2 α H3 => ∃ (j : Nat) (vh : Value), j + q2 = A.length - 31 ∧ α 7 = .int .i64 ((31 + j : Nat) : Int) ∧ α 0 = v ∧ α 3 = vl ∧ α 4 = vh ∧ OwnC G2.length H3 vh 32 1 (iv .u64 ((hiL A).take j)) ∧ Low G2.length G2 H3) (A.length - 31) ?_ ?_
      · exact ⟨0, _, by omega, by (first | (simp [put_at, put_none, fr0_at]; done) | rfl), by (first | (simp [put_at, put_none, fr0_at, h0]; done) | rfl), by (first | (simp [put_at, put_none, fr0_at, h3]; done) | rfl), by (first | (simp [put_at, put_none, fr0_at, h4]; done) | rfl), .inl ⟨rfl, rfl⟩, Low.refl (Nat.le_refl _)⟩
      clear h0 h3 h4
      rintro q2 α H3 ⟨j, vh, hjq, h7, h0, h3, h4, ho, hlow2⟩
      obtain ⟨i, hi⟩ : ∃ i, i = 31 + j := ⟨_, rfl⟩
      rw [← hi] at h7
      refine aw_seq ?_
      refine aw_seq ?_
      by_cases hil : i < A.length
      · have hd := hA.get i
        have hd1 := hA.get (i + 1)
        have hgi := hhg j (by omega)
        rw [← hi] at hgi
        have hts : (hiL A).take (j + 1) = (hiL A).take j ++ [(hiL A).getD j 0] := by rw [List.take_add_one, List.getElem?_eq_getElem (by omega), List.getD_eq_getElem?_getD, List.getElem?_eq_getElem (by omega)]; rfl
        obtain ⟨p, e1, e2⟩ := hvA.at (P := Tryd.prog) (t := 53) (e := 32) rfl rfl rfl rfl hil
        have hlow3 : ∀ k, k < G.length → hget H3 k = hget G k := fun k hk => by rw [hlow2.1 k (by omega), hlow1.1 k hk]
        have e2 := e2 H3 hlow3
        generalize A.getD i 0 = d at *
        (refine aw_ops (by kernel_rfl) (fun K hK => ?_); simp (disch := first | omega | (simp only [lnS]; done) | (simp only [lnS]; omega)) [wb_bool, wb_undef, with_lit, XL_nil, XL_cons, XLc_val, XLc_call, step1_eq, stepW_t, stepW_f, stepC_n, stepC_s, stepX_s, stepX_n, stepN_s, calleeX, xrecv, oneV, xop_eq, xopR_s, xopR_n, wantedA_eq, wantedG_n, wantedG_s, plain1_int, plain1_bool, plain1_string, bits_i64, bits_u64, bits_u32, bits_u16, bits_u8, xeqA, xagg, xcmp, xarr, allK_iv, num_iv, calleeOf, xread, xeff, xbin, xint, xnil, xun, xstr, xload, xconv, xpart, xfield, xfieldAddr, xindexAddr, xindex, bnd, asInt?, xslice, xmin, xmax, xbuild, xfill, xappend, xapp2, xappstr, xappmk, xcap, xcopy, xcells, eval_tmp, eval_const, put_at, put_none, fr0_at, cells_agg, cells_int, cells_bool, cells_string, cells_ptr, cells_slice, notTuple, tab, iv_all, hget_app, hget_app0, hget_cons0, hget_cons, set_app, set_app0, setR, setR_one, QL_nil, QL_cons, QLc_val, stepQ_t, stepQ_f, stepQC_n, stepQC_s, stepQX_s, SL_nil, SL_cons, SLc_val, stepS_t, stepS_f, h7, h0, hxA, ltT, ltF, leT, leF, eqT, eqF, ltTn, ltFn, leTn, leFn, eqTn, eqFn, beqT, beqF, bneT, bneF, wi64, wu64, wu32, wu16, wu8, tmodP, tdivP, hgetL, hgetNe, hgetEq, setL, nums_def, nums_len, Nat.succ_le_of_lt, List.getElem?_cons_zero, List.getElem?_cons_succ, Option.getD_some, -getElem?_pos, -getElem?_neg, Int.toNat_add, Int.toNat_mul, agM, okM, agB, agI, agS, agP, agL, agA, okB, okI, okS, okP, okSl, okA]; refine hK _ _ ?_; clear hK K)
        refine aw_t (by (first | (simp [eval_tmp, put_at, hil]; done) | (simp [eval_tmp, put_at, hil]; omega))) (by kernel_rfl) ?_
        refine aw_skip ?_
        refine aw_seq ?_
        refine aw_block ?_
        refine aw_seq ?_
        (refine aw_ops (by kernel_rfl) (fun K hK => ?_); simp (disch := first | omega | (simp only [lnS]; done) | (simp only [lnS]; omega)) [wb_bool, wb_undef, with_lit, XL_nil, XL_cons, XLc_val, XLc_call, step1_eq, stepW_t, stepW_f, stepC_n, stepC_s, stepX_s, stepX_n, stepN_s, calleeX, xrecv, oneV, xop_eq, xopR_s, xopR_n, wantedA_eq, wantedG_n, wantedG_s, plain1_int, plain1_bool, plain1_string, bits_i64, bits_u64, bits_u32, bits_u16, bits_u8, xeqA, xagg, xcmp, xarr, allK_iv, num_iv, calleeOf, xread, xeff, xbin, xint, xnil, xun, xstr, xconv, xpart, xfield, xfieldAddr, xindex, bnd, asInt?, xslice, xlen, xmin, xmax, xbuild, xfill, xappend, xapp2, xappstr, xappmk, xcap, xcopy, xcells, eval_tmp, eval_const, put_at, put_none, fr0_at, cells_agg, cells_int, cells_bool, cells_string, cells_ptr, cells_slice, notTuple, tab, iv_all, hget_app, hget_app0, hget_cons0, hget_cons, set_app, set_app0, setR, setR_one, QL_nil, QL_cons, QLc_val, stepQ_t, stepQ_f, stepQC_n, stepQC_s, stepQX_s, SL_nil, SL_cons, SLc_val, stepS_t, stepS_f, h7, h0, e1, e2, ltT, ltF, leT, leF, eqT, eqF, ltTn, ltFn, leTn, leFn, eqTn, eqFn, beqT, beqF, bneT, bneF, wi64, wu64, wu32, wu16, wu8, tmodP, tdivP, hgetL, hgetNe, hgetEq, setL, nums_def, nums_len, Nat.succ_le_of_lt, List.getElem?_cons_zero, List.getElem?_cons_succ, Option.getD_some, -getElem?_pos, -getElem?_neg, Int.toNat_add, Int.toNat_mul, agM, okM, agB, agI, agS, agP, agL, agA, okB, okI, okS, okP, okSl, okA]; refine hK _ _ ?_; clear hK K)
        refine aw_seq ?_
        refine aw_seq ?_
        (refine aw_ops (by kernel_rfl) (fun K hK => ?_); simp (disch := first | omega | (simp only [lnS]; done) | (simp only [lnS]; omega)) [wb_bool, wb_undef, with_lit, XL_nil, XL_cons, XLc_val, XLc_call, step1_eq, stepW_t, stepW_f, stepC_n, stepC_s, stepX_s, stepX_n, stepN_s, calleeX, xrecv, oneV, xop_eq, xopR_s, xopR_n, wantedA_eq, wantedG_n, wantedG_s, plain1_int, plain1_bool, plain1_string, bits_i64, bits_u64, bits_u32, bits_u16, bits_u8, xeqA, xagg, xcmp, xarr, allK_iv, num_iv, calleeOf, xread, xeff, xbin, xint, xnil, xun, xstr, xload, xconv, xpart, xfield, xfieldAddr, xindexAddr, xindex, bnd, asInt?, xslice, xmin, xmax, xbuild, xfill, xappend, xapp2, xappstr, xappmk, xcap, xcopy, xcells, eval_tmp, eval_const, put_at, put_none, fr0_at, cells_agg, cells_int, cells_bool, cells_string, cells_ptr, cells_slice, notTuple, tab, iv_all, hget_app, hget_app0, hget_cons0, hget_cons, set_app, set_app0, setR, setR_one, QL_nil, QL_cons, QLc_val, stepQ_t, stepQ_f, stepQC_n, stepQC_s, stepQX_s, SL_nil, SL_cons, SLc_val, stepS_t, stepS_f, h7, h0, hxA, ltT, ltF, leT, leF, eqT, eqF, ltTn, ltFn, leTn, leFn, eqTn, eqFn, beqT, beqF, bneT, bneF, wi64, wu64, wu32, wu16, wu8, tmodP, tdivP, hgetL, hgetNe, hgetEq, setL, nums_def, nums_len, Nat.succ_le_of_lt, List.getElem?_cons_zero, List.getElem?_cons_succ, Option.getD_some, -getElem?_pos, -getElem?_neg, Int.toNat_add, Int.toNat_mul, agM, okM, agB, agI, agS, agP, agL, agA, okB, okI, okS, okP, okSl, okA]; refine hK _ _ ?_; clear hK K)
        refine aw_cut (fun α' H2 => α' 8 = .int .u64 (d / 128 + A.getD (i + 1) 0 % 128 * 2) ∧ α' 7 = .int .i64 (i : Nat) ∧ α' 0 = v ∧ α' 3 = vl ∧ α' 4 = vh ∧ H3 = H2) ?_ ?_
        · by_cases c1 : i + 1 < A.length
          · obtain ⟨p1, e3, e4⟩ := hvA.at (P := Tryd.prog) (t := 53) (e := 32) rfl rfl rfl rfl c1
            have e4 := e4 H3 hlow3
            have ei : ((i + 1 : Nat) : Int) = (i : Int) + 1 := by omega
            rw [ei] at e3
            generalize A.getD (i + 1) 0 = d1 at *
            refine aw_t (by (first | (simp [eval_tmp, put_at, c1]; done) | (simp [eval_tmp, put_at, c1]; omega))) (by kernel_rfl) ?_
            (refine aw_ops (by kernel_rfl) (fun K hK => ?_); simp (disch := first | omega | (simp only [lnS]; done) | (simp only [lnS]; omega)) [wb_bool, wb_undef, with_lit, XL_nil, XL_cons, XLc_val, XLc_call, step1_eq, stepW_t, stepW_f, stepC_n, stepC_s, stepX_s, stepX_n, stepN_s, calleeX, xrecv, oneV, xop_eq, xopR_s, xopR_n, wantedA_eq, wantedG_n, wantedG_s, plain1_int, plain1_bool, plain1_string, bits_i64, bits_u64, bits_u32, bits_u16, bits_u8, xeqA, xagg, xcmp, xarr, allK_iv, num_iv, calleeOf, xread, xeff, xbin, xint, xnil, xun, xstr, xconv, xpart, xfield, xfieldAddr, xindex, bnd, asInt?, xslice, xlen, xmin, xmax, xbuild, xfill, xappend, xapp2, xappstr, xappmk, xcap, xcopy, xcells, eval_tmp, eval_const, put_at, put_none, fr0_at, cells_agg, cells_int, cells_bool, cells_string, cells_ptr, cells_slice, notTuple, tab, iv_all, hget_app, hget_app0, hget_cons0, hget_cons, set_app, set_app0, setR, setR_one, QL_nil, QL_cons, QLc_val, stepQ_t, stepQ_f, stepQC_n, stepQC_s, stepQX_s, SL_nil, SL_cons, SLc_val, stepS_t, stepS_f, h7, h0, e3, e4, ltT, ltF, leT, leF, eqT, eqF, ltTn, ltFn, leTn, leFn, eqTn, eqFn, beqT, beqF, bneT, bneF, wi64, wu64, wu32, wu16, wu8, tmodP, tdivP, hgetL, hgetNe, hgetEq, setL, nums_def, nums_len, Nat.succ_le_of_lt, List.getElem?_cons_zero, List.getElem?_cons_succ, Option.getD_some, -getElem?_pos, -getElem?_neg, Int.toNat_add, Int.toNat_mul, agM, okM, agB, agI, agS, agP, agL, agA, okB, okI, okS, okP, okSl, okA]; refine hK _ _ ?_; clear hK K)
            exact ⟨by (first | (simp [put_at, put_none, fr0_at]; done) | rfl), by (first | (simp [put_at, put_none, fr0_at, h7]; done) | rfl), by (first | (simp [put_at, put_none, fr0_at, h0]; done) | rfl), by (first | (simp [put_at, put_none, fr0_at, h3]; done) | rfl), by (first | (simp [put_at, put_none, fr0_at, h4]; done) | rfl), rfl⟩
          · have : A.getD (i + 1) 0 = 0 := by rw [List.getD_eq_getElem?_getD, List.getElem?_eq_none (by omega)]; rfl
            rw [this]
            refine aw_f (by (first | (simp [eval_tmp, put_at, c1]; done) | (simp [eval_tmp, put_at, c1]; omega))) (by kernel_rfl) ?_
            refine aw_skip ?_
            exact ⟨by (first | (simp [put_at, put_none, fr0_at]; done) | rfl), by (first | (simp [put_at, put_none, fr0_at, h7]; done) | rfl), by (first | (simp [put_at, put_none, fr0_at, h0]; done) | rfl), by (first | (simp [put_at, put_none, fr0_at, h3]; done) | rfl), by (first | (simp [put_at, put_none, fr0_at, h4]; done) | rfl), rfl⟩
        clear h7 h0 h3 h4
        rintro α H2 ⟨h8, h7, h0, h3, h4, rfl⟩
        rw [← hgi] at h8
        obtain ⟨v', H4, hap, ho', hlow'⟩ := own_app1 (nro := H.length) ((hiL A).getD j 0) ho hlow2.2 (by omega) (by rw [List.length_take]; omega)
        rw [← hts] at ho'
        clear hgi hhg
        generalize (hiL A).getD j 0 = x at *
        (refine aw_ops (by kernel_rfl) (fun K hK => ?_); simp (disch := first | omega | (simp only [lnS]; done) | (simp only [lnS]; omega)) [wb_bool, wb_undef, with_lit, XL_nil, XL_cons, XLc_val, XLc_call, step1_eq, stepW_t, stepW_f, stepC_n, stepC_s, stepX_s, stepX_n, stepN_s, calleeX, xrecv, oneV, xop_eq, xopR_s, xopR_n, wantedA_eq, wantedG_n, wantedG_s, plain1_int, plain1_bool, plain1_string, bits_i64, bits_u64, bits_u32, bits_u16, bits_u8, xeqA, xagg, xcmp, xarr, allK_iv, num_iv, calleeOf, xread, xeff, xbin, xint, xnil, xun, xstr, xload, xconv, xpart, xfield, xfieldAddr, xindexAddr, xindex, bnd, asInt?, xslice, xlen, xmin, xmax, xbuild, xfill, xapp2, xappstr, xappmk, xcap, xcopy, xcells, eval_tmp, eval_const, put_at, put_none, fr0_at, cells_agg, cells_int, cells_bool, cells_string, cells_ptr, cells_slice, notTuple, tab, iv_all, hget_app, hget_app0, hget_cons0, hget_cons, set_app, set_app0, setR, setR_one, QL_nil, QL_cons, QLc_val, stepQ_t, stepQ_f, stepQC_n, stepQC_s, stepQX_s, SL_nil, SL_cons, SLc_val, stepS_t, stepS_f, h4, h8, hap, ltT, ltF, leT, leF, eqT, eqF, ltTn, ltFn, leTn, leFn, eqTn, eqFn, beqT, beqF, bneT, bneF, wi64, wu64, wu32, wu16, wu8, tmodP, tdivP, hgetL, hgetNe, hgetEq, setL, nums_def, nums_len, Nat.succ_le_of_lt, List.getElem?_cons_zero, List.getElem?_cons_succ, Option.getD_some, -getElem?_pos, -getElem?_neg, Int.toNat_add, Int.toNat_mul, agM, okM, agB, agI, agS, agP, agL, agA, okB, okI, okS, okP, okSl, okA]; refine hK _ _ ?_; clear hK K)
        (refine aw_ops (by kernel_rfl) (fun K hK => ?_); simp (disch := first | omega | (simp only [lnS]; done) | (simp only [lnS]; omega)) [wb_bool, wb_undef, with_lit, XL_nil, XL_cons, XLc_val, XLc_call, step1_eq, stepW_t, stepW_f, stepC_n, stepC_s, stepX_s, stepX_n, stepN_s, calleeX, xrecv, oneV, xop_eq, xopR_s, xopR_n, wantedA_eq, wantedG_n, wantedG_s, plain1_int, plain1_bool, plain1_string, bits_i64, bits_u64, bits_u32, bits_u16, bits_u8, xeqA, xagg, xcmp, xarr, allK_iv, num_iv, calleeOf, xread, xeff, xbin, xint, xnil, xun, xstr, xload, xconv, xpart, xfield, xfieldAddr, xindexAddr, xindex, bnd, asInt?, xslice, xlen, xmin, xmax, xbuild, xfill, xappend, xapp2, xappstr, xappmk, xcap, xcopy, xcells, eval_tmp, eval_const, put_at, put_none, fr0_at, cells_agg, cells_int, cells_bool, cells_string, cells_ptr, cells_slice, notTuple, tab, iv_all, hget_app, hget_app0, hget_cons0, hget_cons, set_app, set_app0, setR, setR_one, QL_nil, QL_cons, QLc_val, stepQ_t, stepQ_f, stepQC_n, stepQC_s, stepQX_s, SL_nil, SL_cons, SLc_val, stepS_t, stepS_f, h7, ltT, ltF, leT, leF, eqT, eqF, ltTn, ltFn, leTn, leFn, eqTn, eqFn, beqT, beqF, bneT, bneF, wi64, wu64, wu32, wu16, wu8, tmodP, tdivP, hgetL, hgetNe, hgetEq, setL, nums_def, nums_len, Nat.succ_le_of_lt, List.getElem?_cons_zero, List.getElem?_cons_succ, Option.getD_some, -getElem?_pos, -getElem?_neg, Int.toNat_add, Int.toNat_mul, agM, okM, agB, agI, agS, agP, agL, agA, okB, okI, okS, okP, okSl, okA]; refine hK _ _ ?_; clear hK K)
        exact ⟨q2 - 1, by omega, j + 1, v', by omega, by rw [show ((31 + (j + 1) : Nat) : Int) = (i : Int) + 1 by omega]; (first | (simp [put_at, put_none, fr0_at]; done) | rfl), by (first | (simp [put_at, put_none, fr0_at, h0]; done) | rfl), by (first | (simp [put_at, put_none, fr0_at, h3]; done) | rfl), by (first | (simp [put_at, put_none, fr0_at]; done) | rfl), ho', hlow2.trans hlow'⟩
      · (refine aw_ops (by kernel_rfl) (fun K hK => ?_); simp (disch := first | omega | (simp only [lnS]; done) | (simp only [lnS]; omega)) [wb_bool, wb_undef, with_lit, XL_nil, XL_cons, XLc_val, XLc_call, step1_eq, stepW_t, stepW_f, stepC_n, stepC_s, stepX_s, stepX_n, stepN_s, calleeX, xrecv, oneV, xop_eq, xopR_s, xopR_n, wantedA_eq, wantedG_n, wantedG_s, plain1_int, plain1_bool, plain1_string, bits_i64, bits_u64, bits_u32, bits_u16, bits_u8, xeqA, xagg, xcmp, xarr, allK_iv, num_iv, calleeOf, xread, xeff, xbin, xint, xnil, xun, xstr, xload, xconv, xpart, xfield, xfieldAddr, xindexAddr, xindex, bnd, asInt?, xslice, xmin, xmax, xbuild, xfill, xappend, xapp2, xappstr, xappmk, xcap, xcopy, xcells, eval_tmp, eval_const, put_at, put_none, fr0_at, cells_agg, cells_int, cells_bool, cells_string, cells_ptr, cells_slice, notTuple, tab, iv_all, hget_app, hget_app0, hget_cons0, hget_cons, set_app, set_app0, setR, setR_one, QL_nil, QL_cons, QLc_val, stepQ_t, stepQ_f, stepQC_n, stepQC_s, stepQX_s, SL_nil, SL_cons, SLc_val, stepS_t, stepS_f, h7, h0, hxA, ltT, ltF, leT, leF, eqT, eqF, ltTn, ltFn, leTn, leFn, eqTn, eqFn, beqT, beqF, bneT, bneF, wi64, wu64, wu32, wu16, wu8, tmodP, tdivP, hgetL, hgetNe, hgetEq, setL, nums_def, nums_len, Nat.succ_le_of_lt, List.getElem?_cons_zero, List.getElem?_cons_succ, Option.getD_some, -getElem?_pos, -getElem?_neg, Int.toNat_add, Int.toNat_mul, agM, okM, agB, agI, agS, agP, agL, agA, okB, okI, okS, okP, okSl, okA]; refine hK _ _ ?_; clear hK K)
        refine aw_f (by (first | (simp [eval_tmp, put_at, hil]; done) | (simp [eval_tmp, put_at, hil]; omega))) (by kernel_rfl) ?_
        refine aw_exit ?_
        rw [List.take_of_length_le (by omega)] at ho
        exact ⟨vh, h3, h4, ho, hlow2⟩
    clear h0 h3 h4
    rintro α H3 ⟨vh, h3, h4, hoh, hlow2⟩
    have hvl : SlV H3 vl (iv .u64 (loL A)) := hol.slv.low hlow2.1
    have hvh : SlV H3 vh (iv .u64 (hiL A)) := hoh.slv
    have hH3 := hlow2.2
    have T := fun L => dtimes_rc (H := H3 ++ L) (γ := γ) (vb := .slice (some ⟨H3.length, 0, none⟩) 1 1) hhb by19 (hvh.app L)
    have hn1 : 0 < (timesL (hiL A) [19]).length := by rw [timesL_len]; omega
    have htb := timesL_by hhb by19
    have htl := timesL_len (hiL A) [19]
    have hpl := plusL_len (loL A) (timesL (hiL A) [19])
    have hpn := plusN_le (loL A) (timesL (hiL A) [19])
    simp only [List.length_cons, List.length_nil] at htl
    refine aw_ops (by kernel_rfl) (fun K hK => ?_)
    simp (disch := first | omega | (simp only [lnS]; done) | (simp only [lnS]; omega)) [wb_bool, wb_undef, with_lit, XL_nil, XL_cons, XLc_val, XLc_call, step1_eq, stepW_t, stepW_f, stepC_n, stepC_s, stepX_s, stepX_n, stepN_s, calleeX, xrecv, oneV, xop_eq, xopR_s, xopR_n, wantedA_eq, wantedG_n, wantedG_s, plain1_int, plain1_bool, plain1_string, bits_i64, bits_u64, bits_u32, bits_u16, bits_u8, xeqA, xagg, xcmp, xarr, allK_iv, num_iv, calleeOf, xread, xeff, xbin, xint, xnil, xun, xstr, xload, xconv, xpart, xfield, xfieldAddr, xindexAddr, xindex, bnd, asInt?, xslice, xlen, xmin, xmax, xbuild, xfill, xappend, xapp2, xappstr, xappmk, xcap, xcopy, xcells, eval_tmp, eval_const, put_at, put_none, fr0_at, cells_agg, cells_int, cells_bool, cells_string, cells_ptr, cells_slice, notTuple, tab, iv_all, hget_app, hget_app0, hget_cons0, hget_cons, set_app, set_app0, setR, setR_one, QL_nil, QL_cons, QLc_val, stepQ_t, stepQ_f, stepQC_n, stepQC_s, stepQX_s, SL_nil, SL_cons, SLc_val, stepS_t, stepS_f, h3, h4, ltT, ltF, leT, leF, eqT, eqF, ltTn, ltFn, leTn, leFn, eqTn, eqFn, beqT, beqF, bneT, bneF, wi64, wu64, wu32, wu16, wu8, tmodP, tdivP, hgetL, hgetNe, hgetEq, setL, nums_def, nums_len, Nat.succ_le_of_lt, List.getElem?_cons_zero, List.getElem?_cons_succ, Option.getD_some, -getElem?_pos, -getElem?_neg, Int.toNat_add, Int.toNat_mul, agM, okM, agB, agI, agS, agP, agL, agA, okB, okI, okS, okP, okSl, okA]
    refine ⟨by kernel_rfl, ac_of_fresh (T _ (SlV.of (by rw [hget_app0]; rfl) rfl) (by omega) (by simp)) (by unfold dB; exact iv_all _ _) ?_⟩
    simp (disch := first | omega | (simp only [lnS]; done) | (simp only [lnS]; omega)) [wb_bool, wb_undef, with_lit, XL_nil, XL_cons, XLc_val, XLc_call, step1_eq, stepW_t, stepW_f, stepC_n, stepC_s, stepX_s, stepX_n, stepN_s, calleeX, xrecv, oneV, xop_eq, xopR_s, xopR_n, wantedA_eq, wantedG_n, wantedG_s, plain1_int, plain1_bool, plain1_string, bits_i64, bits_u64, bits_u32, bits_u16, bits_u8, xeqA, xagg, xcmp, xarr, allK_iv, num_iv, calleeOf, xread, xeff, xbin, xint, xnil, xun, xstr, xload, xconv, xpart, xfield, xfieldAddr, xindexAddr, xindex, bnd, asInt?, xslice, xlen, xmin, xmax, xbuild, xfill, xappend, xapp2, xappstr, xappmk, xcap, xcopy, xcells, eval_tmp, eval_const, put_at, put_none, fr0_at, cells_agg, cells_int, cells_bool, cells_string, cells_ptr, cells_slice, notTuple, tab, iv_all, hget_app, hget_app0, hget_cons0, hget_cons, set_app, set_app0, setR, setR_one, QL_nil, QL_cons, QLc_val, stepQ_t, stepQ_f, stepQC_n, stepQC_s, stepQX_s, SL_nil, SL_cons, SLc_val, stepS_t, stepS_f, ltT, ltF, leT, leF, eqT, eqF, ltTn, ltFn, leTn, leFn, eqTn, eqFn, beqT, beqF, bneT, bneF, wi64, wu64, wu32, wu16, wu8, tmodP, tdivP, hgetL, hgetNe, hgetEq, setL, nums_def, nums_len, Nat.succ_le_of_lt, List.getElem?_cons_zero, List.getElem?_cons_succ, Option.getD_some, -getElem?_pos, -getElem?_neg, Int.toNat_add, Int.toNat_mul, agM, okM, agB, agI, agS, agP, agL, agA, okB, okI, okS, okP, okSl, okA]
    refine ⟨by kernel_rfl, ac_of_fresh (dplus_rc (γ := γ) hlb htb (hvl.app _) (SlV.of (by rw [hget_app]; rfl) (by rw [iv_length, htl])) (by omega) (by omega) (by omega)) (by unfold dB; exact iv_all _ _) ?_⟩
    try simp (disch := first | omega | (simp only [lnS]; done) | (simp only [lnS]; omega)) [wb_bool, wb_undef, with_lit, XL_nil, XL_cons, XLc_val, XLc_call, step1_eq, stepW_t, stepW_f, stepC_n, stepC_s, stepX_s, stepX_n, stepN_s, calleeX, xrecv, oneV, xop_eq, xopR_s, xopR_n, wantedA_eq, wantedG_n, wantedG_s, plain1_int, plain1_bool, plain1_string, bits_i64, bits_u64, bits_u32, bits_u16, bits_u8, xeqA, xagg, xcmp, xarr, allK_iv, num_iv, calleeOf, xread, xeff, xbin, xint, xnil, xun, xstr, xload, xconv, xpart, xfield, xfieldAddr, xindexAddr, xindex, bnd, asInt?, xslice, xlen, xmin, xmax, xbuild, xfill, xappend, xapp2, xappstr, xappmk, xcap, xcopy, xcells, eval_tmp, eval_const, put_at, put_none, fr0_at, cells_agg, cells_int, cells_bool, cells_string, cells_ptr, cells_slice, notTuple, tab, iv_all, hget_app, hget_app0, hget_cons0, hget_cons, set_app, set_app0, setR, setR_one, QL_nil, QL_cons, QLc_val, stepQ_t, stepQ_f, stepQC_n, stepQC_s, stepQX_s, SL_nil, SL_cons, SLc_val, stepS_t, stepS_f, ltT, ltF, leT, leF, eqT, eqF, ltTn, ltFn, leTn, leFn, eqTn, eqFn, beqT, beqF, bneT, bneF, wi64, wu64, wu32, wu16, wu8, tmodP, tdivP, hgetL, hgetNe, hgetEq, setL, nums_def, nums_len, Nat.succ_le_of_lt, List.getElem?_cons_zero, List.getElem?_cons_succ, Option.getD_some, -getElem?_pos, -getElem?_neg, Int.toNat_add, Int.toNat_mul, agM, okM, agB, agI, agS, agP, agL, agA, okB, okI, okS, okP, okSl, okA]
    refine hK _ _ ?_; clear hK K
    refine ⟨(dv (nextL A)).toNat, by omega, nextL A, _, f, rfl, nextL_by A, by omega, by omega, by omega, hres', by (first | (simp [put_at, put_none, fr0_at]; done) | rfl), .inr ⟨.inr ⟨H3.length + 2, _, by omega, rfl, ?_, ?_⟩, ?_⟩, ?_⟩
    · rw [hnx]
      first | (rw [hget_app]; rfl) | (simp [hget_app, dB]; rfl)
    · rw [hnx, iv_length, hpl]; simp
    · rcases hcase with ⟨_, rfl⟩ | ⟨_, h⟩
      · exact hq
      · exact h
    · exact (((hlow.trans (hlow1.weak hGl)).trans (hlow2.weak (by omega))).trans (Low.push (by omega) _))
  · obtain ⟨f, rfl⟩ : ∃ f', f = f' + 1 := ⟨f - 1, by omega⟩
    have hfin : (if pM ≤ dv A then subL (plusL A [19]) else A) = restL a := by
      simp only [restF] at hres
      rwa [if_neg hq] at hres
    have hpl := plusL_len A [19]
    have hpn := plusN_le A [19]
    have hpb := plusL_by A [19]
    have hpd := plusL_dv hA by19
    have e19 : dv [19] = 19 := by simp [dv]
    rw [e19] at hpd
    rw [decide_eq_false hq]
    simp only [List.length_cons, List.length_nil] at hpn
    have hB : ∀ L, SlV (G ++ (some ⟨[.int .u64 19], 32, some 1⟩ :: some (dB (plusL A [19])) :: L)) (.slice (some ⟨G.length + 1, 0, none⟩) (plusN A [19]) (plusN A [19])) (iv .u64 (plusL A [19])) := fun L => SlV.of (by rw [hget_app]; rfl) (by rw [iv_length, hpl])
    refine aw_f (by (first | (simp [eval_tmp, put_at]; done) | (simp [eval_tmp, put_at]; omega))) (by kernel_rfl) ?_
    refine aw_exit ?_
    refine aw_seq ?_
    refine aw_ops (by kernel_rfl) (fun K hK => ?_)
    simp (disch := first | omega | (simp only [lnS]; done) | (simp only [lnS]; omega)) [wb_bool, wb_undef, with_lit, XL_nil, XL_cons, XLc_val, XLc_call, step1_eq, stepW_t, stepW_f, stepC_n, stepC_s, stepX_s, stepX_n, stepN_s, calleeX, xrecv, oneV, xop_eq, xopR_s, xopR_n, wantedA_eq, wantedG_n, wantedG_s, plain1_int, plain1_bool, plain1_string, bits_i64, bits_u64, bits_u32, bits_u16, bits_u8, xeqA, xagg, xcmp, xarr, allK_iv, num_iv, calleeOf, xread, xeff, xbin, xint, xnil, xun, xstr, xload, xconv, xpart, xfield, xfieldAddr, xindexAddr, xindex, bnd, asInt?, xslice, xlen, xmin, xmax, xbuild, xfill, xappend, xapp2, xappstr, xappmk, xcap, xcopy, xcells, eval_tmp, eval_const, put_at, put_none, fr0_at, cells_agg, cells_int, cells_bool, cells_string, cells_ptr, cells_slice, notTuple, tab, iv_all, hget_app, hget_app0, hget_cons0, hget_cons, set_app, set_app0, setR, setR_one, QL_nil, QL_cons, QLc_val, stepQ_t, stepQ_f, stepQC_n, stepQC_s, stepQX_s, SL_nil, SL_cons, SLc_val, stepS_t, stepS_f, h0, ltT, ltF, leT, leF, eqT, eqF, ltTn, ltFn, leTn, leFn, eqTn, eqFn, beqT, beqF, bneT, bneF, wi64, wu64, wu32, wu16, wu8, tmodP, tdivP, hgetL, hgetNe, hgetEq, setL, nums_def, nums_len, Nat.succ_le_of_lt, List.getElem?_cons_zero, List.getElem?_cons_succ, Option.getD_some, -getElem?_pos, -getElem?_neg, Int.toNat_add, Int.toNat_mul, agM, okM, agB, agI, agS, agP, agL, agA, okB, okI, okS, okP, okSl, okA]
    refine ⟨by kernel_rfl, ac_of_fresh (dplus_rc (γ := γ) hA by19 (hvA.app _) (SlV.of (by rw [hget_app0]; rfl) rfl) (by omega) (by simp) (by omega)) (by unfold dB; exact iv_all _ _) ?_⟩
    simp (disch := first | omega | (simp only [lnS]; done) | (simp only [lnS]; omega)) [wb_bool, wb_undef, with_lit, XL_nil, XL_cons, XLc_val, XLc_call, step1_eq, stepW_t, stepW_f, stepC_n, stepC_s, stepX_s, stepX_n, stepN_s, calleeX, xrecv, oneV, xop_eq, xopR_s, xopR_n, wantedA_eq, wantedG_n, wantedG_s, plain1_int, plain1_bool, plain1_string, bits_i64, bits_u64, bits_u32, bits_u16, bits_u8, xeqA, xagg, xcmp, xarr, allK_iv, num_iv, calleeOf, xread, xeff, xbin, xint, xnil, xun, xstr, xload, xconv, xpart, xfield, xfieldAddr, xindexAddr, xindex, bnd, asInt?, xslice, xlen, xmin, xmax, xbuild, xfill, xappend, xapp2, xappstr, xappmk, xcap, xcopy, xcells, eval_tmp, eval_const, put_at, put_none, fr0_at, cells_agg, cells_int, cells_bool, cells_string, cells_ptr, cells_slice, notTuple, tab, iv_all, hget_app, hget_app0, hget_cons0, hget_cons, set_app, set_app0, setR, setR_one, QL_nil, QL_cons, QLc_val, stepQ_t, stepQ_f, stepQC_n, stepQC_s, stepQX_s, SL_nil, SL_cons, SLc_val, stepS_t, stepS_f, ltT, ltF, leT, leF, eqT, eqF, ltTn, ltFn, leTn, leFn, eqTn, eqFn, beqT, beqF, bneT, bneF, wi64, wu64, wu32, wu16, wu8, tmodP, tdivP, hgetL, hgetNe, hgetEq, setL, nums_def, nums_len, Nat.succ_le_of_lt, List.getElem?_cons_zero, List.getElem?_cons_succ, Option.getD_some, -getElem?_pos, -getElem?_neg, Int.toNat_add, Int.toNat_mul, agM, okM, agB, agI, agS, agP, agL, agA, okB, okI, okS, okP, okSl, okA]
    refine hK _ _ ?_; clear hK K
    refine aw_seq ?_
    refine aw_seq ?_
    refine aw_ops (by kernel_rfl) (fun K hK => ?_)
    simp (disch := first | omega | (simp only [lnS]; done) | (simp only [lnS]; omega)) [wb_bool, wb_undef, with_lit, XL_nil, XL_cons, XLc_val, XLc_call, step1_eq, stepW_t, stepW_f, stepC_n, stepC_s, stepX_s, stepX_n, stepN_s, calleeX, xrecv, oneV, xop_eq, xopR_s, xopR_n, wantedA_eq, wantedG_n, wantedG_s, plain1_int, plain1_bool, plain1_string, bits_i64, bits_u64, bits_u32, bits_u16, bits_u8, xeqA, xagg, xcmp, xarr, allK_iv, num_iv, calleeOf, xread, xeff, xbin, xint, xnil, xun, xstr, xload, xconv, xpart, xfield, xfieldAddr, xindexAddr, xindex, bnd, asInt?, xslice, xlen, xmin, xmax, xbuild, xfill, xappend, xapp2, xappstr, xappmk, xcap, xcopy, xcells, eval_tmp, eval_const, put_at, put_none, fr0_at, cells_agg, cells_int, cells_bool, cells_string, cells_ptr, cells_slice, notTuple, tab, iv_all, hget_app, hget_app0, hget_cons0, hget_cons, set_app, set_app0, setR, setR_one, QL_nil, QL_cons, QLc_val, stepQ_t, stepQ_f, stepQC_n, stepQC_s, stepQX_s, SL_nil, SL_cons, SLc_val, stepS_t, stepS_f, ltT, ltF, leT, leF, eqT, eqF, ltTn, ltFn, leTn, leFn, eqTn, eqFn, beqT, beqF, bneT, bneF, wi64, wu64, wu32, wu16, wu8, tmodP, tdivP, hgetL, hgetNe, hgetEq, setL, nums_def, nums_len, Nat.succ_le_of_lt, List.getElem?_cons_zero, List.getElem?_cons_succ, Option.getD_some, -getElem?_pos, -getElem?_neg, Int.toNat_add, Int.toNat_mul, agM, okM, agB, agI, agS, agP, agL, agA, okB, okI, okS, okP, okSl, okA]
    refine ⟨by kernel_rfl, ac_of_rc (high_rc hpb (hB []) (by omega)) (by simp [pv_iv, pv_int, pv_bool, pv_string, pv_tup2, pv_tup3, iv_plain, p2_int, p2_bool, p2_string]) ?_⟩
    try simp (disch := first | omega | (simp only [lnS]; done) | (simp only [lnS]; omega)) [wb_bool, wb_undef, with_lit, XL_nil, XL_cons, XLc_val, XLc_call, step1_eq, stepW_t, stepW_f, stepC_n, stepC_s, stepX_s, stepX_n, stepN_s, calleeX, xrecv, oneV, xop_eq, xopR_s, xopR_n, wantedA_eq, wantedG_n, wantedG_s, plain1_int, plain1_bool, plain1_string, bits_i64, bits_u64, bits_u32, bits_u16, bits_u8, xeqA, xagg, xcmp, xarr, allK_iv, num_iv, calleeOf, xread, xeff, xbin, xint, xnil, xun, xstr, xload, xconv, xpart, xfield, xfieldAddr, xindexAddr, xindex, bnd, asInt?, xslice, xlen, xmin, xmax, xbuild, xfill, xappend, xapp2, xappstr, xappmk, xcap, xcopy, xcells, eval_tmp, eval_const, put_at, put_none, fr0_at, cells_agg, cells_int, cells_bool, cells_string, cells_ptr, cells_slice, notTuple, tab, iv_all, hget_app, hget_app0, hget_cons0, hget_cons, set_app, set_app0, setR, setR_one, QL_nil, QL_cons, QLc_val, stepQ_t, stepQ_f, stepQC_n, stepQC_s, stepQX_s, SL_nil, SL_cons, SLc_val, stepS_t, stepS_f, ltT, ltF, leT, leF, eqT, eqF, ltTn, ltFn, leTn, leFn, eqTn, eqFn, beqT, beqF, bneT, bneF, wi64, wu64, wu32, wu16, wu8, tmodP, tdivP, hgetL, hgetNe, hgetEq, setL, nums_def, nums_len, Nat.succ_le_of_lt, List.getElem?_cons_zero, List.getElem?_cons_succ, Option.getD_some, -getElem?_pos, -getElem?_neg, Int.toNat_add, Int.toNat_mul, agM, okM, agB, agI, agS, agP, agL, agA, okB, okI, okS, okP, okSl, okA]
    refine hK _ _ ?_; clear hK K
    by_cases hp : pM ≤ dv A
    · have hqB : qM ≤ dv (plusL A [19]) := by omega
      obtain ⟨s1, s2, s3, _, s5, s6⟩ := sub_spec hA (by omega) hp
      rw [if_pos hp] at hfin
      have h31 : (iv .u64 (plusL A [19]))[31]? = some (.int .u64 ((plusL A [19]).getD 31 0)) := iv_getN _ _ _ s3
      have hsub : (plusL A [19]).set 31 ((plusL A [19]).getD 31 0 - 128) = restL a := hfin
      have hnp : pM ≤ dv a := by
        rcases hcase with ⟨_, rfl⟩ | ⟨_, h⟩
        · exact hp
        · omega
      have hrl : (restL a).length = plusN A [19] := by rw [← hfin]; unfold subL; rw [List.length_set, hpl]
      rw [decide_eq_true hqB]
      clear hfin
      generalize plusL A [19] = B at *
      generalize B.getD 31 0 = d at *
      refine aw_f (by (first | (simp [eval_tmp, put_at]; done) | (simp [eval_tmp, put_at]; omega))) (by kernel_rfl) ?_
      refine aw_skip ?_
      refine aw_seq ?_
      unfold dB
      (refine aw_ops (by kernel_rfl) (fun K hK => ?_); simp (disch := first | omega | (simp only [lnS]; done) | (simp only [lnS]; omega)) [wb_bool, wb_undef, with_lit, XL_nil, XL_cons, XLc_val, XLc_call, step1_eq, stepW_t, stepW_f, stepC_n, stepC_s, stepX_s, stepX_n, stepN_s, calleeX, xrecv, oneV, xop_eq, xopR_s, xopR_n, wantedA_eq, wantedG_n, wantedG_s, plain1_int, plain1_bool, plain1_string, bits_i64, bits_u64, bits_u32, bits_u16, bits_u8, xeqA, xagg, xcmp, xarr, allK_iv, num_iv, calleeOf, xread, xeff, xbin, xint, xnil, xun, xstr, xload, xconv, xpart, xfield, xfieldAddr, xindexAddr, xindex, bnd, asInt?, xslice, xlen, xmin, xmax, xbuild, xfill, xappend, xapp2, xappstr, xappmk, xcap, xcopy, xcells, eval_tmp, eval_const, put_at, put_none, fr0_at, cells_agg, cells_int, cells_bool, cells_string, cells_ptr, cells_slice, notTuple, tab, iv_all, hget_app, hget_app0, hget_cons0, hget_cons, set_app, set_app0, setR, setR_one, QL_nil, QL_cons, QLc_val, stepQ_t, stepQ_f, stepQC_n, stepQC_s, stepQX_s, SL_nil, SL_cons, SLc_val, stepS_t, stepS_f, h31, hpl, iv_set, hsub, ltT, ltF, leT, leF, eqT, eqF, ltTn, ltFn, leTn, leFn, eqTn, eqFn, beqT, beqF, bneT, bneF, wi64, wu64, wu32, wu16, wu8, tmodP, tdivP, hgetL, hgetNe, hgetEq, setL, nums_def, nums_len, Nat.succ_le_of_lt, List.getElem?_cons_zero, List.getElem?_cons_succ, Option.getD_some, -getElem?_pos, -getElem?_neg, Int.toNat_add, Int.toNat_mul, agM, okM, agB, agI, agS, agP, agL, agA, okB, okI, okS, okP, okSl, okA]; refine hK _ _ ?_; clear hK K)
      refine aw_seq ?_
      (refine aw_ops (by kernel_rfl) (fun K hK => ?_); simp (disch := first | omega | (simp only [lnS]; done) | (simp only [lnS]; omega)) [wb_bool, wb_undef, with_lit, XL_nil, XL_cons, XLc_val, XLc_call, step1_eq, stepW_t, stepW_f, stepC_n, stepC_s, stepX_s, stepX_n, stepN_s, calleeX, xrecv, oneV, xop_eq, xopR_s, xopR_n, wantedA_eq, wantedG_n, wantedG_s, plain1_int, plain1_bool, plain1_string, bits_i64, bits_u64, bits_u32, bits_u16, bits_u8, xeqA, xagg, xcmp, xarr, allK_iv, num_iv, calleeOf, xread, xeff, xbin, xint, xnil, xun, xstr, xload, xconv, xpart, xfield, xfieldAddr, xindexAddr, xindex, bnd, asInt?, xslice, xlen, xmin, xmax, xbuild, xfill, xappend, xapp2, xappstr, xappmk, xcap, xcopy, xcells, eval_tmp, eval_const, put_at, put_none, fr0_at, cells_agg, cells_int, cells_bool, cells_string, cells_ptr, cells_slice, notTuple, tab, iv_all, hget_app, hget_app0, hget_cons0, hget_cons, set_app, set_app0, setR, setR_one, QL_nil, QL_cons, QLc_val, stepQ_t, stepQ_f, stepQC_n, stepQC_s, stepQX_s, SL_nil, SL_cons, SLc_val, stepS_t, stepS_f, ltT, ltF, leT, leF, eqT, eqF, ltTn, ltFn, leTn, leFn, eqTn, eqFn, beqT, beqF, bneT, bneF, wi64, wu64, wu32, wu16, wu8, tmodP, tdivP, hgetL, hgetNe, hgetEq, setL, nums_def, nums_len, Nat.succ_le_of_lt, List.getElem?_cons_zero, List.getElem?_cons_succ, Option.getD_some, -getElem?_pos, -getElem?_neg, Int.toNat_add, Int.toNat_mul, agM, okM, agB, agI, agS, agP, agL, agA, okB, okI, okS, okP, okSl, okA]; refine hK _ _ ?_; clear hK K)
      (refine aw_ret ?_; simp (disch := first | omega | (simp only [lnS]; done) | (simp only [lnS]; omega)) [wb_bool, wb_undef, with_lit, XL_nil, XL_cons, XLc_val, XLc_call, step1_eq, stepW_t, stepW_f, stepC_n, stepC_s, stepX_s, stepX_n, stepN_s, calleeX, xrecv, oneV, xop_eq, xopR_s, xopR_n, wantedA_eq, wantedG_n, wantedG_s, plain1_int, plain1_bool, plain1_string, bits_i64, bits_u64, bits_u32, bits_u16, bits_u8, xeqA, xagg, xcmp, xarr, allK_iv, num_iv, calleeOf, xread, xeff, xbin, xint, xnil, xun, xstr, xload, xconv, xpart, xfield, xfieldAddr, xindexAddr, xindex, bnd, asInt?, xslice, xlen, xmin, xmax, xbuild, xfill, xappend, xapp2, xappstr, xappmk, xcap, xcopy, xcells, eval_tmp, eval_const, put_at, put_none, fr0_at, cells_agg, cells_int, cells_bool, cells_string, cells_ptr, cells_slice, notTuple, tab, iv_all, hget_app, hget_app0, hget_cons0, hget_cons, set_app, set_app0, setR, setR_one, QL_nil, QL_cons, QLc_val, stepQ_t, stepQ_f, stepQC_n, stepQC_s, stepQX_s, SL_nil, SL_cons, SLc_val, stepS_t, stepS_f, thenQ_ret, scopeQ_ret, inBlockQ_ret, RQ, resL, resV, ltT, ltF, leT, leF, eqT, eqF, ltTn, ltFn, leTn, leFn, eqTn, eqFn, beqT, beqF, bneT, bneF, wi64, wu64, wu32, wu16, wu8, tmodP, tdivP, hgetL, hgetNe, hgetEq, setL, nums_def, nums_len, Nat.succ_le_of_lt, List.getElem?_cons_zero, List.getElem?_cons_succ, Option.getD_some, -getElem?_pos, -getElem?_neg, Int.toNat_add, Int.toNat_mul, agM, okM, agB, agI, agS, agP, agL, agA, okB, okI, okS, okP, okSl, okA])
      exact ⟨G.length + 1, by omega, by rw [hrl], by rw [hget_app]; rfl⟩
    · have hqB : ¬ qM ≤ dv (plusL A [19]) := by omega
      rw [if_neg hp] at hfin
      rw [decide_eq_false hqB]
      refine aw_t (by (first | (simp [eval_tmp, put_at]; done) | (simp [eval_tmp, put_at]; omega))) (by kernel_rfl) ?_
      refine aw_seq ?_
      (refine aw_ops (by kernel_rfl) (fun K hK => ?_); simp (disch := first | omega | (simp only [lnS]; done) | (simp only [lnS]; omega)) [wb_bool, wb_undef, with_lit, XL_nil, XL_cons, XLc_val, XLc_call, step1_eq, stepW_t, stepW_f, stepC_n, stepC_s, stepX_s, stepX_n, stepN_s, calleeX, xrecv, oneV, xop_eq, xopR_s, xopR_n, wantedA_eq, wantedG_n, wantedG_s, plain1_int, plain1_bool, plain1_string, bits_i64, bits_u64, bits_u32, bits_u16, bits_u8, xeqA, xagg, xcmp, xarr, allK_iv, num_iv, calleeOf, xread, xeff, xbin, xint, xnil, xun, xstr, xload, xconv, xpart, xfield, xfieldAddr, xindexAddr, xindex, bnd, asInt?, xslice, xlen, xmin, xmax, xbuild, xfill, xappend, xapp2, xappstr, xappmk, xcap, xcopy, xcells, eval_tmp, eval_const, put_at, put_none, fr0_at, cells_agg, cells_int, cells_bool, cells_string, cells_ptr, cells_slice, notTuple, tab, iv_all, hget_app, hget_app0, hget_cons0, hget_cons, set_app, set_app0, setR, setR_one, QL_nil, QL_cons, QLc_val, stepQ_t, stepQ_f, stepQC_n, stepQC_s, stepQX_s, SL_nil, SL_cons, SLc_val, stepS_t, stepS_f, h0, ltT, ltF, leT, leF, eqT, eqF, ltTn, ltFn, leTn, leFn, eqTn, eqFn, beqT, beqF, bneT, bneF, wi64, wu64, wu32, wu16, wu8, tmodP, tdivP, hgetL, hgetNe, hgetEq, setL, nums_def, nums_len, Nat.succ_le_of_lt, List.getElem?_cons_zero, List.getElem?_cons_succ, Option.getD_some, -getElem?_pos, -getElem?_neg, Int.toNat_add, Int.toNat_mul, agM, okM, agB, agI, agS, agP, agL, agA, okB, okI, okS, okP, okSl, okA]; refine hK _ _ ?_; clear hK K)
      (refine aw_ret ?_; simp (disch := first | omega | (simp only [lnS]; done) | (simp only [lnS]; omega)) [wb_bool, wb_undef, with_lit, XL_nil, XL_cons, XLc_val, XLc_call, step1_eq, stepW_t, stepW_f, stepC_n, stepC_s, stepX_s, stepX_n, stepN_s, calleeX, xrecv, oneV, xop_eq, xopR_s, xopR_n, wantedA_eq, wantedG_n, wantedG_s, plain1_int, plain1_bool, plain1_string, bits_i64, bits_u64, bits_u32, bits_u16, bits_u8, xeqA, xagg, xcmp, xarr, allK_iv, num_iv, calleeOf, xread, xeff, xbin, xint, xnil, xun, xstr, xload, xconv, xpart, xfield, xfieldAddr, xindexAddr, xindex, bnd, asInt?, xslice, xlen, xmin, xmax, xbuild, xfill, xappend, xapp2, xappstr, xappmk, xcap, xcopy, xcells, eval_tmp, eval_const, put_at, put_none, fr0_at, cells_agg, cells_int, cells_bool, cells_string, cells_ptr, cells_slice, notTuple, tab, iv_all, hget_app, hget_app0, hget_cons0, hget_cons, set_app, set_app0, setR, setR_one, QL_nil, QL_cons, QLc_val, stepQ_t, stepQ_f, stepQC_n, stepQC_s, stepQX_s, SL_nil, SL_cons, SLc_val, stepS_t, stepS_f, thenQ_ret, scopeQ_ret, inBlockQ_ret, RQ, resL, resV, h0, ltT, ltF, leT, leF, eqT, eqF, ltTn, ltFn, leTn, leFn, eqTn, eqFn, beqT, beqF, bneT, bneF, wi64, wu64, wu32, wu16, wu8, tmodP, tdivP, hgetL, hgetNe, hgetEq, setL, nums_def, nums_len, Nat.succ_le_of_lt, List.getElem?_cons_zero, List.getElem?_cons_succ, Option.getD_some, -getElem?_pos, -getElem?_neg, Int.toNat_add, Int.toNat_mul, agM, okM, agB, agI, agS, agP, agL, agA, okB, okI, okS, okP, okSl, okA])
      refine ⟨fun h => ?_, fun h => ?_⟩
      · rcases hcase with ⟨h1, _⟩ | ⟨_, h2⟩
        · exact h1
        · exact absurd h (by rw [hqp]; omega)
      · rcases hcase with ⟨_, rfl⟩ | ⟨h1, _⟩
        · omega
        · rw [← hfin]
          rcases h1 with ⟨_, h2⟩ | ⟨j, n, k1, k2, k3, k4⟩
          · have := congrArg List.length h2
            rw [iv_length, List.length_nil] at this
            omega
          · have hn : n = A.length := by rw [iv_length] at k4; omega
            subst hn
            exact ⟨j, k1, k2, hget_left' k3⟩
theorem rest_same {H : AH} {γ : Nat → Option Nat} {a : List Int} {va : Value} (ha : By a) (hva : SlV H va (iv .u64 a)) (hla : a.length ≤ 1000) (hla0 : 0 < a.length) (h : dv a < pM) : AC Tryd.prog H.length γ 30 #[va] H (fun v' _ => v' = va) :=
  (rest_rc ha hva hla hla0).mono fun v' H' hq => hq.1 h
theorem rest_new {H : AH} {γ : Nat → Option Nat} {a : List Int} {va : Value} (ha : By a) (hva : SlV H va (iv .u64 a)) (hla : a.length ≤ 1000) (hla0 : 0 < a.length) (h : pM ≤ dv a) : AC Tryd.prog H.length γ 30 #[va] H (Fresh H.length (dB (restL a)) (restL a).length) :=
  (rest_rc ha hva hla hla0).mono fun v' H' hq => hq.2 h
end
end Go.Proofs.YtnddofgabipknaaDoor
