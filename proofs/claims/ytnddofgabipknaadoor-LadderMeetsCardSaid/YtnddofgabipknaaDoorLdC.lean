/-
  A scalar's bits; scalar, walked.
  climb, walked.
  The ladder, computed.
  Public and Agree, walked.
  alive, walked.
-/
import Derived.Test.YtnddofgabipknaaDoorLdB
import Derived.Test.YtnddofgabipknaaDoorLibB
namespace Go.Proofs.YtnddofgabipknaaDoor
section
open Go Go.RowKit
set_option linter.unusedVariables false
set_option linter.unusedSimpArgs false
set_option maxRecDepth 100000
set_option maxHeartbeats 4000000

def scl (k : List Int) : List Int := (k.set 0 (bitsOf .and .u8 (k.getD 0 0) 248)).set 31 (bitsOf .or .u8 (bitsOf .and .u8 (k.getD 31 0) 127) 64)
theorem scl_len (k : List Int) : (scl k).length = k.length := by simp [scl]
theorem bb_u8 (op : BinOp) (x y : Int) : (0 : Int) ≤ IntKind.u8.wrap x ∧ IntKind.u8.wrap x ≤ 255 := by_u8 x
theorem and_u8 (x y : Int) : 0 ≤ bitsOf .and .u8 x y ∧ bitsOf .and .u8 x y ≤ 255 := by_u8 _
theorem or_u8 (x y : Int) : 0 ≤ bitsOf .or .u8 x y ∧ bitsOf .or .u8 x y ≤ 255 := by_u8 _
theorem scl_by {k : List Int} (h : By k) : By (scl k) := (h.set (and_u8 _ _)).set (or_u8 _ _)
theorem and1 : ∀ b : Nat, b < 256 → bitsOf .and .u8 (b : Int) 1 = (b : Int) % 2 := by decide +kernel
theorem and248 : ∀ b : Nat, b < 256 → ∀ j : Nat, j < 8 → bitsOf .and .u8 (b : Int) 248 / 2 ^ j % 2 = if j < 3 then 0 else (b : Int) / 2 ^ j % 2 := by decide +kernel
theorem or64_ : ∀ b : Nat, b < 256 → ∀ j : Nat, j < 7 → bitsOf .or .u8 (bitsOf .and .u8 (b : Int) 127) 64 / 2 ^ j % 2 = if j = 6 then 1 else (b : Int) / 2 ^ j % 2 := by decide +kernel
/-- A scalar's bit. -/
def sb (k : List Int) (t : Nat) : Bool := if t < 3 then false else if t = 254 then true else decide (k.getD (t / 8) 0 / 2 ^ (t % 8) % 2 = 1)
theorem sb_scl {k : List Int} (h : By k) (hl : k.length = 32) {t : Nat} (ht : t ≤ 254) : decide ((scl k).getD (t / 8) 0 / 2 ^ (t % 8) % 2 = 1) = sb k t := by
  have hg : (scl k).getD (t / 8) 0 = if t / 8 = 31 then bitsOf .or .u8 (bitsOf .and .u8 (k.getD 31 0) 127) 64 else if t / 8 = 0 then bitsOf .and .u8 (k.getD 0 0) 248 else k.getD (t / 8) 0 := by
    unfold scl
    by_cases c31 : t / 8 = 31
    · rw [if_pos c31, c31, List.getD_eq_getElem?_getD, List.getElem?_set_self (by rw [List.length_set]; omega)]; rfl
    · rw [if_neg c31, List.getD_eq_getElem?_getD, List.getElem?_set_ne (fun e => c31 e.symm)]
      by_cases c0 : t / 8 = 0
      · rw [if_pos c0, c0, List.getElem?_set_self (by omega)]; rfl
      · rw [if_neg c0, List.getElem?_set_ne (fun e => c0 e.symm), List.getD_eq_getElem?_getD]
  rw [hg]
  unfold sb
  have b31 := h.get 31
  have b0 := h.get 0
  by_cases c1 : t / 8 = 31
  · rw [if_pos c1, c1, if_neg (show ¬ t < 3 by omega)]
    obtain ⟨b, hb⟩ : ∃ b : Nat, (b : Int) = k.getD 31 0 := ⟨(k.getD 31 0).toNat, by omega⟩
    have := or64_ b (by omega) (t % 8) (by omega)
    rw [← hb, this]
    by_cases c2 : t = 254
    · rw [if_pos (by omega), if_pos c2]; rfl
    · rw [if_neg (by omega), if_neg c2]
  · rw [if_neg c1]
    by_cases c0 : t / 8 = 0
    · rw [if_pos c0, c0]
      obtain ⟨b, hb⟩ : ∃ b : Nat, (b : Int) = k.getD 0 0 := ⟨(k.getD 0 0).toNat, by omega⟩
      have := and248 b (by omega) (t % 8) (by omega)
      rw [← hb, this, if_neg (show ¬ t = 254 by omega)]
      by_cases c2 : t < 3
      · rw [if_pos (by omega), if_pos c2]; rfl
      · rw [if_neg (by omega), if_neg c2]
    · rw [if_neg c0, if_neg (show ¬ t < 3 by omega), if_neg (show ¬ t = 254 by omega)]
attribute [local simp] wb_bool wb_undef with_lit XL_nil XL_cons XLc_val XLc_call step1_eq stepW_t stepW_f stepC_n stepC_s stepX_s stepX_n stepN_s calleeX xrecv oneV xop_eq xopR_s xopR_n wantedA_eq wantedG_n wantedG_s plain1_int plain1_bool plain1_string bits_i64 bits_u64 bits_u32 bits_u16 bits_u8 xeqA xagg xcmp xarr allK_iv num_iv calleeOf xread xeff xbin xint xnil xun xstr xload xconv xpart xfield xfieldAddr xindexAddr xindex bnd asInt? xslice xlen xmin xmax xbuild xfill xappend xapp2 xappstr xappmk xcap xcopy xcells eval_tmp eval_const put_at put_none fr0_at cells_agg cells_int cells_bool cells_string cells_ptr cells_slice notTuple tab iv_all hget_app hget_app0 hget_cons0 hget_cons set_app set_app0 setR setR_one QL_nil QL_cons QLc_val stepQ_t stepQ_f stepQC_n stepQC_s stepQX_s SL_nil SL_cons SLc_val stepS_t stepS_f ltT ltF leT leF eqT eqF ltTn ltFn leTn leFn eqTn eqFn beqT beqF bneT bneF wi64 wu64 wu32 wu16 wu8 tmodP tdivP hgetL hgetNe hgetEq setL nums_def nums_len Nat.succ_le_of_lt List.getElem?_cons_zero List.getElem?_cons_succ Option.getD_some Int.toNat_add Int.toNat_mul agM okM agB agI agS agP agL agA okB okI okS okP okSl okA
theorem scalar_vc {k : List Int} (hk : k.length = 32) (hb : By k) : VC Tryd.prog 24 #[.agg (iv .u8 k).toArray] (.agg (iv .u8 (scl k)).toArray) := by
  refine vc_of_ac (by simp [pv_iv]) (by simp [pv_iv]) ?_
  have h0 : (iv .u8 k)[0]? = some (.int .u8 (k.getD 0 0)) := iv_getN _ _ _ (by omega)
  have h31 : ∀ x : Int, (iv .u8 (k.set 0 x))[31]? = some (.int .u8 (k.getD 31 0)) := fun x => by
    rw [iv_getN _ _ _ (by rw [List.length_set]; omega)]
    congr 2
    simp only [List.getD_eq_getElem?_getD]
    rw [List.getElem?_set_ne (by omega)]
  have hsd : (k.set 0 (bitsOf .and .u8 (k.getD 0 0) 248)).set 31 (bitsOf .or .u8 (bitsOf .and .u8 (k.getD 31 0) 127) 64) = scl k := rfl
  have hlen := scl_len k
  rw [hk] at hlen
  have hts : (iv .u8 (scl k)).take 32 = iv .u8 (scl k) := List.take_of_length_le (by simp [hlen])
  have hss : setR (iv .u8 (zl 32)) 0 (iv .u8 (scl k)) = iv .u8 (scl k) := setR_all _ _ (by simp [hlen])
  generalize scl k = S at *
  generalize k.getD 0 0 = x0 at *
  generalize k.getD 31 0 = x31 at *
  refine ac_of_aw Tryd.func24 rfl Tryd.ntmps24 Tryd.results24 (by simp) ?_
  refine aw_seq ?_
  (refine aw_ops (by kernel_rfl) (fun K hK => ?_); simp (disch := first | omega | (simp only [lnS]; try omega)) [-getElem?_pos, -getElem?_neg]; refine hK _ _ ?_; clear hK K)
  refine aw_seq ?_
  (refine aw_ops (by kernel_rfl) (fun K hK => ?_); simp (disch := first | omega | (simp only [lnS]; try omega)) [-getElem?_pos, -getElem?_neg, h0, hk, iv_set]; refine hK _ _ ?_; clear hK K)
  refine aw_seq ?_
  (refine aw_ops (by kernel_rfl) (fun K hK => ?_); simp (disch := first | omega | (simp only [lnS]; try omega)) [-getElem?_pos, -getElem?_neg, h31, hk, iv_set, hsd]; refine hK _ _ ?_; clear hK K)
  refine aw_seq ?_
  (refine aw_ops (by kernel_rfl) (fun K hK => ?_); simp (disch := first | omega | (simp only [lnS]; try omega)) [-getElem?_pos, -getElem?_neg, hlen, hts, hss]; refine hK _ _ ?_; clear hK K)
  (refine aw_ret ?_; simp (disch := first | omega | (simp only [lnS]; try omega)) [-getElem?_pos, -getElem?_neg, thenQ_ret, scopeQ_ret, inBlockQ_ret, RQ, resL, resV, hlen, hts])
end

section
open Go Go.RowKit
set_option linter.unusedVariables false
set_option linter.unusedSimpArgs false
set_option maxRecDepth 100000
set_option maxHeartbeats 4000000

/-- Two points, and a rung of the ladder. -/
def P4 : Type := Int × Int × Int × Int
def swp (s : Bool) (p : P4) : P4 := if s then (p.2.2.1, p.2.2.2, p.1, p.2.1) else p
def rng (u : Int) (p : P4) : P4 :=
  (mulM (mulM (addM p.1 p.2.1) (addM p.1 p.2.1)) (mulM (subM p.1 p.2.1) (subM p.1 p.2.1)),
   mulM (subM (mulM (addM p.1 p.2.1) (addM p.1 p.2.1)) (mulM (subM p.1 p.2.1) (subM p.1 p.2.1))) (addM (mulM (addM p.1 p.2.1) (addM p.1 p.2.1)) (mulM (subM (mulM (addM p.1 p.2.1) (addM p.1 p.2.1)) (mulM (subM p.1 p.2.1) (subM p.1 p.2.1))) 121665)),
   mulM (addM (mulM (subM p.2.2.1 p.2.2.2) (addM p.1 p.2.1)) (mulM (addM p.2.2.1 p.2.2.2) (subM p.1 p.2.1))) (addM (mulM (subM p.2.2.1 p.2.2.2) (addM p.1 p.2.1)) (mulM (addM p.2.2.1 p.2.2.2) (subM p.1 p.2.1))),
   mulM (mulM (subM (mulM (subM p.2.2.1 p.2.2.2) (addM p.1 p.2.1)) (mulM (addM p.2.2.1 p.2.2.2) (subM p.1 p.2.1))) (subM (mulM (subM p.2.2.1 p.2.2.2) (addM p.1 p.2.1)) (mulM (addM p.2.2.1 p.2.2.2) (subM p.1 p.2.1)))) u)
def lad (k : List Int) (u : Int) : Nat → P4
  | 0 => (1, 0, u, 1)
  | n + 1 => swp (sb k (254 - n)) (rng u (swp (sb k (254 - n)) (lad k u n)))
def El4 (p : P4) : Prop := El p.1 ∧ El p.2.1 ∧ El p.2.2.1 ∧ El p.2.2.2
theorem swp_el {p : P4} (h : El4 p) (s : Bool) : El4 (swp s p) := by
  obtain ⟨h1, h2, h3, h4⟩ := h
  cases s
  · exact ⟨h1, h2, h3, h4⟩
  · exact ⟨h3, h4, h1, h2⟩
theorem rng_el (u : Int) (p : P4) : El4 (rng u p) := ⟨mulM_el _ _, mulM_el _ _, mulM_el _ _, mulM_el _ _⟩
theorem el_1 : El 1 := by unfold El; omega
theorem el_0 : El 0 := by unfold El; omega
theorem lad_el (k : List Int) {u : Int} (hu : El u) : ∀ n, El4 (lad k u n)
  | 0 => ⟨el_1, el_0, hu, el_1⟩
  | n + 1 => swp_el (rng_el _ _) _
def climbM (k : List Int) (u : Int) : Int := mulM (lad k u 255).1 (invM (lad k u 255).2.1)
theorem climbM_el (k : List Int) (u : Int) : El (climbM k u) := mulM_el _ _
/-- A pair of points as a value. -/
def lo4 (p : P4) : List Value := qc p.1 p.2.1
def hi4 (p : P4) : List Value := qc p.2.2.1 p.2.2.2
theorem choose_4 (s : Bool) (p : P4) : VC Tryd.prog 25 #[.bool s, .agg (lo4 p).toArray, .agg (hi4 p).toArray] (.tuple #[.agg (lo4 (swp s p)).toArray, .agg (hi4 (swp s p)).toArray]) := by
  have := choose_p s p.1 p.2.1 p.2.2.1 p.2.2.2
  cases s <;> exact this
theorem rung_4 (H : AH) (hG : GP H) {u : Int} (hu : El u) {p : P4} (hp : El4 p) : AC Tryd.prog H.length gm 26 #[.agg (iv .u64 (wl u)).toArray, .agg (lo4 p).toArray, .agg (hi4 p).toArray] H (fun v' _ => v' = .tuple #[.agg (lo4 (rng u p)).toArray, .agg (hi4 (rng u p)).toArray]) :=
  rung_rc hG hu hp.1 hp.2.1 hp.2.2.1 hp.2.2.2 rfl rfl rfl rfl rfl rfl rfl rfl rfl rfl rfl rfl rfl rfl rfl rfl rfl
theorem lo_len (p : P4) : (lo4 p).length = 8 := qc_len _ _
theorem hi_len (p : P4) : (hi4 p).length = 8 := qc_len _ _
theorem lo_take (p : P4) : (lo4 p).take 8 = lo4 p := qc_take _ _
theorem hi_take (p : P4) : (hi4 p).take 8 = hi4 p := qc_take _ _
theorem lo_over (p q : P4) : setR (lo4 p) 0 (lo4 q) = lo4 q := qc_qc _ _ _ _
theorem hi_over (p q : P4) : setR (hi4 p) 0 (hi4 q) = hi4 q := qc_qc _ _ _ _
theorem lo_x (p : P4) : (lo4 p).take 4 = iv .u64 (wl p.1) := qc_x _ _
theorem lo_z (p : P4) : ((lo4 p).drop 4).take 4 = iv .u64 (wl p.2.1) := qc_z _ _
theorem lo_zero (q : P4) : setR (iv .u64 (zl 8)) 0 (lo4 q) = lo4 q := qc_zero _ _
theorem hi_zero (q : P4) : setR (iv .u64 (zl 8)) 0 (hi4 q) = hi4 q := qc_zero _ _
theorem p2_lo (p : P4) : plain2 (.agg (lo4 p).toArray) = true := pt_p2 _ _
theorem p2_hi (p : P4) : plain2 (.agg (hi4 p).toArray) = true := pt_p2 _ _
theorem pv_lo (p : P4) : plainV (.agg (lo4 p).toArray) = true := pt_plain _ _
theorem pv_hi (p : P4) : plainV (.agg (hi4 p).toArray) = true := pt_plain _ _
theorem start_lo (k : List Int) (u : Int) : setR (setR (iv .u64 (zl 8)) 0 (iv .u64 (wl 1))) 4 (iv .u64 (wl 0)) = lo4 (lad k u 0) := rfl
theorem start_hi (k : List Int) (u : Int) : setR (setR (iv .u64 (zl 8)) 0 (iv .u64 (wl u))) 4 (iv .u64 (wl 1)) = hi4 (lad k u 0) := rfl
theorem small_l {n : Int} (hn : 0 ≤ n ∧ n ≤ 4294967295) : VC Tryd.prog 13 #[.int .u32 n] (.agg (iv .u64 (wl n)).toArray) := small_vc hn
theorem inv_l (G : AH) (hG : GP G) {X : Int} (hX : El X) : AC Tryd.prog G.length gm 28 #[.agg (iv .u64 (wl X)).toArray] G (fun v' _ => v' = .agg (iv .u64 (wl (invM X))).toArray) := inverse_rc hG hX
attribute [local irreducible] wl addM subM mulM pM qc lo4 hi4 rng swp lad scl sb invM
attribute [local simp] wb_bool wb_undef with_lit XL_nil XL_cons XLc_val XLc_call step1_eq stepW_t stepW_f stepC_n stepC_s stepX_s stepX_n stepN_s calleeX xrecv oneV xop_eq xopR_s xopR_n wantedA_eq wantedG_n wantedG_s plain1_int plain1_bool plain1_string bits_i64 bits_u64 bits_u32 bits_u16 bits_u8 xeqA xagg xcmp xarr allK_iv num_iv calleeOf xread xeff xbin xint xnil xun xstr xload xconv xpart xfield xfieldAddr xindexAddr xindex bnd asInt? xslice xlen xmin xmax xbuild xfill xappend xapp2 xappstr xappmk xcap xcopy xcells eval_tmp eval_const put_at put_none fr0_at cells_agg cells_int cells_bool cells_string cells_ptr cells_slice notTuple tab iv_all hget_app hget_app0 hget_cons0 hget_cons set_app set_app0 setR setR_one QL_nil QL_cons QLc_val stepQ_t stepQ_f stepQC_n stepQC_s stepQX_s SL_nil SL_cons SLc_val stepS_t stepS_f ltT ltF leT leF eqT eqF ltTn ltFn leTn leFn eqTn eqFn beqT beqF bneT bneF wi64 wu64 wu32 wu16 wu8 tmodP tdivP hgetL hgetNe hgetEq setL nums_def nums_len Nat.succ_le_of_lt List.getElem?_cons_zero List.getElem?_cons_succ Option.getD_some Int.toNat_add Int.toNat_mul agM okM agB agI agS agP agL agA okB okI okS okP okSl okA
theorem climb_rc {H : AH} (hG : GP H) {k : List Int} (hk : k.length = 32) (hb : By k) {u : Int} (hu : El u) : AC Tryd.prog H.length gm 12 #[.agg (iv .u8 k).toArray, .agg (iv .u64 (wl u)).toArray] H (fun v' _ => v' = .agg (iv .u64 (wl (climbM k u))).toArray) := by
  have htk : (iv .u8 k).take 32 = iv .u8 k := List.take_of_length_le (by simp [hk])
  have hsl := scl_len k
  rw [hk] at hsl
  have hsb := scl_by hb
  have hbit := fun t (ht : t ≤ 254) => sb_scl hb hk ht
  have hts : (iv .u8 (scl k)).take 32 = iv .u8 (scl k) := List.take_of_length_le (by simp [hsl])
  have hss : setR (iv .u8 (zl 32)) 0 (iv .u8 (scl k)) = iv .u8 (scl k) := setR_all _ _ (by simp [hsl])
  have hsc := scalar_vc hk hb
  have s1 := small_l (n := 1) (by omega)
  have s0 := small_l (n := 0) (by omega)
  have d1 := start_lo k u
  have d2 := start_hi k u
  generalize scl k = sc at *
  refine ac_of_aw Tryd.func12 rfl Tryd.ntmps12 Tryd.results12 (by simp) ?_
  refine aw_seq ?_
  (refine aw_ops (by kernel_rfl) (fun K hK => ?_); simp (disch := first | omega | (simp only [lnS]; try omega)) [-getElem?_pos, -getElem?_neg]; refine hK _ _ ?_; clear hK K)
  refine aw_seq ?_
  refine aw_ops (by kernel_rfl) (fun K hK => ?_)
  simp (disch := first | omega | (simp only [lnS]; try omega)) [-getElem?_pos, -getElem?_neg, hk, htk]
  refine ⟨by kernel_rfl, ac_of_vc (by simp [pv_iv, pv_int, pv_bool, pv_string, pv_tup2, pv_tup3, iv_plain, p2_int, p2_bool, p2_string]) hsc ?_⟩
  try simp (disch := first | omega | (simp only [lnS]; try omega)) [-getElem?_pos, -getElem?_neg, hsl, hss]
  refine hK _ _ ?_; clear hK K
  refine aw_seq ?_
  refine aw_cut (fun α' H' => α' 3 = .pointer (some ⟨H.length + 1, 0, none⟩) ∧ α' 4 = .pointer (some ⟨H.length + 2, 0, none⟩) ∧ α' 5 = .pointer (some ⟨H.length + 3, 0, none⟩) ∧ α' 6 = .pointer (some ⟨H.length + 4, 0, none⟩) ∧ α' 7 = .pointer (some ⟨H.length + 5, 0, none⟩) ∧
    H' = H ++ [some ⟨iv .u8 k, 23, none⟩, some ⟨iv .u64 (wl u), 36, none⟩, some ⟨iv .u64 (zl 4), 36, none⟩, some ⟨iv .u8 sc, 23, none⟩, some ⟨lo4 (lad k u 0), 46, none⟩, some ⟨hi4 (lad k u 0), 46, none⟩]) ?_ ?_
  · (refine aw_planL [] [0, 1, 2, 3, 4, 5, 6, 7] [3, 5] 2 [([], [], [[8, 9]]), ([5], [17], [[5, 8, 9], [8, 5, 9]]), ([3, 5], [15, 17], [[3, 5, 8, 9], [3, 8, 5, 9], [8, 3, 5, 9]])] (by kernel_rfl) (by kernel_rfl) (by kernel_rfl) (fun K hK => ?_)); simp only [sel, List.getElem?_cons_succ, List.getElem?_cons_zero]; simp (disch := first | omega | (simp only [lnS]; try omega)) [-getElem?_pos, -getElem?_neg, take_wl, d1, d2, PL_nil, plainB_lit, PL_cons, PLc_val, PLc_new, stepP_t, stepP_f, stepPC_n, stepPC_s, stepPX_s, stepPX_n, stepPV_n, stepPV_s, stepPA_t, stepPA_c, stepPA_l, stepPN_s, allocOp, reloc_sl, reloc_ptr, List.map_cons, List.map_nil, List.nil_append, List.append_assoc, List.cons_append, Nat.add_assoc]
    refine PLc_call (by kernel_rfl) (fun L hL => ac_of_vc (by simp [pv_iv, pv_int, pv_bool, pv_string, pv_tup2, pv_tup3, iv_plain, p2_int, p2_bool, p2_string]) s1 rfl) (by simp [pv_iv, pv_int, pv_bool, pv_string, pv_tup2, pv_tup3, iv_plain, p2_int, p2_bool, p2_string]) ?_
    try simp (disch := first | omega | (simp only [lnS]; try omega)) [-getElem?_pos, -getElem?_neg, take_wl, d1, d2, PL_nil, plainB_lit, PL_cons, PLc_val, PLc_new, stepP_t, stepP_f, stepPC_n, stepPC_s, stepPX_s, stepPX_n, stepPV_n, stepPV_s, stepPA_t, stepPA_c, stepPA_l, stepPN_s, allocOp, reloc_sl, reloc_ptr, List.map_cons, List.map_nil, List.nil_append, List.append_assoc, List.cons_append, Nat.add_assoc]
    refine PLc_call (by kernel_rfl) (fun L hL => ac_of_vc (by simp [pv_iv, pv_int, pv_bool, pv_string, pv_tup2, pv_tup3, iv_plain, p2_int, p2_bool, p2_string]) s0 rfl) (by simp [pv_iv, pv_int, pv_bool, pv_string, pv_tup2, pv_tup3, iv_plain, p2_int, p2_bool, p2_string]) ?_
    try simp (disch := first | omega | (simp only [lnS]; try omega)) [-getElem?_pos, -getElem?_neg, take_wl, d1, d2, PL_nil, plainB_lit, PL_cons, PLc_val, PLc_new, stepP_t, stepP_f, stepPC_n, stepPC_s, stepPX_s, stepPX_n, stepPV_n, stepPV_s, stepPA_t, stepPA_c, stepPA_l, stepPN_s, allocOp, reloc_sl, reloc_ptr, List.map_cons, List.map_nil, List.nil_append, List.append_assoc, List.cons_append, Nat.add_assoc]
    refine PLc_call (by kernel_rfl) (fun L hL => ac_of_vc (by simp [pv_iv, pv_int, pv_bool, pv_string, pv_tup2, pv_tup3, iv_plain, p2_int, p2_bool, p2_string]) s1 rfl) (by simp [pv_iv, pv_int, pv_bool, pv_string, pv_tup2, pv_tup3, iv_plain, p2_int, p2_bool, p2_string]) ?_
    try simp (disch := first | omega | (simp only [lnS]; try omega)) [-getElem?_pos, -getElem?_neg, take_wl, d1, d2, PL_nil, plainB_lit, PL_cons, PLc_val, PLc_new, stepP_t, stepP_f, stepPC_n, stepPC_s, stepPX_s, stepPX_n, stepPV_n, stepPV_s, stepPA_t, stepPA_c, stepPA_l, stepPN_s, allocOp, reloc_sl, reloc_ptr, List.map_cons, List.map_nil, List.nil_append, List.append_assoc, List.cons_append, Nat.add_assoc]
    simp only [List.mem_cons, List.not_mem_nil, or_false, forall_eq_or_imp, forall_eq, sel, List.getElem?_cons_succ, List.getElem?_cons_zero]; simp (disch := first | omega | (simp only [lnS]; try omega)) [-getElem?_pos, -getElem?_neg, take_wl, d1, d2, lo_len, hi_len, lo_zero, hi_zero, mixF_at, mixF_nil, List.contains_cons, List.contains_nil]
    repeat' (first | apply And.intro | refine hK _ _ ?_)
    all_goals clear hK K
    all_goals first | rfl | (simp [put_at, put_none, fr0_at, mixF_at, List.contains_cons]; done)
  rintro α H' ⟨h3, h4, h5, h6, h7, rfl⟩
  clear d1 d2 s1 s0 hsc
  have lel := lad_el k hu
  have l1 : lad k u 0 = lad k u 0 := rfl
  refine aw_seq ?_
  refine aw_seq ?_
  (refine aw_ops (by kernel_rfl) (fun K hK => ?_); simp (disch := first | omega | (simp only [lnS]; try omega)) [-getElem?_pos, -getElem?_neg]; refine hK _ _ ?_; clear hK K)
  refine aw_block ?_
  refine aw_loop (fun q α H' => ∃ n : Nat, n + q = 255 ∧ α 8 = .int .i64 ((254 : Int) - (n : Int)) ∧ α 3 = .pointer (some ⟨H.length + 1, 0, none⟩) ∧ α 4 = .pointer (some ⟨H.length + 2, 0, none⟩) ∧ α 5 = .pointer (some ⟨H.length + 3, 0, none⟩) ∧ α 6 = .pointer (some ⟨H.length + 4, 0, none⟩) ∧ α 7 = .pointer (some ⟨H.length + 5, 0, none⟩) ∧
    H' = H ++ [some ⟨iv .u8 k, 23, none⟩, some ⟨iv .u64 (wl u), 36, none⟩, some ⟨iv .u64 (zl 4), 36, none⟩, some ⟨iv .u8 sc, 23, none⟩, some ⟨lo4 (lad k u n), 46, none⟩, some ⟨hi4 (lad k u n), 46, none⟩]) 255 ?_ ?_
  · exact ⟨0, by omega, by (first | (simp [put_at, put_none, fr0_at]; done) | rfl), by (first | (simp [put_at, put_none, fr0_at, h3]; done) | rfl), by (first | (simp [put_at, put_none, fr0_at, h4]; done) | rfl), by (first | (simp [put_at, put_none, fr0_at, h5]; done) | rfl), by (first | (simp [put_at, put_none, fr0_at, h6]; done) | rfl), by (first | (simp [put_at, put_none, fr0_at, h7]; done) | rfl), rfl⟩
  clear h3 h4 h5 h6 h7
  rintro q α H' ⟨n, hnq, h8, h3, h4, h5, h6, h7, rfl⟩
  refine aw_seq ?_
  refine aw_seq ?_
  by_cases hn : n < 255
  · obtain ⟨t, ht⟩ : ∃ t : Nat, t = 254 - n := ⟨_, rfl⟩
    have ht' : (254 : Int) - (n : Int) = (t : Int) := by omega
    rw [ht'] at h8
    have hsn : lad k u (n + 1) = swp (sb k t) (rng u (swp (sb k t) (lad k u n))) := by rw [lad, ← ht]
    have lp := lel n
    have lq := swp_el lp (sb k t)
    generalize lad k u n = p at *
    (refine aw_ops (by kernel_rfl) (fun K hK => ?_); simp (disch := first | omega | (simp only [lnS]; try omega)) [-getElem?_pos, -getElem?_neg, h8]; refine hK _ _ ?_; clear hK K)
    refine aw_t (by (first | (simp [eval_tmp, put_at]; done) | (simp [eval_tmp, put_at]; omega))) (by kernel_rfl) ?_
    refine aw_skip ?_
    refine aw_seq ?_
    refine aw_block ?_
    refine aw_seq ?_
    refine aw_cut (fun α' H' => α' 9 = .bool (sb k t) ∧ α' 8 = .int .i64 (t : Nat) ∧ α' 3 = .pointer (some ⟨H.length + 1, 0, none⟩) ∧ α' 4 = .pointer (some ⟨H.length + 2, 0, none⟩) ∧ α' 5 = .pointer (some ⟨H.length + 3, 0, none⟩) ∧ α' 6 = .pointer (some ⟨H.length + 4, 0, none⟩) ∧ α' 7 = .pointer (some ⟨H.length + 5, 0, none⟩) ∧
      H' = H ++ [some ⟨iv .u8 k, 23, none⟩, some ⟨iv .u64 (wl u), 36, none⟩, some ⟨iv .u64 (zl 4), 36, none⟩, some ⟨iv .u8 sc, 23, none⟩, some ⟨lo4 p, 46, none⟩, some ⟨hi4 p, 46, none⟩]) ?_ ?_
    · have hb9 := hbit t (by omega)
      obtain ⟨q8, hq8⟩ : ∃ q8, q8 = t / 8 := ⟨_, rfl⟩
      obtain ⟨e8, he8⟩ : ∃ e8, e8 = t % 8 := ⟨_, rfl⟩
      have hq8' : (t : Int) / 8 = (q8 : Int) := by omega
      have he8' : (t : Int) % 8 = (e8 : Int) := by omega
      rw [← hq8, ← he8] at hb9
      have hg : (iv .u8 sc)[q8]? = some (.int .u8 (sc.getD q8 0)) := iv_getN _ _ _ (by omega)
      have hd := hsb.get q8
      generalize sc.getD q8 0 = d at *
      have hp2 : (0 : Int) < 2 ^ e8 := Int.pow_pos (by omega)
      obtain ⟨y, hy⟩ : ∃ y, y = d / 2 ^ e8 := ⟨_, rfl⟩
      have hf : d.fdiv (2 ^ e8) = y := by rw [hy]; exact Int.fdiv_eq_ediv_of_nonneg _ (Int.le_of_lt hp2)
      have hyb : 0 ≤ y ∧ y ≤ 255 := by
        rw [hy]
        exact ⟨Int.ediv_nonneg hd.1 (Int.le_of_lt hp2), Int.le_trans (Int.ediv_le_self _ hd.1) hd.2⟩
      have ha : bitsOf .and .u8 y 1 = y % 2 := by
        obtain ⟨b, hb2⟩ : ∃ b : Nat, (b : Int) = y := ⟨y.toNat, by omega⟩
        rw [← hb2]
        exact and1 b (by omega)
      rw [← hy] at hb9
      clear hy
      by_cases hy2 : y % 2 = 1
      · rw [← hb9, decide_eq_true hy2]
        (refine aw_ops (by kernel_rfl) (fun K hK => ?_); simp (disch := first | omega | (simp only [lnS]; try omega)) [-getElem?_pos, -getElem?_neg, h8, h5, hq8', he8', hg, hsl, hf, ha, hy2]; refine hK _ _ ?_; clear hK K)
        exact ⟨by (first | (simp [put_at, put_none, fr0_at]; done) | rfl), by (first | (simp [put_at, put_none, fr0_at, h8]; done) | rfl), by (first | (simp [put_at, put_none, fr0_at, h3]; done) | rfl), by (first | (simp [put_at, put_none, fr0_at, h4]; done) | rfl), by (first | (simp [put_at, put_none, fr0_at, h5]; done) | rfl), by (first | (simp [put_at, put_none, fr0_at, h6]; done) | rfl), by (first | (simp [put_at, put_none, fr0_at, h7]; done) | rfl), rfl⟩
      · rw [← hb9, decide_eq_false hy2]
        (refine aw_ops (by kernel_rfl) (fun K hK => ?_); simp (disch := first | omega | (simp only [lnS]; try omega)) [-getElem?_pos, -getElem?_neg, h8, h5, hq8', he8', hg, hsl, hf, ha, hy2]; refine hK _ _ ?_; clear hK K)
        exact ⟨by (first | (simp [put_at, put_none, fr0_at]; done) | rfl), by (first | (simp [put_at, put_none, fr0_at, h8]; done) | rfl), by (first | (simp [put_at, put_none, fr0_at, h3]; done) | rfl), by (first | (simp [put_at, put_none, fr0_at, h4]; done) | rfl), by (first | (simp [put_at, put_none, fr0_at, h5]; done) | rfl), by (first | (simp [put_at, put_none, fr0_at, h6]; done) | rfl), by (first | (simp [put_at, put_none, fr0_at, h7]; done) | rfl), rfl⟩
    clear h8 h3 h4 h5 h6 h7
    rintro α H' ⟨h9, h8, h3, h4, h5, h6, h7, rfl⟩
    generalize sb k t = s at *
    have c1 := choose_4 s p
    refine aw_seq ?_
    refine aw_ops (by kernel_rfl) (fun K hK => ?_)
    simp (disch := first | omega | (simp only [lnS]; try omega)) [-getElem?_pos, -getElem?_neg, h9, h6, h7, lo_len, hi_len, lo_take, hi_take, lo_over, hi_over, lo_x, lo_z, take_wl]
    refine ⟨by kernel_rfl, ac_of_vc (by simp [pv_bool, pv_lo, pv_hi, pv_tup2, p2_lo, p2_hi]) c1 ?_⟩
    try simp (disch := first | omega | (simp only [lnS]; try omega)) [-getElem?_pos, -getElem?_neg, h9, h6, h7, lo_len, hi_len, lo_take, hi_take, lo_over, hi_over, lo_x, lo_z, take_wl]
    refine hK _ _ ?_; clear hK K
    generalize hp1 : swp s p = p1 at *
    refine aw_seq ?_
    refine aw_ops (by kernel_rfl) (fun K hK => ?_)
    simp (disch := first | omega | (simp only [lnS]; try omega)) [-getElem?_pos, -getElem?_neg, h3, h6, h7, lo_len, hi_len, lo_take, hi_take, lo_over, hi_over, lo_x, lo_z, take_wl]
    refine ⟨by kernel_rfl, ac_of_rc (rung_4 _ (hG.app _) hu lq) (by simp [pv_tup2, p2_lo, p2_hi]) ?_⟩
    try simp (disch := first | omega | (simp only [lnS]; try omega)) [-getElem?_pos, -getElem?_neg, h3, h6, h7, lo_len, hi_len, lo_take, hi_take, lo_over, hi_over, lo_x, lo_z, take_wl]
    refine hK _ _ ?_; clear hK K
    have c2 := choose_4 s (rng u p1)
    generalize hp2' : rng u p1 = p2 at *
    refine aw_ops (by kernel_rfl) (fun K hK => ?_)
    simp (disch := first | omega | (simp only [lnS]; try omega)) [-getElem?_pos, -getElem?_neg, h9, h6, h7, lo_len, hi_len, lo_take, hi_take, lo_over, hi_over, lo_x, lo_z, take_wl]
    refine ⟨by kernel_rfl, ac_of_vc (by simp [pv_bool, pv_lo, pv_hi, pv_tup2, p2_lo, p2_hi]) c2 ?_⟩
    try simp (disch := first | omega | (simp only [lnS]; try omega)) [-getElem?_pos, -getElem?_neg, h9, h6, h7, lo_len, hi_len, lo_take, hi_take, lo_over, hi_over, lo_x, lo_z, take_wl]
    refine hK _ _ ?_; clear hK K
    (refine aw_ops (by kernel_rfl) (fun K hK => ?_); simp (disch := first | omega | (simp only [lnS]; try omega)) [-getElem?_pos, -getElem?_neg, h8]; refine hK _ _ ?_; clear hK K)
    exact ⟨q - 1, by omega, n + 1, by omega, by rw [show (254 : Int) - ((n + 1 : Nat) : Int) = (t : Int) - 1 by omega]; (first | (simp [put_at, put_none, fr0_at]; done) | rfl), by (first | (simp [put_at, put_none, fr0_at, h3]; done) | rfl), by (first | (simp [put_at, put_none, fr0_at, h4]; done) | rfl), by (first | (simp [put_at, put_none, fr0_at, h5]; done) | rfl), by (first | (simp [put_at, put_none, fr0_at, h6]; done) | rfl), by (first | (simp [put_at, put_none, fr0_at, h7]; done) | rfl), by rw [hsn]⟩
  · obtain rfl : n = 255 := by omega
    (refine aw_ops (by kernel_rfl) (fun K hK => ?_); simp (disch := first | omega | (simp only [lnS]; try omega)) [-getElem?_pos, -getElem?_neg, h8]; refine hK _ _ ?_; clear hK K)
    refine aw_f (by (first | (simp [eval_tmp, put_at]; done) | (simp [eval_tmp, put_at]; omega))) (by kernel_rfl) ?_
    refine aw_exit ?_
    have lp := lel 255
    have hcl : climbM k u = mulM (lad k u 255).1 (invM (lad k u 255).2.1) := rfl
    rw [hcl]
    generalize lad k u 255 = p at *
    have iel : El (invM p.2.1) := invM_el _
    refine aw_seq ?_
    (refine aw_plan [] [] [0, 1, 2, 3, 4, 5, 6] 7 1 (by kernel_rfl) (by kernel_rfl) (by kernel_rfl) (fun K hK => ?_)); simp only [sel, List.getElem?_cons_succ, List.getElem?_cons_zero, List.drop_succ_cons, List.drop_zero]; simp (disch := first | omega | (simp only [lnS]; try omega)) [-getElem?_pos, -getElem?_neg, h6, h4, lo_len, hi_len, lo_take, hi_take, lo_over, hi_over, lo_x, lo_z, take_wl, bs1, set_zw, PL_nil, plainB_lit, PL_cons, PLc_val, PLc_new, stepP_t, stepP_f, stepPC_n, stepPC_s, stepPX_s, stepPX_n, stepPV_n, stepPV_s, stepPA_t, stepPA_c, stepPA_l, stepPN_s, allocOp, reloc_sl, reloc_ptr, List.map_cons, List.map_nil, List.nil_append, List.append_assoc, List.cons_append, Nat.add_assoc]
    refine PLc_call (v := .agg (iv .u64 (wl (invM p.2.1))).toArray) (by kernel_rfl) (fun L hL => inv_l _ ((hG.app _).app L) lp.2.1) (by simp [pv_iv, pv_int, pv_bool, pv_string, pv_tup2, pv_tup3, iv_plain, p2_int, p2_bool, p2_string]) ?_
    try simp (disch := first | omega | (simp only [lnS]; try omega)) [-getElem?_pos, -getElem?_neg, h6, h4, lo_len, hi_len, lo_take, hi_take, lo_over, hi_over, lo_x, lo_z, take_wl, bs1, set_zw, PL_nil, plainB_lit, PL_cons, PLc_val, PLc_new, stepP_t, stepP_f, stepPC_n, stepPC_s, stepPX_s, stepPX_n, stepPV_n, stepPV_s, stepPA_t, stepPA_c, stepPA_l, stepPN_s, allocOp, reloc_sl, reloc_ptr, List.map_cons, List.map_nil, List.nil_append, List.append_assoc, List.cons_append, Nat.add_assoc]
    refine PLc_call (v := .agg (iv .u64 (wl (mulM p.1 (invM p.2.1)))).toArray) (by kernel_rfl) (fun L hL => cT _ _ lp.1 iel ((hG.app _).app L) (shown_get 1 (j := 0) (hL _ (by simp)) (by simp) rfl)) (by simp [pv_iv, pv_int, pv_bool, pv_string, pv_tup2, pv_tup3, iv_plain, p2_int, p2_bool, p2_string]) ?_
    try simp (disch := first | omega | (simp only [lnS]; try omega)) [-getElem?_pos, -getElem?_neg, h6, h4, lo_len, hi_len, lo_take, hi_take, lo_over, hi_over, lo_x, lo_z, take_wl, bs1, set_zw, PL_nil, plainB_lit, PL_cons, PLc_val, PLc_new, stepP_t, stepP_f, stepPC_n, stepPC_s, stepPX_s, stepPX_n, stepPV_n, stepPV_s, stepPA_t, stepPA_c, stepPA_l, stepPN_s, allocOp, reloc_sl, reloc_ptr, List.map_cons, List.map_nil, List.nil_append, List.append_assoc, List.cons_append, Nat.add_assoc]
    refine hK _ _ ?_; clear hK K
    (refine aw_ret ?_; simp (disch := first | omega | (simp only [lnS]; try omega)) [-getElem?_pos, -getElem?_neg, thenQ_ret, scopeQ_ret, inBlockQ_ret, RQ, resL, resV, h4, take_wl])
end

section
open Go Go.RowKit
set_option linter.unusedVariables false
set_option linter.unusedSimpArgs false
set_option maxRecDepth 100000
set_option maxHeartbeats 4000000
def invC (X : Int) : Nat → Int
  | 0 => 1
  | n + 1 => if n == 252 || n == 250 then mulM (invC X n) (invC X n) else mulM (mulM (invC X n) (invC X n)) X
theorem invC_pw (X : Int) : ∀ n, invC X n = pwX X (eI n)
  | 0 => (pwX_zero X).symm
  | n + 1 => by
    unfold invC eI
    rw [invC_pw X n, pwX_sq, pwX_mul]
    cases (n == 252 || n == 250) <;> rfl
def climbC (k : List Int) (u : Int) : Int := mulM (lad k u 255).1 (invC (lad k u 255).2.1 255)
theorem climbC_is (k : List Int) (u : Int) : climbM k u = climbC k u := by
  unfold climbM climbC invM
  rw [invC_pw]
def kA : List Int := [1, 0, 0, 0, 0, 0, 0, 0, 0, 0, 0, 0, 0, 0, 0, 0, 0, 0, 0, 0, 0, 0, 0, 0, 0, 0, 0, 0, 0, 0, 0, 0]
def kB : List Int := [0, 0, 7, 0, 0, 0, 0, 0, 0, 0, 0, 0, 0, 0, 0, 0, 0, 0, 0, 0, 0, 0, 0, 0, 0, 0, 0, 0, 0, 0, 0, 0]
theorem kA_by : By kA := by intro x hx; revert x; decide
theorem kB_by : By kB := by intro x hx; revert x; decide
theorem c0 : climbC kA 0 = 0 := by decide +kernel
theorem c1 : climbC kA (climbC kB 9) ≠ 0 := by decide +kernel
theorem c2 : climbC kB (climbC kA 9) = climbC kA (climbC kB 9) := by decide +kernel
theorem v0 : climbM kA 0 = 0 := by rw [climbC_is]; exact c0
theorem v1 : climbM kA (climbM kB 9) ≠ 0 := by rw [climbC_is, climbC_is]; exact c1
theorem v2 : climbM kB (climbM kA 9) = climbM kA (climbM kB 9) := by rw [climbC_is, climbC_is, climbC_is kA (climbM kB 9), climbC_is kB 9]; exact c2
theorem bytes_0 : bytesM 0 = zl 32 := by decide +kernel
theorem from_0 : fromM (zl 32) = 0 := by decide +kernel
end

section
open Go Go.RowKit
set_option linter.unusedVariables false
set_option linter.unusedSimpArgs false
set_option maxRecDepth 100000
set_option maxHeartbeats 4000000

/-- What two agree on, and whether it is anything. -/
def agrL (k p : List Int) : List Int := bytesM (climbM k (fromM p))
def agrB (k p : List Int) : Bool := !decide (climbM k (fromM p) = 0)
def puL (k : List Int) : List Int := bytesM (climbM k 9)
theorem agrL_len (k p : List Int) : (agrL k p).length = 32 := bytesM_len _
theorem puL_len (k : List Int) : (puL k).length = 32 := bytesM_len _
theorem agrL_by (k p : List Int) : By (agrL k p) := bytesM_by _
theorem puL_by (k : List Int) : By (puL k) := bytesM_by _
theorem from_pu (k : List Int) : fromM (puL k) = climbM k 9 := from_bytes (climbM_el _ _)
theorem pv_key (l : List Int) (b : Bool) : plainV (.tuple #[.agg (iv .u8 l).toArray, .bool b]) = true := by
  have h := iv_all .u8 l
  simp only [pv_tup2, plain2, Bool.and_eq_true]
  exact ⟨by simpa using h, rfl⟩
theorem el_9 : El 9 := by unfold El; omega
theorem bytes_l {X : Int} (hX : El X) : VC Tryd.prog 14 #[.agg (iv .u64 (wl X)).toArray] (.agg (iv .u8 (bytesM X)).toArray) := bytes_vc hX.big
theorem is_l {X Y : Int} (hX : El X) (hY : El Y) : VC Tryd.prog 23 #[.agg (iv .u64 (wl X)).toArray, .agg (iv .u64 (wl Y)).toArray] (.bool (decide (X = Y))) := is_vc hX.big hY.big
theorem from_l (G : AH) (hG : GP G) {k : List Int} (hk : k.length = 32) (hb : By k) : AC Tryd.prog G.length gm 22 #[.agg (iv .u8 k).toArray] G (fun v' _ => v' = .agg (iv .u64 (wl (fromM k))).toArray) := from_rc hG k hk hb
attribute [local irreducible] wl addM subM mulM pM climbM fromM bytesM lad sb
attribute [local simp] wb_bool wb_undef with_lit XL_nil XL_cons XLc_val XLc_call step1_eq stepW_t stepW_f stepC_n stepC_s stepX_s stepX_n stepN_s calleeX xrecv oneV xop_eq xopR_s xopR_n wantedA_eq wantedG_n wantedG_s plain1_int plain1_bool plain1_string bits_i64 bits_u64 bits_u32 bits_u16 bits_u8 xeqA xagg xcmp xarr allK_iv num_iv calleeOf xread xeff xbin xint xnil xun xstr xload xconv xpart xfield xfieldAddr xindexAddr xindex bnd asInt? xslice xlen xmin xmax xbuild xfill xappend xapp2 xappstr xappmk xcap xcopy xcells eval_tmp eval_const put_at put_none fr0_at cells_agg cells_int cells_bool cells_string cells_ptr cells_slice notTuple tab iv_all hget_app hget_app0 hget_cons0 hget_cons set_app set_app0 setR setR_one QL_nil QL_cons QLc_val stepQ_t stepQ_f stepQC_n stepQC_s stepQX_s SL_nil SL_cons SLc_val stepS_t stepS_f ltT ltF leT leF eqT eqF ltTn ltFn leTn leFn eqTn eqFn beqT beqF bneT bneF wi64 wu64 wu32 wu16 wu8 tmodP tdivP hgetL hgetNe hgetEq setL nums_def nums_len Nat.succ_le_of_lt List.getElem?_cons_zero List.getElem?_cons_succ Option.getD_some Int.toNat_add Int.toNat_mul agM okM agB agI agS agP agL agA okB okI okS okP okSl okA
theorem public_rc {H : AH} (hG : GP H) {k : List Int} (hk : k.length = 32) (hb : By k) : AC Tryd.prog H.length gm 9 #[.agg (iv .u8 k).toArray] H (fun v' _ => v' = .agg (iv .u8 (puL k)).toArray) := by
  have htk : (iv .u8 k).take 32 = iv .u8 k := List.take_of_length_le (by simp [hk])
  have s9 := small_l (n := 9) (by omega)
  have hbl := bytesM_len (climbM k 9)
  have hbt := bytes_l (climbM_el k 9)
  have htb : (iv .u8 (bytesM (climbM k 9))).take 32 = iv .u8 (bytesM (climbM k 9)) := List.take_of_length_le (by simp [hbl])
  have hss : setR (iv .u8 (zl 32)) 0 (iv .u8 (bytesM (climbM k 9))) = iv .u8 (bytesM (climbM k 9)) := setR_all _ _ (by simp [hbl])
  unfold puL
  refine ac_of_aw Tryd.func9 rfl Tryd.ntmps9 Tryd.results9 (by simp) ?_
  refine aw_seq ?_
  (refine aw_ops (by kernel_rfl) (fun K hK => ?_); simp (disch := first | omega | (simp only [lnS]; try omega)) [-getElem?_pos, -getElem?_neg]; refine hK _ _ ?_; clear hK K)
  refine aw_seq ?_
  (refine aw_plan [] [] [0, 1, 2, 3] 4 1 (by kernel_rfl) (by kernel_rfl) (by kernel_rfl) (fun K hK => ?_)); simp only [sel, List.getElem?_cons_succ, List.getElem?_cons_zero, List.drop_succ_cons, List.drop_zero]; simp (disch := first | omega | (simp only [lnS]; try omega)) [-getElem?_pos, -getElem?_neg, hk, htk, take_wl, htb, hss, PL_nil, plainB_lit, PL_cons, PLc_val, PLc_new, stepP_t, stepP_f, stepPC_n, stepPC_s, stepPX_s, stepPX_n, stepPV_n, stepPV_s, stepPA_t, stepPA_c, stepPA_l, stepPN_s, allocOp, reloc_sl, reloc_ptr, List.map_cons, List.map_nil, List.nil_append, List.append_assoc, List.cons_append, Nat.add_assoc]
  refine PLc_call (by kernel_rfl) (fun L hL => ac_of_vc (by simp [pv_iv, pv_int, pv_bool, pv_string, pv_tup2, pv_tup3, iv_plain, p2_int, p2_bool, p2_string]) s9 rfl) (by simp [pv_iv, pv_int, pv_bool, pv_string, pv_tup2, pv_tup3, iv_plain, p2_int, p2_bool, p2_string]) ?_
  try simp (disch := first | omega | (simp only [lnS]; try omega)) [-getElem?_pos, -getElem?_neg, hk, htk, take_wl, htb, hss, PL_nil, plainB_lit, PL_cons, PLc_val, PLc_new, stepP_t, stepP_f, stepPC_n, stepPC_s, stepPX_s, stepPX_n, stepPV_n, stepPV_s, stepPA_t, stepPA_c, stepPA_l, stepPN_s, allocOp, reloc_sl, reloc_ptr, List.map_cons, List.map_nil, List.nil_append, List.append_assoc, List.cons_append, Nat.add_assoc]
  refine PLc_call (by kernel_rfl) (fun L hL => climb_rc ((hG.app _).app L) hk hb el_9) (by simp [pv_iv, pv_int, pv_bool, pv_string, pv_tup2, pv_tup3, iv_plain, p2_int, p2_bool, p2_string]) ?_
  try simp (disch := first | omega | (simp only [lnS]; try omega)) [-getElem?_pos, -getElem?_neg, hk, htk, take_wl, htb, hss, PL_nil, plainB_lit, PL_cons, PLc_val, PLc_new, stepP_t, stepP_f, stepPC_n, stepPC_s, stepPX_s, stepPX_n, stepPV_n, stepPV_s, stepPA_t, stepPA_c, stepPA_l, stepPN_s, allocOp, reloc_sl, reloc_ptr, List.map_cons, List.map_nil, List.nil_append, List.append_assoc, List.cons_append, Nat.add_assoc]
  refine PLc_call (by kernel_rfl) (fun L hL => ac_of_vc (by simp [pv_iv, pv_int, pv_bool, pv_string, pv_tup2, pv_tup3, iv_plain, p2_int, p2_bool, p2_string]) hbt rfl) (by simp [pv_iv, pv_int, pv_bool, pv_string, pv_tup2, pv_tup3, iv_plain, p2_int, p2_bool, p2_string]) ?_
  try simp (disch := first | omega | (simp only [lnS]; try omega)) [-getElem?_pos, -getElem?_neg, hk, htk, take_wl, htb, hss, PL_nil, plainB_lit, PL_cons, PLc_val, PLc_new, stepP_t, stepP_f, stepPC_n, stepPC_s, stepPX_s, stepPX_n, stepPV_n, stepPV_s, stepPA_t, stepPA_c, stepPA_l, stepPN_s, allocOp, reloc_sl, reloc_ptr, List.map_cons, List.map_nil, List.nil_append, List.append_assoc, List.cons_append, Nat.add_assoc]
  refine hK _ _ ?_; clear hK K
  (refine aw_ret ?_; simp (disch := first | omega | (simp only [lnS]; try omega)) [-getElem?_pos, -getElem?_neg, thenQ_ret, scopeQ_ret, inBlockQ_ret, RQ, resL, resV, htb])
theorem agree_rc {H : AH} (hG : GP H) {k p : List Int} (hk : k.length = 32) (hb : By k) (hp : p.length = 32) (hpb : By p) : AC Tryd.prog H.length gm 11 #[.agg (iv .u8 k).toArray, .agg (iv .u8 p).toArray] H (fun v' _ => v' = .tuple #[.agg (iv .u8 (agrL k p)).toArray, .bool (agrB k p)]) := by
  have htk : (iv .u8 k).take 32 = iv .u8 k := List.take_of_length_le (by simp [hk])
  have htp : (iv .u8 p).take 32 = iv .u8 p := List.take_of_length_le (by simp [hp])
  have s0 := small_l (n := 0) (by omega)
  have hfr := fun G hG => from_l G hG hp hpb
  have hcl := fun (G : AH) hG => climb_rc (H := G) hG hk hb (fromM_el p)
  have hEl := climbM_el k (fromM p)
  unfold agrL agrB
  generalize climbM k (fromM p) = X at *
  have hbl := bytesM_len X
  have hbt := bytes_l hEl
  have his := is_l hEl el_0
  have hz0 := bytes_0
  have htb : (iv .u8 (bytesM X)).take 32 = iv .u8 (bytesM X) := List.take_of_length_le (by simp [hbl])
  have hss : setR (iv .u8 (zl 32)) 0 (iv .u8 (bytesM X)) = iv .u8 (bytesM X) := setR_all _ _ (by simp [hbl])
  refine ac_of_aw Tryd.func11 rfl Tryd.ntmps11 Tryd.results11 (by simp) ?_
  refine aw_seq ?_
  (refine aw_ops (by kernel_rfl) (fun K hK => ?_); simp (disch := first | omega | (simp only [lnS]; try omega)) [-getElem?_pos, -getElem?_neg]; refine hK _ _ ?_; clear hK K)
  refine aw_seq ?_
  (refine aw_plan [] [] [0, 1, 2, 3, 4] 5 1 (by kernel_rfl) (by kernel_rfl) (by kernel_rfl) (fun K hK => ?_)); simp only [sel, List.getElem?_cons_succ, List.getElem?_cons_zero, List.drop_succ_cons, List.drop_zero]; simp (disch := first | omega | (simp only [lnS]; try omega)) [-getElem?_pos, -getElem?_neg, hk, hp, htk, htp, take_wl, set_zw, PL_nil, plainB_lit, PL_cons, PLc_val, PLc_new, stepP_t, stepP_f, stepPC_n, stepPC_s, stepPX_s, stepPX_n, stepPV_n, stepPV_s, stepPA_t, stepPA_c, stepPA_l, stepPN_s, allocOp, reloc_sl, reloc_ptr, List.map_cons, List.map_nil, List.nil_append, List.append_assoc, List.cons_append, Nat.add_assoc]
  refine PLc_call (by kernel_rfl) (fun L hL => hfr _ ((hG.app _).app L)) (by simp [pv_iv, pv_int, pv_bool, pv_string, pv_tup2, pv_tup3, iv_plain, p2_int, p2_bool, p2_string]) ?_
  try simp (disch := first | omega | (simp only [lnS]; try omega)) [-getElem?_pos, -getElem?_neg, hk, hp, htk, htp, take_wl, set_zw, PL_nil, plainB_lit, PL_cons, PLc_val, PLc_new, stepP_t, stepP_f, stepPC_n, stepPC_s, stepPX_s, stepPX_n, stepPV_n, stepPV_s, stepPA_t, stepPA_c, stepPA_l, stepPN_s, allocOp, reloc_sl, reloc_ptr, List.map_cons, List.map_nil, List.nil_append, List.append_assoc, List.cons_append, Nat.add_assoc]
  refine PLc_call (by kernel_rfl) (fun L hL => hcl _ ((hG.app _).app L)) (by simp [pv_iv, pv_int, pv_bool, pv_string, pv_tup2, pv_tup3, iv_plain, p2_int, p2_bool, p2_string]) ?_
  try simp (disch := first | omega | (simp only [lnS]; try omega)) [-getElem?_pos, -getElem?_neg, hk, hp, htk, htp, take_wl, set_zw, PL_nil, plainB_lit, PL_cons, PLc_val, PLc_new, stepP_t, stepP_f, stepPC_n, stepPC_s, stepPX_s, stepPX_n, stepPV_n, stepPV_s, stepPA_t, stepPA_c, stepPA_l, stepPN_s, allocOp, reloc_sl, reloc_ptr, List.map_cons, List.map_nil, List.nil_append, List.append_assoc, List.cons_append, Nat.add_assoc]
  refine hK _ _ ?_; clear hK K
  refine aw_seq ?_
  refine aw_seq ?_
  by_cases hx : X = 0
  · rw [decide_eq_true hx] at his
    have hz1 : bytesM X = zl 32 := by rw [hx, hz0]
    rw [decide_eq_true hx, hz1]
    have hzz : setR (iv .u8 (zl 32)) 0 (iv .u8 (zl 32)) = iv .u8 (zl 32) := rfl
    have htz : (iv .u8 (zl 32)).take 32 = iv .u8 (zl 32) := rfl
    clear hz1 hx
    (refine aw_plan [] [] [0, 1, 2] 3 0 (by kernel_rfl) (by kernel_rfl) (by kernel_rfl) (fun K hK => ?_)); simp only [sel, List.getElem?_cons_succ, List.getElem?_cons_zero, List.drop_succ_cons, List.drop_zero]; simp (disch := first | omega | (simp only [lnS]; try omega)) [-getElem?_pos, -getElem?_neg, take_wl, PL_nil, plainB_lit, PL_cons, PLc_val, PLc_new, stepP_t, stepP_f, stepPC_n, stepPC_s, stepPX_s, stepPX_n, stepPV_n, stepPV_s, stepPA_t, stepPA_c, stepPA_l, stepPN_s, allocOp, reloc_sl, reloc_ptr, List.map_cons, List.map_nil, List.nil_append, List.append_assoc, List.cons_append, Nat.add_assoc]
    refine PLc_call (by kernel_rfl) (fun L hL => ac_of_vc (by simp [pv_iv, pv_int, pv_bool, pv_string, pv_tup2, pv_tup3, iv_plain, p2_int, p2_bool, p2_string]) s0 rfl) (by simp [pv_iv, pv_int, pv_bool, pv_string, pv_tup2, pv_tup3, iv_plain, p2_int, p2_bool, p2_string]) ?_
    try simp (disch := first | omega | (simp only [lnS]; try omega)) [-getElem?_pos, -getElem?_neg, take_wl, PL_nil, plainB_lit, PL_cons, PLc_val, PLc_new, stepP_t, stepP_f, stepPC_n, stepPC_s, stepPX_s, stepPX_n, stepPV_n, stepPV_s, stepPA_t, stepPA_c, stepPA_l, stepPN_s, allocOp, reloc_sl, reloc_ptr, List.map_cons, List.map_nil, List.nil_append, List.append_assoc, List.cons_append, Nat.add_assoc]
    refine PLc_call (by kernel_rfl) (fun L hL => ac_of_vc (by simp [pv_iv, pv_int, pv_bool, pv_string, pv_tup2, pv_tup3, iv_plain, p2_int, p2_bool, p2_string]) his rfl) (by simp [pv_iv, pv_int, pv_bool, pv_string, pv_tup2, pv_tup3, iv_plain, p2_int, p2_bool, p2_string]) ?_
    try simp (disch := first | omega | (simp only [lnS]; try omega)) [-getElem?_pos, -getElem?_neg, take_wl, PL_nil, plainB_lit, PL_cons, PLc_val, PLc_new, stepP_t, stepP_f, stepPC_n, stepPC_s, stepPX_s, stepPX_n, stepPV_n, stepPV_s, stepPA_t, stepPA_c, stepPA_l, stepPN_s, allocOp, reloc_sl, reloc_ptr, List.map_cons, List.map_nil, List.nil_append, List.append_assoc, List.cons_append, Nat.add_assoc]
    refine hK _ _ ?_; clear hK K
    refine aw_t (by (first | (simp [eval_tmp, put_at]; done) | (simp [eval_tmp, put_at]; omega))) (by kernel_rfl) ?_
    refine aw_seq ?_
    (refine aw_ops (by kernel_rfl) (fun K hK => ?_); simp (disch := first | omega | (simp only [lnS]; try omega)) [-getElem?_pos, -getElem?_neg, hzz]; refine hK _ _ ?_; clear hK K)
    (refine aw_ret ?_; simp (disch := first | omega | (simp only [lnS]; try omega)) [-getElem?_pos, -getElem?_neg, thenQ_ret, scopeQ_ret, inBlockQ_ret, RQ, resL, resV, hzz, htz])
  · rw [decide_eq_false hx] at his
    rw [decide_eq_false hx]
    clear hx
    (refine aw_plan [] [] [0, 1, 2] 3 0 (by kernel_rfl) (by kernel_rfl) (by kernel_rfl) (fun K hK => ?_)); simp only [sel, List.getElem?_cons_succ, List.getElem?_cons_zero, List.drop_succ_cons, List.drop_zero]; simp (disch := first | omega | (simp only [lnS]; try omega)) [-getElem?_pos, -getElem?_neg, take_wl, PL_nil, plainB_lit, PL_cons, PLc_val, PLc_new, stepP_t, stepP_f, stepPC_n, stepPC_s, stepPX_s, stepPX_n, stepPV_n, stepPV_s, stepPA_t, stepPA_c, stepPA_l, stepPN_s, allocOp, reloc_sl, reloc_ptr, List.map_cons, List.map_nil, List.nil_append, List.append_assoc, List.cons_append, Nat.add_assoc]
    refine PLc_call (by kernel_rfl) (fun L hL => ac_of_vc (by simp [pv_iv, pv_int, pv_bool, pv_string, pv_tup2, pv_tup3, iv_plain, p2_int, p2_bool, p2_string]) s0 rfl) (by simp [pv_iv, pv_int, pv_bool, pv_string, pv_tup2, pv_tup3, iv_plain, p2_int, p2_bool, p2_string]) ?_
    try simp (disch := first | omega | (simp only [lnS]; try omega)) [-getElem?_pos, -getElem?_neg, take_wl, PL_nil, plainB_lit, PL_cons, PLc_val, PLc_new, stepP_t, stepP_f, stepPC_n, stepPC_s, stepPX_s, stepPX_n, stepPV_n, stepPV_s, stepPA_t, stepPA_c, stepPA_l, stepPN_s, allocOp, reloc_sl, reloc_ptr, List.map_cons, List.map_nil, List.nil_append, List.append_assoc, List.cons_append, Nat.add_assoc]
    refine PLc_call (by kernel_rfl) (fun L hL => ac_of_vc (by simp [pv_iv, pv_int, pv_bool, pv_string, pv_tup2, pv_tup3, iv_plain, p2_int, p2_bool, p2_string]) his rfl) (by simp [pv_iv, pv_int, pv_bool, pv_string, pv_tup2, pv_tup3, iv_plain, p2_int, p2_bool, p2_string]) ?_
    try simp (disch := first | omega | (simp only [lnS]; try omega)) [-getElem?_pos, -getElem?_neg, take_wl, PL_nil, plainB_lit, PL_cons, PLc_val, PLc_new, stepP_t, stepP_f, stepPC_n, stepPC_s, stepPX_s, stepPX_n, stepPV_n, stepPV_s, stepPA_t, stepPA_c, stepPA_l, stepPN_s, allocOp, reloc_sl, reloc_ptr, List.map_cons, List.map_nil, List.nil_append, List.append_assoc, List.cons_append, Nat.add_assoc]
    refine hK _ _ ?_; clear hK K
    refine aw_f (by (first | (simp [eval_tmp, put_at]; done) | (simp [eval_tmp, put_at]; omega))) (by kernel_rfl) ?_
    refine aw_skip ?_
    refine aw_seq ?_
    refine aw_ops (by kernel_rfl) (fun K hK => ?_)
    simp (disch := first | omega | (simp only [lnS]; try omega)) [-getElem?_pos, -getElem?_neg, take_wl]
    refine ⟨by kernel_rfl, ac_of_vc (by simp [pv_iv, pv_int, pv_bool, pv_string, pv_tup2, pv_tup3, iv_plain, p2_int, p2_bool, p2_string]) hbt ?_⟩
    try simp (disch := first | omega | (simp only [lnS]; try omega)) [-getElem?_pos, -getElem?_neg, hss, htb]
    refine hK _ _ ?_; clear hK K
    (refine aw_ret ?_; simp (disch := first | omega | (simp only [lnS]; try omega)) [-getElem?_pos, -getElem?_neg, thenQ_ret, scopeQ_ret, inBlockQ_ret, RQ, resL, resV, htb])
end

section
open Go Go.RowKit
set_option linter.unusedVariables false
set_option linter.unusedSimpArgs false
set_option maxRecDepth 100000
set_option maxHeartbeats 4000000

theorem pu_key (l : List Int) : plainV (.agg (iv .u8 l).toArray) = true := pv_iv _ _
theorem agrL_eq : agrL kB (puL kA) = agrL kA (puL kB) := by unfold agrL; rw [from_pu, from_pu, v2]
theorem agrB_1 : agrB kA (puL kB) = true := by unfold agrB; rw [from_pu, decide_eq_false v1]; rfl
theorem agrB_2 : agrB kB (puL kA) = true := by unfold agrB; rw [from_pu, v2, decide_eq_false v1]; rfl
theorem agrB_0 : agrB kA (zl 32) = false := by unfold agrB; rw [from_0, v0]; rfl
theorem agr_of {H : AH} (hG : GP H) {k p L : List Int} {b : Bool} (hk : k.length = 32) (hb : By k) (hp : p.length = 32) (hpb : By p) (hL : agrL k p = L) (hB : agrB k p = b) : AC Tryd.prog H.length gm 11 #[.agg (iv .u8 k).toArray, .agg (iv .u8 p).toArray] H (fun v' _ => v' = .tuple #[.agg (iv .u8 L).toArray, .bool b]) := by
  subst hL hB
  exact agree_rc hG hk hb hp hpb
theorem pub_of {H : AH} (hG : GP H) {k P : List Int} (hk : k.length = 32) (hb : By k) (hP : puL k = P) : AC Tryd.prog H.length gm 9 #[.agg (iv .u8 k).toArray] H (fun v' _ => v' = .agg (iv .u8 P).toArray) := by
  subst hP
  exact public_rc hG hk hb
attribute [local irreducible] wl addM subM mulM pM climbM fromM bytesM lad sb agrL agrB puL
attribute [local simp] wb_bool wb_undef with_lit XL_nil XL_cons XLc_val XLc_call step1_eq stepW_t stepW_f stepC_n stepC_s stepX_s stepX_n stepN_s calleeX xrecv oneV xop_eq xopR_s xopR_n wantedA_eq wantedG_n wantedG_s plain1_int plain1_bool plain1_string bits_i64 bits_u64 bits_u32 bits_u16 bits_u8 xeqA xagg xcmp xarr allK_iv num_iv calleeOf xread xeff xbin xint xnil xun xstr xload xconv xpart xfield xfieldAddr xindexAddr xindex bnd asInt? xslice xlen xmin xmax xbuild xfill xappend xapp2 xappstr xappmk xcap xcopy xcells eval_tmp eval_const put_at put_none fr0_at cells_agg cells_int cells_bool cells_string cells_ptr cells_slice notTuple tab iv_all hget_app hget_app0 hget_cons0 hget_cons set_app set_app0 setR setR_one QL_nil QL_cons QLc_val stepQ_t stepQ_f stepQC_n stepQC_s stepQX_s SL_nil SL_cons SLc_val stepS_t stepS_f ltT ltF leT leF eqT eqF ltTn ltFn leTn leFn eqTn eqFn beqT beqF bneT bneF wi64 wu64 wu32 wu16 wu8 tmodP tdivP hgetL hgetNe hgetEq setL nums_def nums_len Nat.succ_le_of_lt List.getElem?_cons_zero List.getElem?_cons_succ Option.getD_some Int.toNat_add Int.toNat_mul agM okM agB agI agS agP agL agA okB okI okS okP okSl okA
theorem alive_go {H : AH} (hG : GP H) (A B P1 P2 L1 L2 : List Int) (lA : A.length = 32) (lB : B.length = 32) (bA : By A) (bB : By B)
    (hA : A = [1, 0, 0, 0, 0, 0, 0, 0, 0, 0, 0, 0, 0, 0, 0, 0, 0, 0, 0, 0, 0, 0, 0, 0, 0, 0, 0, 0, 0, 0, 0, 0]) (hB : B = [0, 0, 7, 0, 0, 0, 0, 0, 0, 0, 0, 0, 0, 0, 0, 0, 0, 0, 0, 0, 0, 0, 0, 0, 0, 0, 0, 0, 0, 0, 0, 0])
    (e1 : puL A = P1) (e2 : puL B = P2) (f1 : agrL A P2 = L1) (g1 : agrB A P2 = true) (f2 : agrL B P1 = L1) (g2 : agrB B P1 = true) (f3 : agrL A (zl 32) = L2) (g3 : agrB A (zl 32) = false) : AC Tryd.prog H.length gm 8 #[] H (fun v' _ => v' = .bool true) := by
  have lz : (zl 32).length = 32 := rfl
  have dA : (iv .u8 (zl 32)).set 0 (.int .u8 1) = iv .u8 A := by rw [hA]; rfl
  have dB : (iv .u8 (zl 32)).set 2 (.int .u8 7) = iv .u8 B := by rw [hB]; rfl
  have eA : setR (iv .u8 (zl 32)) 0 [.int .u8 1] = iv .u8 A := by rw [hA]; rfl
  have eB : setR (iv .u8 (zl 32)) 2 [.int .u8 7] = iv .u8 B := by rw [hB]; rfl
  have zb : By (zl 32) := by intro x hx; rw [List.eq_of_mem_replicate hx]; omega
  have lP : P1.length = 32 := e1 ▸ puL_len A
  have lQ : P2.length = 32 := e2 ▸ puL_len B
  have bP : By P1 := e1 ▸ puL_by A
  have bQ : By P2 := e2 ▸ puL_by B
  have lL : L1.length = 32 := f1 ▸ agrL_len A P2
  have lK : L2.length = 32 := f3 ▸ agrL_len A (zl 32)
  have pA := fun (G : AH) hG => pub_of (H := G) hG lA bA e1
  have pB := fun (G : AH) hG => pub_of (H := G) hG lB bB e2
  have a1 := fun (G : AH) hG => agr_of (H := G) hG lA bA lQ bQ f1 g1
  have a2 := fun (G : AH) hG => agr_of (H := G) hG lB bB lP bP f2 g2
  have a3 := fun (G : AH) hG => agr_of (H := G) hG lA bA lz zb f3 g3
  clear e1 e2 f1 f2 f3 g1 g2 g3 hA hB
  have tA : (iv .u8 A).take 32 = iv .u8 A := List.take_of_length_le (by simp [lA])
  have tB : (iv .u8 B).take 32 = iv .u8 B := List.take_of_length_le (by simp [lB])
  have t1 : (iv .u8 L1).take 32 = iv .u8 L1 := List.take_of_length_le (by simp [lL])
  have t2 : (iv .u8 L2).take 32 = iv .u8 L2 := List.take_of_length_le (by simp [lK])
  have sA : setR (iv .u8 (zl 32)) 0 (iv .u8 A) = iv .u8 A := setR_all _ _ (by simp [lA])
  have sB : setR (iv .u8 (zl 32)) 0 (iv .u8 B) = iv .u8 B := setR_all _ _ (by simp [lB])
  have s1 : setR (iv .u8 (zl 32)) 0 (iv .u8 L1) = iv .u8 L1 := setR_all _ _ (by simp [lL])
  have s2 : setR (iv .u8 (zl 32)) 0 (iv .u8 L2) = iv .u8 L2 := setR_all _ _ (by simp [lK])
  refine ac_of_aw Tryd.func8 rfl Tryd.ntmps8 Tryd.results8 (by simp) ?_
  refine aw_seq ?_
  (refine aw_ops (by kernel_rfl) (fun K hK => ?_); simp (disch := first | omega | (simp only [lnS]; try omega)) [-getElem?_pos, -getElem?_neg]; refine hK _ _ ?_; clear hK K)
  refine aw_seq ?_
  (refine aw_ops (by kernel_rfl) (fun K hK => ?_); simp (disch := first | omega | (simp only [lnS]; try omega)) [-getElem?_pos, -getElem?_neg, dA, dB, eA, eB, sA, sB, tA, tB]; refine hK _ _ ?_; clear hK K)
  refine aw_seq ?_
  refine aw_cut (fun α' H' => α' 0 = .bool false ∧ α' 1 = .pointer (some ⟨H.length, 0, none⟩) ∧ α' 2 = .pointer (some ⟨H.length + 1, 0, none⟩) ∧ α' 3 = .pointer (some ⟨H.length + 2, 0, none⟩) ∧ α' 4 = .bool true ∧
    H' = H ++ [some ⟨iv .u8 A, 23, none⟩, some ⟨iv .u8 B, 23, none⟩, some ⟨iv .u8 L1, 23, none⟩]) ?_ ?_
  · (refine aw_planL [] [0, 1, 2, 3, 4, 5, 6, 7] [6] 2 [([], [], [[8, 9]]), ([6], [17], [[6, 8, 9], [8, 6, 9]])] (by kernel_rfl) (by kernel_rfl) (by kernel_rfl) (fun K hK => ?_)); simp only [sel, List.getElem?_cons_succ, List.getElem?_cons_zero]; simp (disch := first | omega | (simp only [lnS]; try omega)) [-getElem?_pos, -getElem?_neg, tA, tB, t1, s1, PL_nil, plainB_lit, PL_cons, PLc_val, PLc_new, stepP_t, stepP_f, stepPC_n, stepPC_s, stepPX_s, stepPX_n, stepPV_n, stepPV_s, stepPA_t, stepPA_c, stepPA_l, stepPN_s, allocOp, reloc_sl, reloc_ptr, List.map_cons, List.map_nil, List.nil_append, List.append_assoc, List.cons_append, Nat.add_assoc]
    refine PLc_call (by kernel_rfl) (fun L hL => pB _ ((hG.app _).app L)) (by simp [pv_iv, pv_int, pv_bool, pv_string, pv_tup2, pv_tup3, iv_plain, p2_int, p2_bool, p2_string]) ?_
    try simp (disch := first | omega | (simp only [lnS]; try omega)) [-getElem?_pos, -getElem?_neg, tA, tB, t1, s1, PL_nil, plainB_lit, PL_cons, PLc_val, PLc_new, stepP_t, stepP_f, stepPC_n, stepPC_s, stepPX_s, stepPX_n, stepPV_n, stepPV_s, stepPA_t, stepPA_c, stepPA_l, stepPN_s, allocOp, reloc_sl, reloc_ptr, List.map_cons, List.map_nil, List.nil_append, List.append_assoc, List.cons_append, Nat.add_assoc]
    refine PLc_call (by kernel_rfl) (fun L hL => a1 _ ((hG.app _).app L)) (by simp [pv_key]) ?_
    try simp (disch := first | omega | (simp only [lnS]; try omega)) [-getElem?_pos, -getElem?_neg, tA, tB, t1, s1, PL_nil, plainB_lit, PL_cons, PLc_val, PLc_new, stepP_t, stepP_f, stepPC_n, stepPC_s, stepPX_s, stepPX_n, stepPV_n, stepPV_s, stepPA_t, stepPA_c, stepPA_l, stepPN_s, allocOp, reloc_sl, reloc_ptr, List.map_cons, List.map_nil, List.nil_append, List.append_assoc, List.cons_append, Nat.add_assoc]
    simp only [List.mem_cons, List.not_mem_nil, or_false, forall_eq_or_imp, forall_eq, sel, List.getElem?_cons_succ, List.getElem?_cons_zero]; simp (disch := first | omega | (simp only [lnS]; try omega)) [-getElem?_pos, -getElem?_neg, tA, tB, t1, s1, mixF_at, mixF_nil, List.contains_cons, List.contains_nil]
    repeat' (first | apply And.intro | refine hK _ _ ?_)
    all_goals clear hK K
    all_goals first | rfl | (simp [put_at, put_none, fr0_at, mixF_at, List.contains_cons]; done)
  rintro α H' ⟨h0, h1, h2, h3, h4, rfl⟩
  refine aw_seq ?_
  refine aw_cut (fun α' H' => α' 0 = .bool false ∧ α' 1 = .pointer (some ⟨H.length, 0, none⟩) ∧ α' 2 = .pointer (some ⟨H.length + 1, 0, none⟩) ∧ α' 3 = .pointer (some ⟨H.length + 2, 0, none⟩) ∧ α' 4 = .bool true ∧ α' 5 = .pointer (some ⟨H.length + 3, 0, none⟩) ∧ α' 6 = .bool true ∧
    H' = H ++ [some ⟨iv .u8 A, 23, none⟩, some ⟨iv .u8 B, 23, none⟩, some ⟨iv .u8 L1, 23, none⟩, some ⟨iv .u8 L1, 23, none⟩]) ?_ ?_
  · (refine aw_planL [] [0, 1, 2, 3, 4, 5, 6, 7] [6] 2 [([], [], [[8, 9]]), ([6], [24], [[6, 8, 9], [8, 6, 9]])] (by kernel_rfl) (by kernel_rfl) (by kernel_rfl) (fun K hK => ?_)); simp only [sel, List.getElem?_cons_succ, List.getElem?_cons_zero]; simp (disch := first | omega | (simp only [lnS]; try omega)) [-getElem?_pos, -getElem?_neg, h1, h2, tA, tB, t1, s1, PL_nil, plainB_lit, PL_cons, PLc_val, PLc_new, stepP_t, stepP_f, stepPC_n, stepPC_s, stepPX_s, stepPX_n, stepPV_n, stepPV_s, stepPA_t, stepPA_c, stepPA_l, stepPN_s, allocOp, reloc_sl, reloc_ptr, List.map_cons, List.map_nil, List.nil_append, List.append_assoc, List.cons_append, Nat.add_assoc]
    refine PLc_call (by kernel_rfl) (fun L hL => pA _ ((hG.app _).app L)) (by simp [pv_iv, pv_int, pv_bool, pv_string, pv_tup2, pv_tup3, iv_plain, p2_int, p2_bool, p2_string]) ?_
    try simp (disch := first | omega | (simp only [lnS]; try omega)) [-getElem?_pos, -getElem?_neg, h1, h2, tA, tB, t1, s1, PL_nil, plainB_lit, PL_cons, PLc_val, PLc_new, stepP_t, stepP_f, stepPC_n, stepPC_s, stepPX_s, stepPX_n, stepPV_n, stepPV_s, stepPA_t, stepPA_c, stepPA_l, stepPN_s, allocOp, reloc_sl, reloc_ptr, List.map_cons, List.map_nil, List.nil_append, List.append_assoc, List.cons_append, Nat.add_assoc]
    refine PLc_call (by kernel_rfl) (fun L hL => a2 _ ((hG.app _).app L)) (by simp [pv_key]) ?_
    try simp (disch := first | omega | (simp only [lnS]; try omega)) [-getElem?_pos, -getElem?_neg, h1, h2, tA, tB, t1, s1, PL_nil, plainB_lit, PL_cons, PLc_val, PLc_new, stepP_t, stepP_f, stepPC_n, stepPC_s, stepPX_s, stepPX_n, stepPV_n, stepPV_s, stepPA_t, stepPA_c, stepPA_l, stepPN_s, allocOp, reloc_sl, reloc_ptr, List.map_cons, List.map_nil, List.nil_append, List.append_assoc, List.cons_append, Nat.add_assoc]
    simp only [List.mem_cons, List.not_mem_nil, or_false, forall_eq_or_imp, forall_eq, sel, List.getElem?_cons_succ, List.getElem?_cons_zero]; simp (disch := first | omega | (simp only [lnS]; try omega)) [-getElem?_pos, -getElem?_neg, h1, h2, tA, tB, t1, s1, mixF_at, mixF_nil, List.contains_cons, List.contains_nil]
    repeat' (first | apply And.intro | refine hK _ _ ?_)
    all_goals clear hK K
    all_goals first | rfl | (simp [put_at, put_none, fr0_at, mixF_at, List.contains_cons, h0, h1, h2, h3, h4]; done)
  clear h0 h1 h2 h3 h4
  rintro α H' ⟨h0, h1, h2, h3, h4, h5, h6, rfl⟩
  refine aw_seq ?_
  refine aw_ops (by kernel_rfl) (fun K hK => ?_)
  simp (disch := first | omega | (simp only [lnS]; try omega)) [-getElem?_pos, -getElem?_neg, h1, tA]
  refine ⟨by kernel_rfl, ac_of_rc (a3 _ (hG.app _)) (by simp [pv_key]) ?_⟩
  try simp (disch := first | omega | (simp only [lnS]; try omega)) [-getElem?_pos, -getElem?_neg, s2]
  refine hK _ _ ?_; clear hK K
  refine aw_seq ?_
  (refine aw_ops (by kernel_rfl) (fun K hK => ?_); simp (disch := first | omega | (simp only [lnS]; try omega)) [-getElem?_pos, -getElem?_neg, h3, h4, h5, h6, t1]; refine hK _ _ ?_; clear hK K)
  (refine aw_ret ?_; simp (disch := first | omega | (simp only [lnS]; try omega)) [-getElem?_pos, -getElem?_neg, thenQ_ret, scopeQ_ret, inBlockQ_ret, RQ, resL, resV])
theorem alive_rc {H : AH} (hG : GP H) : AC Tryd.prog H.length gm 8 #[] H (fun v' _ => v' = .bool true) :=
  alive_go hG kA kB (puL kA) (puL kB) (agrL kA (puL kB)) (agrL kA (zl 32)) rfl rfl kA_by kB_by rfl rfl rfl rfl rfl agrB_1 agrL_eq agrB_2 rfl agrB_0
end
end Go.Proofs.YtnddofgabipknaaDoor
