/-
  The bits that count for nothing.
-/
import Derived.Test.YtnddofgabipknaaDoorLdC
namespace Go.Proofs.YtnddofgabipknaaDoor
section
open Go Go.RowKit
set_option linter.unusedVariables false
set_option linter.unusedSimpArgs false
set_option maxRecDepth 100000
set_option maxHeartbeats 4000000

theorem or_low : ∀ b : Nat, b < 256 → ∀ c : Nat, c < 8 → ∀ j : Nat, j < 8 → 3 ≤ j → bitsOf .or .u8 (bitsOf .and .u8 (b : Int) 248) (c : Int) / 2 ^ j % 2 = (b : Int) / 2 ^ j % 2 := by decide +kernel
theorem or_high : ∀ b : Nat, b < 256 → ∀ q : Nat, q < 4 → ∀ j : Nat, j < 6 → bitsOf .or .u8 (bitsOf .and .u8 (b : Int) 63) (((64 * q : Nat) : Int)) / 2 ^ j % 2 = (b : Int) / 2 ^ j % 2 := by decide +kernel
theorem and192 : ∀ b : Nat, b < 256 → bitsOf .and .u8 (b : Int) 192 = ((64 * (b / 64) : Nat) : Int) := by decide +kernel
theorem and128 : ∀ b : Nat, b < 256 → bitsOf .and .u8 (b : Int) 128 = ((128 * (b / 128) : Nat) : Int) := by decide +kernel
theorem xor_high : ∀ b : Nat, b < 256 → ∀ q : Nat, q < 2 → bitsOf .xor .u8 (b : Int) (((128 * q : Nat) : Int)) % 128 = (b : Int) % 128 := by decide +kernel
theorem nat_of {x : Int} (h : 0 ≤ x ∧ x ≤ 255) : ∃ b : Nat, (b : Int) = x ∧ b < 256 := ⟨x.toNat, by omega, by omega⟩
def k2L (k : List Int) (lo hi : Int) : List Int := (k.set 0 (bitsOf .or .u8 (bitsOf .and .u8 (k.getD 0 0) 248) (lo % 8))).set 31 (bitsOf .or .u8 (bitsOf .and .u8 (k.getD 31 0) 63) (bitsOf .and .u8 hi 192))
def p2L (p : List Int) (hi : Int) : List Int := p.set 31 (bitsOf .xor .u8 (p.getD 31 0) (bitsOf .and .u8 hi 128))
theorem k2_get (k : List Int) (hl : k.length = 32) (lo hi : Int) (i : Nat) : (k2L k lo hi).getD i 0 = if i = 31 then bitsOf .or .u8 (bitsOf .and .u8 (k.getD 31 0) 63) (bitsOf .and .u8 hi 192) else if i = 0 then bitsOf .or .u8 (bitsOf .and .u8 (k.getD 0 0) 248) (lo % 8) else k.getD i 0 := by
  unfold k2L
  by_cases c31 : i = 31
  · rw [if_pos c31, c31, List.getD_eq_getElem?_getD, List.getElem?_set_self (by rw [List.length_set]; omega)]; rfl
  · rw [if_neg c31, List.getD_eq_getElem?_getD, List.getElem?_set_ne (fun e => c31 e.symm)]
    by_cases c0 : i = 0
    · rw [if_pos c0, c0, List.getElem?_set_self (by omega)]; rfl
    · rw [if_neg c0, List.getElem?_set_ne (fun e => c0 e.symm), List.getD_eq_getElem?_getD]
theorem sb_k2 {k : List Int} (h : By k) (hl : k.length = 32) {lo hi : Int} (hlo : 0 ≤ lo ∧ lo ≤ 255) (hhi : 0 ≤ hi ∧ hi ≤ 255) {t : Nat} (ht : t ≤ 254) : sb (k2L k lo hi) t = sb k t := by
  unfold sb
  by_cases c2 : t < 3
  · rw [if_pos c2, if_pos c2]
  · rw [if_neg c2, if_neg c2]
    by_cases c3 : t = 254
    · rw [if_pos c3, if_pos c3]
    · rw [if_neg c3, if_neg c3, k2_get k hl]
      obtain ⟨b, hb, hb2⟩ := nat_of (h.get 31)
      obtain ⟨a, ha, ha2⟩ := nat_of (h.get 0)
      by_cases c1 : t / 8 = 31
      · rw [if_pos c1, c1, ← hb]
        obtain ⟨c, hc, hc2⟩ := nat_of hhi
        rw [← hc, and192 c hc2, or_high b hb2 (c / 64) (by omega) (t % 8) (by omega)]
      · rw [if_neg c1]
        by_cases c0 : t / 8 = 0
        · rw [if_pos c0, c0, ← ha]
          obtain ⟨c, hc⟩ : ∃ c : Nat, (c : Int) = lo % 8 := ⟨(lo % 8).toNat, by omega⟩
          rw [← hc, or_low a ha2 c (by omega) (t % 8) (by omega) (by omega)]
        · rw [if_neg c0]
theorem lad_cong {k k' : List Int} (u : Int) (h : ∀ t, t ≤ 254 → sb k t = sb k' t) : ∀ n, lad k u n = lad k' u n
  | 0 => rfl
  | n + 1 => by
    unfold lad
    rw [lad_cong u h n, h (254 - n) (by omega)]
theorem climb_cong {k k' : List Int} (u : Int) (h : ∀ t, t ≤ 254 → sb k t = sb k' t) : climbM k u = climbM k' u := by
  unfold climbM
  rw [lad_cong u h 255]
theorem le_cong {k k' : List Int} : ∀ n, (∀ i, i < n → k.getD i 0 = k'.getD i 0) → le k n = le k' n
  | 0, _ => rfl
  | n + 1, h => by
    unfold le
    rw [le_cong n (fun i hi => h i (by omega)), h n (by omega)]
theorem from_p2 {p : List Int} (h : By p) (hl : p.length = 32) {hi : Int} (hhi : 0 ≤ hi ∧ hi ≤ 255) : fromM (p2L p hi) = fromM p := by
  have e31 : le (p2L p hi) 31 = le p 31 := le_cong 31 (fun i hi2 => by
    unfold p2L
    simp only [List.getD_eq_getElem?_getD]
    rw [List.getElem?_set_ne (by omega)])
  have g31 : (p2L p hi).getD 31 0 = bitsOf .xor .u8 (p.getD 31 0) (bitsOf .and .u8 hi 128) := by
    unfold p2L
    rw [List.getD_eq_getElem?_getD, List.getElem?_set_self (by omega)]; rfl
  have u1 : le (p2L p hi) 32 = le p 31 + (p2L p hi).getD 31 0 * 256 ^ 31 := by rw [← e31, le]
  have u2 : le p 32 = le p 31 + p.getD 31 0 * 256 ^ 31 := by rw [le]
  obtain ⟨b, hb, hb2⟩ := nat_of (h.get 31)
  obtain ⟨c, hc, hc2⟩ := nat_of hhi
  have hx := xor_high b hb2 (c / 128) (by omega)
  rw [g31, ← hb, ← hc, and128 c hc2] at u1
  rw [← hb] at u2
  generalize bitsOf .xor .u8 (b : Int) (((128 * (c / 128) : Nat) : Int)) = x at *
  obtain ⟨d, hd⟩ : ∃ d : Int, x = b + 128 * d := ⟨x / 128 - (b : Int) / 128, by omega⟩
  have hq : (57896044618658097711785492504343953926634992332820282019728792003956564819968 : Int) = 128 * 256 ^ 31 := by decide
  have e : le (p2L p hi) 32 = le p 32 + 57896044618658097711785492504343953926634992332820282019728792003956564819968 * d := by
    rw [← hc, u1, u2, hd, hq, Int.add_mul, Int.mul_assoc 128 d, Int.mul_comm d, ← Int.mul_assoc, Int.add_assoc]
  unfold fromM
  rw [e, Int.add_mul_emod_self_left]
theorem agrL_k2 {k p : List Int} (h : By k) (hl : k.length = 32) (hp : By p) (lp : p.length = 32) {lo hi : Int} (hlo : 0 ≤ lo ∧ lo ≤ 255) (hhi : 0 ≤ hi ∧ hi ≤ 255) : agrL (k2L k lo hi) (p2L p hi) = agrL k p := by
  unfold agrL
  rw [from_p2 hp lp hhi, climb_cong _ (fun t ht => sb_k2 h hl hlo hhi ht)]
theorem agrB_k2 {k p : List Int} (h : By k) (hl : k.length = 32) (hp : By p) (lp : p.length = 32) {lo hi : Int} (hlo : 0 ≤ lo ∧ lo ≤ 255) (hhi : 0 ≤ hi ∧ hi ≤ 255) : agrB (k2L k lo hi) (p2L p hi) = agrB k p := by
  unfold agrB
  rw [from_p2 hp lp hhi, climb_cong _ (fun t ht => sb_k2 h hl hlo hhi ht)]
theorem puL_k2 {k : List Int} (h : By k) (hl : k.length = 32) {lo hi : Int} (hlo : 0 ≤ lo ∧ lo ≤ 255) (hhi : 0 ≤ hi ∧ hi ≤ 255) : puL (k2L k lo hi) = puL k := by
  unfold puL
  rw [climb_cong _ (fun t ht => sb_k2 h hl hlo hhi ht)]
theorem k2_by {k : List Int} (h : By k) (lo hi : Int) : By (k2L k lo hi) := By.set (By.set h (by_u8 _)) (by_u8 _)
theorem p2_by {p : List Int} (h : By p) (hi : Int) : By (p2L p hi) := By.set h (by_u8 _)
theorem k2_len (k : List Int) (lo hi : Int) : (k2L k lo hi).length = k.length := by simp [k2L]
theorem p2_len (p : List Int) (hi : Int) : (p2L p hi).length = p.length := by simp [p2L]
attribute [local irreducible] wl addM subM mulM pM climbM fromM bytesM lad sb agrL agrB puL k2L p2L
attribute [local simp] wb_bool wb_undef XL_nil XL_cons XLc_val XLc_call step1_eq stepW_t stepW_f stepC_n stepC_s stepX_s xop_eq xopR_s xopR_n wantedA_eq wantedG_n wantedG_s plain1_int plain1_bool plain1_string bits_i64 bits_u64 bits_u32 bits_u16 bits_u8 xeqA xarr allK_iv num_iv calleeOf xread xeff xbin xint xnil xun xstr xload xconv xpart xfield xfieldAddr xindexAddr xindex bnd asInt? xslice xlen xmin xmax xbuild xfill xappend xcopy xcells eval_tmp eval_const put_at put_none fr0_at cells_agg cells_int cells_bool cells_string cells_ptr cells_slice notTuple tab iv_all hget_app hget_app0 hget_cons0 hget_cons set_app set_app0 setR setR_one QL_nil QL_cons QLc_val stepQ_t stepQ_f stepQC_n stepQC_s stepQX_s SL_nil SL_cons SLc_val stepS_t stepS_f ltT ltF leT leF eqT eqF ltTn ltFn leTn leFn eqTn eqFn beqT beqF bneT bneF wi64 wu64 wu32 wu16 wu8 tmodP tdivP hgetL hgetNe hgetEq setL nums_def nums_len Nat.succ_le_of_lt List.getElem?_cons_zero List.getElem?_cons_succ Option.getD_some Int.toNat_add Int.toNat_mul agB agI agS agP agL agA okB okI okS okP okSl okA
theorem bits_law {H : AH} (hG : GP H) {k p : List Int} (hk : k.length = 32) (hb : By k) (hp : p.length = 32) (hpb : By p) (lo hi : Int) (hlo : 0 ≤ lo ∧ lo ≤ 255) (hhi : 0 ≤ hi ∧ hi ≤ 255) : AC Tryd.prog H.length gm 5 #[.agg (iv .u8 k).toArray, .agg (iv .u8 p).toArray, .int .u8 lo, .int .u8 hi] H (fun v' _ => v' = .bool true) := by
  have htk : (iv .u8 k).take 32 = iv .u8 k := List.take_of_length_le (by simp [hk])
  have htp : (iv .u8 p).take 32 = iv .u8 p := List.take_of_length_le (by simp [hp])
  have h0 : (iv .u8 k)[0]? = some (.int .u8 (k.getD 0 0)) := iv_getN _ _ _ (by omega)
  have h31 : ∀ x : Int, (iv .u8 (k.set 0 x))[31]? = some (.int .u8 (k.getD 31 0)) := fun x => by
    rw [iv_getN _ _ _ (by rw [List.length_set]; omega)]
    congr 2
    simp only [List.getD_eq_getElem?_getD]
    rw [List.getElem?_set_ne (by omega)]
  have q31 : (iv .u8 p)[31]? = some (.int .u8 (p.getD 31 0)) := iv_getN _ _ _ (by omega)
  have hks : (k.set 0 (bitsOf .or .u8 (bitsOf .and .u8 (k.getD 0 0) 248) (lo % 8))).set 31 (bitsOf .or .u8 (bitsOf .and .u8 (k.getD 31 0) 63) (bitsOf .and .u8 hi 192)) = k2L k lo hi := by unfold k2L; rfl
  have hps : p.set 31 (bitsOf .xor .u8 (p.getD 31 0) (bitsOf .and .u8 hi 128)) = p2L p hi := by unfold p2L; rfl
  have ssk : setR (iv .u8 (zl 32)) 0 (iv .u8 k) = iv .u8 k := setR_all _ _ (by simp [hk])
  have ssp : setR (iv .u8 (zl 32)) 0 (iv .u8 p) = iv .u8 p := setR_all _ _ (by simp [hp])
  have hal := fun (G : AH) (hG : GP G) => alive_rc hG
  have a1 := fun (G : AH) hG => agr_of (H := G) hG hk hb hp hpb rfl rfl
  have a2 := fun (G : AH) hG => agr_of (H := G) hG (k := k2L k lo hi) (p := p2L p hi) (by rw [k2_len, hk]) (k2_by hb _ _) (by rw [p2_len, hp]) (p2_by hpb _) (agrL_k2 hb hk hpb hp hlo hhi) (agrB_k2 hb hk hpb hp hlo hhi)
  have p1 := fun (G : AH) hG => pub_of (H := G) hG hk hb rfl
  have p2 := fun (G : AH) hG => pub_of (H := G) hG (k := k2L k lo hi) (by rw [k2_len, hk]) (k2_by hb _ _) (puL_k2 hb hk hlo hhi)
  have l2 : (k2L k lo hi).length = 32 := by rw [k2_len, hk]
  have m2 : (p2L p hi).length = 32 := by rw [p2_len, hp]
  have lL := agrL_len k p
  have lP := puL_len k
  generalize agrL k p = L at *
  generalize agrB k p = B at *
  generalize puL k = P at *
  generalize k2L k lo hi = K2 at *
  generalize p2L p hi = P2 at *
  generalize k.getD 0 0 = x0 at *
  generalize k.getD 31 0 = x31 at *
  generalize p.getD 31 0 = y31 at *
  have ht2 : (iv .u8 K2).take 32 = iv .u8 K2 := List.take_of_length_le (by simp [l2])
  have hu2 : (iv .u8 P2).take 32 = iv .u8 P2 := List.take_of_length_le (by simp [m2])
  have htL : (iv .u8 L).take 32 = iv .u8 L := List.take_of_length_le (by simp [lL])
  have sL : setR (iv .u8 (zl 32)) 0 (iv .u8 L) = iv .u8 L := setR_all _ _ (by simp [lL])
  refine ac_of_aw Tryd.func5 rfl Tryd.ntmps5 Tryd.results5 (by simp) ?_
  refine aw_seq ?_
  (refine aw_ops (by kernel_rfl) (fun K hK => ?_); simp (disch := first | omega | (simp only [List.length_set, List.length_append, List.length_cons, List.length_nil, iv_length, zl_length]; try omega; done)) [-getElem?_pos, -getElem?_neg]; refine hK _ _ ?_; clear hK K)
  refine aw_seq ?_
  refine aw_seq ?_
  refine aw_ops (by kernel_rfl) (fun K hK => ?_)
  simp (disch := first | omega | (simp only [List.length_set, List.length_append, List.length_cons, List.length_nil, iv_length, zl_length]; try omega; done)) [-getElem?_pos, -getElem?_neg]
  refine ⟨by kernel_rfl, ac_of_rc (hal _ (hG.app _)) (by simp [pv_iv, pv_int, pv_bool, pv_string, pv_tup2, pv_tup3, iv_plain, p2_int, p2_bool, p2_string]) ?_⟩
  try simp (disch := first | omega | (simp only [List.length_set, List.length_append, List.length_cons, List.length_nil, iv_length, zl_length]; try omega; done)) [-getElem?_pos, -getElem?_neg]
  refine hK _ _ ?_; clear hK K
  refine aw_f (by (first | (simp [eval_tmp, put_at]; done) | (simp [eval_tmp, put_at]; omega))) (by kernel_rfl) ?_
  refine aw_skip ?_
  refine aw_seq ?_
  refine aw_cut (fun α' H' => α' 2 = .int .u8 lo ∧ α' 3 = .int .u8 hi ∧ α' 4 = .pointer (some ⟨H.length, 0, none⟩) ∧ α' 5 = .pointer (some ⟨H.length + 1, 0, none⟩) ∧ α' 8 = .bool false ∧ α' 9 = .pointer (some ⟨H.length + 2, 0, none⟩) ∧ α' 10 = .pointer (some ⟨H.length + 3, 0, none⟩) ∧
    H' = H ++ [some ⟨iv .u8 k, 23, none⟩, some ⟨iv .u8 p, 23, none⟩, some ⟨iv .u8 k, 23, none⟩, some ⟨iv .u8 p, 23, none⟩]) ?_ ?_
  · (refine aw_planL [] [0, 1, 2, 3] [1] 2 [([], [], [[4, 5], [5, 4]]), ([1], [18], [[1, 4, 5], [1, 5, 4], [4, 1, 5]])] (by kernel_rfl) (by kernel_rfl) (by kernel_rfl) (fun K hK => ?_)); simp only [sel, List.getElem?_cons_succ, List.getElem?_cons_zero]; simp (disch := first | omega | (simp only [List.length_set, List.length_append, List.length_cons, List.length_nil, iv_length, zl_length]; try omega; done)) [-getElem?_pos, -getElem?_neg, htk, htp, ssk, ssp, PL_nil, PL_cons, PLc_val, PLc_new, stepP_t, stepP_f, stepPC_n, stepPC_s, stepPX_s, stepPX_n, stepPA_t, stepPA_c, stepPA_l, stepPN_s, allocOp, reloc_sl, reloc_ptr, List.map_cons, List.map_nil, List.nil_append, List.append_assoc, List.cons_append, Nat.add_assoc]
    simp only [List.mem_cons, List.not_mem_nil, or_false, forall_eq_or_imp, forall_eq, sel, List.getElem?_cons_succ, List.getElem?_cons_zero]; simp (disch := first | omega | (simp only [List.length_set, List.length_append, List.length_cons, List.length_nil, iv_length, zl_length]; try omega; done)) [-getElem?_pos, -getElem?_neg, htk, htp, ssk, ssp, mixF_at, mixF_nil, List.contains_cons, List.contains_nil]
    repeat' (first | apply And.intro | refine hK _ _ ?_)
    all_goals clear hK K
    all_goals first | rfl | (simp [put_at, put_none, fr0_at, mixF_at, List.contains_cons]; done)
  clear hal
  have hal := fun (G : AH) (hG : GP G) => alive_rc hG
  rintro α H' ⟨h2, h3, h4, h5, h8, h9, h10, rfl⟩
  refine aw_seq ?_
  (refine aw_ops (by kernel_rfl) (fun K hK => ?_); simp (disch := first | omega | (simp only [List.length_set, List.length_append, List.length_cons, List.length_nil, iv_length, zl_length]; try omega; done)) [-getElem?_pos, -getElem?_neg, h2, h9, h0, iv_set]; refine hK _ _ ?_; clear hK K)
  refine aw_seq ?_
  (refine aw_ops (by kernel_rfl) (fun K hK => ?_); simp (disch := first | omega | (simp only [List.length_set, List.length_append, List.length_cons, List.length_nil, iv_length, zl_length]; try omega; done)) [-getElem?_pos, -getElem?_neg, h3, h9, h31, iv_set, hks]; refine hK _ _ ?_; clear hK K)
  refine aw_seq ?_
  (refine aw_ops (by kernel_rfl) (fun K hK => ?_); simp (disch := first | omega | (simp only [List.length_set, List.length_append, List.length_cons, List.length_nil, iv_length, zl_length]; try omega; done)) [-getElem?_pos, -getElem?_neg, h3, h10, q31, iv_set, hps]; refine hK _ _ ?_; clear hK K)
  refine aw_seq ?_
  refine aw_ops (by kernel_rfl) (fun K hK => ?_)
  simp (disch := first | omega | (simp only [List.length_set, List.length_append, List.length_cons, List.length_nil, iv_length, zl_length]; try omega; done)) [-getElem?_pos, -getElem?_neg, h4, h5, htk, htp]
  refine ⟨by kernel_rfl, ac_of_rc (a1 _ (hG.app _)) (by simp [pv_key]) ?_⟩
  try simp (disch := first | omega | (simp only [List.length_set, List.length_append, List.length_cons, List.length_nil, iv_length, zl_length]; try omega; done)) [-getElem?_pos, -getElem?_neg, sL]
  refine hK _ _ ?_; clear hK K
  refine aw_seq ?_
  refine aw_ops (by kernel_rfl) (fun K hK => ?_)
  simp (disch := first | omega | (simp only [List.length_set, List.length_append, List.length_cons, List.length_nil, iv_length, zl_length]; try omega; done)) [-getElem?_pos, -getElem?_neg, h9, h10, ht2, hu2]
  refine ⟨by kernel_rfl, ac_of_rc (a2 _ (hG.app _)) (by simp [pv_key]) ?_⟩
  try simp (disch := first | omega | (simp only [List.length_set, List.length_append, List.length_cons, List.length_nil, iv_length, zl_length]; try omega; done)) [-getElem?_pos, -getElem?_neg, sL]
  refine hK _ _ ?_; clear hK K
  refine aw_seq ?_
  (refine aw_plan [] [] [0, 1, 2, 3, 4, 5, 6, 7, 8, 9, 10, 11, 12, 13, 14, 15, 16, 17, 18] 19 0 (by kernel_rfl) (by kernel_rfl) (by kernel_rfl) (fun K hK => ?_)); simp only [sel, List.getElem?_cons_succ, List.getElem?_cons_zero, List.drop_succ_cons, List.drop_zero]; simp (disch := first | omega | (simp only [List.length_set, List.length_append, List.length_cons, List.length_nil, iv_length, zl_length]; try omega; done)) [-getElem?_pos, -getElem?_neg, h4, h9, htk, ht2, htL, PL_nil, PL_cons, PLc_val, PLc_new, stepP_t, stepP_f, stepPC_n, stepPC_s, stepPX_s, stepPX_n, stepPA_t, stepPA_c, stepPA_l, stepPN_s, allocOp, reloc_sl, reloc_ptr, List.map_cons, List.map_nil, List.nil_append, List.append_assoc, List.cons_append, Nat.add_assoc]
  refine PLc_call (by kernel_rfl) (fun L hL => hal _ ((hG.app _).app L)) (by simp [pv_iv, pv_int, pv_bool, pv_string, pv_tup2, pv_tup3, iv_plain, p2_int, p2_bool, p2_string]) ?_
  try simp (disch := first | omega | (simp only [List.length_set, List.length_append, List.length_cons, List.length_nil, iv_length, zl_length]; try omega; done)) [-getElem?_pos, -getElem?_neg, h4, h9, htk, ht2, htL, PL_nil, PL_cons, PLc_val, PLc_new, stepP_t, stepP_f, stepPC_n, stepPC_s, stepPX_s, stepPX_n, stepPA_t, stepPA_c, stepPA_l, stepPN_s, allocOp, reloc_sl, reloc_ptr, List.map_cons, List.map_nil, List.nil_append, List.append_assoc, List.cons_append, Nat.add_assoc]
  refine PLc_call (by kernel_rfl) (fun L hL => p2 _ ((hG.app _).app L)) (by simp [pv_iv, pv_int, pv_bool, pv_string, pv_tup2, pv_tup3, iv_plain, p2_int, p2_bool, p2_string]) ?_
  try simp (disch := first | omega | (simp only [List.length_set, List.length_append, List.length_cons, List.length_nil, iv_length, zl_length]; try omega; done)) [-getElem?_pos, -getElem?_neg, h4, h9, htk, ht2, htL, PL_nil, PL_cons, PLc_val, PLc_new, stepP_t, stepP_f, stepPC_n, stepPC_s, stepPX_s, stepPX_n, stepPA_t, stepPA_c, stepPA_l, stepPN_s, allocOp, reloc_sl, reloc_ptr, List.map_cons, List.map_nil, List.nil_append, List.append_assoc, List.cons_append, Nat.add_assoc]
  refine PLc_call (by kernel_rfl) (fun L hL => p1 _ ((hG.app _).app L)) (by simp [pv_iv, pv_int, pv_bool, pv_string, pv_tup2, pv_tup3, iv_plain, p2_int, p2_bool, p2_string]) ?_
  try simp (disch := first | omega | (simp only [List.length_set, List.length_append, List.length_cons, List.length_nil, iv_length, zl_length]; try omega; done)) [-getElem?_pos, -getElem?_neg, h4, h9, htk, ht2, htL, PL_nil, PL_cons, PLc_val, PLc_new, stepP_t, stepP_f, stepPC_n, stepPC_s, stepPX_s, stepPX_n, stepPA_t, stepPA_c, stepPA_l, stepPN_s, allocOp, reloc_sl, reloc_ptr, List.map_cons, List.map_nil, List.nil_append, List.append_assoc, List.cons_append, Nat.add_assoc]
  refine hK _ _ ?_; clear hK K
  (refine aw_ret ?_; simp (disch := first | omega | (simp only [List.length_set, List.length_append, List.length_cons, List.length_nil, iv_length, zl_length]; try omega; done)) [-getElem?_pos, -getElem?_neg, thenQ_ret, inBlockQ_ret, RQ, resL, resV])
end
end Go.Proofs.YtnddofgabipknaaDoor
