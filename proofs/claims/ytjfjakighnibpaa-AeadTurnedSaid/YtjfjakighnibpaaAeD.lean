/-
  AeadBack, AeadOnly, AeadTurned, walked.
-/
import Derived.Test.YtjfjakighnibpaaAeC
namespace Go.Proofs.Ytjfjakighnibpaa
section
open Go Go.RowKit
set_option linter.unusedVariables false
set_option linter.unusedSimpArgs false
set_option maxRecDepth 1000000
set_option maxHeartbeats 4000000

theorem turned_eq (a : ByteArray) (k : Nat) (x : Int) (hk : k < a.size) (hx : 0 ≤ x ∧ x ≤ 255) : (x == 0) = decide (a = strOfNums ((nums a).set k (bitsOf .xor .u8 (gb a k) x))) := by
  have hg : (nums a)[k]? = some (gb a k) := by rw [gb_nums', List.getD_eq_getElem?_getD, List.getElem?_eq_getElem (by rw [nums_len]; exact hk)]; rfl
  have hby : By ((nums a).set k (bitsOf .xor .u8 (gb a k) x)) := by
    intro y hy
    rcases List.mem_or_eq_of_mem_set hy with h | h
    · exact nums_bd a y h
    · subst h; exact by_u8 _
  have hx0 := xor8_self (gb a k) x (gb_bd a k) hx
  by_cases h : x = 0
  · rw [hx0.2 h]
    have e : (nums a).set k (gb a k) = nums a := by
      apply List.ext_getElem?
      intro j
      rw [List.getElem?_set]
      split
      · rename_i hj; subst hj
        split
        · exact hg.symm
        · rename_i h2; rw [nums_len] at h2; omega
      · rfl
    rw [e, of_nums', decide_eq_true rfl, beq_iff_eq]; exact h
  · have : ¬ a = strOfNums ((nums a).set k (bitsOf .xor .u8 (gb a k) x)) := by
      intro e
      have e2 := congrArg nums e
      rw [nums_of _ hby] at e2
      have e3 := congrArg (fun l => l[k]?) e2
      simp only [List.getElem?_set_self (show k < (nums a).length by rw [nums_len]; exact hk), hg, Option.some.injEq] at e3
      exact h (hx0.1 e3.symm)
    rw [decide_eq_false this, beq_eq_false_iff_ne]; exact h
theorem shown_get2 (l : Nat) {H L : AH} {N : List Blk} {i j : Nat} {b : Blk} (h : Shown H.length N L (.slice (some ⟨i, 0, none⟩) l l)) (hi : i = H.length + j) (hb : N[j]? = some b) : hget (H ++ L) i = some b := by
  have := h j b hi hb
  rw [hi, hget_app]
  exact this
theorem gb_app_r (a b : ByteArray) (j : Nat) : gb (a ++ b) (a.size + j) = gb b j := by
  rw [gb_nums', gb_nums', nums_app]
  simp only [List.getD_eq_getElem?_getD]
  rw [List.getElem?_append_right (by rw [nums_len]; omega), nums_len, Nat.add_sub_cancel_left]
theorem set_app_r (a b : ByteArray) (j : Nat) (z : Int) (hz : 0 ≤ z ∧ z ≤ 255) : strOfNums ((nums (a ++ b)).set (a.size + j) z) = a ++ strOfNums ((nums b).set j z) := by
  have hb : By ((nums b).set j z) := By.set (fun x hx => nums_bd b x hx) hz
  have hab : By ((nums (a ++ b)).set (a.size + j) z) := By.set (fun x hx => nums_bd _ x hx) hz
  apply str_inj
  rw [nums_of _ hab, nums_app, nums_app, nums_of _ hb, List.set_append_right _ _ (by rw [nums_len]; omega), nums_len, Nat.add_sub_cancel_left]
/-- A box whose tag was turned. -/
theorem open_turned (k : List Int) (s t : ByteArray) (b : List Int) (hs : s.size = 12) (j : Nat) (hj : j < 16) (x : Int) (hx : 0 ≤ x ∧ x ≤ 255) :
    openR k s (strOfNums ((nums (boxS k s t b)).set (t.size + j) (bitsOf .xor .u8 (gb (boxS k s t b) (t.size + j)) x))) b = if x = 0 then .tuple #[.string t, .int .i64 0] else .tuple #[.string ⟨#[]⟩, .int .i64 2] := by
  have hts := tagS_size k s b (nums (mk1 k s t))
  have hms := mk1_size k s t
  have hbk := mk1_back k s t
  have hte := turned_eq (tagS k s b (nums (mk1 k s t))) j x (by omega) hx
  have hz := by_u8 ((BitVec.ofInt 8 (gb (tagS k s b (nums (mk1 k s t))) j) ^^^ BitVec.ofInt 8 x).toNat : Int)
  have hz' : 0 ≤ bitsOf .xor .u8 (gb (tagS k s b (nums (mk1 k s t))) j) x ∧ bitsOf .xor .u8 (gb (tagS k s b (nums (mk1 k s t))) j) x ≤ 255 := hz
  have e : openR k s (strOfNums ((nums (boxS k s t b)).set (t.size + j) (bitsOf .xor .u8 (gb (boxS k s t b) (t.size + j)) x))) b = if tagS k s b (nums (mk1 k s t)) = strOfNums ((nums (tagS k s b (nums (mk1 k s t)))).set j (bitsOf .xor .u8 (gb (tagS k s b (nums (mk1 k s t))) j) x)) then .tuple #[.string t, .int .i64 0] else .tuple #[.string ⟨#[]⟩, .int .i64 2] := by
    rw [boxS_eq, ← hms, gb_app_r, set_app_r _ _ _ _ hz']
    obtain ⟨h1, h2⟩ := hidO_app (mk1 k s t) (strOfNums ((nums (tagS k s b (nums (mk1 k s t)))).set j (bitsOf .xor .u8 (gb (tagS k s b (nums (mk1 k s t))) j) x))) (by rw [strOfNums_size, List.length_set, nums_len, hts])
    unfold openR
    rw [if_pos hs, h1, h2, hbk]
  rw [e]
  by_cases h : x = 0
  · rw [if_pos h]
    have : decide (tagS k s b (nums (mk1 k s t)) = strOfNums ((nums (tagS k s b (nums (mk1 k s t)))).set j (bitsOf .xor .u8 (gb (tagS k s b (nums (mk1 k s t))) j) x))) = true := by rw [← hte, beq_iff_eq]; exact h
    rw [if_pos (of_decide_eq_true this)]
  · rw [if_neg h]
    have : decide (tagS k s b (nums (mk1 k s t)) = strOfNums ((nums (tagS k s b (nums (mk1 k s t)))).set j (bitsOf .xor .u8 (gb (tagS k s b (nums (mk1 k s t))) j) x))) = false := by rw [← hte, beq_eq_false_iff_ne]; exact h
    rw [if_neg (of_decide_eq_false this)]
theorem cat_cut (b : ByteArray) (n : Nat) : cat [b.extract 0 n, b.extract n b.size] = nums b := by
  simp only [cat, List.append_nil]
  rw [nums_ext, nums_drop, List.drop_zero, Nat.sub_zero, List.take_append_drop]
theorem cat_one (b : ByteArray) : cat [b] = nums b := by simp [cat]
/-- What is opened is the box of just that text. -/
theorem seal_open (k : List Int) (s x : ByteArray) (b : List Int) (h16 : 16 ≤ x.size) (hq : tagS k s b (nums (hidO x)) = givO x) : boxS k s (mk1 k s (hidO x)) b = x := by
  rw [boxS_eq, mk1_back, hq, hid_giv x h16]
attribute [local irreducible] tg boxS tagS mk1 sealR openR
attribute [local simp] wb_bool wb_undef XL_nil XL_cons XLc_val XLc_call step1_eq stepW_t stepW_f stepC_n stepC_s stepX_s xop_eq xopR_s xopR_n wantedA_eq wantedG_n wantedG_s plain1_int plain1_bool plain1_string bits_i64 bits_u64 bits_u32 bits_u16 bits_u8 xeqA xarr allK_iv num_iv calleeOf xread xeff xbin xint xnil xun xstr xload xconv xpart xfield xfieldAddr xindexAddr xindex bnd asInt? xslice xlen xmin xmax xbuild xfill xappend xcopy xcells eval_tmp eval_const put_at put_none fr0_at cells_agg cells_int cells_bool cells_string cells_ptr cells_slice notTuple tab iv_all hget_app hget_app0 hget_cons0 hget_cons set_app set_app0 setR setR_one QL_nil QL_cons QLc_val stepQ_t stepQ_f stepQC_n stepQC_s stepQX_s SL_nil SL_cons SLc_val stepS_t stepS_f ltT ltF leT leF eqT eqF ltTn ltFn leTn leFn eqTn eqFn beqT beqF bneT bneF wi64 wu64 wu32 wu16 wu8 tmodP tdivP hgetL hgetNe hgetEq setL nums_def nums_len Nat.succ_le_of_lt List.getElem?_cons_zero List.getElem?_cons_succ Option.getD_some Int.toNat_add Int.toNat_mul agB agI agS agP agL agA okB okI okS okP okSl okA
theorem back_law {H : AH} {γ : Nat → Option Nat} {k : List Int} (hk : By k) (hlk : k.length = 32) (s t b : ByteArray) (c : Int) (hc : 0 ≤ c ∧ c ≤ 65535) (hsm : s.size ≤ 9223372036854775807) : AC Try.prog H.length γ 5 #[.agg (iv .u8 k).toArray, .string s, .string t, .string b, .int .u16 c] H (fun v' _ => v' = .bool true) := by
  have htk : (iv .u8 k).take 32 = iv .u8 k := List.take_of_length_le (by simp [hlk])
  refine ac_of_aw Try.func5 rfl Try.ntmps5 Try.results5 (by simp) ?_
  refine aw_seq ?_
  (refine aw_ops (by kernel_rfl) (fun K hK => ?_); simp (disch := first | omega | (simp only [List.length_set, List.length_append, List.length_cons, List.length_nil, iv_length, zl_length]; try omega; done)) [-getElem?_pos, -getElem?_neg]; refine hK _ _ ?_; clear hK K)
  refine aw_seq ?_
  refine aw_seq ?_
  refine aw_ops (by kernel_rfl) (fun K hK => ?_)
  simp (disch := first | omega | (simp only [List.length_set, List.length_append, List.length_cons, List.length_nil, iv_length, zl_length]; try omega; done)) [-getElem?_pos, -getElem?_neg]
  refine ⟨by kernel_rfl, ac_of_rc alive_rc (by simp [pv_iv, pv_int, pv_bool, pv_string, pv_tup2, pv_tup3, iv_plain, p2_int, p2_bool, p2_string]) ?_⟩
  simp (disch := first | omega | (simp only [List.length_set, List.length_append, List.length_cons, List.length_nil, iv_length, zl_length]; try omega; done)) [-getElem?_pos, -getElem?_neg]
  refine hK _ _ ?_; clear hK K
  refine aw_f (by (first | (simp [eval_tmp, put_at]; done) | (simp [eval_tmp, put_at]; omega))) (by kernel_rfl) ?_
  refine aw_skip ?_
  refine aw_seq ?_
  refine aw_seq ?_
  by_cases hgr : 1000 < t.size ∨ 1000 < b.size
  · refine aw_cut (fun α' H' => α' 25 = .bool true ∧ H' = H ++ [some ⟨iv .u8 k, 23, none⟩]) ?_ ?_
    · by_cases h1 : 1000 < t.size
      · (refine aw_ops (by kernel_rfl) (fun K hK => ?_); simp (disch := first | omega | (simp only [List.length_set, List.length_append, List.length_cons, List.length_nil, iv_length, zl_length]; try omega; done)) [-getElem?_pos, -getElem?_neg]; refine hK _ _ ?_; clear hK K)
        exact ⟨by (first | (simp [put_at, put_none, fr0_at]; done) | rfl), rfl⟩
      · have h2 : 1000 < b.size := by omega
        (refine aw_ops (by kernel_rfl) (fun K hK => ?_); simp (disch := first | omega | (simp only [List.length_set, List.length_append, List.length_cons, List.length_nil, iv_length, zl_length]; try omega; done)) [-getElem?_pos, -getElem?_neg]; refine hK _ _ ?_; clear hK K)
        exact ⟨by (first | (simp [put_at, put_none, fr0_at]; done) | rfl), rfl⟩
    rintro α H' ⟨h25, rfl⟩
    refine aw_t (by (first | (simp [eval_tmp, put_at, h25]; done) | (simp [eval_tmp, put_at, h25]; omega))) (by kernel_rfl) ?_
    refine aw_seq ?_
    refine aw_ops (by kernel_rfl) (fun K hK => ?_)
    simp (disch := first | omega | (simp only [List.length_set, List.length_append, List.length_cons, List.length_nil, iv_length, zl_length]; try omega; done)) [-getElem?_pos, -getElem?_neg]
    refine ⟨by kernel_rfl, ac_of_rc alive_rc (by simp [pv_iv, pv_int, pv_bool, pv_string, pv_tup2, pv_tup3, iv_plain, p2_int, p2_bool, p2_string]) ?_⟩
    try simp (disch := first | omega | (simp only [List.length_set, List.length_append, List.length_cons, List.length_nil, iv_length, zl_length]; try omega; done)) [-getElem?_pos, -getElem?_neg]
    refine hK _ _ ?_; clear hK K
    (refine aw_ret ?_; simp (disch := first | omega | (simp only [List.length_set, List.length_append, List.length_cons, List.length_nil, iv_length, zl_length]; try omega; done)) [-getElem?_pos, -getElem?_neg, thenQ_ret, inBlockQ_ret, RQ, resL, resV])
  have ht : t.size ≤ 1000 := by omega
  have hb : b.size ≤ 1000 := by omega
  clear hgr
  (refine aw_ops (by kernel_rfl) (fun K hK => ?_); simp (disch := first | omega | (simp only [List.length_set, List.length_append, List.length_cons, List.length_nil, iv_length, zl_length]; try omega; done)) [-getElem?_pos, -getElem?_neg]; refine hK _ _ ?_; clear hK K)
  refine aw_f (by (first | (simp [eval_tmp, put_at]; done) | (simp [eval_tmp, put_at]; omega))) (by kernel_rfl) ?_
  refine aw_skip ?_
  have hc1 := cat_one b
  have hnl := nums_len b
  have hsl := fun (G : AH) (v : Value) (hv : SlR G v [b]) => seal_rc (H := G) (γ := γ) hk hlk s t [b] v hv (by simp) (by rw [hc1]; omega) (by omega)
  rw [hc1] at hsl
  refine aw_seq ?_
  by_cases hs : s.size = 12
  · have hse := sealR_y k s t (nums b) hs
    have hbs := boxS_size k s t (nums b)
    have hob := open_box k s t (nums b) hs
    rw [hse] at hsl
    generalize boxS k s t (nums b) = bx at *
    obtain ⟨n, hn⟩ : ∃ n : Nat, (n : Int) = c % ((b.size : Int) + 1) := ⟨(c % ((b.size : Int) + 1)).toNat, by
      have := Int.emod_nonneg c (b := (b.size : Int) + 1) (by omega)
      omega⟩
    have hn2 : n ≤ b.size := by
      have := Int.emod_lt_of_pos c (b := (b.size : Int) + 1) (by omega)
      omega
    have hcc := cat_cut b n
    have hol := fun (G : AH) (v : Value) (hv : SlR G v [b.extract 0 n, b.extract n b.size]) => open_rc (H := G) (γ := γ) hk hlk s bx [b.extract 0 n, b.extract n b.size] v hv (by simp) (by rw [hcc]; omega) (by omega)
    rw [hcc, hob] at hol
    refine aw_ops (by kernel_rfl) (fun K hK => ?_)
    simp (disch := first | omega | (simp only [List.length_set, List.length_append, List.length_cons, List.length_nil, iv_length, zl_length]; try omega; done)) [-getElem?_pos, -getElem?_neg, hlk, htk]
    refine ⟨by kernel_rfl, ac_of_rc (hsl _ _ (SlR.mk1 (by rw [hget_app]; rfl) rfl)) (by simp [pv_iv, pv_int, pv_bool, pv_string, pv_tup2, pv_tup3, iv_plain, p2_int, p2_bool, p2_string]) ?_⟩
    try simp (disch := first | omega | (simp only [List.length_set, List.length_append, List.length_cons, List.length_nil, iv_length, zl_length]; try omega; done)) [-getElem?_pos, -getElem?_neg]
    refine hK _ _ ?_; clear hK K
    refine aw_seq ?_
    refine aw_seq ?_
    (refine aw_ops (by kernel_rfl) (fun K hK => ?_); simp (disch := first | omega | (simp only [List.length_set, List.length_append, List.length_cons, List.length_nil, iv_length, zl_length]; try omega; done)) [-getElem?_pos, -getElem?_neg]; refine hK _ _ ?_; clear hK K)
    refine aw_f (by (first | (simp [eval_tmp, put_at]; done) | (simp [eval_tmp, put_at]; omega))) (by kernel_rfl) ?_
    refine aw_skip ?_
    refine aw_seq ?_
    (refine aw_ops (by kernel_rfl) (fun K hK => ?_); simp (disch := first | omega | (simp only [List.length_set, List.length_append, List.length_cons, List.length_nil, iv_length, zl_length]; try omega; done)) [-getElem?_pos, -getElem?_neg, ← hn]; refine hK _ _ ?_; clear hK K)
    refine aw_seq ?_
    have fill2 : ∀ p q : ByteArray, ((List.map (fun j => [Value.string ByteArray.empty][j % 1]?.getD undef) (List.range 2)).set 0 (Value.string p)).set 1 (Value.string q) = [Value.string p, Value.string q] := fun _ _ => rfl
    (refine aw_plan [] [] [0, 1, 2, 3, 4, 5, 6, 7, 8, 9, 10, 11, 12, 13, 14, 15] 16 0 (by kernel_rfl) (by kernel_rfl) (by kernel_rfl) (fun K hK => ?_)); simp only [sel, List.getElem?_cons_succ, List.getElem?_cons_zero, List.drop_succ_cons, List.drop_zero]; simp (disch := first | omega | (simp only [List.length_set, List.length_append, List.length_cons, List.length_nil, iv_length, zl_length]; try omega; done)) [-getElem?_pos, -getElem?_neg, hlk, htk, fill2, PL_nil, PL_cons, PLc_val, PLc_new, stepP_t, stepP_f, stepPC_n, stepPC_s, stepPX_s, stepPX_n, stepPA_t, stepPA_c, stepPA_l, stepPN_s, allocOp, reloc_sl, reloc_ptr, List.map_cons, List.map_nil, List.nil_append, List.append_assoc, List.cons_append, Nat.add_assoc]
    refine PLc_call (by kernel_rfl) (fun L hL => hol _ _ (SlR.mk2 (shown_get2 2 (j := 0) (hL _ (by simp)) (by simp) rfl) rfl rfl)) (by simp [pv_iv, pv_int, pv_bool, pv_string, pv_tup2, pv_tup3, iv_plain, p2_int, p2_bool, p2_string]) ?_
    try simp (disch := first | omega | (simp only [List.length_set, List.length_append, List.length_cons, List.length_nil, iv_length, zl_length]; try omega; done)) [-getElem?_pos, -getElem?_neg, PL_nil, PL_cons, PLc_val, PLc_new, stepP_t, stepP_f, stepPC_n, stepPC_s, stepPX_s, stepPX_n, stepPA_t, stepPA_c, stepPA_l, stepPN_s, allocOp, reloc_sl, reloc_ptr, List.map_cons, List.map_nil, List.nil_append, List.append_assoc, List.cons_append, Nat.add_assoc]
    refine hK _ _ ?_; clear hK K
    refine aw_seq ?_
    refine aw_ops (by kernel_rfl) (fun K hK => ?_)
    simp (disch := first | omega | (simp only [List.length_set, List.length_append, List.length_cons, List.length_nil, iv_length, zl_length]; try omega; done)) [-getElem?_pos, -getElem?_neg]
    refine ⟨by kernel_rfl, ac_of_rc alive_rc (by simp [pv_iv, pv_int, pv_bool, pv_string, pv_tup2, pv_tup3, iv_plain, p2_int, p2_bool, p2_string]) ?_⟩
    try simp (disch := first | omega | (simp only [List.length_set, List.length_append, List.length_cons, List.length_nil, iv_length, zl_length]; try omega; done)) [-getElem?_pos, -getElem?_neg, beq_self_eq_true, hbs]
    refine hK _ _ ?_; clear hK K
    (refine aw_ret ?_; simp (disch := first | omega | (simp only [List.length_set, List.length_append, List.length_cons, List.length_nil, iv_length, zl_length]; try omega; done)) [-getElem?_pos, -getElem?_neg, thenQ_ret, inBlockQ_ret, RQ, resL, resV])
  · have hse := sealR_n k s t (nums b) hs
    rw [hse] at hsl
    refine aw_ops (by kernel_rfl) (fun K hK => ?_)
    simp (disch := first | omega | (simp only [List.length_set, List.length_append, List.length_cons, List.length_nil, iv_length, zl_length]; try omega; done)) [-getElem?_pos, -getElem?_neg, hlk, htk]
    refine ⟨by kernel_rfl, ac_of_rc (hsl _ _ (SlR.mk1 (by rw [hget_app]; rfl) rfl)) (by simp [pv_iv, pv_int, pv_bool, pv_string, pv_tup2, pv_tup3, iv_plain, p2_int, p2_bool, p2_string]) ?_⟩
    try simp (disch := first | omega | (simp only [List.length_set, List.length_append, List.length_cons, List.length_nil, iv_length, zl_length]; try omega; done)) [-getElem?_pos, -getElem?_neg]
    refine hK _ _ ?_; clear hK K
    refine aw_seq ?_
    refine aw_seq ?_
    (refine aw_ops (by kernel_rfl) (fun K hK => ?_); simp (disch := first | omega | (simp only [List.length_set, List.length_append, List.length_cons, List.length_nil, iv_length, zl_length]; try omega; done)) [-getElem?_pos, -getElem?_neg]; refine hK _ _ ?_; clear hK K)
    refine aw_t (by (first | (simp [eval_tmp, put_at]; done) | (simp [eval_tmp, put_at]; omega))) (by kernel_rfl) ?_
    refine aw_seq ?_
    refine aw_ops (by kernel_rfl) (fun K hK => ?_)
    simp (disch := first | omega | (simp only [List.length_set, List.length_append, List.length_cons, List.length_nil, iv_length, zl_length]; try omega; done)) [-getElem?_pos, -getElem?_neg]
    refine ⟨by kernel_rfl, ac_of_rc alive_rc (by simp [pv_iv, pv_int, pv_bool, pv_string, pv_tup2, pv_tup3, iv_plain, p2_int, p2_bool, p2_string]) ?_⟩
    try simp (disch := first | omega | (simp only [List.length_set, List.length_append, List.length_cons, List.length_nil, iv_length, zl_length]; try omega; done)) [-getElem?_pos, -getElem?_neg, beq_self_eq_true]
    refine hK _ _ ?_; clear hK K
    (refine aw_ret ?_; simp (disch := first | omega | (simp only [List.length_set, List.length_append, List.length_cons, List.length_nil, iv_length, zl_length]; try omega; done)) [-getElem?_pos, -getElem?_neg, thenQ_ret, inBlockQ_ret, RQ, resL, resV])
theorem only_law {H : AH} {γ : Nat → Option Nat} {k : List Int} (hk : By k) (hlk : k.length = 32) (s x b : ByteArray) (hsm : s.size ≤ 9223372036854775807) : AC Try.prog H.length γ 6 #[.agg (iv .u8 k).toArray, .string s, .string x, .string b] H (fun v' _ => v' = .bool true) := by
  have htk : (iv .u8 k).take 32 = iv .u8 k := List.take_of_length_le (by simp [hlk])
  refine ac_of_aw Try.func6 rfl Try.ntmps6 Try.results6 (by simp) ?_
  refine aw_seq ?_
  (refine aw_ops (by kernel_rfl) (fun K hK => ?_); simp (disch := first | omega | (simp only [List.length_set, List.length_append, List.length_cons, List.length_nil, iv_length, zl_length]; try omega; done)) [-getElem?_pos, -getElem?_neg]; refine hK _ _ ?_; clear hK K)
  refine aw_seq ?_
  refine aw_seq ?_
  refine aw_ops (by kernel_rfl) (fun K hK => ?_)
  simp (disch := first | omega | (simp only [List.length_set, List.length_append, List.length_cons, List.length_nil, iv_length, zl_length]; try omega; done)) [-getElem?_pos, -getElem?_neg]
  refine ⟨by kernel_rfl, ac_of_rc alive_rc (by simp [pv_iv, pv_int, pv_bool, pv_string, pv_tup2, pv_tup3, iv_plain, p2_int, p2_bool, p2_string]) ?_⟩
  simp (disch := first | omega | (simp only [List.length_set, List.length_append, List.length_cons, List.length_nil, iv_length, zl_length]; try omega; done)) [-getElem?_pos, -getElem?_neg]
  refine hK _ _ ?_; clear hK K
  refine aw_f (by (first | (simp [eval_tmp, put_at]; done) | (simp [eval_tmp, put_at]; omega))) (by kernel_rfl) ?_
  refine aw_skip ?_
  refine aw_seq ?_
  refine aw_seq ?_
  by_cases hgr : 1000 < x.size ∨ 1000 < b.size
  · refine aw_cut (fun α' H' => α' 22 = .bool true ∧ H' = H ++ [some ⟨iv .u8 k, 23, none⟩]) ?_ ?_
    · by_cases h1 : 1000 < x.size
      · (refine aw_ops (by kernel_rfl) (fun K hK => ?_); simp (disch := first | omega | (simp only [List.length_set, List.length_append, List.length_cons, List.length_nil, iv_length, zl_length]; try omega; done)) [-getElem?_pos, -getElem?_neg]; refine hK _ _ ?_; clear hK K)
        exact ⟨by (first | (simp [put_at, put_none, fr0_at]; done) | rfl), rfl⟩
      · have h2 : 1000 < b.size := by omega
        (refine aw_ops (by kernel_rfl) (fun K hK => ?_); simp (disch := first | omega | (simp only [List.length_set, List.length_append, List.length_cons, List.length_nil, iv_length, zl_length]; try omega; done)) [-getElem?_pos, -getElem?_neg]; refine hK _ _ ?_; clear hK K)
        exact ⟨by (first | (simp [put_at, put_none, fr0_at]; done) | rfl), rfl⟩
    rintro α H' ⟨h25, rfl⟩
    refine aw_t (by (first | (simp [eval_tmp, put_at, h25]; done) | (simp [eval_tmp, put_at, h25]; omega))) (by kernel_rfl) ?_
    refine aw_seq ?_
    refine aw_ops (by kernel_rfl) (fun K hK => ?_)
    simp (disch := first | omega | (simp only [List.length_set, List.length_append, List.length_cons, List.length_nil, iv_length, zl_length]; try omega; done)) [-getElem?_pos, -getElem?_neg]
    refine ⟨by kernel_rfl, ac_of_rc alive_rc (by simp [pv_iv, pv_int, pv_bool, pv_string, pv_tup2, pv_tup3, iv_plain, p2_int, p2_bool, p2_string]) ?_⟩
    try simp (disch := first | omega | (simp only [List.length_set, List.length_append, List.length_cons, List.length_nil, iv_length, zl_length]; try omega; done)) [-getElem?_pos, -getElem?_neg]
    refine hK _ _ ?_; clear hK K
    (refine aw_ret ?_; simp (disch := first | omega | (simp only [List.length_set, List.length_append, List.length_cons, List.length_nil, iv_length, zl_length]; try omega; done)) [-getElem?_pos, -getElem?_neg, thenQ_ret, inBlockQ_ret, RQ, resL, resV])
  have hx : x.size ≤ 1000 := by omega
  have hb : b.size ≤ 1000 := by omega
  clear hgr
  (refine aw_ops (by kernel_rfl) (fun K hK => ?_); simp (disch := first | omega | (simp only [List.length_set, List.length_append, List.length_cons, List.length_nil, iv_length, zl_length]; try omega; done)) [-getElem?_pos, -getElem?_neg]; refine hK _ _ ?_; clear hK K)
  refine aw_f (by (first | (simp [eval_tmp, put_at]; done) | (simp [eval_tmp, put_at]; omega))) (by kernel_rfl) ?_
  refine aw_skip ?_
  have hc1 := cat_one b
  have hnl := nums_len b
  have hol := fun (G : AH) (v : Value) (hv : SlR G v [b]) => open_rc (H := G) (γ := γ) hk hlk s x [b] v hv (by simp) (by rw [hc1]; omega) (by omega)
  rw [hc1] at hol
  refine aw_seq ?_
  by_cases hok : s.size = 12 ∧ tagS k s (nums b) (nums (hidO x)) = givO x
  · obtain ⟨hs, hq⟩ := hok
    have e1 : openR k s x (nums b) = .tuple #[.string (mk1 k s (hidO x)), .int .i64 0] := by unfold openR; rw [if_pos hs, if_pos hq]
    have h16 : 16 ≤ x.size := by
      have h1 := tagS_size k s (nums b) (nums (hidO x))
      rw [hq] at h1
      unfold givO at h1
      split at h1
      · assumption
      · cases h1
    have hso := seal_open k s x (nums b) h16 hq
    have hsy := sealR_y k s (mk1 k s (hidO x)) (nums b) hs
    rw [hso] at hsy
    have hms := mk1_size k s (hidO x)
    have hhs := hidO_size x
    have hsl := fun (G : AH) (v : Value) (hv : SlR G v [b]) => seal_rc (H := G) (γ := γ) hk hlk s (mk1 k s (hidO x)) [b] v hv (by simp) (by rw [hc1]; omega) (by omega)
    rw [hc1, hsy] at hsl
    rw [e1] at hol
    generalize mk1 k s (hidO x) = m at *
    refine aw_ops (by kernel_rfl) (fun K hK => ?_)
    simp (disch := first | omega | (simp only [List.length_set, List.length_append, List.length_cons, List.length_nil, iv_length, zl_length]; try omega; done)) [-getElem?_pos, -getElem?_neg, hlk, htk]
    refine ⟨by kernel_rfl, ac_of_rc (hol _ _ (SlR.mk1 (by rw [hget_app]; rfl) rfl)) (by simp [pv_iv, pv_int, pv_bool, pv_string, pv_tup2, pv_tup3, iv_plain, p2_int, p2_bool, p2_string]) ?_⟩
    try simp (disch := first | omega | (simp only [List.length_set, List.length_append, List.length_cons, List.length_nil, iv_length, zl_length]; try omega; done)) [-getElem?_pos, -getElem?_neg]
    refine hK _ _ ?_; clear hK K
    refine aw_seq ?_
    refine aw_seq ?_
    (refine aw_ops (by kernel_rfl) (fun K hK => ?_); simp (disch := first | omega | (simp only [List.length_set, List.length_append, List.length_cons, List.length_nil, iv_length, zl_length]; try omega; done)) [-getElem?_pos, -getElem?_neg]; refine hK _ _ ?_; clear hK K)
    refine aw_f (by (first | (simp [eval_tmp, put_at]; done) | (simp [eval_tmp, put_at]; omega))) (by kernel_rfl) ?_
    refine aw_skip ?_
    refine aw_seq ?_
    refine aw_ops (by kernel_rfl) (fun K hK => ?_)
    simp (disch := first | omega | (simp only [List.length_set, List.length_append, List.length_cons, List.length_nil, iv_length, zl_length]; try omega; done)) [-getElem?_pos, -getElem?_neg, hlk, htk]
    refine ⟨by kernel_rfl, ac_of_rc (hsl _ _ (SlR.mk1 (by rw [hget_app]; rfl) rfl)) (by simp [pv_iv, pv_int, pv_bool, pv_string, pv_tup2, pv_tup3, iv_plain, p2_int, p2_bool, p2_string]) ?_⟩
    try simp (disch := first | omega | (simp only [List.length_set, List.length_append, List.length_cons, List.length_nil, iv_length, zl_length]; try omega; done)) [-getElem?_pos, -getElem?_neg]
    refine hK _ _ ?_; clear hK K
    refine aw_seq ?_
    refine aw_ops (by kernel_rfl) (fun K hK => ?_)
    simp (disch := first | omega | (simp only [List.length_set, List.length_append, List.length_cons, List.length_nil, iv_length, zl_length]; try omega; done)) [-getElem?_pos, -getElem?_neg]
    refine ⟨by kernel_rfl, ac_of_rc alive_rc (by simp [pv_iv, pv_int, pv_bool, pv_string, pv_tup2, pv_tup3, iv_plain, p2_int, p2_bool, p2_string]) ?_⟩
    try simp (disch := first | omega | (simp only [List.length_set, List.length_append, List.length_cons, List.length_nil, iv_length, zl_length]; try omega; done)) [-getElem?_pos, -getElem?_neg, beq_self_eq_true]
    refine hK _ _ ?_; clear hK K
    (refine aw_ret ?_; simp (disch := first | omega | (simp only [List.length_set, List.length_append, List.length_cons, List.length_nil, iv_length, zl_length]; try omega; done)) [-getElem?_pos, -getElem?_neg, thenQ_ret, inBlockQ_ret, RQ, resL, resV])
  · obtain ⟨e, he, e1⟩ : ∃ e : Int, e ≠ 0 ∧ openR k s x (nums b) = .tuple #[.string ⟨#[]⟩, .int .i64 e] := by
      unfold openR
      by_cases hs : s.size = 12
      · rw [if_pos hs, if_neg (fun h => hok ⟨hs, h⟩)]
        exact ⟨2, by omega, rfl⟩
      · rw [if_neg hs]
        exact ⟨1, by omega, rfl⟩
    rw [e1] at hol
    refine aw_ops (by kernel_rfl) (fun K hK => ?_)
    simp (disch := first | omega | (simp only [List.length_set, List.length_append, List.length_cons, List.length_nil, iv_length, zl_length]; try omega; done)) [-getElem?_pos, -getElem?_neg, hlk, htk]
    refine ⟨by kernel_rfl, ac_of_rc (hol _ _ (SlR.mk1 (by rw [hget_app]; rfl) rfl)) (by simp [pv_iv, pv_int, pv_bool, pv_string, pv_tup2, pv_tup3, iv_plain, p2_int, p2_bool, p2_string]) ?_⟩
    try simp (disch := first | omega | (simp only [List.length_set, List.length_append, List.length_cons, List.length_nil, iv_length, zl_length]; try omega; done)) [-getElem?_pos, -getElem?_neg]
    refine hK _ _ ?_; clear hK K
    refine aw_seq ?_
    refine aw_seq ?_
    (refine aw_ops (by kernel_rfl) (fun K hK => ?_); simp (disch := first | omega | (simp only [List.length_set, List.length_append, List.length_cons, List.length_nil, iv_length, zl_length]; try omega; done)) [-getElem?_pos, -getElem?_neg]; refine hK _ _ ?_; clear hK K)
    refine aw_t (by (first | (simp [eval_tmp, put_at]; done) | (simp [eval_tmp, put_at]; omega))) (by kernel_rfl) ?_
    refine aw_seq ?_
    refine aw_ops (by kernel_rfl) (fun K hK => ?_)
    simp (disch := first | omega | (simp only [List.length_set, List.length_append, List.length_cons, List.length_nil, iv_length, zl_length]; try omega; done)) [-getElem?_pos, -getElem?_neg]
    refine ⟨by kernel_rfl, ac_of_rc alive_rc (by simp [pv_iv, pv_int, pv_bool, pv_string, pv_tup2, pv_tup3, iv_plain, p2_int, p2_bool, p2_string]) ?_⟩
    try simp (disch := first | omega | (simp only [List.length_set, List.length_append, List.length_cons, List.length_nil, iv_length, zl_length]; try omega; done)) [-getElem?_pos, -getElem?_neg, beq_self_eq_true]
    refine hK _ _ ?_; clear hK K
    (refine aw_ret ?_; simp (disch := first | omega | (simp only [List.length_set, List.length_append, List.length_cons, List.length_nil, iv_length, zl_length]; try omega; done)) [-getElem?_pos, -getElem?_neg, thenQ_ret, inBlockQ_ret, RQ, resL, resV])
theorem turned_law {H : AH} {γ : Nat → Option Nat} {k : List Int} (hk : By k) (hlk : k.length = 32) (s t b : ByteArray) (a x : Int) (ha : 0 ≤ a ∧ a ≤ 255) (hx : 0 ≤ x ∧ x ≤ 255) (hsm : s.size ≤ 9223372036854775807) : AC Try.prog H.length γ 7 #[.agg (iv .u8 k).toArray, .string s, .string t, .string b, .int .u8 a, .int .u8 x] H (fun v' _ => v' = .bool true) := by
  have htk : (iv .u8 k).take 32 = iv .u8 k := List.take_of_length_le (by simp [hlk])
  refine ac_of_aw Try.func7 rfl Try.ntmps7 Try.results7 (by simp) ?_
  refine aw_seq ?_
  (refine aw_ops (by kernel_rfl) (fun K hK => ?_); simp (disch := first | omega | (simp only [List.length_set, List.length_append, List.length_cons, List.length_nil, iv_length, zl_length]; try omega; done)) [-getElem?_pos, -getElem?_neg]; refine hK _ _ ?_; clear hK K)
  refine aw_seq ?_
  refine aw_seq ?_
  refine aw_ops (by kernel_rfl) (fun K hK => ?_)
  simp (disch := first | omega | (simp only [List.length_set, List.length_append, List.length_cons, List.length_nil, iv_length, zl_length]; try omega; done)) [-getElem?_pos, -getElem?_neg]
  refine ⟨by kernel_rfl, ac_of_rc alive_rc (by simp [pv_iv, pv_int, pv_bool, pv_string, pv_tup2, pv_tup3, iv_plain, p2_int, p2_bool, p2_string]) ?_⟩
  simp (disch := first | omega | (simp only [List.length_set, List.length_append, List.length_cons, List.length_nil, iv_length, zl_length]; try omega; done)) [-getElem?_pos, -getElem?_neg]
  refine hK _ _ ?_; clear hK K
  refine aw_f (by (first | (simp [eval_tmp, put_at]; done) | (simp [eval_tmp, put_at]; omega))) (by kernel_rfl) ?_
  refine aw_skip ?_
  refine aw_seq ?_
  refine aw_seq ?_
  by_cases hgr : 1000 < t.size ∨ 1000 < b.size ∨ s.size ≠ 12
  · refine aw_cut (fun α' H' => α' 33 = .bool true ∧ H' = H ++ [some ⟨iv .u8 k, 23, none⟩]) ?_ ?_
    · by_cases h1 : 1000 < t.size
      · (refine aw_ops (by kernel_rfl) (fun K hK => ?_); simp (disch := first | omega | (simp only [List.length_set, List.length_append, List.length_cons, List.length_nil, iv_length, zl_length]; try omega; done)) [-getElem?_pos, -getElem?_neg]; refine hK _ _ ?_; clear hK K)
        exact ⟨by (first | (simp [put_at, put_none, fr0_at]; done) | rfl), rfl⟩
      · by_cases h2 : 1000 < b.size
        · (refine aw_ops (by kernel_rfl) (fun K hK => ?_); simp (disch := first | omega | (simp only [List.length_set, List.length_append, List.length_cons, List.length_nil, iv_length, zl_length]; try omega; done)) [-getElem?_pos, -getElem?_neg]; refine hK _ _ ?_; clear hK K)
          exact ⟨by (first | (simp [put_at, put_none, fr0_at]; done) | rfl), rfl⟩
        · have h3 : s.size ≠ 12 := by omega
          (refine aw_ops (by kernel_rfl) (fun K hK => ?_); simp (disch := first | omega | (simp only [List.length_set, List.length_append, List.length_cons, List.length_nil, iv_length, zl_length]; try omega; done)) [-getElem?_pos, -getElem?_neg]; refine hK _ _ ?_; clear hK K)
          exact ⟨by (first | (simp [put_at, put_none, fr0_at]; done) | rfl), rfl⟩
    rintro α H' ⟨h25, rfl⟩
    refine aw_t (by (first | (simp [eval_tmp, put_at, h25]; done) | (simp [eval_tmp, put_at, h25]; omega))) (by kernel_rfl) ?_
    refine aw_seq ?_
    refine aw_ops (by kernel_rfl) (fun K hK => ?_)
    simp (disch := first | omega | (simp only [List.length_set, List.length_append, List.length_cons, List.length_nil, iv_length, zl_length]; try omega; done)) [-getElem?_pos, -getElem?_neg]
    refine ⟨by kernel_rfl, ac_of_rc alive_rc (by simp [pv_iv, pv_int, pv_bool, pv_string, pv_tup2, pv_tup3, iv_plain, p2_int, p2_bool, p2_string]) ?_⟩
    try simp (disch := first | omega | (simp only [List.length_set, List.length_append, List.length_cons, List.length_nil, iv_length, zl_length]; try omega; done)) [-getElem?_pos, -getElem?_neg]
    refine hK _ _ ?_; clear hK K
    (refine aw_ret ?_; simp (disch := first | omega | (simp only [List.length_set, List.length_append, List.length_cons, List.length_nil, iv_length, zl_length]; try omega; done)) [-getElem?_pos, -getElem?_neg, thenQ_ret, inBlockQ_ret, RQ, resL, resV])
  have ht : t.size ≤ 1000 := by omega
  have hb : b.size ≤ 1000 := by omega
  have hs : s.size = 12 := by omega
  clear hgr
  (refine aw_ops (by kernel_rfl) (fun K hK => ?_); simp (disch := first | omega | (simp only [List.length_set, List.length_append, List.length_cons, List.length_nil, iv_length, zl_length]; try omega; done)) [-getElem?_pos, -getElem?_neg]; refine hK _ _ ?_; clear hK K)
  refine aw_f (by (first | (simp [eval_tmp, put_at]; done) | (simp [eval_tmp, put_at]; omega))) (by kernel_rfl) ?_
  refine aw_skip ?_
  have hc1 := cat_one b
  have hnl := nums_len b
  have hsl := fun (G : AH) (v : Value) (hv : SlR G v [b]) => seal_rc (H := G) (γ := γ) hk hlk s t [b] v hv (by simp) (by rw [hc1]; omega) (by omega)
  have hse := sealR_y k s t (nums b) hs
  rw [hc1, hse] at hsl
  obtain ⟨j, hj⟩ : ∃ j : Nat, (j : Int) = a % 16 := ⟨(a % 16).toNat, by omega⟩
  have hj16 : j < 16 := by omega
  have hbs := boxS_size k s t (nums b)
  have hot := open_turned k s t (nums b) hs j hj16 x hx
  generalize boxS k s t (nums b) = bx at *
  have hg : (iv .u8 (nums bx))[t.size + j]? = some (.int .u8 (gb bx (t.size + j))) := by rw [gb_nums']; exact iv_get _ _ _ (by rw [nums_len]; omega)
  have hzb : 0 ≤ bitsOf .xor .u8 (gb bx (t.size + j)) x ∧ bitsOf .xor .u8 (gb bx (t.size + j)) x ≤ 255 := by_u8 ((BitVec.ofInt 8 (gb bx (t.size + j)) ^^^ BitVec.ofInt 8 x).toNat : Int)
  obtain ⟨z, hz⟩ : ∃ z, z = bitsOf .xor .u8 (gb bx (t.size + j)) x := ⟨_, rfl⟩
  rw [← hz] at hzb hot
  have hcl : ((nums bx).set (t.size + j) z).length = bx.size := by rw [List.length_set, nums_len]
  have hset : (iv .u8 (nums bx)).set (t.size + j) (.int .u8 z) = iv .u8 ((nums bx).set (t.size + j) z) := iv_set _ _ _ _
  have hol := fun (G : AH) (v : Value) (hv : SlR G v [b]) => open_rc (H := G) (γ := γ) hk hlk s (strOfNums ((nums bx).set (t.size + j) z)) [b] v hv (by simp) (by rw [hc1]; omega) (by rw [strOfNums_size, hcl]; omega)
  rw [hc1, hot] at hol
  obtain ⟨m, hm⟩ : ∃ m : Nat, m = t.size + j := ⟨_, rfl⟩
  have hmi : (t.size : Int) + 16 - 16 + (j : Int) = (m : Int) := by omega
  have hmj : (t.size : Int) + (j : Int) = (m : Int) := by omega
  rw [← hm] at hg hz hcl hset hol
  have htz : (iv .u8 ((nums bx).set m z)).take bx.size = iv .u8 ((nums bx).set m z) := List.take_of_length_le (by simp [nums_len])
  have htz2 : (iv .u8 ((nums bx).set m z)).take (t.size + 16) = iv .u8 ((nums bx).set m z) := List.take_of_length_le (by simp [nums_len, hbs])
  clear hot
  refine aw_seq ?_
  refine aw_ops (by kernel_rfl) (fun K hK => ?_)
  simp (disch := first | omega | (simp only [List.length_set, List.length_append, List.length_cons, List.length_nil, iv_length, zl_length]; try omega; done)) [-getElem?_pos, -getElem?_neg, hlk, htk]
  refine ⟨by kernel_rfl, ac_of_rc (hsl _ _ (SlR.mk1 (by rw [hget_app]; rfl) rfl)) (by simp [pv_iv, pv_int, pv_bool, pv_string, pv_tup2, pv_tup3, iv_plain, p2_int, p2_bool, p2_string]) ?_⟩
  try simp (disch := first | omega | (simp only [List.length_set, List.length_append, List.length_cons, List.length_nil, iv_length, zl_length]; try omega; done)) [-getElem?_pos, -getElem?_neg]
  refine hK _ _ ?_; clear hK K
  refine aw_seq ?_
  refine aw_seq ?_
  (refine aw_ops (by kernel_rfl) (fun K hK => ?_); simp (disch := first | omega | (simp only [List.length_set, List.length_append, List.length_cons, List.length_nil, iv_length, zl_length]; try omega; done)) [-getElem?_pos, -getElem?_neg, hbs]; refine hK _ _ ?_; clear hK K)
  refine aw_f (by (first | (simp [eval_tmp, put_at]; done) | (simp [eval_tmp, put_at]; omega))) (by kernel_rfl) ?_
  refine aw_skip ?_
  refine aw_seq ?_
  (refine aw_ops (by kernel_rfl) (fun K hK => ?_); simp (disch := first | omega | (simp only [List.length_set, List.length_append, List.length_cons, List.length_nil, iv_length, zl_length]; try omega; done)) [-getElem?_pos, -getElem?_neg]; refine hK _ _ ?_; clear hK K)
  refine aw_seq ?_
  (refine aw_ops (by kernel_rfl) (fun K hK => ?_); simp (disch := first | omega | (simp only [List.length_set, List.length_append, List.length_cons, List.length_nil, iv_length, zl_length]; try omega; done)) [-getElem?_pos, -getElem?_neg, hbs, ← hj, hmi, hmj]; refine hK _ _ ?_; clear hK K)
  refine aw_seq ?_
  (refine aw_ops (by kernel_rfl) (fun K hK => ?_); simp (disch := first | omega | (simp only [List.length_set, List.length_append, List.length_cons, List.length_nil, iv_length, zl_length]; try omega; done)) [-getElem?_pos, -getElem?_neg, hg, ← hz, hset, hbs]; refine hK _ _ ?_; clear hK K)
  refine aw_seq ?_
  refine aw_ops (by kernel_rfl) (fun K hK => ?_)
  simp (disch := first | omega | (simp only [List.length_set, List.length_append, List.length_cons, List.length_nil, iv_length, zl_length]; try omega; done)) [-getElem?_pos, -getElem?_neg, hlk, htk, htz, htz2, byteList_iv, hcl, hbs]
  refine ⟨by kernel_rfl, ac_of_rc (hol _ _ (SlR.mk1 (by rw [hget_app]; rfl) rfl)) (by split <;> simp [pv_iv, pv_int, pv_bool, pv_string, pv_tup2, pv_tup3, iv_plain, p2_int, p2_bool, p2_string]) ?_⟩
  by_cases hx0 : x = 0
  · rw [if_pos hx0]
    try simp (disch := first | omega | (simp only [List.length_set, List.length_append, List.length_cons, List.length_nil, iv_length, zl_length]; try omega; done)) [-getElem?_pos, -getElem?_neg]
    refine hK _ _ ?_; clear hK K
    refine aw_seq ?_
    refine aw_seq ?_
    (refine aw_ops (by kernel_rfl) (fun K hK => ?_); simp (disch := first | omega | (simp only [List.length_set, List.length_append, List.length_cons, List.length_nil, iv_length, zl_length]; try omega; done)) [-getElem?_pos, -getElem?_neg]; refine hK _ _ ?_; clear hK K)
    refine aw_t (by (first | (simp [eval_tmp, put_at]; done) | (simp [eval_tmp, put_at]; omega))) (by kernel_rfl) ?_
    refine aw_seq ?_
    refine aw_ops (by kernel_rfl) (fun K hK => ?_)
    simp (disch := first | omega | (simp only [List.length_set, List.length_append, List.length_cons, List.length_nil, iv_length, zl_length]; try omega; done)) [-getElem?_pos, -getElem?_neg]
    refine ⟨by kernel_rfl, ac_of_rc alive_rc (by simp [pv_iv, pv_int, pv_bool, pv_string, pv_tup2, pv_tup3, iv_plain, p2_int, p2_bool, p2_string]) ?_⟩
    try simp (disch := first | omega | (simp only [List.length_set, List.length_append, List.length_cons, List.length_nil, iv_length, zl_length]; try omega; done)) [-getElem?_pos, -getElem?_neg, beq_self_eq_true]
    refine hK _ _ ?_; clear hK K
    (refine aw_ret ?_; simp (disch := first | omega | (simp only [List.length_set, List.length_append, List.length_cons, List.length_nil, iv_length, zl_length]; try omega; done)) [-getElem?_pos, -getElem?_neg, thenQ_ret, inBlockQ_ret, RQ, resL, resV])
  · rw [if_neg hx0]
    try simp (disch := first | omega | (simp only [List.length_set, List.length_append, List.length_cons, List.length_nil, iv_length, zl_length]; try omega; done)) [-getElem?_pos, -getElem?_neg]
    refine hK _ _ ?_; clear hK K
    refine aw_seq ?_
    refine aw_seq ?_
    (refine aw_ops (by kernel_rfl) (fun K hK => ?_); simp (disch := first | omega | (simp only [List.length_set, List.length_append, List.length_cons, List.length_nil, iv_length, zl_length]; try omega; done)) [-getElem?_pos, -getElem?_neg]; refine hK _ _ ?_; clear hK K)
    refine aw_f (by (first | (simp [eval_tmp, put_at]; done) | (simp [eval_tmp, put_at]; omega))) (by kernel_rfl) ?_
    refine aw_skip ?_
    refine aw_seq ?_
    refine aw_ops (by kernel_rfl) (fun K hK => ?_)
    simp (disch := first | omega | (simp only [List.length_set, List.length_append, List.length_cons, List.length_nil, iv_length, zl_length]; try omega; done)) [-getElem?_pos, -getElem?_neg]
    refine ⟨by kernel_rfl, ac_of_rc alive_rc (by simp [pv_iv, pv_int, pv_bool, pv_string, pv_tup2, pv_tup3, iv_plain, p2_int, p2_bool, p2_string]) ?_⟩
    try simp (disch := first | omega | (simp only [List.length_set, List.length_append, List.length_cons, List.length_nil, iv_length, zl_length]; try omega; done)) [-getElem?_pos, -getElem?_neg, beq_self_eq_true]
    refine hK _ _ ?_; clear hK K
    (refine aw_ret ?_; simp (disch := first | omega | (simp only [List.length_set, List.length_append, List.length_cons, List.length_nil, iv_length, zl_length]; try omega; done)) [-getElem?_pos, -getElem?_neg, thenQ_ret, inBlockQ_ret, RQ, resL, resV])
end
end Go.Proofs.Ytjfjakighnibpaa
