/-
  The reference's filled, length, Tag, Seal, Open, walked.
  The reference's Seal and Open; alive, great.
-/
import Derived.Test.YtjfjakighnibpaaAeA
import Derived.Test.YtjfjakighnibpaaLibC
namespace Go.Proofs.Ytjfjakighnibpaa
section
open Go Go.RowKit
set_option linter.unusedVariables false
set_option linter.unusedSimpArgs false
set_option maxRecDepth 1000000
set_option maxHeartbeats 4000000

theorem tg_eq (k T : List Int) : strOfNums (tagB (tagV (dv (clL k)) (dv (k.drop 16)) T)) = tg k T := rfl
theorem str_inj {a b : ByteArray} (h : nums a = nums b) : a = b := by rw [← of_nums' a, ← of_nums' b, h]
attribute [local simp] wb_bool wb_undef XL_nil XL_cons XLc_val XLc_call step1_eq stepW_t stepW_f stepC_n stepC_s stepX_s xop_eq xopR_s xopR_n wantedA_eq wantedG_n wantedG_s plain1_int plain1_bool plain1_string bits_i64 bits_u64 bits_u32 bits_u16 bits_u8 xeqA xarr allK_iv num_iv calleeOf xread xeff xbin xint xnil xun xstr xload xconv xpart xfield xfieldAddr xindexAddr xindex bnd asInt? xslice xlen xmin xmax xbuild xfill xappend xcopy xcells eval_tmp eval_const put_at put_none fr0_at cells_agg cells_int cells_bool cells_string cells_ptr cells_slice notTuple tab iv_all hget_app hget_app0 hget_cons0 hget_cons set_app set_app0 setR setR_one QL_nil QL_cons QLc_val stepQ_t stepQ_f stepQC_n stepQC_s stepQX_s SL_nil SL_cons SLc_val stepS_t stepS_f ltT ltF leT leF eqT eqF ltTn ltFn leTn leFn eqTn eqFn beqT beqF bneT bneF wi64 wu64 wu32 wu16 wu8 tmodP tdivP hgetL hgetNe hgetEq setL nums_def nums_len Nat.succ_le_of_lt List.getElem?_cons_zero List.getElem?_cons_succ Option.getD_some Int.toNat_add Int.toNat_mul agB agI agS agP agL agA okB okI okS okP okSl okA
theorem filled_vc (t : ByteArray) (ht : t.size ≤ 1000000000) : VC Try.prog 30 #[.string t] (.string (strOfNums (nums t ++ zl (pN t.size)))) := by
  refine vc_of_ac (by simp [pv_iv, pv_int, pv_bool, pv_string, pv_tup2, pv_tup3, iv_plain, p2_int, p2_bool, p2_string]) (by simp [pv_iv, pv_int, pv_bool, pv_string, pv_tup2, pv_tup3, iv_plain, p2_int, p2_bool, p2_string]) ?_
  have hby : ∀ j, By (nums t ++ zl j) := fun j => By.app (fun x hx => nums_bd t x hx) (zl_by j)
  have hsz : ∀ j, (strOfNums (nums t ++ zl j)).size = t.size + j := fun j => by rw [strOfNums_size, List.length_append, nums_len, zl_length]
  have hap : ∀ j, strOfNums (nums t ++ zl j) ++ ⟨#[0]⟩ = strOfNums (nums t ++ zl (j + 1)) := fun j => by
    apply str_inj
    rw [nums_app, nums_of _ (hby j), nums_of _ (hby (j + 1)), List.append_assoc]
    congr 1
    unfold zl
    rw [List.replicate_succ']
    rfl
  have h0 : strOfNums (nums t ++ zl 0) = t := by
    apply str_inj
    rw [nums_of _ (hby 0)]
    simp [zl]
  refine ac_of_aw Try.func30 rfl Try.ntmps30 Try.results30 (by simp) ?_
  refine aw_seq ?_
  (refine aw_ops (by kernel_rfl) (fun K hK => ?_); simp (disch := first | omega | (simp only [List.length_set, List.length_append, List.length_cons, List.length_nil, iv_length, zl_length]; try omega; done)) [-getElem?_pos, -getElem?_neg]; refine hK _ _ ?_; clear hK K)
  refine aw_seq ?_
  refine aw_block ?_
  refine aw_loop (fun q α H' => ∃ j : Nat, j + q = pN t.size ∧ α 0 = .string (strOfNums (nums t ++ zl j)) ∧ H' = []) (pN t.size) ?_ ?_
  · exact ⟨0, by omega, by rw [h0]; (first | (simp [put_at, put_none, fr0_at]; done) | rfl), rfl⟩
  rintro q α H' ⟨j, hj, h00, rfl⟩
  have hs := hsz j
  have hap' := hap j
  have hz1 : (⟨#[0]⟩ : ByteArray).size = 1 := rfl
  generalize hu : strOfNums (nums t ++ zl j) = u at *
  refine aw_seq ?_
  refine aw_seq ?_
  unfold pN at hj
  by_cases hc : j < pN t.size
  · unfold pN at hc
    (refine aw_ops (by kernel_rfl) (fun K hK => ?_); simp (disch := first | omega | (simp only [List.length_set, List.length_append, List.length_cons, List.length_nil, iv_length, zl_length]; try omega; done)) [-getElem?_pos, -getElem?_neg, h00]; refine hK _ _ ?_; clear hK K)
    refine aw_t (by (first | (simp [eval_tmp, put_at]; done) | (simp [eval_tmp, put_at]; omega))) (by kernel_rfl) ?_
    refine aw_skip ?_
    refine aw_block ?_
    (refine aw_ops (by kernel_rfl) (fun K hK => ?_); simp (disch := first | omega | (simp only [List.length_set, List.length_append, List.length_cons, List.length_nil, iv_length, zl_length]; try omega; done)) [-getElem?_pos, -getElem?_neg, h00, hap', hz1]; refine hK _ _ ?_; clear hK K)
    exact ⟨q - 1, by omega, j + 1, by unfold pN; omega, by (first | (simp [put_at, put_none, fr0_at]; done) | rfl), rfl⟩
  · unfold pN at hc
    have hjp : j = pN t.size := by unfold pN; omega
    (refine aw_ops (by kernel_rfl) (fun K hK => ?_); simp (disch := first | omega | (simp only [List.length_set, List.length_append, List.length_cons, List.length_nil, iv_length, zl_length]; try omega; done)) [-getElem?_pos, -getElem?_neg, h00]; refine hK _ _ ?_; clear hK K)
    refine aw_f (by (first | (simp [eval_tmp, put_at]; done) | (simp [eval_tmp, put_at]; omega))) (by kernel_rfl) ?_
    refine aw_exit ?_
    refine aw_seq ?_
    (refine aw_ops (by kernel_rfl) (fun K hK => ?_); simp (disch := first | omega | (simp only [List.length_set, List.length_append, List.length_cons, List.length_nil, iv_length, zl_length]; try omega; done)) [-getElem?_pos, -getElem?_neg, h00]; refine hK _ _ ?_; clear hK K)
    rw [← hjp, hu]
    (refine aw_ret ?_; simp (disch := first | omega | (simp only [List.length_set, List.length_append, List.length_cons, List.length_nil, iv_length, zl_length]; try omega; done)) [-getElem?_pos, -getElem?_neg, thenQ_ret, inBlockQ_ret, RQ, resL, resV])
theorem rlength_vc (n : Nat) (hn : n ≤ 1000000000) : VC Try.prog 31 #[.int .i64 n] (.string (strOfNums (l8 n))) := by
  refine vc_of_ac (by simp [pv_iv, pv_int, pv_bool, pv_string, pv_tup2, pv_tup3, iv_plain, p2_int, p2_bool, p2_string]) (by simp [pv_iv, pv_int, pv_bool, pv_string, pv_tup2, pv_tup3, iv_plain, p2_int, p2_bool, p2_string]) ?_
  have hll := l8_len n
  have hlg := fun i hi => l8_get n (i := i) hi
  generalize l8 n = B at *
  refine ac_of_aw Try.func31 rfl Try.ntmps31 Try.results31 (by simp) ?_
  refine aw_seq ?_
  (refine aw_ops (by kernel_rfl) (fun K hK => ?_); simp (disch := first | omega | (simp only [List.length_set, List.length_append, List.length_cons, List.length_nil, iv_length, zl_length]; try omega; done)) [-getElem?_pos, -getElem?_neg]; refine hK _ _ ?_; clear hK K)
  refine aw_seq ?_
  (refine aw_ops (by kernel_rfl) (fun K hK => ?_); simp (disch := first | omega | (simp only [List.length_set, List.length_append, List.length_cons, List.length_nil, iv_length, zl_length]; try omega; done)) [-getElem?_pos, -getElem?_neg]; refine hK _ _ ?_; clear hK K)
  refine aw_seq ?_
  refine aw_seq ?_
  (refine aw_ops (by kernel_rfl) (fun K hK => ?_); simp (disch := first | omega | (simp only [List.length_set, List.length_append, List.length_cons, List.length_nil, iv_length, zl_length]; try omega; done)) [-getElem?_pos, -getElem?_neg]; refine hK _ _ ?_; clear hK K)
  refine aw_block ?_
  refine aw_loop (fun q α H' => ∃ (i : Nat) (v : Value), i + q = 8 ∧ α 4 = .int .i64 (i : Nat) ∧ α 0 = .int .i64 ((n : Int) / 256 ^ i) ∧ α 3 = v ∧ OwnC 0 H' v 5 1 (iv .u8 (B.take i)) ∧ Low 0 [] H') 8 ?_ ?_
  · exact ⟨0, _, by omega, by (first | (simp [put_at, put_none, fr0_at]; done) | rfl), by simp [put_at, fr0_at, fr0], by (first | (simp [put_at, put_none, fr0_at]; done) | rfl), .inl ⟨rfl, rfl⟩, Low.refl (by simp)⟩
  rintro q α H' ⟨i, v, hiq, h4, h0, h3, ho, hlow⟩
  refine aw_seq ?_
  refine aw_seq ?_
  by_cases hi : i < 8
  · have hts : B.take (i + 1) = B.take i ++ [(n : Int) / 256 ^ i % 256] := by rw [← hlg i hi, List.take_add_one, List.getElem?_eq_getElem (by omega), List.getD_eq_getElem?_getD, List.getElem?_eq_getElem (by omega)]; rfl
    have hdd : (n : Int) / 256 ^ i / 256 = (n : Int) / 256 ^ (i + 1) := by rw [Int.ediv_ediv_of_nonneg (Int.le_of_lt (Int.pow_pos (by omega))), ← Int.pow_succ]
    have hpos : 0 ≤ (n : Int) / 256 ^ i := Int.ediv_nonneg (by omega) (Int.le_of_lt (Int.pow_pos (by omega)))
    have hle : (n : Int) / 256 ^ i ≤ 1000000000 := Int.le_trans (Int.ediv_le_self _ (by omega)) (by omega)
    obtain ⟨v', H2, hap, ho', hlow'⟩ := own_appB (nro := 0) ((n : Int) / 256 ^ i % 256) ho (by omega) (by omega) (by simp; omega)
    rw [← hts] at ho'
    generalize (n : Int) / 256 ^ i = x at *
    (refine aw_ops (by kernel_rfl) (fun K hK => ?_); simp (disch := first | omega | (simp only [List.length_set, List.length_append, List.length_cons, List.length_nil, iv_length, zl_length]; try omega; done)) [-getElem?_pos, -getElem?_neg, h4]; refine hK _ _ ?_; clear hK K)
    refine aw_t (by (first | (simp [eval_tmp, put_at, hi]; done) | (simp [eval_tmp, put_at, hi]; omega))) (by kernel_rfl) ?_
    refine aw_skip ?_
    refine aw_seq ?_
    refine aw_block ?_
    refine aw_seq ?_
    (refine aw_ops (by kernel_rfl) (fun K hK => ?_); simp (disch := first | omega | (simp only [List.length_set, List.length_append, List.length_cons, List.length_nil, iv_length, zl_length]; try omega; done)) [-getElem?_pos, -getElem?_neg, -xappend, h3, h0, hap]; refine hK _ _ ?_; clear hK K)
    (refine aw_ops (by kernel_rfl) (fun K hK => ?_); simp (disch := first | omega | (simp only [List.length_set, List.length_append, List.length_cons, List.length_nil, iv_length, zl_length]; try omega; done)) [-getElem?_pos, -getElem?_neg, h0]; refine hK _ _ ?_; clear hK K)
    (refine aw_ops (by kernel_rfl) (fun K hK => ?_); simp (disch := first | omega | (simp only [List.length_set, List.length_append, List.length_cons, List.length_nil, iv_length, zl_length]; try omega; done)) [-getElem?_pos, -getElem?_neg, h4]; refine hK _ _ ?_; clear hK K)
    exact ⟨q - 1, by omega, i + 1, v', by omega, by (first | (simp [put_at, put_none, fr0_at]; done) | rfl), by rw [← hdd]; (first | (simp [put_at, put_none, fr0_at]; done) | rfl), by (first | (simp [put_at, put_none, fr0_at]; done) | rfl), ho', hlow.trans hlow'⟩
  · obtain rfl : i = 8 := by omega
    rw [List.take_of_length_le (by omega)] at ho
    have hcv := own_conv (P := Try.prog) (s := 38) (d := 9) (by simp [tab]) (by simp [tab]) (by simp [tab]) ho
    (refine aw_ops (by kernel_rfl) (fun K hK => ?_); simp (disch := first | omega | (simp only [List.length_set, List.length_append, List.length_cons, List.length_nil, iv_length, zl_length]; try omega; done)) [-getElem?_pos, -getElem?_neg, h4]; refine hK _ _ ?_; clear hK K)
    refine aw_f (by (first | (simp [eval_tmp, put_at]; done) | (simp [eval_tmp, put_at]; omega))) (by kernel_rfl) ?_
    refine aw_exit ?_
    refine aw_seq ?_
    (refine aw_ops (by kernel_rfl) (fun K hK => ?_); simp (disch := first | omega | (simp only [List.length_set, List.length_append, List.length_cons, List.length_nil, iv_length, zl_length]; try omega; done)) [-getElem?_pos, -getElem?_neg, -xconv, h3, hcv]; refine hK _ _ ?_; clear hK K)
    (refine aw_ret ?_; simp (disch := first | omega | (simp only [List.length_set, List.length_append, List.length_cons, List.length_nil, iv_length, zl_length]; try omega; done)) [-getElem?_pos, -getElem?_neg, thenQ_ret, inBlockQ_ret, RQ, resL, resV])
theorem mac_str (b h : ByteArray) : strOfNums (nums b ++ zl (pN b.size)) ++ strOfNums (nums h ++ zl (pN h.size)) ++ strOfNums (l8 b.size) ++ strOfNums (l8 h.size) = strOfNums (macT (nums b) (nums h)) := by
  have hb : By (nums b ++ zl (pN b.size)) := By.app (fun x hx => nums_bd b x hx) (zl_by _)
  have hh : By (nums h ++ zl (pN h.size)) := By.app (fun x hx => nums_bd h x hx) (zl_by _)
  have e : macT (nums b) (nums h) = nums b ++ zl (pN b.size) ++ (nums h ++ zl (pN h.size)) ++ l8 b.size ++ l8 h.size := by
    unfold macT
    rw [nums_len, nums_len]
    simp only [List.append_assoc]
  apply str_inj
  rw [nums_app, nums_app, nums_app, nums_of _ hb, nums_of _ hh, nums_of _ (l8_by _), nums_of _ (l8_by _), e, nums_of _ (((hb.app hh).app (l8_by _)).app (l8_by _))]
theorem macT_len (b h : List Int) : (macT b h).length ≤ b.length + h.length + 46 := by
  unfold macT
  simp only [List.length_append, zl_length, l8_len]
  unfold pN
  omega
theorem macT_by {b h : List Int} (hb : By b) (hh : By h) : By (macT b h) := by
  unfold macT
  exact hb.app ((zl_by _).app (hh.app ((zl_by _).app ((l8_by _).app (l8_by _)))))
theorem tagS_eq (k : List Int) (s : ByteArray) (b h : List Int) : tagS k s b h = tg (oK k s) (macT b h) := rfl
attribute [local irreducible] dv clL ac blk tagB tagV pcells tg bkB macT l8 tagS mk1
theorem rtagS_rc {H : AH} {γ : Nat → Option Nat} {k : List Int} (hk : By k) (hlk : k.length = 32) (s h b : ByteArray) (hs : s.size = 12) (hh : h.size ≤ 20000) (hb : b.size ≤ 20000) :
    AC Try.prog H.length γ 18 #[.agg (iv .u8 k).toArray, .string s, .string h, .string b] H (fun v' _ => v' = .string (tagS k s (nums b) (nums h))) := by
  have htk : (iv .u8 k).take 32 = iv .u8 k := List.take_of_length_le (by simp [hlk])
  have hby := rblock_y hk hlk s hs
  have hM := bkB_len k s
  have hMb := bkB_by k s
  have hKb := oK_by k s
  have hKl := oK_len k s
  have hKd : (bkB k s).take 32 = oK k s := rfl
  have hTd : tagS k s (nums b) (nums h) = tg (oK k s) (macT (nums b) (nums h)) := tagS_eq _ _ _ _
  rw [hTd]
  generalize oK k s = O at *
  generalize bkB k s = M at *
  have hgM : ∀ i, i < 32 → gb (strOfNums M) i = O.getD i 0 := fun i hi => by
    rw [gb_nums', nums_of _ hMb, ← hKd]
    simp only [List.getD_eq_getElem?_getD]
    rw [List.getElem?_take_of_lt hi]
  have hMs : (strOfNums M).size = 64 := by rw [strOfNums_size, hM]
  have htO : (iv .u8 O).take 32 = iv .u8 O := List.take_of_length_le (by simp [hKl])
  generalize strOfNums M = blkS at *
  refine ac_of_aw Try.func18 rfl Try.ntmps18 Try.results18 (by simp) ?_
  refine aw_seq ?_
  (refine aw_ops (by kernel_rfl) (fun K hK => ?_); simp (disch := first | omega | (simp only [List.length_set, List.length_append, List.length_cons, List.length_nil, iv_length, zl_length]; try omega; done)) [-getElem?_pos, -getElem?_neg]; refine hK _ _ ?_; clear hK K)
  refine aw_seq ?_
  refine aw_ops (by kernel_rfl) (fun K hK => ?_)
  simp (disch := first | omega | (simp only [List.length_set, List.length_append, List.length_cons, List.length_nil, iv_length, zl_length]; try omega; done)) [-getElem?_pos, -getElem?_neg, hlk, htk]
  refine ⟨by kernel_rfl, ac_of_vc (by simp [pv_iv, pv_int, pv_bool, pv_string, pv_tup2, pv_tup3, iv_plain, p2_int, p2_bool, p2_string]) hby ?_⟩
  try simp (disch := first | omega | (simp only [List.length_set, List.length_append, List.length_cons, List.length_nil, iv_length, zl_length]; try omega; done)) [-getElem?_pos, -getElem?_neg]
  refine hK _ _ ?_; clear hK K
  refine aw_seq ?_
  (refine aw_ops (by kernel_rfl) (fun K hK => ?_); simp (disch := first | omega | (simp only [List.length_set, List.length_append, List.length_cons, List.length_nil, iv_length, zl_length]; try omega; done)) [-getElem?_pos, -getElem?_neg]; refine hK _ _ ?_; clear hK K)
  refine aw_seq ?_
  refine aw_seq ?_
  (refine aw_ops (by kernel_rfl) (fun K hK => ?_); simp (disch := first | omega | (simp only [List.length_set, List.length_append, List.length_cons, List.length_nil, iv_length, zl_length]; try omega; done)) [-getElem?_pos, -getElem?_neg]; refine hK _ _ ?_; clear hK K)
  refine aw_block ?_
  refine aw_loop (fun q α H' => ∃ i : Nat, i + q = 32 ∧ α 11 = .int .i64 (i : Nat) ∧ α 9 = .string blkS ∧ α 10 = .pointer (some ⟨H.length + 1, 0, none⟩) ∧ α 3 = .string b ∧ α 2 = .string h ∧ H' = H ++ [some ⟨iv .u8 k, 23, none⟩, some ⟨iv .u8 (O.take i ++ zl (32 - i)), 23, none⟩]) 32 ?_ ?_
  · exact ⟨0, by omega, by (first | (simp [put_at, put_none, fr0_at]; done) | rfl), by (first | (simp [put_at, put_none, fr0_at]; done) | rfl), by (first | (simp [put_at, put_none, fr0_at]; done) | rfl), by (first | (simp [put_at, put_none, fr0_at]; done) | rfl), by (first | (simp [put_at, put_none, fr0_at]; done) | rfl), by simp [zl]⟩
  rintro q α H' ⟨i, hiq, h11, h9, h10, h3, h2, rfl⟩
  have hfl := fill_len O 32 i hKl (by omega)
  refine aw_seq ?_
  refine aw_seq ?_
  by_cases hi : i < 32
  · have hnx := set_next O 32 i hKl hi
    have hgi := hgM i hi
    have hd := hKb.get i
    generalize O.getD i 0 = d at *
    generalize O.take i ++ zl (32 - i) = C at *
    (refine aw_ops (by kernel_rfl) (fun K hK => ?_); simp (disch := first | omega | (simp only [List.length_set, List.length_append, List.length_cons, List.length_nil, iv_length, zl_length]; try omega; done)) [-getElem?_pos, -getElem?_neg, h11]; refine hK _ _ ?_; clear hK K)
    refine aw_t (by (first | (simp [eval_tmp, put_at, hi]; done) | (simp [eval_tmp, put_at, hi]; omega))) (by kernel_rfl) ?_
    refine aw_skip ?_
    refine aw_seq ?_
    refine aw_block ?_
    (refine aw_ops (by kernel_rfl) (fun K hK => ?_); simp (disch := first | omega | (simp only [List.length_set, List.length_append, List.length_cons, List.length_nil, iv_length, zl_length]; try omega; done)) [-getElem?_pos, -getElem?_neg, h11, h9, h10, hgi, hMs, iv_set, hfl, hnx]; refine hK _ _ ?_; clear hK K)
    (refine aw_ops (by kernel_rfl) (fun K hK => ?_); simp (disch := first | omega | (simp only [List.length_set, List.length_append, List.length_cons, List.length_nil, iv_length, zl_length]; try omega; done)) [-getElem?_pos, -getElem?_neg, h11]; refine hK _ _ ?_; clear hK K)
    exact ⟨q - 1, by omega, i + 1, by omega, by (first | (simp [put_at, put_none, fr0_at]; done) | rfl), by (first | (simp [put_at, put_none, fr0_at, h9]; done) | rfl), by (first | (simp [put_at, put_none, fr0_at, h10]; done) | rfl), by (first | (simp [put_at, put_none, fr0_at, h3]; done) | rfl), by (first | (simp [put_at, put_none, fr0_at, h2]; done) | rfl), by simp [hnx]⟩
  · obtain rfl : i = 32 := by omega
    (refine aw_ops (by kernel_rfl) (fun K hK => ?_); simp (disch := first | omega | (simp only [List.length_set, List.length_append, List.length_cons, List.length_nil, iv_length, zl_length]; try omega; done)) [-getElem?_pos, -getElem?_neg, h11]; refine hK _ _ ?_; clear hK K)
    refine aw_f (by (first | (simp [eval_tmp, put_at]; done) | (simp [eval_tmp, put_at]; omega))) (by kernel_rfl) ?_
    refine aw_exit ?_
    have hC : O.take 32 ++ zl (32 - 32) = O := by rw [List.take_of_length_le (by omega)]; simp [zl]
    rw [hC]
    have f1 := filled_vc b (by omega)
    have f2 := filled_vc h (by omega)
    have g1 := rlength_vc b.size (by omega)
    have g2 := rlength_vc h.size (by omega)
    have hms := mac_str b h
    have hml := macT_len (nums b) (nums h)
    have hmb := macT_by (fun x hx => nums_bd b x hx) (fun x hx => nums_bd h x hx)
    rw [nums_len, nums_len] at hml
    have hsz1 : (strOfNums (nums b ++ zl (pN b.size))).size = b.size + pN b.size := by rw [strOfNums_size, List.length_append, nums_len, zl_length]
    have hsz2 : (strOfNums (nums h ++ zl (pN h.size))).size = h.size + pN h.size := by rw [strOfNums_size, List.length_append, nums_len, zl_length]
    have hsz3 : (strOfNums (l8 b.size)).size = 8 := by rw [strOfNums_size, l8_len]
    have hsz4 : (strOfNums (l8 h.size)).size = 8 := by rw [strOfNums_size, l8_len]
    have hp1 : pN b.size ≤ 16 := by unfold pN; omega
    have hp2 : pN h.size ≤ 16 := by unfold pN; omega
    have hrt : ∀ H : AH, AC Try.prog H.length γ 29 #[.agg (iv .u8 O).toArray, .string (strOfNums (macT (nums b) (nums h)))] H (fun v' _ => v' = .string (tg O (macT (nums b) (nums h)))) := fun H => by
      have := rtag_rc (H := H) (γ := γ) hKb hKl (strOfNums (macT (nums b) (nums h))) (by rw [strOfNums_size]; omega)
      rw [nums_of _ hmb, tg_eq] at this
      exact this
    generalize macT (nums b) (nums h) = MT at *
    generalize strOfNums (nums b ++ zl (pN b.size)) = F1 at *
    generalize strOfNums (nums h ++ zl (pN h.size)) = F2 at *
    generalize strOfNums (l8 b.size) = L1 at *
    generalize strOfNums (l8 h.size) = L2 at *
    refine aw_seq ?_
    (refine aw_plan [] [] [0, 1, 2, 3, 4, 5, 6, 7, 8, 9, 10, 11, 12, 13, 14, 15] 16 0 (by kernel_rfl) (by kernel_rfl) (by kernel_rfl) (fun K hK => ?_)); simp only [sel, List.getElem?_cons_succ, List.getElem?_cons_zero, List.drop_succ_cons, List.drop_zero]; simp (disch := first | omega | (simp only [List.length_set, List.length_append, List.length_cons, List.length_nil, iv_length, zl_length]; try omega; done)) [-getElem?_pos, -getElem?_neg, h10, h3, h2, hKl, htO, PL_nil, PL_cons, PLc_val, PLc_new, stepP_t, stepP_f, stepPC_n, stepPC_s, stepPX_s, stepPX_n, stepPA_t, stepPA_c, stepPA_l, stepPN_s, allocOp, reloc_sl, reloc_ptr, List.map_cons, List.map_nil, List.nil_append, List.append_assoc, List.cons_append, Nat.add_assoc]
    refine PLc_call (by kernel_rfl) (fun L hL => ac_of_vc (by simp [pv_iv, pv_int, pv_bool, pv_string, pv_tup2, pv_tup3, iv_plain, p2_int, p2_bool, p2_string]) f1 rfl) (by simp [pv_iv, pv_int, pv_bool, pv_string, pv_tup2, pv_tup3, iv_plain, p2_int, p2_bool, p2_string]) ?_
    try simp (disch := first | omega | (simp only [List.length_set, List.length_append, List.length_cons, List.length_nil, iv_length, zl_length]; try omega; done)) [-getElem?_pos, -getElem?_neg, h10, h3, h2, hKl, htO, PL_nil, PL_cons, PLc_val, PLc_new, stepP_t, stepP_f, stepPC_n, stepPC_s, stepPX_s, stepPX_n, stepPA_t, stepPA_c, stepPA_l, stepPN_s, allocOp, reloc_sl, reloc_ptr, List.map_cons, List.map_nil, List.nil_append, List.append_assoc, List.cons_append, Nat.add_assoc]
    refine PLc_call (by kernel_rfl) (fun L hL => ac_of_vc (by simp [pv_iv, pv_int, pv_bool, pv_string, pv_tup2, pv_tup3, iv_plain, p2_int, p2_bool, p2_string]) f2 rfl) (by simp [pv_iv, pv_int, pv_bool, pv_string, pv_tup2, pv_tup3, iv_plain, p2_int, p2_bool, p2_string]) ?_
    try simp (disch := first | omega | (simp only [List.length_set, List.length_append, List.length_cons, List.length_nil, iv_length, zl_length]; try omega; done)) [-getElem?_pos, -getElem?_neg, h10, h3, h2, hKl, htO, ByteArray.size_append, hsz1, hsz2, PL_nil, PL_cons, PLc_val, PLc_new, stepP_t, stepP_f, stepPC_n, stepPC_s, stepPX_s, stepPX_n, stepPA_t, stepPA_c, stepPA_l, stepPN_s, allocOp, reloc_sl, reloc_ptr, List.map_cons, List.map_nil, List.nil_append, List.append_assoc, List.cons_append, Nat.add_assoc]
    refine PLc_call (by kernel_rfl) (fun L hL => ac_of_vc (by simp [pv_iv, pv_int, pv_bool, pv_string, pv_tup2, pv_tup3, iv_plain, p2_int, p2_bool, p2_string]) g1 rfl) (by simp [pv_iv, pv_int, pv_bool, pv_string, pv_tup2, pv_tup3, iv_plain, p2_int, p2_bool, p2_string]) ?_
    try simp (disch := first | omega | (simp only [List.length_set, List.length_append, List.length_cons, List.length_nil, iv_length, zl_length]; try omega; done)) [-getElem?_pos, -getElem?_neg, h10, h3, h2, hKl, htO, ByteArray.size_append, hsz1, hsz2, hsz3, PL_nil, PL_cons, PLc_val, PLc_new, stepP_t, stepP_f, stepPC_n, stepPC_s, stepPX_s, stepPX_n, stepPA_t, stepPA_c, stepPA_l, stepPN_s, allocOp, reloc_sl, reloc_ptr, List.map_cons, List.map_nil, List.nil_append, List.append_assoc, List.cons_append, Nat.add_assoc]
    refine PLc_call (by kernel_rfl) (fun L hL => ac_of_vc (by simp [pv_iv, pv_int, pv_bool, pv_string, pv_tup2, pv_tup3, iv_plain, p2_int, p2_bool, p2_string]) g2 rfl) (by simp [pv_iv, pv_int, pv_bool, pv_string, pv_tup2, pv_tup3, iv_plain, p2_int, p2_bool, p2_string]) ?_
    try simp (disch := first | omega | (simp only [List.length_set, List.length_append, List.length_cons, List.length_nil, iv_length, zl_length]; try omega; done)) [-getElem?_pos, -getElem?_neg, h10, h3, h2, hKl, htO, ByteArray.size_append, hsz1, hsz2, hsz3, hsz4, hms, PL_nil, PL_cons, PLc_val, PLc_new, stepP_t, stepP_f, stepPC_n, stepPC_s, stepPX_s, stepPX_n, stepPA_t, stepPA_c, stepPA_l, stepPN_s, allocOp, reloc_sl, reloc_ptr, List.map_cons, List.map_nil, List.nil_append, List.append_assoc, List.cons_append, Nat.add_assoc]
    refine PLc_call (by kernel_rfl) (fun L hL => hrt _) (by simp [pv_iv, pv_int, pv_bool, pv_string, pv_tup2, pv_tup3, iv_plain, p2_int, p2_bool, p2_string]) ?_
    try simp (disch := first | omega | (simp only [List.length_set, List.length_append, List.length_cons, List.length_nil, iv_length, zl_length]; try omega; done)) [-getElem?_pos, -getElem?_neg, PL_nil, PL_cons, PLc_val, PLc_new, stepP_t, stepP_f, stepPC_n, stepPC_s, stepPX_s, stepPX_n, stepPA_t, stepPA_c, stepPA_l, stepPN_s, allocOp, reloc_sl, reloc_ptr, List.map_cons, List.map_nil, List.nil_append, List.append_assoc, List.cons_append, Nat.add_assoc]
    refine hK _ _ ?_; clear hK K
    (refine aw_ret ?_; simp (disch := first | omega | (simp only [List.length_set, List.length_append, List.length_cons, List.length_nil, iv_length, zl_length]; try omega; done)) [-getElem?_pos, -getElem?_neg, thenQ_ret, inBlockQ_ret, RQ, resL, resV])
end

section
open Go Go.RowKit
set_option linter.unusedVariables false
set_option linter.unusedSimpArgs false
set_option maxRecDepth 1000000
set_option maxHeartbeats 4000000

theorem zeros_u8 (n : Nat) : ((List.range n).map fun j => [Value.int .u8 0][j % 1]?.getD undef) = iv .u8 (zl n) := by
  have e : (fun j : Nat => [Value.int .u8 0][j % 1]?.getD undef) = fun _ => Value.int .u8 0 := by
    funext j
    rw [Nat.mod_one]
    rfl
  rw [e]
  unfold iv zl
  rw [List.map_replicate]
  apply List.ext_getElem
  · simp
  · intro i h1 h2; simp
theorem nums_ext (s : ByteArray) (a b : Nat) : nums (s.extract a b) = ((nums s).drop a).take (b - a) := nums_extract s a b
theorem hidO_app (a b : ByteArray) (hb : b.size = 16) : hidO (a ++ b) = a ∧ givO (a ++ b) = b := by
  have hs : (a ++ b).size = a.size + 16 := by rw [ByteArray.size_append, hb]
  have h16 : 16 ≤ (a ++ b).size := by omega
  constructor
  · unfold hidO
    rw [if_pos h16]
    apply str_inj
    rw [nums_ext, nums_app, hs, List.drop_zero, List.take_append_of_le_length (by rw [nums_len]; omega), List.take_of_length_le (by rw [nums_len]; omega)]
  · unfold givO
    rw [if_pos h16]
    apply str_inj
    rw [nums_ext, nums_app, hs, List.drop_append_of_le_length (by rw [nums_len]; omega), List.drop_of_length_le (by rw [nums_len]; omega), List.nil_append, List.take_of_length_le (by rw [nums_len]; omega)]
theorem hid_giv (x : ByteArray) (h : 16 ≤ x.size) : hidO x ++ givO x = x := by
  unfold hidO givO
  rw [if_pos h, if_pos h]
  apply str_inj
  rw [nums_app, nums_ext, nums_ext, List.drop_zero, Nat.sub_zero, List.take_of_length_le (l := (nums x).drop _) (by rw [List.length_drop, nums_len]; omega), List.take_append_drop]
/-- What the reference's Open answers. -/
def ropenR (k : List Int) (s x : ByteArray) (b : List Int) : Value :=
  if tagS k s b (nums (hidO x)) = givO x then .tuple #[.string (mk1 k s (hidO x)), .bool true] else .tuple #[.string ⟨#[]⟩, .bool false]
theorem boxS_eq (k : List Int) (s t : ByteArray) (b : List Int) : boxS k s t b = mk1 k s t ++ tagS k s b (nums (mk1 k s t)) := rfl
/-- What was sealed is opened. -/
theorem open_box (k : List Int) (s t : ByteArray) (b : List Int) (hs : s.size = 12) : openR k s (boxS k s t b) b = .tuple #[.string t, .int .i64 0] := by
  obtain ⟨h1, h2⟩ := hidO_app (mk1 k s t) (tagS k s b (nums (mk1 k s t))) (tagS_size _ _ _ _)
  unfold openR
  rw [boxS_eq, if_pos hs, h1, h2, if_pos rfl, mk1_back]
attribute [local irreducible] dv clL ac blk tagB tagV pcells tg bkB macT l8 tagS mk1 boxS
attribute [local simp] wb_bool wb_undef XL_nil XL_cons XLc_val XLc_call step1_eq stepW_t stepW_f stepC_n stepC_s stepX_s xop_eq xopR_s xopR_n wantedA_eq wantedG_n wantedG_s plain1_int plain1_bool plain1_string bits_i64 bits_u64 bits_u32 bits_u16 bits_u8 xeqA xarr allK_iv num_iv calleeOf xread xeff xbin xint xnil xun xstr xload xconv xpart xfield xfieldAddr xindexAddr xindex bnd asInt? xslice xlen xmin xmax xbuild xfill xappend xcopy xcells eval_tmp eval_const put_at put_none fr0_at cells_agg cells_int cells_bool cells_string cells_ptr cells_slice notTuple tab iv_all hget_app hget_app0 hget_cons0 hget_cons set_app set_app0 setR setR_one QL_nil QL_cons QLc_val stepQ_t stepQ_f stepQC_n stepQC_s stepQX_s SL_nil SL_cons SLc_val stepS_t stepS_f ltT ltF leT leF eqT eqF ltTn ltFn leTn leFn eqTn eqFn beqT beqF bneT bneF wi64 wu64 wu32 wu16 wu8 tmodP tdivP hgetL hgetNe hgetEq setL nums_def nums_len Nat.succ_le_of_lt List.getElem?_cons_zero List.getElem?_cons_succ Option.getD_some Int.toNat_add Int.toNat_mul agB agI agS agP agL agA okB okI okS okP okSl okA
theorem rseal_rc {H : AH} {γ : Nat → Option Nat} {k : List Int} (hk : By k) (hlk : k.length = 32) (s t b : ByteArray) (hs : s.size = 12) (ht : t.size ≤ 2000) (hb : b.size ≤ 20000) :
    AC Try.prog H.length γ 11 #[.agg (iv .u8 k).toArray, .string s, .string t, .string b] H (fun v' _ => v' = .string (boxS k s t (nums b))) := by
  have htk : (iv .u8 k).take 32 = iv .u8 k := List.take_of_length_le (by simp [hlk])
  have hm := rmask_y hk hlk s hs t ht
  have hms := mk1_size k s t
  have htg := fun L => rtagS_rc (H := H ++ L) (γ := γ) hk hlk s (mk1 k s t) b hs (by omega) (by omega)
  have hts := tagS_size k s (nums b) (nums (mk1 k s t))
  rw [boxS_eq]
  generalize tagS k s (nums b) (nums (mk1 k s t)) = g at *
  generalize mk1 k s t = m at *
  refine ac_of_aw Try.func11 rfl Try.ntmps11 Try.results11 (by simp) ?_
  refine aw_seq ?_
  (refine aw_ops (by kernel_rfl) (fun K hK => ?_); simp (disch := first | omega | (simp only [List.length_set, List.length_append, List.length_cons, List.length_nil, iv_length, zl_length]; try omega; done)) [-getElem?_pos, -getElem?_neg]; refine hK _ _ ?_; clear hK K)
  refine aw_seq ?_
  refine aw_ops (by kernel_rfl) (fun K hK => ?_)
  simp (disch := first | omega | (simp only [List.length_set, List.length_append, List.length_cons, List.length_nil, iv_length, zl_length]; try omega; done)) [-getElem?_pos, -getElem?_neg, hlk, htk]
  refine ⟨by kernel_rfl, ac_of_vc (by simp [pv_iv, pv_int, pv_bool, pv_string, pv_tup2, pv_tup3, iv_plain, p2_int, p2_bool, p2_string]) hm ?_⟩
  try simp (disch := first | omega | (simp only [List.length_set, List.length_append, List.length_cons, List.length_nil, iv_length, zl_length]; try omega; done)) [-getElem?_pos, -getElem?_neg]
  refine hK _ _ ?_; clear hK K
  refine aw_seq ?_
  refine aw_ops (by kernel_rfl) (fun K hK => ?_)
  simp (disch := first | omega | (simp only [List.length_set, List.length_append, List.length_cons, List.length_nil, iv_length, zl_length]; try omega; done)) [-getElem?_pos, -getElem?_neg, hlk, htk]
  refine ⟨by kernel_rfl, ac_of_rc (htg _) (by simp [pv_iv, pv_int, pv_bool, pv_string, pv_tup2, pv_tup3, iv_plain, p2_int, p2_bool, p2_string]) ?_⟩
  try simp (disch := first | omega | (simp only [List.length_set, List.length_append, List.length_cons, List.length_nil, iv_length, zl_length]; try omega; done)) [-getElem?_pos, -getElem?_neg, hts, hms]
  refine hK _ _ ?_; clear hK K
  (refine aw_ret ?_; simp (disch := first | omega | (simp only [List.length_set, List.length_append, List.length_cons, List.length_nil, iv_length, zl_length]; try omega; done)) [-getElem?_pos, -getElem?_neg, thenQ_ret, inBlockQ_ret, RQ, resL, resV])
theorem ropen_rc {H : AH} {γ : Nat → Option Nat} {k : List Int} (hk : By k) (hlk : k.length = 32) (s x b : ByteArray) (hs : s.size = 12) (hx : x.size ≤ 2000) (hb : b.size ≤ 20000) :
    AC Try.prog H.length γ 14 #[.agg (iv .u8 k).toArray, .string s, .string x, .string b] H (fun v' _ => v' = ropenR k s x (nums b)) := by
  have htk : (iv .u8 k).take 32 = iv .u8 k := List.take_of_length_le (by simp [hlk])
  have hhs := hidO_size x
  have htg := fun L => rtagS_rc (H := H ++ L) (γ := γ) hk hlk s (hidO x) b hs (by omega) (by omega)
  have hts := tagS_size k s (nums b) (nums (hidO x))
  have hm := rmask_y hk hlk s hs (hidO x) (by omega)
  unfold ropenR
  refine ac_of_aw Try.func14 rfl Try.ntmps14 Try.results14 (by simp) ?_
  refine aw_seq ?_
  (refine aw_ops (by kernel_rfl) (fun K hK => ?_); simp (disch := first | omega | (simp only [List.length_set, List.length_append, List.length_cons, List.length_nil, iv_length, zl_length]; try omega; done)) [-getElem?_pos, -getElem?_neg]; refine hK _ _ ?_; clear hK K)
  refine aw_seq ?_
  refine aw_seq ?_
  by_cases h16 : 16 ≤ x.size
  case neg =>
    have e2 : givO x = ⟨#[]⟩ := by unfold givO; rw [if_neg h16]
    rw [if_neg (fun h => by rw [h, e2] at hts; cases hts)]
    (refine aw_ops (by kernel_rfl) (fun K hK => ?_); simp (disch := first | omega | (simp only [List.length_set, List.length_append, List.length_cons, List.length_nil, iv_length, zl_length]; try omega; done)) [-getElem?_pos, -getElem?_neg]; refine hK _ _ ?_; clear hK K)
    refine aw_t (by (first | (simp [eval_tmp, put_at]; done) | (simp [eval_tmp, put_at]; omega))) (by kernel_rfl) ?_
    refine aw_seq ?_
    (refine aw_ops (by kernel_rfl) (fun K hK => ?_); simp (disch := first | omega | (simp only [List.length_set, List.length_append, List.length_cons, List.length_nil, iv_length, zl_length]; try omega; done)) [-getElem?_pos, -getElem?_neg]; refine hK _ _ ?_; clear hK K)
    (refine aw_ret ?_; simp (disch := first | omega | (simp only [List.length_set, List.length_append, List.length_cons, List.length_nil, iv_length, zl_length]; try omega; done)) [-getElem?_pos, -getElem?_neg, thenQ_ret, inBlockQ_ret, RQ, resL, resV])
  have e1 : x.extract 0 (x.size - 16) = hidO x := by unfold hidO; rw [if_pos h16]
  have e2 : x.extract (x.size - 16) x.size = givO x := by unfold givO; rw [if_pos h16]
  have hn : ((x.size : Int) - 16).toNat = x.size - 16 := by omega
  (refine aw_ops (by kernel_rfl) (fun K hK => ?_); simp (disch := first | omega | (simp only [List.length_set, List.length_append, List.length_cons, List.length_nil, iv_length, zl_length]; try omega; done)) [-getElem?_pos, -getElem?_neg]; refine hK _ _ ?_; clear hK K)
  refine aw_f (by (first | (simp [eval_tmp, put_at]; done) | (simp [eval_tmp, put_at]; omega))) (by kernel_rfl) ?_
  refine aw_skip ?_
  refine aw_seq ?_
  (refine aw_ops (by kernel_rfl) (fun K hK => ?_); simp (disch := first | omega | (simp only [List.length_set, List.length_append, List.length_cons, List.length_nil, iv_length, zl_length]; try omega; done)) [-getElem?_pos, -getElem?_neg, hn, e1]; refine hK _ _ ?_; clear hK K)
  refine aw_seq ?_
  refine aw_seq ?_
  by_cases hq : tagS k s (nums b) (nums (hidO x)) = givO x
  · rw [if_pos hq]
    rw [hq] at htg
    (refine aw_plan [] [] [0, 1, 2, 3, 4, 5, 6, 7, 8, 9, 10] 11 0 (by kernel_rfl) (by kernel_rfl) (by kernel_rfl) (fun K hK => ?_)); simp only [sel, List.getElem?_cons_succ, List.getElem?_cons_zero, List.drop_succ_cons, List.drop_zero]; simp (disch := first | omega | (simp only [List.length_set, List.length_append, List.length_cons, List.length_nil, iv_length, zl_length]; try omega; done)) [-getElem?_pos, -getElem?_neg, hlk, htk, hn, e2, PL_nil, PL_cons, PLc_val, PLc_new, stepP_t, stepP_f, stepPC_n, stepPC_s, stepPX_s, stepPX_n, stepPA_t, stepPA_c, stepPA_l, stepPN_s, allocOp, reloc_sl, reloc_ptr, List.map_cons, List.map_nil, List.nil_append, List.append_assoc, List.cons_append, Nat.add_assoc]
    refine PLc_call (by kernel_rfl) (fun L hL => by rw [List.append_assoc]; exact htg _) (by simp [pv_iv, pv_int, pv_bool, pv_string, pv_tup2, pv_tup3, iv_plain, p2_int, p2_bool, p2_string]) ?_
    try simp (disch := first | omega | (simp only [List.length_set, List.length_append, List.length_cons, List.length_nil, iv_length, zl_length]; try omega; done)) [-getElem?_pos, -getElem?_neg, hlk, htk, hn, e2, bne_self_eq_false, PL_nil, PL_cons, PLc_val, PLc_new, stepP_t, stepP_f, stepPC_n, stepPC_s, stepPX_s, stepPX_n, stepPA_t, stepPA_c, stepPA_l, stepPN_s, allocOp, reloc_sl, reloc_ptr, List.map_cons, List.map_nil, List.nil_append, List.append_assoc, List.cons_append, Nat.add_assoc]
    refine hK _ _ ?_; clear hK K
    refine aw_f (by (first | (simp [eval_tmp, put_at]; done) | (simp [eval_tmp, put_at]; omega))) (by kernel_rfl) ?_
    refine aw_skip ?_
    refine aw_seq ?_
    refine aw_ops (by kernel_rfl) (fun K hK => ?_)
    simp (disch := first | omega | (simp only [List.length_set, List.length_append, List.length_cons, List.length_nil, iv_length, zl_length]; try omega; done)) [-getElem?_pos, -getElem?_neg, hlk, htk]
    refine ⟨by kernel_rfl, ac_of_vc (by simp [pv_iv, pv_int, pv_bool, pv_string, pv_tup2, pv_tup3, iv_plain, p2_int, p2_bool, p2_string]) hm ?_⟩
    try simp (disch := first | omega | (simp only [List.length_set, List.length_append, List.length_cons, List.length_nil, iv_length, zl_length]; try omega; done)) [-getElem?_pos, -getElem?_neg]
    refine hK _ _ ?_; clear hK K
    (refine aw_ret ?_; simp (disch := first | omega | (simp only [List.length_set, List.length_append, List.length_cons, List.length_nil, iv_length, zl_length]; try omega; done)) [-getElem?_pos, -getElem?_neg, thenQ_ret, inBlockQ_ret, RQ, resL, resV])
  · rw [if_neg hq]
    have hqb : ((tagS k s (nums b) (nums (hidO x))).toList == (givO x).toList) = false := by rw [toList_eq]; exact decide_eq_false hq
    generalize tagS k s (nums b) (nums (hidO x)) = g at *
    (refine aw_plan [] [] [0, 1, 2, 3, 4, 5, 6, 7, 8, 9, 10] 11 0 (by kernel_rfl) (by kernel_rfl) (by kernel_rfl) (fun K hK => ?_)); simp only [sel, List.getElem?_cons_succ, List.getElem?_cons_zero, List.drop_succ_cons, List.drop_zero]; simp (disch := first | omega | (simp only [List.length_set, List.length_append, List.length_cons, List.length_nil, iv_length, zl_length]; try omega; done)) [-getElem?_pos, -getElem?_neg, hlk, htk, hn, e2, PL_nil, PL_cons, PLc_val, PLc_new, stepP_t, stepP_f, stepPC_n, stepPC_s, stepPX_s, stepPX_n, stepPA_t, stepPA_c, stepPA_l, stepPN_s, allocOp, reloc_sl, reloc_ptr, List.map_cons, List.map_nil, List.nil_append, List.append_assoc, List.cons_append, Nat.add_assoc]
    refine PLc_call (by kernel_rfl) (fun L hL => by rw [List.append_assoc]; exact htg _) (by simp [pv_iv, pv_int, pv_bool, pv_string, pv_tup2, pv_tup3, iv_plain, p2_int, p2_bool, p2_string]) ?_
    try simp (disch := first | omega | (simp only [List.length_set, List.length_append, List.length_cons, List.length_nil, iv_length, zl_length]; try omega; done)) [-getElem?_pos, -getElem?_neg, hlk, htk, hn, e2, bne, hqb, PL_nil, PL_cons, PLc_val, PLc_new, stepP_t, stepP_f, stepPC_n, stepPC_s, stepPX_s, stepPX_n, stepPA_t, stepPA_c, stepPA_l, stepPN_s, allocOp, reloc_sl, reloc_ptr, List.map_cons, List.map_nil, List.nil_append, List.append_assoc, List.cons_append, Nat.add_assoc]
    refine hK _ _ ?_; clear hK K
    refine aw_t (by (first | (simp [eval_tmp, put_at]; done) | (simp [eval_tmp, put_at]; omega))) (by kernel_rfl) ?_
    refine aw_seq ?_
    (refine aw_ops (by kernel_rfl) (fun K hK => ?_); simp (disch := first | omega | (simp only [List.length_set, List.length_append, List.length_cons, List.length_nil, iv_length, zl_length]; try omega; done)) [-getElem?_pos, -getElem?_neg]; refine hK _ _ ?_; clear hK K)
    (refine aw_ret ?_; simp (disch := first | omega | (simp only [List.length_set, List.length_append, List.length_cons, List.length_nil, iv_length, zl_length]; try omega; done)) [-getElem?_pos, -getElem?_neg, thenQ_ret, inBlockQ_ret, RQ, resL, resV])
def z12 : ByteArray := strOfNums (zl 12)
theorem z12_size : z12.size = 12 := rfl
def kOne : List Int := 1 :: zl 31
theorem kOne_by : By kOne := By.cons (by omega) (zl_by 31)
theorem kOne_len : kOne.length = 32 := rfl
theorem openR_b (b : List Int) (t : ByteArray) : openR kOne z12 (boxS kOne z12 t b) b = .tuple #[.string t, .int .i64 0] := open_box _ _ _ _ rfl
theorem sealR_y (k : List Int) (s t : ByteArray) (b : List Int) (hs : s.size = 12) : sealR k s t b = .tuple #[.string (boxS k s t b), .int .i64 0] := by unfold sealR; rw [if_pos hs]
attribute [local irreducible] z12
theorem alive_rc {H : AH} {γ : Nat → Option Nat} : AC Try.prog H.length γ 8 #[] H (fun v' _ => v' = .bool true) := by
  refine ac_of_aw Try.func8 rfl Try.ntmps8 Try.results8 (by simp) ?_
  have e12 : strOfNums (zl 12) = z12 := by unfold z12; rfl
  have hl12 : (zl 12).length = 12 := by simp
  have t12 : (iv .u8 (zl 12)).take 12 = iv .u8 (zl 12) := List.take_of_length_le (by simp)
  have hc1 : cat [⟨#[98, 121]⟩] = [98, 121] := rfl
  have hc2 : cat [⟨#[98]⟩, ⟨#[121]⟩] = [98, 121] := rfl
  obtain ⟨tx, htx⟩ : ∃ tx : ByteArray, tx = ⟨#[116, 101, 120, 116]⟩ := ⟨_, rfl⟩
  have htxs : tx.size = 4 := by rw [htx]; rfl
  have hbs := boxS_size kOne z12 tx [98, 121]
  have hop := openR_b [98, 121] tx
  have hse := sealR_y kOne z12 tx [98, 121] z12_size
  refine aw_seq ?_
  (refine aw_ops (by kernel_rfl) (fun K hK => ?_); simp (disch := first | omega | (simp only [List.length_set, List.length_append, List.length_cons, List.length_nil, iv_length, zl_length]; try omega; done)) [-getElem?_pos, -getElem?_neg]; refine hK _ _ ?_; clear hK K)
  refine aw_seq ?_
  (refine aw_ops (by kernel_rfl) (fun K hK => ?_); simp (disch := first | omega | (simp only [List.length_set, List.length_append, List.length_cons, List.length_nil, iv_length, zl_length]; try omega; done)) [-getElem?_pos, -getElem?_neg, maxLen, zeros_u8, byteList_iv, t12, hl12, e12]; refine hK _ _ ?_; clear hK K)
  refine aw_seq ?_
  refine aw_ops (by kernel_rfl) (fun K hK => ?_)
  simp (disch := first | omega | (simp only [List.length_set, List.length_append, List.length_cons, List.length_nil, iv_length, zl_length]; try omega; done)) [-getElem?_pos, -getElem?_neg, ← htx]
  refine ⟨by kernel_rfl, ac_of_rc (seal_rc kOne_by kOne_len z12 tx [⟨#[98, 121]⟩] _ (SlR.mk1 (by rw [hget_app]; rfl) rfl) (by simp) (by rw [hc1]; decide) (by omega)) (by rw [hc1, hse]; simp [pv_iv, pv_int, pv_bool, pv_string, pv_tup2, pv_tup3, iv_plain, p2_int, p2_bool, p2_string]) ?_⟩
  rw [hc1, hse]
  generalize boxS kOne z12 tx [98, 121] = bx at *
  try simp (disch := first | omega | (simp only [List.length_set, List.length_append, List.length_cons, List.length_nil, iv_length, zl_length]; try omega; done)) [-getElem?_pos, -getElem?_neg]
  refine hK _ _ ?_; clear hK K
  refine aw_seq ?_
  refine aw_ops (by kernel_rfl) (fun K hK => ?_)
  simp (disch := first | omega | (simp only [List.length_set, List.length_append, List.length_cons, List.length_nil, iv_length, zl_length]; try omega; done)) [-getElem?_pos, -getElem?_neg]
  refine ⟨by kernel_rfl, ac_of_rc (open_rc kOne_by kOne_len z12 bx [⟨#[98]⟩, ⟨#[121]⟩] _ (SlR.mk2 (by rw [hget_app]; rfl) rfl rfl) (by simp) (by rw [hc2]; decide) (by omega)) (by rw [hc2, hop]; simp [pv_iv, pv_int, pv_bool, pv_string, pv_tup2, pv_tup3, iv_plain, p2_int, p2_bool, p2_string]) ?_⟩
  rw [hc2, hop]
  try simp (disch := first | omega | (simp only [List.length_set, List.length_append, List.length_cons, List.length_nil, iv_length, zl_length]; try omega; done)) [-getElem?_pos, -getElem?_neg]
  refine hK _ _ ?_; clear hK K
  refine aw_seq ?_
  (refine aw_ops (by kernel_rfl) (fun K hK => ?_); simp (disch := first | omega | (simp only [List.length_set, List.length_append, List.length_cons, List.length_nil, iv_length, zl_length]; try omega; done)) [-getElem?_pos, -getElem?_neg, hbs, htxs, ← htx, beq_self_eq_true]; refine hK _ _ ?_; clear hK K)
  (refine aw_ret ?_; simp (disch := first | omega | (simp only [List.length_set, List.length_append, List.length_cons, List.length_nil, iv_length, zl_length]; try omega; done)) [-getElem?_pos, -getElem?_neg, thenQ_ret, inBlockQ_ret, RQ, resL, resV])
end
end Go.Proofs.Ytjfjakighnibpaa
