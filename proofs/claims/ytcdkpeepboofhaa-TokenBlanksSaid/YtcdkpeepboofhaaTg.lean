/-
  A number's digits, and a token as text, walked.
-/
import Derived.Test.YtcdkpeepboofhaaTf
namespace Go.Proofs.Ytcdkpeepboofhaa
open Go Go.RowKit
set_option linter.unusedVariables false
set_option linter.unusedSimpArgs false
set_option maxRecDepth 100000
set_option maxHeartbeats 4000000
def digF : Nat → Nat → List Int
  | 0, n => [48 + (n : Int)]
  | f + 1, n => if n < 10 then [48 + (n : Int)] else digF f (n / 10) ++ [48 + ((n % 10 : Nat) : Int)]
theorem digF_len : ∀ f n, (digF f n).length ≤ f + 1
  | 0, n => by simp [digF]
  | f + 1, n => by
    rw [digF]
    split
    · simp
    · have := digF_len f (n / 10)
      rw [List.length_append]
      simp; omega
theorem digF_dig : ∀ f n, n < 10 ^ (f + 1) → ∀ c ∈ digF f n, 48 ≤ c ∧ c ≤ 57
  | 0, n, h, c, hc => by
    simp [digF] at hc
    have h : n < 10 := by simpa using h
    omega
  | f + 1, n, h, c, hc => by
    rw [digF] at hc
    split at hc
    · simp at hc; omega
    · rcases List.mem_append.1 hc with hc | hc
      · exact digF_dig f (n / 10) (by rw [Nat.pow_succ] at h; omega) c hc
      · simp at hc
        omega
theorem digF_by {f n : Nat} (h : n < 10 ^ (f + 1)) : By (digF f n) := fun c hc => by
  have := digF_dig f n h c hc; omega
theorem shown_get (l : Nat) {H L : AH} {N : List Blk} {i j : Nat} {b : Blk} (h : Shown H.length N L (.slice (some ⟨i, 0, none⟩) l l)) (hi : i = H.length + j) (hb : N[j]? = some b) : hget (H ++ L) i = some b := by
  have := h j b hi hb
  rw [hi, hget_app]
  exact this
def hexC (n : Int) : Int := if n < 10 then 48 + n else 87 + n
/-- One byte of a text token, written. -/
def escB (c : Int) : List Int := if c = 34 ∨ c = 92 then [92, c] else if 32 ≤ c ∧ c ≤ 126 then [c] else [92, 120, hexC (c / 16), hexC (c % 16)]
def escL (l : List Int) : List Int := l.flatMap escB
def writeT (t : Tk) : List Int := if t.kind = 2 then digF 8 t.n.toNat else if t.kind ≠ 3 then t.tx else 34 :: (escL t.tx ++ [34])
theorem escB_len (c : Int) : (escB c).length ≤ 4 := by
  unfold escB
  split
  · simp
  split
  · simp
  · simp
theorem escL_len (l : List Int) : (escL l).length ≤ 4 * l.length := by
  induction l with
  | nil => simp [escL]
  | cons c l ih =>
    have := escB_len c
    simp only [escL, List.flatMap_cons, List.length_append, List.length_cons] at ih ⊢
    omega
theorem escL_next {l : List Int} {i : Nat} {c : Int} (h : l[i]? = some c) : escL (l.take (i + 1)) = escL (l.take i) ++ escB c := by
  unfold escL
  rw [List.take_add_one, h, List.flatMap_append]
  simp
theorem hexS : (⟨#[48, 49, 50, 51, 52, 53, 54, 55, 56, 57, 97, 98, 99, 100, 101, 102]⟩ : ByteArray).size = 16 := rfl
theorem hexX : ∀ n : Nat, n < 16 → (⟨#[48, 49, 50, 51, 52, 53, 54, 55, 56, 57, 97, 98, 99, 100, 101, 102]⟩ : ByteArray).extract n (n + 1) = strOfNums [hexC n] := by decide +kernel
attribute [local simp] wb_bool wb_undef XL_nil XL_cons XLc_val XLc_call step1_eq stepW_t stepW_f stepC_n stepC_s stepX_s stepX_n stepN_s calleeX oneV xop_eq xopR_s xopR_n wantedA_eq wantedG_n wantedG_s plain1_int plain1_bool plain1_string bits_i64 bits_u64 bits_u32 bits_u16 bits_u8 xeqA xagg xcmp xarr allK_iv num_iv calleeOf xread xeff xbin xint xnil xun xstr xload xconv xpart xfield xfieldAddr xindexAddr xindex bnd asInt? xslice xlen xmin xmax xbuild xfill xappend xapp2 xappstr xappmk xcap xcopy xcells eval_tmp eval_const put_at put_none fr0_at cells_agg cells_int cells_bool cells_string cells_ptr cells_slice notTuple tab iv_all hget_app hget_app0 hget_cons0 hget_cons set_app set_app0 setR setR_one QL_nil QL_cons QLc_val stepQ_t stepQ_f stepQC_n stepQC_s stepQX_s SL_nil SL_cons SLc_val stepS_t stepS_f ltT ltF leT leF eqT eqF ltTn ltFn leTn leFn eqTn eqFn beqT beqF bneT bneF wi64 wu64 wu32 wu16 wu8 tmodP tdivP hgetL hgetNe hgetEq setL nums_def nums_len Nat.succ_le_of_lt List.getElem?_cons_zero List.getElem?_cons_succ Option.getD_some Int.toNat_add Int.toNat_mul agB agI agS agP agL agA okB okI okS okP okSl okA
theorem digits_vc : ∀ (f n : Nat), n < 10 ^ (f + 1) → f ≤ 8 → VC Try.prog 12 #[.int .i64 (n : Nat)] (.string (strOfNums (digF f n))) := by
  intro f
  induction f with
  | zero =>
    intro n hn _
    have hn : n < 10 := by simpa using hn
    have hbl : byteList [.int .u8 (48 + (n : Int))] = some [48 + (n : Int)] := byteList_iv [48 + (n : Int)]
    refine vc_of_ac (by simp [pv_iv, pv_int, pv_bool, pv_string, pv_tup2, pv_tup3, iv_plain, p2_int, p2_bool, p2_string]) (by simp [pv_iv, pv_int, pv_bool, pv_string, pv_tup2, pv_tup3, iv_plain, p2_int, p2_bool, p2_string]) ?_
    refine ac_of_aw Try.func12 rfl Try.ntmps12 Try.results12 (by simp) ?_
    refine aw_seq ?_
    (refine aw_ops (by kernel_rfl) (fun K hK => ?_); simp (disch := first | omega | (simp only [List.length_set, List.length_append, List.length_cons, List.length_nil, iv_length, zl_length]; try omega; done)) [-getElem?_pos, -getElem?_neg]; refine hK _ _ ?_; clear hK K)
    refine aw_seq ?_
    refine aw_seq ?_
    (refine aw_ops (by kernel_rfl) (fun K hK => ?_); simp (disch := first | omega | (simp only [List.length_set, List.length_append, List.length_cons, List.length_nil, iv_length, zl_length]; try omega; done)) [-getElem?_pos, -getElem?_neg]; refine hK _ _ ?_; clear hK K)
    refine aw_t (by (first | (simp [eval_tmp, put_at]; done) | (simp [eval_tmp, put_at]; omega))) (by kernel_rfl) ?_
    refine aw_seq ?_
    (refine aw_ops (by kernel_rfl) (fun K hK => ?_); simp (disch := first | omega | (simp only [List.length_set, List.length_append, List.length_cons, List.length_nil, iv_length, zl_length]; try omega; done)) [-getElem?_pos, -getElem?_neg, hbl]; refine hK _ _ ?_; clear hK K)
    (refine aw_ret ?_; simp (disch := first | omega | (simp only [List.length_set, List.length_append, List.length_cons, List.length_nil, iv_length, zl_length]; try omega; done)) [-getElem?_pos, -getElem?_neg, thenQ_ret, scopeQ_ret, inBlockQ_ret, RQ, resL, resV, digF])
  | succ f ih =>
    intro n hn hf
    have h9 : n < 10 ^ 9 := Nat.lt_of_lt_of_le hn (Nat.pow_le_pow_right (by omega) (by omega))
    have h9 : n < 1000000000 := by simpa using h9
    by_cases h1 : n < 10
    · have hbl : byteList [.int .u8 (48 + (n : Int))] = some [48 + (n : Int)] := byteList_iv [48 + (n : Int)]
      refine vc_of_ac (by simp [pv_iv, pv_int, pv_bool, pv_string, pv_tup2, pv_tup3, iv_plain, p2_int, p2_bool, p2_string]) (by simp [pv_iv, pv_int, pv_bool, pv_string, pv_tup2, pv_tup3, iv_plain, p2_int, p2_bool, p2_string]) ?_
      refine ac_of_aw Try.func12 rfl Try.ntmps12 Try.results12 (by simp) ?_
      refine aw_seq ?_
      (refine aw_ops (by kernel_rfl) (fun K hK => ?_); simp (disch := first | omega | (simp only [List.length_set, List.length_append, List.length_cons, List.length_nil, iv_length, zl_length]; try omega; done)) [-getElem?_pos, -getElem?_neg]; refine hK _ _ ?_; clear hK K)
      refine aw_seq ?_
      refine aw_seq ?_
      (refine aw_ops (by kernel_rfl) (fun K hK => ?_); simp (disch := first | omega | (simp only [List.length_set, List.length_append, List.length_cons, List.length_nil, iv_length, zl_length]; try omega; done)) [-getElem?_pos, -getElem?_neg]; refine hK _ _ ?_; clear hK K)
      refine aw_t (by (first | (simp [eval_tmp, put_at, h1]; done) | (simp [eval_tmp, put_at, h1]; omega))) (by kernel_rfl) ?_
      refine aw_seq ?_
      (refine aw_ops (by kernel_rfl) (fun K hK => ?_); simp (disch := first | omega | (simp only [List.length_set, List.length_append, List.length_cons, List.length_nil, iv_length, zl_length]; try omega; done)) [-getElem?_pos, -getElem?_neg, hbl]; refine hK _ _ ?_; clear hK K)
      (refine aw_ret ?_; simp (disch := first | omega | (simp only [List.length_set, List.length_append, List.length_cons, List.length_nil, iv_length, zl_length]; try omega; done)) [-getElem?_pos, -getElem?_neg, thenQ_ret, scopeQ_ret, inBlockQ_ret, RQ, resL, resV, digF, h1])
    · have hrec := ih (n / 10) (by rw [Nat.pow_succ] at hn; omega) (by omega)
      have hll := digF_len f (n / 10)
      have hsz := sn_size (digF f (n / 10))
      obtain ⟨D, hD⟩ : ∃ D, D = digF f (n / 10) := ⟨_, rfl⟩
      have hdf : digF (f + 1) n = D ++ [48 + ((n % 10 : Nat) : Int)] := by rw [digF, if_neg h1, hD]
      obtain ⟨x, hx⟩ : ∃ x : Int, x = 48 + ((n % 10 : Nat) : Int) := ⟨_, rfl⟩
      rw [← hD] at hrec hll hsz
      have hdc : ((n / 10 : Nat) : Int) = (n : Int) / 10 := by omega
      rw [hdc] at hrec
      rw [hdf, ← hx]
      have hx1 : 48 + (n : Int) % 10 = x := by omega
      have hxb : 48 ≤ x ∧ x ≤ 57 := by omega
      have hsz1 := sn_size [x]
      have happ := sn_app D [x]
      clear hdf hD ih hx
      refine vc_of_ac (by simp [pv_iv, pv_int, pv_bool, pv_string, pv_tup2, pv_tup3, iv_plain, p2_int, p2_bool, p2_string]) (by simp [pv_iv, pv_int, pv_bool, pv_string, pv_tup2, pv_tup3, iv_plain, p2_int, p2_bool, p2_string]) ?_
      refine ac_of_aw Try.func12 rfl Try.ntmps12 Try.results12 (by simp) ?_
      refine aw_seq ?_
      (refine aw_ops (by kernel_rfl) (fun K hK => ?_); simp (disch := first | omega | (simp only [List.length_set, List.length_append, List.length_cons, List.length_nil, iv_length, zl_length]; try omega; done)) [-getElem?_pos, -getElem?_neg]; refine hK _ _ ?_; clear hK K)
      refine aw_seq ?_
      refine aw_seq ?_
      (refine aw_ops (by kernel_rfl) (fun K hK => ?_); simp (disch := first | omega | (simp only [List.length_set, List.length_append, List.length_cons, List.length_nil, iv_length, zl_length]; try omega; done)) [-getElem?_pos, -getElem?_neg]; refine hK _ _ ?_; clear hK K)
      refine aw_f (by (first | (simp [eval_tmp, put_at, h1]; done) | (simp [eval_tmp, put_at, h1]; omega))) (by kernel_rfl) ?_
      refine aw_skip ?_
      refine aw_seq ?_
      (refine aw_plan [] [] [0, 1, 2, 3, 4, 5, 6, 7, 8, 9, 10] 11 0 (by kernel_rfl) (by kernel_rfl) (by kernel_rfl) (fun K hK => ?_)); simp only [sel, List.getElem?_cons_succ, List.getElem?_cons_zero, List.drop_succ_cons, List.drop_zero]; simp (disch := first | omega | (simp only [List.length_set, List.length_append, List.length_cons, List.length_nil, iv_length, zl_length]; try omega; done)) [-getElem?_pos, -getElem?_neg, hx1, hsz, hsz1, happ, PL_nil, PL_cons, PLc_val, PLc_new, stepP_t, stepP_f, stepPC_n, stepPC_s, stepPX_s, stepPX_n, stepPA_t, stepPA_c, stepPA_l, stepPN_s, allocOp, reloc_sl, reloc_ptr, List.map_cons, List.map_nil, List.nil_append, List.append_assoc, List.cons_append, Nat.add_assoc]
      refine PLc_call (v := .string (strOfNums D)) (by kernel_rfl) (fun L hL => ?_) (by simp [pv_iv, pv_int, pv_bool, pv_string, pv_tup2, pv_tup3, iv_plain, p2_int, p2_bool, p2_string]) ?_
      · exact ac_of_vc (by simp [pv_iv, pv_int, pv_bool, pv_string, pv_tup2, pv_tup3, iv_plain, p2_int, p2_bool, p2_string]) hrec rfl
      have hnil : hget ([] : AH) 0 = none := rfl
      simp (disch := first | omega | (simp only [List.length_set, List.length_append, List.length_cons, List.length_nil, iv_length, zl_length]; try omega; done)) [-getElem?_pos, -getElem?_neg, hx1, hsz, hsz1, happ, hnil, PL_nil, PL_cons, PLc_val, PLc_new, stepP_t, stepP_f, stepPC_n, stepPC_s, stepPX_s, stepPX_n, stepPA_t, stepPA_c, stepPA_l, stepPN_s, allocOp, reloc_sl, reloc_ptr, List.map_cons, List.map_nil, List.nil_append, List.append_assoc, List.cons_append, Nat.add_assoc]
      refine PLc_conv (v := .string (strOfNums [x])) (fun L hL => ?_) (by simp [pv_iv, pv_int, pv_bool, pv_string, pv_tup2, pv_tup3, iv_plain, p2_int, p2_bool, p2_string]) ?_
      · try simp only [eval_tmp] at hL ⊢
        try simp [put_at] at hL ⊢
        have := shown_get 1 (H := []) (j := 0) (by simpa using hL) (by simp) rfl
        have hbl : byteList [.int .u8 x] = some [x] := byteList_iv [x]
        simp only [List.length_nil, List.nil_append, Nat.zero_add] at this
        simp [xconv, this, hbl]
      simp (disch := first | omega | (simp only [List.length_set, List.length_append, List.length_cons, List.length_nil, iv_length, zl_length]; try omega; done)) [-getElem?_pos, -getElem?_neg, hx1, hsz, hsz1, happ, PL_nil, PL_cons, PLc_val, PLc_new, stepP_t, stepP_f, stepPC_n, stepPC_s, stepPX_s, stepPX_n, stepPA_t, stepPA_c, stepPA_l, stepPN_s, allocOp, reloc_sl, reloc_ptr, List.map_cons, List.map_nil, List.nil_append, List.append_assoc, List.cons_append, Nat.add_assoc]
      refine hK _ _ ?_; clear hK K
      (refine aw_ret ?_; simp (disch := first | omega | (simp only [List.length_set, List.length_append, List.length_cons, List.length_nil, iv_length, zl_length]; try omega; done)) [-getElem?_pos, -getElem?_neg, thenQ_ret, scopeQ_ret, inBlockQ_ret, RQ, resL, resV])
theorem write_vc {t : Tk} {a : Nat} (hk : 1 ≤ t.kind ∧ t.kind ≤ 4) (hn : 0 ≤ t.n ∧ t.n ≤ 999999999) (hb : By t.tx) (hl : t.tx.length ≤ 1000000) : VC Try.prog 8 #[t.val a] (.string (strOfNums (writeT t))) := by
  obtain ⟨k, n, l⟩ := t
  simp only at hk hn hb hl
  have hsz := sn_size l
  obtain ⟨R, hR⟩ : ∃ R, R = writeT ⟨k, n, l⟩ := ⟨_, rfl⟩
  have hR2 := hR
  simp only [writeT] at hR2
  rw [← hR]
  refine vc_of_ac (by simp [Tk.val, plainV, plain2, plain1]) (by simp [pv_iv, pv_int, pv_bool, pv_string, pv_tup2, pv_tup3, iv_plain, p2_int, p2_bool, p2_string]) ?_
  unfold Tk.val
  simp only
  refine ac_of_aw Try.func8 rfl Try.ntmps8 Try.results8 (by simp) ?_
  refine aw_seq ?_
  (refine aw_ops (by kernel_rfl) (fun K hK => ?_); simp (disch := first | omega | (simp only [List.length_set, List.length_append, List.length_cons, List.length_nil, iv_length, zl_length]; try omega; done)) [-getElem?_pos, -getElem?_neg]; refine hK _ _ ?_; clear hK K)
  refine aw_seq ?_
  refine aw_seq ?_
  (refine aw_ops (by kernel_rfl) (fun K hK => ?_); simp (disch := first | omega | (simp only [List.length_set, List.length_append, List.length_cons, List.length_nil, iv_length, zl_length]; try omega; done)) [-getElem?_pos, -getElem?_neg]; refine hK _ _ ?_; clear hK K)
  by_cases h2 : k = 2
  · rw [if_pos h2] at hR2
    refine aw_t (by (first | (simp [eval_tmp, put_at, h2]; done) | (simp [eval_tmp, put_at, h2]; omega))) (by kernel_rfl) ?_
    have hd := digits_vc 8 n.toNat (by have : n.toNat < 1000000000 := by omega
                                       simpa using this) (Nat.le_refl _)
    rw [← hR2, Int.toNat_of_nonneg hn.1] at hd
    refine aw_seq ?_
    refine aw_ops (by kernel_rfl) (fun K hK => ?_)
    simp (disch := first | omega | (simp only [List.length_set, List.length_append, List.length_cons, List.length_nil, iv_length, zl_length]; try omega; done)) [-getElem?_pos, -getElem?_neg]
    refine ⟨by kernel_rfl, ac_of_vc (by simp [pv_iv, pv_int, pv_bool, pv_string, pv_tup2, pv_tup3, iv_plain, p2_int, p2_bool, p2_string]) hd ?_⟩
    try simp (disch := first | omega | (simp only [List.length_set, List.length_append, List.length_cons, List.length_nil, iv_length, zl_length]; try omega; done)) [-getElem?_pos, -getElem?_neg]
    refine hK _ _ ?_; clear hK K
    (refine aw_ret ?_; simp (disch := first | omega | (simp only [List.length_set, List.length_append, List.length_cons, List.length_nil, iv_length, zl_length]; try omega; done)) [-getElem?_pos, -getElem?_neg, thenQ_ret, scopeQ_ret, inBlockQ_ret, RQ, resL, resV])
  rw [if_neg h2] at hR2
  refine aw_f (by (first | (simp [eval_tmp, put_at, h2]; done) | (simp [eval_tmp, put_at, h2]; omega))) (by kernel_rfl) ?_
  refine aw_skip ?_
  refine aw_seq ?_
  refine aw_seq ?_
  (refine aw_ops (by kernel_rfl) (fun K hK => ?_); simp (disch := first | omega | (simp only [List.length_set, List.length_append, List.length_cons, List.length_nil, iv_length, zl_length]; try omega; done)) [-getElem?_pos, -getElem?_neg]; refine hK _ _ ?_; clear hK K)
  by_cases h3 : k = 3
  case neg =>
    rw [if_pos h3] at hR2
    refine aw_t (by (first | (simp [eval_tmp, put_at, h3]; done) | (simp [eval_tmp, put_at, h3]; omega))) (by kernel_rfl) ?_
    refine aw_seq ?_
    (refine aw_ops (by kernel_rfl) (fun K hK => ?_); simp (disch := first | omega | (simp only [List.length_set, List.length_append, List.length_cons, List.length_nil, iv_length, zl_length]; try omega; done)) [-getElem?_pos, -getElem?_neg]; refine hK _ _ ?_; clear hK K)
    (refine aw_ret ?_; simp (disch := first | omega | (simp only [List.length_set, List.length_append, List.length_cons, List.length_nil, iv_length, zl_length]; try omega; done)) [-getElem?_pos, -getElem?_neg, thenQ_ret, scopeQ_ret, inBlockQ_ret, RQ, resL, resV, hR2])
  rw [if_neg (by simpa using h3)] at hR2
  refine aw_f (by (first | (simp [eval_tmp, put_at, h3]; done) | (simp [eval_tmp, put_at, h3]; omega))) (by kernel_rfl) ?_
  refine aw_skip ?_
  refine aw_seq ?_
  (refine aw_ops (by kernel_rfl) (fun K hK => ?_); simp (disch := first | omega | (simp only [List.length_set, List.length_append, List.length_cons, List.length_nil, iv_length, zl_length]; try omega; done)) [-getElem?_pos, -getElem?_neg]; refine hK _ _ ?_; clear hK K)
  refine aw_seq ?_
  refine aw_seq ?_
  (refine aw_ops (by kernel_rfl) (fun K hK => ?_); simp (disch := first | omega | (simp only [List.length_set, List.length_append, List.length_cons, List.length_nil, iv_length, zl_length]; try omega; done)) [-getElem?_pos, -getElem?_neg]; refine hK _ _ ?_; clear hK K)
  obtain ⟨B, hB⟩ : ∃ B : Blk, B = ⟨[.int .i64 k, .int .i64 (a : Nat), .int .i64 n, .string (strOfNums l)], 29, none⟩ := ⟨_, rfl⟩
  have hll := escL_len l
  refine aw_block ?_
  refine aw_loop (fun q α G => G = [some ⟨[.int .i64 k, .int .i64 (a : Nat), .int .i64 n, .string (strOfNums l)], 29, none⟩] ∧ ∃ i : Nat, i + q = l.length ∧ α 4 = .int .i64 (i : Nat) ∧ α 1 = .pointer (some ⟨0, 0, none⟩) ∧ α 3 = .string (strOfNums (34 :: escL (l.take i)))) l.length ?_ ?_
  · exact ⟨by simp, 0, by omega, by (first | (simp [put_at, put_none, fr0_at]; done) | rfl), by (first | (simp [put_at, put_none, fr0_at]; done) | rfl), by (first | (simp [put_at, put_none, fr0_at]; done) | rfl)⟩
  rintro q α G ⟨rfl, i, hiq, h4, h1, h3s⟩
  refine aw_seq ?_
  refine aw_seq ?_
  (refine aw_ops (by kernel_rfl) (fun K hK => ?_); simp (disch := first | omega | (simp only [List.length_set, List.length_append, List.length_cons, List.length_nil, iv_length, zl_length]; try omega; done)) [-getElem?_pos, -getElem?_neg, h4, h1, hsz]; refine hK _ _ ?_; clear hK K)
  by_cases hi : i < l.length
  case neg =>
    refine aw_f (by (first | (simp [eval_tmp, put_at, hi]; done) | (simp [eval_tmp, put_at, hi]; omega))) (by kernel_rfl) ?_
    refine aw_exit ?_
    obtain rfl : i = l.length := by omega
    rw [List.take_length] at h3s
    have hs1 := sn_size (34 :: escL l)
    have happ : strOfNums (34 :: escL l) ++ { data := #[34] } = strOfNums R := by
      rw [hR2]
      exact sn_app (34 :: escL l) [34]
    rw [List.length_cons] at hs1
    have hs2 : (⟨#[34]⟩ : ByteArray).size = 1 := rfl
    refine aw_seq ?_
    (refine aw_ops (by kernel_rfl) (fun K hK => ?_); simp (disch := first | omega | (simp only [List.length_set, List.length_append, List.length_cons, List.length_nil, iv_length, zl_length]; try omega; done)) [-getElem?_pos, -getElem?_neg, h3s, hs1, hs2, happ]; refine hK _ _ ?_; clear hK K)
    (refine aw_ret ?_; simp (disch := first | omega | (simp only [List.length_set, List.length_append, List.length_cons, List.length_nil, iv_length, zl_length]; try omega; done)) [-getElem?_pos, -getElem?_neg, thenQ_ret, scopeQ_ret, inBlockQ_ret, RQ, resL, resV])
  refine aw_t (by (first | (simp [eval_tmp, put_at, hi]; done) | (simp [eval_tmp, put_at, hi]; omega))) (by kernel_rfl) ?_
  refine aw_skip ?_
  refine aw_seq ?_
  obtain ⟨c, hc⟩ : ∃ c, l[i]? = some c := ⟨_, List.getElem?_eq_getElem hi⟩
  have hcb := hb c (List.mem_of_getElem? hc)
  have hgb := gb_get hb hc
  have hex : (strOfNums l).extract i (i + 1) = strOfNums [c] := by
    rw [ex_range, List.take_add_one, hc, List.drop_append_of_le_length (by rw [List.length_take]; omega), List.drop_of_length_le (by rw [List.length_take]; omega)]
    rfl
  have hnx := escL_next hc
  have hlt : (escL (l.take i)).length ≤ 4 * i := by
    have := escL_len (l.take i)
    rw [List.length_take] at this; omega
  have hs1 := sn_size (34 :: escL (l.take i))
  rw [List.length_cons] at hs1
  refine aw_cut (fun α G => G = [some ⟨[.int .i64 k, .int .i64 (a : Nat), .int .i64 n, .string (strOfNums l)], 29, none⟩] ∧ α 4 = .int .i64 (i : Nat) ∧ α 1 = .pointer (some ⟨0, 0, none⟩) ∧ α 3 = .string (strOfNums (34 :: escL (l.take (i + 1))))) ?_ ?_
  case refine_2 =>
    rintro α G ⟨rfl, h4, h1, h3s⟩
    (refine aw_ops (by kernel_rfl) (fun K hK => ?_); simp (disch := first | omega | (simp only [List.length_set, List.length_append, List.length_cons, List.length_nil, iv_length, zl_length]; try omega; done)) [-getElem?_pos, -getElem?_neg, h4]; refine hK _ _ ?_; clear hK K)
    exact ⟨q - 1, by omega, rfl, i + 1, by omega, by (first | (simp [put_at, put_none, fr0_at]; done) | rfl), by (first | (simp [put_at, put_none, fr0_at, h1]; done) | rfl), by (first | (simp [put_at, put_none, fr0_at, h3s]; done) | rfl)⟩
  rw [hnx]
  refine aw_block ?_
  refine aw_seq ?_
  (refine aw_ops (by kernel_rfl) (fun K hK => ?_); simp (disch := first | omega | (simp only [List.length_set, List.length_append, List.length_cons, List.length_nil, iv_length, zl_length]; try omega; done)) [-getElem?_pos, -getElem?_neg, h4, h1, hsz, hgb]; refine hK _ _ ?_; clear hK K)
  refine aw_seq ?_
  refine aw_cut (fun α G => G = [some ⟨[.int .i64 k, .int .i64 (a : Nat), .int .i64 n, .string (strOfNums l)], 29, none⟩] ∧ α 4 = .int .i64 (i : Nat) ∧ α 5 = .int .u8 c ∧ α 1 = .pointer (some ⟨0, 0, none⟩) ∧ α 3 = .string (strOfNums (34 :: escL (l.take i))) ∧ α 33 = .bool (decide (c = 34 ∨ c = 92))) ?_ ?_
  · by_cases h : c = 34
    · (refine aw_ops (by kernel_rfl) (fun K hK => ?_); simp (disch := first | omega | (simp only [List.length_set, List.length_append, List.length_cons, List.length_nil, iv_length, zl_length]; try omega; done)) [-getElem?_pos, -getElem?_neg, h]; refine hK _ _ ?_; clear hK K)
      exact ⟨rfl, by (first | (simp [put_at, put_none, fr0_at, h4]; done) | rfl), by (first | (simp [put_at, put_none, fr0_at, h]; done) | rfl), by (first | (simp [put_at, put_none, fr0_at, h1]; done) | rfl), by (first | (simp [put_at, put_none, fr0_at, h3s]; done) | rfl), by simp [put_at, h]⟩
    · (refine aw_ops (by kernel_rfl) (fun K hK => ?_); simp (disch := first | omega | (simp only [List.length_set, List.length_append, List.length_cons, List.length_nil, iv_length, zl_length]; try omega; done)) [-getElem?_pos, -getElem?_neg, h]; refine hK _ _ ?_; clear hK K)
      exact ⟨rfl, by (first | (simp [put_at, put_none, fr0_at, h4]; done) | rfl), by (first | (simp [put_at, put_none, fr0_at, h]; done) | rfl), by (first | (simp [put_at, put_none, fr0_at, h1]; done) | rfl), by (first | (simp [put_at, put_none, fr0_at, h3s]; done) | rfl), by simp [put_at, h]; rw [Bool.eq_iff_iff]; simp⟩
  clear h4 h1 h3s
  rintro α G ⟨rfl, h4, h5, h1, h3s, h33⟩
  have hsc : (strOfNums [c]).size = 1 := sn_size [c]
  have hwi : IntKind.i64.wrap ((i : Int) + 1) = ((i + 1 : Nat) : Int) := wi64 (by omega)
  by_cases hq : c = 34 ∨ c = 92
  · have he : escB c = [92, c] := by unfold escB; rw [if_pos hq]
    rw [he]
    have ha1 : strOfNums (34 :: escL (l.take i)) ++ { data := #[92] } = strOfNums (34 :: (escL (l.take i) ++ [92])) := sn_app _ [92]
    have ha2 : strOfNums (34 :: (escL (l.take i) ++ [92])) ++ strOfNums [c] = strOfNums (34 :: (escL (l.take i) ++ [92, c])) := by
      rw [sn_app]; simp
    have hs3 := sn_size (34 :: (escL (l.take i) ++ [92]))
    rw [List.length_cons, List.length_append] at hs3
    have hs2 : (⟨#[92]⟩ : ByteArray).size = 1 := rfl
    refine aw_t (by (first | (simp [eval_tmp, put_at, h33, hq]; done) | (simp [eval_tmp, put_at, h33, hq]; omega))) (by kernel_rfl) ?_
    (refine aw_ops (by kernel_rfl) (fun K hK => ?_); simp (disch := first | omega | (simp only [List.length_set, List.length_append, List.length_cons, List.length_nil, iv_length, zl_length]; try omega; done)) [-getElem?_pos, -getElem?_neg, h3s, h1, h4, hs1, hs2, ha1, hs3, hsz, hex, hsc, ha2]; refine hK _ _ ?_; clear hK K)
    exact ⟨rfl, by (first | (simp [put_at, put_none, fr0_at, h4]; done) | rfl), by (first | (simp [put_at, put_none, fr0_at, h1]; done) | rfl), by (first | (simp [put_at, put_none, fr0_at]; done) | rfl)⟩
  refine aw_f (by (first | (simp [eval_tmp, put_at, h33, hq]; done) | (simp [eval_tmp, put_at, h33, hq]; omega))) (by kernel_rfl) ?_
  refine aw_seq ?_
  refine aw_cut (fun α G => G = [some ⟨[.int .i64 k, .int .i64 (a : Nat), .int .i64 n, .string (strOfNums l)], 29, none⟩] ∧ α 4 = .int .i64 (i : Nat) ∧ α 5 = .int .u8 c ∧ α 1 = .pointer (some ⟨0, 0, none⟩) ∧ α 3 = .string (strOfNums (34 :: escL (l.take i))) ∧ α 48 = .bool (decide (32 ≤ c ∧ c ≤ 126))) ?_ ?_
  · by_cases h : 32 ≤ c
    · (refine aw_ops (by kernel_rfl) (fun K hK => ?_); simp (disch := first | omega | (simp only [List.length_set, List.length_append, List.length_cons, List.length_nil, iv_length, zl_length]; try omega; done)) [-getElem?_pos, -getElem?_neg, h, h5]; refine hK _ _ ?_; clear hK K)
      exact ⟨rfl, by (first | (simp [put_at, put_none, fr0_at, h4]; done) | rfl), by (first | (simp [put_at, put_none, fr0_at, h5]; done) | rfl), by (first | (simp [put_at, put_none, fr0_at, h1]; done) | rfl), by (first | (simp [put_at, put_none, fr0_at, h3s]; done) | rfl), by simp [put_at, h]⟩
    · (refine aw_ops (by kernel_rfl) (fun K hK => ?_); simp (disch := first | omega | (simp only [List.length_set, List.length_append, List.length_cons, List.length_nil, iv_length, zl_length]; try omega; done)) [-getElem?_pos, -getElem?_neg, h, h5]; refine hK _ _ ?_; clear hK K)
      exact ⟨rfl, by (first | (simp [put_at, put_none, fr0_at, h4]; done) | rfl), by (first | (simp [put_at, put_none, fr0_at, h5]; done) | rfl), by (first | (simp [put_at, put_none, fr0_at, h1]; done) | rfl), by (first | (simp [put_at, put_none, fr0_at, h3s]; done) | rfl), by simp [put_at, h]⟩
  clear h4 h1 h3s h5 h33
  rintro α G ⟨rfl, h4, h5, h1, h3s, h48⟩
  by_cases hp : 32 ≤ c ∧ c ≤ 126
  · have he : escB c = [c] := by unfold escB; rw [if_neg hq, if_pos hp]
    rw [he]
    have ha2 : strOfNums (34 :: escL (l.take i)) ++ strOfNums [c] = strOfNums (34 :: (escL (l.take i) ++ [c])) := by
      rw [sn_app]; simp
    refine aw_t (by (first | (simp [eval_tmp, put_at, h48, hp]; done) | (simp [eval_tmp, put_at, h48, hp]; omega))) (by kernel_rfl) ?_
    (refine aw_ops (by kernel_rfl) (fun K hK => ?_); simp (disch := first | omega | (simp only [List.length_set, List.length_append, List.length_cons, List.length_nil, iv_length, zl_length]; try omega; done)) [-getElem?_pos, -getElem?_neg, h3s, h1, h4, hs1, hsz, hex, hsc, ha2]; refine hK _ _ ?_; clear hK K)
    exact ⟨rfl, by (first | (simp [put_at, put_none, fr0_at, h4]; done) | rfl), by (first | (simp [put_at, put_none, fr0_at, h1]; done) | rfl), by (first | (simp [put_at, put_none, fr0_at]; done) | rfl)⟩
  have he : escB c = [92, 120, hexC (c / 16), hexC (c % 16)] := by unfold escB; rw [if_neg hq, if_neg hp]
  rw [he]
  refine aw_f (by (first | (simp [eval_tmp, put_at, h48, hp]; done) | (simp [eval_tmp, put_at, h48, hp]; omega))) (by kernel_rfl) ?_
  obtain ⟨q1, hq1⟩ : ∃ q1 : Nat, c / 16 = (q1 : Int) := ⟨(c / 16).toNat, by omega⟩
  obtain ⟨r1, hr1⟩ : ∃ r1 : Nat, c % 16 = (r1 : Int) := ⟨(c % 16).toNat, by omega⟩
  have hx1 := hexX q1 (by omega)
  have hx2 := hexX r1 (by omega)
  rw [hq1, hr1]
  have hsx : ∀ y : Int, (strOfNums [y]).size = 1 := fun y => sn_size [y]
  have ha1 : strOfNums (34 :: escL (l.take i)) ++ { data := #[92, 120] } = strOfNums (34 :: (escL (l.take i) ++ [92, 120])) := sn_app _ [92, 120]
  have hs3 := sn_size (34 :: (escL (l.take i) ++ [92, 120]))
  rw [List.length_cons, List.length_append] at hs3
  have hs3 : (strOfNums (34 :: (escL (l.take i) ++ [92, 120]))).size = (escL (l.take i)).length + 2 + 1 := hs3
  have ha2 : strOfNums (34 :: (escL (l.take i) ++ [92, 120])) ++ strOfNums [hexC q1] = strOfNums (34 :: (escL (l.take i) ++ [92, 120, hexC q1])) := by
    rw [sn_app]; simp
  have hs4 := sn_size (34 :: (escL (l.take i) ++ [92, 120, hexC q1]))
  rw [List.length_cons, List.length_append] at hs4
  have hs4 : (strOfNums (34 :: (escL (l.take i) ++ [92, 120, hexC q1]))).size = (escL (l.take i)).length + 3 + 1 := hs4
  have ha3 : strOfNums (34 :: (escL (l.take i) ++ [92, 120, hexC q1])) ++ strOfNums [hexC r1] = strOfNums (34 :: (escL (l.take i) ++ [92, 120, hexC q1, hexC r1])) := by
    rw [sn_app]; simp
  have hs2 : (⟨#[92, 120]⟩ : ByteArray).size = 2 := rfl
  have hsh := hexS
  (refine aw_quiet (by kernel_rfl) (by kernel_rfl) (by kernel_rfl) (fun K hK => ?_); simp (disch := first | omega | (simp only [List.length_set, List.length_append, List.length_cons, List.length_nil, iv_length, zl_length]; try omega; done)) [-getElem?_pos, -getElem?_neg, h3s, h5, hs1, hs2, ha1, hq1, hr1, hsh, hx1, hx2, hsx, ha2, ha3, hs3, hs4]; refine hK _ ?_; clear hK K)
  exact ⟨rfl, by (first | (simp [put_at, put_none, fr0_at, h4]; done) | rfl), by (first | (simp [put_at, put_none, fr0_at, h1]; done) | rfl), by (first | (simp [put_at, put_none, fr0_at]; done) | rfl)⟩
end Go.Proofs.Ytcdkpeepboofhaa
