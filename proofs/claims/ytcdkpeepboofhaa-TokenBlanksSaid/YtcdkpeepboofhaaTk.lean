/-
  TokenBlanks, walked.
-/
import Derived.Test.YtcdkpeepboofhaaTj
import Derived.Test.YtcdkpeepboofhaaXsl
namespace Go.Proofs.Ytcdkpeepboofhaa
open Go Go.RowKit
set_option linter.unusedVariables false
set_option linter.unusedSimpArgs false
set_option maxRecDepth 100000
set_option maxHeartbeats 4000000
theorem gap_blank {l : List Int} (h : ∀ c ∈ l, isBl c) : Adds l [] := by
  induction l with
  | nil => exact .nil
  | cons c l ih =>
    have := (Adds.bl (h c (by simp))).app (ih fun x hx => h x (by simp [hx]))
    simpa using this
theorem gap1 : Adds [32] [] := gap_blank (by simp [isBl])
theorem gap2 : Adds [10, 9, 32] [] := gap_blank (by simp [isBl])
theorem gap3 {m : List Int} (h : ∀ b ∈ m, notNl b = true) : Adds (35 :: (m ++ [10])) [] := .remark h
theorem gap4 {m : List Int} (h : ∀ b ∈ m, notNl b = true) : Adds (32 :: 35 :: 32 :: (m ++ [10, 32, 32])) [] := by
  have h1 : Adds [32] [] := gap1
  have h2 : Adds (35 :: ((32 :: m) ++ [10])) [] := .remark (fun b hb => by
    rcases List.mem_cons.1 hb with rfl | hb
    · rfl
    · exact h b hb)
  have h3 : Adds [32, 32] [] := gap_blank (by simp [isBl])
  have := (h1.app h2).app h3
  simpa using this
theorem SlV.cellB {P : Program} {H : AH} {v : Value} {cells : List Value} {t e : TypeId} (h : SlV H v cells) (ht : und P t = .slice e) (hs : szt P e = 1) {i : Nat} {x : Value} (hi : cells[i]? = some x) :
    ∃ j o b, j < H.length ∧ hget H j = some b ∧ b.cells[o]? = some x ∧ xindexAddr P t v (.int .i64 (i : Nat)) = some (.pointer (some ⟨j, o, none⟩)) := by
  rcases h with ⟨a, rfl, rfl⟩ | ⟨j, off, b, rfl, hb, hc⟩
  · simp at hi
  · have hl := (List.getElem?_eq_some_iff.1 hi).1
    refine ⟨j, off + i, b, hget_lt hb, hb, hc i _ hi, ?_⟩
    unfold xindexAddr
    simp only [ht, hs]
    rw [if_pos ⟨by omega, by omega, by omega⟩]
    simp
attribute [local simp] wb_bool wb_undef XL_nil XL_cons XLc_val XLc_call step1_eq stepW_t stepW_f stepC_n stepC_s stepX_s stepX_n stepN_s calleeX oneV xop_eq xopR_s xopR_n wantedA_eq wantedG_n wantedG_s plain1_int plain1_bool plain1_string bits_i64 bits_u64 bits_u32 bits_u16 bits_u8 xeqA xagg xcmp xarr allK_iv num_iv calleeOf xread xeff xbin xint xnil xun xstr xload xconv xpart xfield xfieldAddr xindexAddr xindex bnd asInt? xslice xlen xmin xmax xbuild xfill xappend xapp2 xappstr xappmk xcap xcopy xcells eval_tmp eval_const put_at put_none fr0_at cells_agg cells_int cells_bool cells_string cells_ptr cells_slice notTuple tab iv_all hget_app hget_app0 hget_cons0 hget_cons set_app set_app0 setR setR_one QL_nil QL_cons QLc_val stepQ_t stepQ_f stepQC_n stepQC_s stepQX_s SL_nil SL_cons SLc_val stepS_t stepS_f ltT ltF leT leF eqT eqF ltTn ltFn leTn leFn eqTn eqFn beqT beqF bneT bneF wi64 wu64 wu32 wu16 wu8 tmodP tdivP hgetL hgetNe hgetEq setL nums_def nums_len Nat.succ_le_of_lt List.getElem?_cons_zero List.getElem?_cons_succ Option.getD_some Int.toNat_add Int.toNat_mul agB agI agS agP agL agA okB okI okS okP okSl okA
theorem blanks_law {H : AH} {γ : Nat → Option Nat} (s r : ByteArray) {zs : List Int} {mv : Value} (hs : s.size ≤ maxLen) (hr : r.size ≤ maxLen) (hm : SlV H mv (iv .u8 zs)) (hzb : By zs) (hzl : zs.length ≤ maxLen) :
    AC Try.prog H.length γ 3 #[.string s, mv, .string r] H (fun v' H' => v' = .bool true) := by
  obtain ⟨l, hl⟩ : ∃ l, l = nums s := ⟨_, rfl⟩
  have hb : By l := by rw [hl]; exact nums_bd s
  have hsl : s = strOfNums l := by rw [hl, of_nums']
  obtain ⟨k, hk⟩ : ∃ k, k = nums r := ⟨_, rfl⟩
  have hkb : By k := by rw [hk]; exact nums_bd r
  have hsk : r = strOfNums k := by rw [hk, of_nums']
  have hsz := sn_size l
  have hkz := sn_size k
  rw [hsl] at hs ⊢
  rw [hsk] at hr ⊢
  clear hl hsl hk hsk
  rw [hsz] at hs
  rw [hkz] at hr
  simp only [maxLen] at hs hr hzl
  have hmn : notTuple mv = true := by rcases hm with ⟨a, rfl, _⟩ | ⟨j, o, b, rfl, _⟩ <;> rfl
  have hml := hm.len (P := Try.prog) (t := 22) (e := 5) (by simp)
  rw [iv_length] at hml
  refine ac_of_aw Try.func3 rfl Try.ntmps3 Try.results3 (by simp) ?_
  refine aw_seq ?_
  (refine aw_ops (by kernel_rfl) (fun K hK => ?_); simp (disch := first | omega | (simp only [List.length_set, List.length_append, List.length_cons, List.length_nil, iv_length, zl_length]; try omega; done)) [-getElem?_pos, -getElem?_neg]; refine hK _ _ ?_; clear hK K)
  refine aw_seq ?_
  refine aw_seq ?_
  refine aw_ops (by kernel_rfl) (fun K hK => ?_)
  simp (disch := first | omega | (simp only [List.length_set, List.length_append, List.length_cons, List.length_nil, iv_length, zl_length]; try omega; done)) [-getElem?_pos, -getElem?_neg]
  refine ⟨by kernel_rfl, (alive_ac (Nat.le_refl _)).mono ?_⟩
  rintro v1 G1 ⟨rfl, s1⟩
  try simp (disch := first | omega | (simp only [List.length_set, List.length_append, List.length_cons, List.length_nil, iv_length, zl_length]; try omega; done)) [-getElem?_pos, -getElem?_neg]
  refine hK _ _ ?_; clear hK K
  refine aw_f (by (first | (simp [eval_tmp, put_at]; done) | (simp [eval_tmp, put_at]; omega))) (by kernel_rfl) ?_
  refine aw_skip ?_
  refine aw_seq ?_
  refine aw_seq ?_
  refine aw_cut (fun α G => G = G1 ∧ α 0 = .string (strOfNums l) ∧ α 1 = mv ∧ α 2 = .string (strOfNums k) ∧ α 27 = .bool (decide (1000 < l.length ∨ 30 < k.length))) ?_ ?_
  · by_cases h : 1000 < l.length
    · (refine aw_ops (by kernel_rfl) (fun K hK => ?_); simp (disch := first | omega | (simp only [List.length_set, List.length_append, List.length_cons, List.length_nil, iv_length, zl_length]; try omega; done)) [-getElem?_pos, -getElem?_neg, hsz, hkz, h]; refine hK _ _ ?_; clear hK K)
      exact ⟨rfl, by (first | (simp [put_at, put_none, fr0_at]; done) | rfl), by (first | (simp [put_at, put_none, fr0_at]; done) | rfl), by (first | (simp [put_at, put_none, fr0_at]; done) | rfl), by simp [put_at, h]⟩
    · (refine aw_ops (by kernel_rfl) (fun K hK => ?_); simp (disch := first | omega | (simp only [List.length_set, List.length_append, List.length_cons, List.length_nil, iv_length, zl_length]; try omega; done)) [-getElem?_pos, -getElem?_neg, hsz, hkz, h]; refine hK _ _ ?_; clear hK K)
      exact ⟨rfl, by (first | (simp [put_at, put_none, fr0_at]; done) | rfl), by (first | (simp [put_at, put_none, fr0_at]; done) | rfl), by (first | (simp [put_at, put_none, fr0_at]; done) | rfl), by simp [put_at, h]; omega⟩
  rintro α G ⟨rfl, h0, h1, h2, h27⟩
  by_cases hlong : 1000 < l.length ∨ 30 < k.length
  · refine aw_t (by (first | (simp [eval_tmp, put_at, h27, hlong]; done) | (simp [eval_tmp, put_at, h27, hlong]; omega))) (by kernel_rfl) ?_
    refine aw_seq ?_
    refine aw_ops (by kernel_rfl) (fun K hK => ?_)
    simp (disch := first | omega | (simp only [List.length_set, List.length_append, List.length_cons, List.length_nil, iv_length, zl_length]; try omega; done)) [-getElem?_pos, -getElem?_neg]
    refine ⟨by kernel_rfl, (alive_ac s1.1).mono ?_⟩
    rintro v3 G3 ⟨rfl, s3⟩
    try simp (disch := first | omega | (simp only [List.length_set, List.length_append, List.length_cons, List.length_nil, iv_length, zl_length]; try omega; done)) [-getElem?_pos, -getElem?_neg]
    refine hK _ _ ?_; clear hK K
    (refine aw_ret ?_; simp (disch := first | omega | (simp only [List.length_set, List.length_append, List.length_cons, List.length_nil, iv_length, zl_length]; try omega; done)) [-getElem?_pos, -getElem?_neg, thenQ_ret, scopeQ_ret, inBlockQ_ret, RQ, resL, resV])
  refine aw_f (by (first | (simp [eval_tmp, put_at, h27, hlong]; done) | (simp [eval_tmp, put_at, h27, hlong]; omega))) (by kernel_rfl) ?_
  refine aw_skip ?_
  have htold := cut_told hb (by omega)
  obtain ⟨R, hR⟩ : ∃ R, R = cutR l := ⟨_, rfl⟩
  refine aw_seq ?_
  refine aw_ops (by kernel_rfl) (fun K hK => ?_)
  simp (disch := first | omega | (simp only [List.length_set, List.length_append, List.length_cons, List.length_nil, iv_length, zl_length]; try omega; done)) [-getElem?_pos, -getElem?_neg, h0]
  have hc1 := cut_ac (γ := γ) (nro := H.length) s1.1 hb (by omega)
  rw [← hR] at hc1 htold
  refine ⟨by kernel_rfl, hc1.mono ?_⟩
  rintro v2 G2 ⟨w1, F1, rfl, ho1, hF1, s2⟩
  have hn1 := (own_shape ho1).1
  try simp (disch := first | omega | (simp only [List.length_set, List.length_append, List.length_cons, List.length_nil, iv_length, zl_length]; try omega; done)) [-getElem?_pos, -getElem?_neg, -notTuple, hn1, nt_int, nt_sl]
  refine hK _ _ ?_; clear hK K
  have sG := s1.trans s2
  refine aw_seq ?_
  refine aw_seq ?_
  (refine aw_ops (by kernel_rfl) (fun K hK => ?_); simp (disch := first | omega | (simp only [List.length_set, List.length_append, List.length_cons, List.length_nil, iv_length, zl_length]; try omega; done)) [-getElem?_pos, -getElem?_neg]; refine hK _ _ ?_; clear hK K)
  by_cases he : R.2.2 = 0
  case neg =>
    have hR1 : R.1 = [] := by
      have h3 : ∀ (f a : Nat) (l : List Int) (ts : List (Tk × Nat)), (cutL f a l ts).2.2 ≠ 0 → (cutL f a l ts).1 = [] := by
        intro f
        induction f with
        | zero => intro a l ts h; exact absurd rfl h
        | succ f ih =>
          intro a l ts h
          cases l with
          | nil => exact absurd rfl h
          | cons c r =>
            rw [cutL] at h ⊢
            split
            · rename_i h1; rw [if_pos h1] at h; exact ih _ _ _ h
            rename_i h1
            rw [if_neg h1] at h
            split
            · rename_i h2; rw [if_pos h2] at h; exact ih _ _ _ h
            rename_i h2
            rw [if_neg h2] at h
            split
            · rfl
            · rename_i h3; rw [if_neg h3] at h; exact ih _ _ _ h
      rw [hR] at he ⊢
      unfold cutR at he ⊢
      rw [if_neg (by omega)] at he ⊢
      exact h3 _ _ _ _ he
    rw [hR1] at ho1
    have hlen0 := ho1.len (P := Try.prog) (t := 24) (by simp) (n := 0) rfl (by omega)
    refine aw_t (by (first | (simp [eval_tmp, put_at, he]; done) | (simp [eval_tmp, put_at, he]; omega))) (by kernel_rfl) ?_
    refine aw_seq ?_
    refine aw_ops (by kernel_rfl) (fun K hK => ?_)
    simp (disch := first | omega | (simp only [List.length_set, List.length_append, List.length_cons, List.length_nil, iv_length, zl_length]; try omega; done)) [-getElem?_pos, -getElem?_neg]
    refine ⟨by kernel_rfl, (alive_ac sG.1).mono ?_⟩
    rintro v3 G3 ⟨rfl, s3⟩
    have hlen0 : xlen Try.prog 24 w1 = some (.int .i64 0) := hlen0
    try simp (disch := first | omega | (simp only [List.length_set, List.length_append, List.length_cons, List.length_nil, iv_length, zl_length]; try omega; done)) [-getElem?_pos, -getElem?_neg, -notTuple, hn1, nt_int, nt_sl, nt_bool, -xlen, hlen0]
    refine hK _ _ ?_; clear hK K
    (refine aw_ret ?_; simp (disch := first | omega | (simp only [List.length_set, List.length_append, List.length_cons, List.length_nil, iv_length, zl_length]; try omega; done)) [-getElem?_pos, -getElem?_neg, thenQ_ret, scopeQ_ret, inBlockQ_ret, RQ, resL, resV])
  obtain ⟨us, b0, r0, hRu, hbr, hsk, hpc, hV, hul⟩ := htold he
  rw [hRu] at ho1
  simp only at ho1
  refine aw_f (by (first | (simp [eval_tmp, put_at, he]; done) | (simp [eval_tmp, put_at, he]; omega))) (by kernel_rfl) ?_
  refine aw_skip ?_
  refine aw_seq ?_
  refine aw_seq ?_
  (refine aw_ops (by kernel_rfl) (fun K hK => ?_); simp (disch := first | omega | (simp only [List.length_set, List.length_append, List.length_cons, List.length_nil, iv_length, zl_length]; try omega; done)) [-getElem?_pos, -getElem?_neg]; refine hK _ _ ?_; clear hK K)
  refine aw_cut (fun α G => G = G2 ∧ α 0 = .string (strOfNums l) ∧ α 1 = mv ∧ α 2 = .string (strOfNums k) ∧ α 7 = w1 ∧ ∀ b ∈ k, notNl b = true) ?_ ?_
  · refine aw_block ?_
    refine aw_loop (fun c α G => G = G2 ∧ ∃ i : Nat, i + c = k.length ∧ α 10 = .int .i64 (i : Nat) ∧ α 0 = .string (strOfNums l) ∧ α 1 = mv ∧ α 2 = .string (strOfNums k) ∧ α 7 = w1 ∧ ∀ b ∈ k.take i, notNl b = true) k.length ?_ ?_
    · exact ⟨rfl, 0, by omega, by (first | (simp [put_at, put_none, fr0_at]; done) | rfl), by (first | (simp [put_at, put_none, fr0_at, h0]; done) | rfl), by (first | (simp [put_at, put_none, fr0_at, h1]; done) | rfl), by (first | (simp [put_at, put_none, fr0_at, h2]; done) | rfl), by (first | (simp [put_at, put_none, fr0_at]; done) | rfl), by simp⟩
    clear h0 h1 h2 h27
    rintro c α G ⟨rfl, i, hic, h10, h0, h1, h2, h7, hnl⟩
    refine aw_seq ?_
    refine aw_seq ?_
    (refine aw_ops (by kernel_rfl) (fun K hK => ?_); simp (disch := first | omega | (simp only [List.length_set, List.length_append, List.length_cons, List.length_nil, iv_length, zl_length]; try omega; done)) [-getElem?_pos, -getElem?_neg, h10, h2, hkz]; refine hK _ _ ?_; clear hK K)
    by_cases hi : i < k.length
    case neg =>
      refine aw_f (by (first | (simp [eval_tmp, put_at, hi]; done) | (simp [eval_tmp, put_at, hi]; omega))) (by kernel_rfl) ?_
      refine aw_exit ?_
      rw [List.take_of_length_le (by omega)] at hnl
      exact ⟨rfl, by (first | (simp [put_at, put_none, fr0_at, h0]; done) | rfl), by (first | (simp [put_at, put_none, fr0_at, h1]; done) | rfl), by (first | (simp [put_at, put_none, fr0_at, h2]; done) | rfl), by (first | (simp [put_at, put_none, fr0_at, h7]; done) | rfl), hnl⟩
    refine aw_t (by (first | (simp [eval_tmp, put_at, hi]; done) | (simp [eval_tmp, put_at, hi]; omega))) (by kernel_rfl) ?_
    refine aw_skip ?_
    refine aw_seq ?_
    refine aw_block ?_
    obtain ⟨x, hx⟩ : ∃ x, k[i]? = some x := ⟨_, List.getElem?_eq_getElem hi⟩
    have hgb := gb_get hkb hx
    refine aw_seq ?_
    (refine aw_ops (by kernel_rfl) (fun K hK => ?_); simp (disch := first | omega | (simp only [List.length_set, List.length_append, List.length_cons, List.length_nil, iv_length, zl_length]; try omega; done)) [-getElem?_pos, -getElem?_neg, h10, h2, hkz, hgb]; refine hK _ _ ?_; clear hK K)
    by_cases hx10 : x = 10
    · refine aw_t (by (first | (simp [eval_tmp, put_at, hx10]; done) | (simp [eval_tmp, put_at, hx10]; omega))) (by kernel_rfl) ?_
      refine aw_seq ?_
      refine aw_ops (by kernel_rfl) (fun K hK => ?_)
      simp (disch := first | omega | (simp only [List.length_set, List.length_append, List.length_cons, List.length_nil, iv_length, zl_length]; try omega; done)) [-getElem?_pos, -getElem?_neg]
      refine ⟨by kernel_rfl, (alive_ac sG.1).mono ?_⟩
      rintro v3 G3 ⟨rfl, s3⟩
      try simp (disch := first | omega | (simp only [List.length_set, List.length_append, List.length_cons, List.length_nil, iv_length, zl_length]; try omega; done)) [-getElem?_pos, -getElem?_neg]
      refine hK _ _ ?_; clear hK K
      (refine aw_ret ?_; simp (disch := first | omega | (simp only [List.length_set, List.length_append, List.length_cons, List.length_nil, iv_length, zl_length]; try omega; done)) [-getElem?_pos, -getElem?_neg, thenQ_ret, scopeQ_ret, inBlockQ_ret, RQ, resL, resV])
    · refine aw_f (by (first | (simp [eval_tmp, put_at, hx10]; done) | (simp [eval_tmp, put_at, hx10]; omega))) (by kernel_rfl) ?_
      refine aw_skip ?_
      (refine aw_ops (by kernel_rfl) (fun K hK => ?_); simp (disch := first | omega | (simp only [List.length_set, List.length_append, List.length_cons, List.length_nil, iv_length, zl_length]; try omega; done)) [-getElem?_pos, -getElem?_neg, h10]; refine hK _ _ ?_; clear hK K)
      refine ⟨c - 1, by omega, rfl, i + 1, by omega, by (first | (simp [put_at, put_none, fr0_at]; done) | rfl), by (first | (simp [put_at, put_none, fr0_at, h0]; done) | rfl), by (first | (simp [put_at, put_none, fr0_at, h1]; done) | rfl), by (first | (simp [put_at, put_none, fr0_at, h2]; done) | rfl), by (first | (simp [put_at, put_none, fr0_at, h7]; done) | rfl), fun b hb => ?_⟩
      rw [List.take_add_one, hx] at hb
      rcases List.mem_append.1 hb with hb | hb
      · exact hnl b hb
      · obtain rfl : b = x := by simpa using hb
        simpa [notNl] using hx10
  clear h0 h1 h2 h27
  rintro α G ⟨rfl, h0, h1, h2, h7, hnl⟩
  refine aw_seq ?_
  (refine aw_ops (by kernel_rfl) (fun K hK => ?_); simp (disch := first | omega | (simp only [List.length_set, List.length_append, List.length_cons, List.length_nil, iv_length, zl_length]; try omega; done)) [-getElem?_pos, -getElem?_neg]; refine hK _ _ ?_; clear hK K)
  refine aw_seq ?_
  refine aw_seq ?_
  (refine aw_ops (by kernel_rfl) (fun K hK => ?_); simp (disch := first | omega | (simp only [List.length_set, List.length_append, List.length_cons, List.length_nil, iv_length, zl_length]; try omega; done)) [-getElem?_pos, -getElem?_neg]; refine hK _ _ ?_; clear hK K)
  have hlen := ho1.len (P := Try.prog) (t := 24) (by simp) (n := us.length) (toksC_len us) (by omega)
  refine aw_block ?_
  refine aw_loop (fun c α G' => Same0 G G' ∧ ∃ (i : Nat) (q : List Int), i + c = us.length ∧ α 12 = .int .i64 (i : Nat) ∧ α 0 = .string (strOfNums l) ∧ α 1 = mv ∧ α 2 = .string (strOfNums k) ∧ α 7 = w1 ∧ α 11 = .string (strOfNums q) ∧ By q ∧ q.length ≤ 3900 ∧ Adds q ((us.take i).map (·.1))) us.length ?_ ?_
  · exact ⟨.refl _, 0, [], by omega, by (first | (simp [put_at, put_none, fr0_at]; done) | rfl), by (first | (simp [put_at, put_none, fr0_at, h0]; done) | rfl), by (first | (simp [put_at, put_none, fr0_at, h1]; done) | rfl), by (first | (simp [put_at, put_none, fr0_at, h2]; done) | rfl), by (first | (simp [put_at, put_none, fr0_at, h7]; done) | rfl), by (first | (simp [put_at, put_none, fr0_at]; done) | rfl), .nil, by simp, .nil⟩
  clear h0 h1 h2 h7
  rintro c α G' ⟨sK, i, q, hic, h12, h0, h1, h2, h7, h11, hqb, hql, hadd⟩
  have ho1' := ho1.low (H' := G') (fun j hj => sK.2 j (ho1.lt j hj))
  have sGK := sG.trans sK
  refine aw_seq ?_
  refine aw_seq ?_
  (refine aw_ops (by kernel_rfl) (fun K hK => ?_); simp (disch := first | omega | (simp only [List.length_set, List.length_append, List.length_cons, List.length_nil, iv_length, zl_length]; try omega; done)) [-getElem?_pos, -getElem?_neg, h12, h7, -notTuple, hn1, nt_int, nt_sl, -xlen, hlen]; refine hK _ _ ?_; clear hK K)
  by_cases hi : i < us.length
  case neg =>
    refine aw_f (by (first | (simp [eval_tmp, put_at, hi]; done) | (simp [eval_tmp, put_at, hi]; omega))) (by kernel_rfl) ?_
    refine aw_exit ?_
    obtain rfl : i = us.length := by omega
    rw [List.take_length] at hadd
    have hc2 := cut_ac (γ := γ) (nro := H.length) (H := G') sGK.1 hqb (by omega)
    obtain ⟨vs, hR2, hvs⟩ := cut_back hadd (by omega)
    rw [hR2] at hc2
    refine aw_seq ?_
    refine aw_ops (by kernel_rfl) (fun K hK => ?_)
    simp (disch := first | omega | (simp only [List.length_set, List.length_append, List.length_cons, List.length_nil, iv_length, zl_length]; try omega; done)) [-getElem?_pos, -getElem?_neg, h11]
    refine ⟨by kernel_rfl, hc2.mono ?_⟩
    rintro v3 G3 ⟨w2, F2, rfl, ho2, hF2, s3⟩
    have hn2 := (own_shape ho2).1
    simp only at ho2 ⊢
    try simp (disch := first | omega | (simp only [List.length_set, List.length_append, List.length_cons, List.length_nil, iv_length, zl_length]; try omega; done)) [-getElem?_pos, -getElem?_neg, -notTuple, hn2, nt_int, nt_sl]
    refine hK _ _ ?_; clear hK K
    have sG3 := sGK.trans s3
    have ho1 := ho1'.low (H' := G3) (fun j hj => s3.2 j (ho1'.lt j hj))
    refine aw_seq ?_
    refine aw_ops (by kernel_rfl) (fun K hK => ?_)
    simp (disch := first | omega | (simp only [List.length_set, List.length_append, List.length_cons, List.length_nil, iv_length, zl_length]; try omega; done)) [-getElem?_pos, -getElem?_neg]
    refine ⟨by kernel_rfl, (alive_ac sG3.1).mono ?_⟩
    rintro v4 G4 ⟨rfl, s4⟩
    have ho1 := ho1.low (H' := G4) (fun j hj => s4.2 j (ho1.lt j hj))
    have ho2 := ho2.low (H' := G4) (fun j hj => s4.2 j (ho2.lt j hj))
    try simp (disch := first | omega | (simp only [List.length_set, List.length_append, List.length_cons, List.length_nil, iv_length, zl_length]; try omega; done)) [-getElem?_pos, -getElem?_neg, h7, -notTuple, hn1, hn2, nt_int, nt_sl, nt_bool]
    refine ⟨by kernel_rfl, (same_ac ho1 ho2 hvs.symm (by omega)).mono ?_⟩
    rintro v5 G5 ⟨rfl, rfl⟩
    try simp (disch := first | omega | (simp only [List.length_set, List.length_append, List.length_cons, List.length_nil, iv_length, zl_length]; try omega; done)) [-getElem?_pos, -getElem?_neg]
    refine hK _ _ ?_; clear hK K
    (refine aw_ret ?_; simp (disch := first | omega | (simp only [List.length_set, List.length_append, List.length_cons, List.length_nil, iv_length, zl_length]; try omega; done)) [-getElem?_pos, -getElem?_neg, thenQ_ret, scopeQ_ret, inBlockQ_ret, RQ, resL, resV])
  refine aw_t (by (first | (simp [eval_tmp, put_at, hi]; done) | (simp [eval_tmp, put_at, hi]; omega))) (by kernel_rfl) ?_
  refine aw_skip ?_
  refine aw_seq ?_
  refine aw_block ?_
  obtain ⟨t, p, hti⟩ : ∃ t p, us[i]? = some (t, p) := ⟨us[i].1, us[i].2, by rw [List.getElem?_eq_getElem hi]⟩
  obtain ⟨w, b, hTw, hoN, hSk, hp0, hpe, htake, hnext, hlast⟩ := pcs_at hpc hti
  obtain ⟨L, hL⟩ : ∃ L, L = (w ++ b).length := ⟨_, rfl⟩
  rw [← hL] at hpe htake hnext hlast
  have hll : l.length = b0.length + r0.length := by rw [hbr, List.length_append]
  have hex : (strOfNums l).extract p (p + L) = strOfNums (w ++ b) := by
    rw [ex_range, List.drop_take, hbr, show p = b0.length + (p - b0.length) by omega, ← List.drop_drop, List.drop_left, ← htake]
    congr 2
    omega
  refine aw_seq ?_
  (refine aw_ops (by kernel_rfl) (fun K hK => ?_); simp (disch := first | omega | (simp only [List.length_set, List.length_append, List.length_cons, List.length_nil, iv_length, zl_length]; try omega; done)) [-getElem?_pos, -getElem?_neg, h0, hsz]; refine hK _ _ ?_; clear hK K)
  refine aw_seq ?_
  refine aw_cut (fun α G2 => G2 = G' ∧ α 12 = .int .i64 (i : Nat) ∧ α 0 = .string (strOfNums l) ∧ α 1 = mv ∧ α 2 = .string (strOfNums k) ∧ α 7 = w1 ∧ α 11 = .string (strOfNums q) ∧ α 13 = .int .i64 ((p + L : Nat) : Int)) ?_ ?_
  · refine aw_seq ?_
    (refine aw_ops (by kernel_rfl) (fun K hK => ?_); simp (disch := first | omega | (simp only [List.length_set, List.length_append, List.length_cons, List.length_nil, iv_length, zl_length]; try omega; done)) [-getElem?_pos, -getElem?_neg, h12, h7, -notTuple, hn1, nt_int, nt_sl, -xlen, hlen]; refine hK _ _ ?_; clear hK K)
    by_cases hi1 : i + 1 < us.length
    · obtain ⟨t2, p2, hti2⟩ : ∃ t p, us[i + 1]? = some (t, p) := ⟨us[i + 1].1, us[i + 1].2, by rw [List.getElem?_eq_getElem hi1]⟩
      obtain ⟨j, o, _, hpa, _, hla, _, _, _⟩ := own_tok ho1' hti2
      have hq2 := hnext _ _ hti2
      have hpa : xindexAddr Try.prog 24 w1 (.int .i64 ((i : Int) + 1)) = _ := hpa
      refine aw_t (by (first | (simp [eval_tmp, put_at, hi1]; done) | (simp [eval_tmp, put_at, hi1]; omega))) (by kernel_rfl) ?_
      (refine aw_ops (by kernel_rfl) (fun K hK => ?_); simp (disch := first | omega | (simp only [List.length_set, List.length_append, List.length_cons, List.length_nil, iv_length, zl_length]; try omega; done)) [-getElem?_pos, -getElem?_neg, h7, h12, -notTuple, hn1, nt_int, nt_sl, nt_ptr, -xindexAddr, hpa, -xload, hla]; refine hK _ _ ?_; clear hK K)
      exact ⟨rfl, by (first | (simp [put_at, put_none, fr0_at, h12]; done) | rfl), by (first | (simp [put_at, put_none, fr0_at, h0]; done) | rfl), by (first | (simp [put_at, put_none, fr0_at, h1]; done) | rfl), by (first | (simp [put_at, put_none, fr0_at, h2]; done) | rfl), by (first | (simp [put_at, put_none, fr0_at, h7]; done) | rfl), by (first | (simp [put_at, put_none, fr0_at, h11]; done) | rfl), by simp [put_at, hq2]⟩
    · have hn := hlast (by rw [List.getElem?_eq_none (by omega)])
      refine aw_f (by (first | (simp [eval_tmp, put_at, hi1]; done) | (simp [eval_tmp, put_at, hi1]; omega))) (by kernel_rfl) ?_
      refine aw_skip ?_
      exact ⟨rfl, by (first | (simp [put_at, put_none, fr0_at, h12]; done) | rfl), by (first | (simp [put_at, put_none, fr0_at, h0]; done) | rfl), by (first | (simp [put_at, put_none, fr0_at, h1]; done) | rfl), by (first | (simp [put_at, put_none, fr0_at, h2]; done) | rfl), by (first | (simp [put_at, put_none, fr0_at, h7]; done) | rfl), by (first | (simp [put_at, put_none, fr0_at, h11]; done) | rfl), by simp [put_at]; omega⟩
  clear h12 h0 h1 h2 h7 h11
  rintro α G2 ⟨rfl, h12, h0, h1, h2, h7, h11, h13⟩
  refine aw_seq ?_
  (refine aw_ops (by kernel_rfl) (fun K hK => ?_); simp (disch := first | omega | (simp only [List.length_set, List.length_append, List.length_cons, List.length_nil, iv_length, zl_length]; try omega; done)) [-getElem?_pos, -getElem?_neg]; refine hK _ _ ?_; clear hK K)
  refine aw_seq ?_
  refine aw_cut (fun α G3 => Same0 G2 G3 ∧ α 12 = .int .i64 (i : Nat) ∧ α 0 = .string (strOfNums l) ∧ α 1 = mv ∧ α 2 = .string (strOfNums k) ∧ α 7 = w1 ∧ α 11 = .string (strOfNums q) ∧ α 13 = .int .i64 ((p + L : Nat) : Int) ∧ ∃ g, α 14 = .string (strOfNums g) ∧ Adds g [] ∧ By g ∧ g.length ≤ 40) ?_ ?_
  · refine aw_seq ?_
    (refine aw_ops (by kernel_rfl) (fun K hK => ?_); simp (disch := first | omega | (simp only [List.length_set, List.length_append, List.length_cons, List.length_nil, iv_length, zl_length]; try omega; done)) [-getElem?_pos, -getElem?_neg, h12, h1, -notTuple, hmn, nt_int, nt_sl, -xlen, hml]; refine hK _ _ ?_; clear hK K)
    by_cases hi1 : i < zs.length
    case neg =>
      refine aw_f (by (first | (simp [eval_tmp, put_at, hi1]; done) | (simp [eval_tmp, put_at, hi1]; omega))) (by kernel_rfl) ?_
      refine aw_skip ?_
      exact ⟨.refl _, by (first | (simp [put_at, put_none, fr0_at, h12]; done) | rfl), by (first | (simp [put_at, put_none, fr0_at, h0]; done) | rfl), by (first | (simp [put_at, put_none, fr0_at, h1]; done) | rfl), by (first | (simp [put_at, put_none, fr0_at, h2]; done) | rfl), by (first | (simp [put_at, put_none, fr0_at, h7]; done) | rfl), by (first | (simp [put_at, put_none, fr0_at, h11]; done) | rfl), by (first | (simp [put_at, put_none, fr0_at, h13]; done) | rfl), [32], by (first | (simp [put_at, put_none, fr0_at]; done) | rfl), gap1, .cons (by omega) .nil, by simp⟩
    refine aw_t (by (first | (simp [eval_tmp, put_at, hi1]; done) | (simp [eval_tmp, put_at, hi1]; omega))) (by kernel_rfl) ?_
    obtain ⟨z, hz⟩ : ∃ z, zs[i]? = some z := ⟨_, List.getElem?_eq_getElem hi1⟩
    have hzb1 := hzb z (List.mem_of_getElem? hz)
    obtain ⟨j, o, B, hj, hB, hBo, hpx⟩ := hm.cellB (P := Try.prog) (t := 22) (e := 5) (by simp) (by simp) (i := i) (x := .int .u8 z) (by simp [iv, hz])
    have hB2 : hget G2 j = some B := (sGK.2 j hj).trans hB
    have hjl := hget_lt hB2
    have ha1 : { data := #[35] } ++ strOfNums k = strOfNums (35 :: k) := sn_app [35] k
    have ha2 : strOfNums (35 :: k) ++ { data := #[10] } = strOfNums (35 :: (k ++ [10])) := sn_app (35 :: k) [10]
    have ha3 : { data := #[32, 35, 32] } ++ strOfNums k = strOfNums (32 :: 35 :: 32 :: k) := sn_app [32, 35, 32] k
    have ha4 : strOfNums (32 :: 35 :: 32 :: k) ++ { data := #[10, 32, 32] } = strOfNums (32 :: 35 :: 32 :: (k ++ [10, 32, 32])) := sn_app (32 :: 35 :: 32 :: k) [10, 32, 32]
    have hs1 : (⟨#[35]⟩ : ByteArray).size = 1 := rfl
    have hs2 : (⟨#[10]⟩ : ByteArray).size = 1 := rfl
    have hs3 : (⟨#[32, 35, 32]⟩ : ByteArray).size = 3 := rfl
    have hs4 : (⟨#[10, 32, 32]⟩ : ByteArray).size = 3 := rfl
    have hs5 : (strOfNums (35 :: k)).size = k.length + 1 := sn_size _
    have hs6 : (strOfNums (32 :: 35 :: 32 :: k)).size = k.length + 3 := sn_size _
    have hk30 : k.length ≤ 30 := by omega
    have h4 : z % 4 = 0 ∨ z % 4 = 1 ∨ z % 4 = 2 ∨ z % 4 = 3 := by omega
    rcases h4 with h4 | h4 | h4 | h4
    · have hpg : xindexAddr Try.prog 30 (.slice (some ⟨G2.length, 0, none⟩) 4 4) (.int .u8 0) = some (.pointer (some ⟨G2.length, 0, none⟩)) := by simp [xindexAddr]
      (refine aw_ops (by kernel_rfl) (fun K hK => ?_); simp (disch := first | omega | (simp only [List.length_set, List.length_append, List.length_cons, List.length_nil, iv_length, zl_length]; try omega; done)) [-getElem?_pos, -getElem?_neg, h2, h1, h12, hkz, hs1, ha1, hs5, hs2, ha2, hs3, ha3, hs6, hs4, ha4, -notTuple, hmn, nt_int, nt_sl, nt_str, nt_ptr, -xindexAddr, hpx, hpg, hB2, hBo, h4]; refine hK _ _ ?_; clear hK K)
      exact ⟨.app _ _, by (first | (simp [put_at, put_none, fr0_at, h12]; done) | rfl), by (first | (simp [put_at, put_none, fr0_at, h0]; done) | rfl), by (first | (simp [put_at, put_none, fr0_at, h1]; done) | rfl), by (first | (simp [put_at, put_none, fr0_at, h2]; done) | rfl), by (first | (simp [put_at, put_none, fr0_at, h7]; done) | rfl), by (first | (simp [put_at, put_none, fr0_at, h11]; done) | rfl), by (first | (simp [put_at, put_none, fr0_at, h13]; done) | rfl), [32], by (first | (simp [put_at, put_none, fr0_at]; done) | rfl), gap1, .cons (by omega) .nil, by simp; try omega⟩
    · have hpg : xindexAddr Try.prog 30 (.slice (some ⟨G2.length, 0, none⟩) 4 4) (.int .u8 1) = some (.pointer (some ⟨G2.length, 1, none⟩)) := by simp [xindexAddr]
      (refine aw_ops (by kernel_rfl) (fun K hK => ?_); simp (disch := first | omega | (simp only [List.length_set, List.length_append, List.length_cons, List.length_nil, iv_length, zl_length]; try omega; done)) [-getElem?_pos, -getElem?_neg, h2, h1, h12, hkz, hs1, ha1, hs5, hs2, ha2, hs3, ha3, hs6, hs4, ha4, -notTuple, hmn, nt_int, nt_sl, nt_str, nt_ptr, -xindexAddr, hpx, hpg, hB2, hBo, h4]; refine hK _ _ ?_; clear hK K)
      exact ⟨.app _ _, by (first | (simp [put_at, put_none, fr0_at, h12]; done) | rfl), by (first | (simp [put_at, put_none, fr0_at, h0]; done) | rfl), by (first | (simp [put_at, put_none, fr0_at, h1]; done) | rfl), by (first | (simp [put_at, put_none, fr0_at, h2]; done) | rfl), by (first | (simp [put_at, put_none, fr0_at, h7]; done) | rfl), by (first | (simp [put_at, put_none, fr0_at, h11]; done) | rfl), by (first | (simp [put_at, put_none, fr0_at, h13]; done) | rfl), [10, 9, 32], by (first | (simp [put_at, put_none, fr0_at]; done) | rfl), gap2, .cons (by omega) (.cons (by omega) (.cons (by omega) .nil)), by simp; try omega⟩
    · have hpg : xindexAddr Try.prog 30 (.slice (some ⟨G2.length, 0, none⟩) 4 4) (.int .u8 2) = some (.pointer (some ⟨G2.length, 2, none⟩)) := by simp [xindexAddr]
      (refine aw_ops (by kernel_rfl) (fun K hK => ?_); simp (disch := first | omega | (simp only [List.length_set, List.length_append, List.length_cons, List.length_nil, iv_length, zl_length]; try omega; done)) [-getElem?_pos, -getElem?_neg, h2, h1, h12, hkz, hs1, ha1, hs5, hs2, ha2, hs3, ha3, hs6, hs4, ha4, -notTuple, hmn, nt_int, nt_sl, nt_str, nt_ptr, -xindexAddr, hpx, hpg, hB2, hBo, h4]; refine hK _ _ ?_; clear hK K)
      exact ⟨.app _ _, by (first | (simp [put_at, put_none, fr0_at, h12]; done) | rfl), by (first | (simp [put_at, put_none, fr0_at, h0]; done) | rfl), by (first | (simp [put_at, put_none, fr0_at, h1]; done) | rfl), by (first | (simp [put_at, put_none, fr0_at, h2]; done) | rfl), by (first | (simp [put_at, put_none, fr0_at, h7]; done) | rfl), by (first | (simp [put_at, put_none, fr0_at, h11]; done) | rfl), by (first | (simp [put_at, put_none, fr0_at, h13]; done) | rfl), 35 :: (k ++ [10]), by (first | (simp [put_at, put_none, fr0_at]; done) | rfl), gap3 hnl, .cons (by omega) (hkb.app (.cons (by omega) .nil)), by simp; try omega⟩
    · have hpg : xindexAddr Try.prog 30 (.slice (some ⟨G2.length, 0, none⟩) 4 4) (.int .u8 3) = some (.pointer (some ⟨G2.length, 3, none⟩)) := by simp [xindexAddr]
      (refine aw_ops (by kernel_rfl) (fun K hK => ?_); simp (disch := first | omega | (simp only [List.length_set, List.length_append, List.length_cons, List.length_nil, iv_length, zl_length]; try omega; done)) [-getElem?_pos, -getElem?_neg, h2, h1, h12, hkz, hs1, ha1, hs5, hs2, ha2, hs3, ha3, hs6, hs4, ha4, -notTuple, hmn, nt_int, nt_sl, nt_str, nt_ptr, -xindexAddr, hpx, hpg, hB2, hBo, h4]; refine hK _ _ ?_; clear hK K)
      exact ⟨.app _ _, by (first | (simp [put_at, put_none, fr0_at, h12]; done) | rfl), by (first | (simp [put_at, put_none, fr0_at, h0]; done) | rfl), by (first | (simp [put_at, put_none, fr0_at, h1]; done) | rfl), by (first | (simp [put_at, put_none, fr0_at, h2]; done) | rfl), by (first | (simp [put_at, put_none, fr0_at, h7]; done) | rfl), by (first | (simp [put_at, put_none, fr0_at, h11]; done) | rfl), by (first | (simp [put_at, put_none, fr0_at, h13]; done) | rfl), 32 :: 35 :: 32 :: (k ++ [10, 32, 32]), by (first | (simp [put_at, put_none, fr0_at]; done) | rfl), gap4 hnl, .cons (by omega) (.cons (by omega) (.cons (by omega) (hkb.app (.cons (by omega) (.cons (by omega) (.cons (by omega) .nil)))))), by simp; try omega⟩
  clear h12 h0 h1 h2 h7 h11 h13
  rintro α G3 ⟨sK3, h12, h0, h1, h2, h7, h11, h13, g, h14, hag, hgb, hgl⟩
  have ho3 := ho1'.low (H' := G3) (fun j hj => sK3.2 j (ho1'.lt j hj))
  obtain ⟨j, o, _, hpa, _, hla, _, _, _⟩ := own_tok ho3 hti
  have hsq := sn_size q
  have hsg := sn_size g
  have ha1 := sn_app q g
  have hs1 := sn_size (q ++ g)
  rw [List.length_append] at hs1
  have hs2 : (strOfNums (w ++ b)).size = L := by rw [sn_size, hL]
  have ha2 : strOfNums (q ++ g) ++ strOfNums (w ++ b) = strOfNums (q ++ (g ++ (w ++ b))) := by rw [sn_app]; simp
  have hs3 : (strOfNums (q ++ (g ++ (w ++ b)))).size = q.length + g.length + L := by rw [sn_size, List.length_append, List.length_append, ← hL]; omega
  have e10 : ({ data := #[10] } : ByteArray) = strOfNums [10] := rfl
  have ha3 : strOfNums (q ++ (g ++ (w ++ b))) ++ { data := #[10] } = strOfNums (q ++ (g ++ ((w ++ b) ++ [10]))) := by
    rw [e10, sn_app]
    simp
  have hs4 : (⟨#[10]⟩ : ByteArray).size = 1 := rfl
  have hL4 : L ≤ 1000 := by omega
  refine aw_seq ?_
  (refine aw_ops (by kernel_rfl) (fun K hK => ?_); simp (disch := first | omega | (simp only [List.length_set, List.length_append, List.length_cons, List.length_nil, iv_length, zl_length]; try omega; done)) [-getElem?_pos, -getElem?_neg, h11, h14, h0, h7, h12, h13, hsq, hsg, ha1, hs1, hsz, hex, hs2, ha2, hs3, ha3, hs4, -notTuple, hn1, nt_int, nt_sl, nt_str, nt_ptr, -xindexAddr, hpa, -xload, hla]; refine hK _ _ ?_; clear hK K)
  have hqt : (strOfNums (q ++ (g ++ ((w ++ b) ++ [10])))).size = q.length + g.length + L + 1 := by
    rw [sn_size, List.length_append, List.length_append, List.length_append, ← hL]; simp; omega
  have hqt2 : (strOfNums (q ++ (g ++ (w ++ (b ++ [10]))))).size = q.length + g.length + L + 1 := by
    rw [← List.append_assoc w]; exact hqt
  obtain ⟨Q, hQ⟩ : ∃ Q, Q = q ++ (g ++ ((w ++ b) ++ [10])) := ⟨_, rfl⟩
  have hQ2 : q ++ (g ++ (w ++ (b ++ [10]))) = Q := by rw [hQ, List.append_assoc w]
  have hQl : Q.length = q.length + g.length + L + 1 := by
    rw [hQ, List.length_append, List.length_append, List.length_append, ← hL]; simp; omega
  have hQs := sn_size Q
  rw [hQ2]
  have hlb : By l := hb
  have hwb : By (w ++ b) := by
    have : w ++ b = (l.drop p).take L := by rw [hbr, show p = b0.length + (p - b0.length) by omega, ← List.drop_drop, List.drop_left, htake]
    rw [this]
    exact (hlb.drop p).take L
  have hQb : By Q := by rw [hQ]; exact hqb.app (hgb.app (hwb.app (.cons (by omega) .nil)))
  have hQa : Adds Q ((us.take (i + 1)).map (·.1)) := by
    have htk : (us.take (i + 1)).map (·.1) = (us.take i).map (·.1) ++ ([] ++ [t]) := by rw [List.take_add_one, hti, List.map_append]; rfl
    rw [htk, hQ]
    exact hadd.app (hag.app (.piece hTw hSk hoN))
  refine aw_seq ?_
  (refine aw_ops (by kernel_rfl) (fun K hK => ?_); simp (disch := first | omega | (simp only [List.length_set, List.length_append, List.length_cons, List.length_nil, iv_length, zl_length]; try omega; done)) [-getElem?_pos, -getElem?_neg, hQs]; refine hK _ _ ?_; clear hK K)
  have s5 := sGK.trans sK3
  by_cases hbig : 3900 < Q.length
  · refine aw_t (by (first | (simp [eval_tmp, put_at, hbig]; done) | (simp [eval_tmp, put_at, hbig]; omega))) (by kernel_rfl) ?_
    refine aw_seq ?_
    refine aw_ops (by kernel_rfl) (fun K hK => ?_)
    simp (disch := first | omega | (simp only [List.length_set, List.length_append, List.length_cons, List.length_nil, iv_length, zl_length]; try omega; done)) [-getElem?_pos, -getElem?_neg]
    refine ⟨by kernel_rfl, (alive_ac s5.1).mono ?_⟩
    rintro v3 G3 ⟨rfl, s3⟩
    try simp (disch := first | omega | (simp only [List.length_set, List.length_append, List.length_cons, List.length_nil, iv_length, zl_length]; try omega; done)) [-getElem?_pos, -getElem?_neg]
    refine hK _ _ ?_; clear hK K
    (refine aw_ret ?_; simp (disch := first | omega | (simp only [List.length_set, List.length_append, List.length_cons, List.length_nil, iv_length, zl_length]; try omega; done)) [-getElem?_pos, -getElem?_neg, thenQ_ret, scopeQ_ret, inBlockQ_ret, RQ, resL, resV])
  · refine aw_f (by (first | (simp [eval_tmp, put_at, hbig]; done) | (simp [eval_tmp, put_at, hbig]; omega))) (by kernel_rfl) ?_
    refine aw_skip ?_
    (refine aw_ops (by kernel_rfl) (fun K hK => ?_); simp (disch := first | omega | (simp only [List.length_set, List.length_append, List.length_cons, List.length_nil, iv_length, zl_length]; try omega; done)) [-getElem?_pos, -getElem?_neg, h12]; refine hK _ _ ?_; clear hK K)
    exact ⟨c - 1, by omega, sK.trans sK3, i + 1, Q, by omega, by (first | (simp [put_at, put_none, fr0_at]; done) | rfl), by (first | (simp [put_at, put_none, fr0_at, h0]; done) | rfl), by (first | (simp [put_at, put_none, fr0_at, h1]; done) | rfl), by (first | (simp [put_at, put_none, fr0_at, h2]; done) | rfl), by (first | (simp [put_at, put_none, fr0_at, h7]; done) | rfl), by (first | (simp [put_at, put_none, fr0_at]; done) | rfl), hQb, by omega, hQa⟩
end Go.Proofs.Ytcdkpeepboofhaa
