/-
  The law's own: Same, do, alive.
-/
import Derived.Test.YteldoimjachbbaaRf
import Derived.Test.YteldoimjachbbaaXrw
namespace Go.Proofs.Yteldoimjachbbaa
open Go Go.RowKit
set_option linter.unusedVariables false
set_option linter.unusedSimpArgs false
set_option maxRecDepth 100000
set_option maxHeartbeats 4000000

def doL (L : Nat → List ByteArray) (kd to i k : Int) (s : ByteArray) : Nat → List ByteArray :=
  if kd = 0 then postL L to s else if kd = 1 then tkL L to i else if kd = 2 then tkL L to i else if kd = 3 then dbL L to i else if kd = 4 then mvL L to i k else L
def doS (L : Nat → List ByteArray) (kd to i : Int) : ByteArray := if kd = 1 then tkS L to i else ByteArray.empty
def doE (L : Nat → List ByteArray) (kd to i k : Int) : Int :=
  if kd = 0 then postE to else if kd = 1 then tkE L to i else if kd = 2 then tkE L to i else if kd = 3 then tkE L to i else if kd = 4 then mvE L to i k else 0
theorem doL_b {L : Nat → List ByteArray} {kd to i k : Int} {s : ByteArray} (h : LB L) : LB (doL L kd to i k s) := by
  unfold doL
  split
  · exact postL_b h
  split
  · exact tkL_b h
  split
  · exact tkL_b h
  split
  · exact dbL_b h
  split
  · exact mvL_b h
  · exact h
def nilE (kd : Int) : Int := if kd = 0 then 1 else if kd = 1 ∨ kd = 2 ∨ kd = 3 ∨ kd = 4 then 22 else 0
theorem empty_is : (⟨#[]⟩ : ByteArray) = ByteArray.empty := rfl
attribute [local simp] wb_bool wb_undef XL_nil XL_cons XLc_val XLc_call step1_eq stepW_t stepW_f stepC_n stepC_s stepX_s xop_eq xopR_s xopR_n wantedA_eq wantedG_n wantedG_s plain1_int plain1_bool plain1_string bits_i64 bits_u64 bits_u32 bits_u16 bits_u8 xeqA xarr allK_iv num_iv calleeOf xread xeff xbin xint xnil xun xstr xload xconv xpart xfield xfieldAddr xindexAddr xindex bnd asInt? xslice xlen xmin xmax xbuild xfill xappend xappmk xcap xcopy xcells eval_tmp eval_const put_at put_none fr0_at cells_agg cells_int cells_bool cells_string cells_ptr cells_slice notTuple tab iv_all hget_app hget_app0 hget_cons0 hget_cons set_app set_app0 setR setR_one QL_nil QL_cons QLc_val stepQ_t stepQ_f stepQC_n stepQC_s stepQX_s SL_nil SL_cons SLc_val stepS_t stepS_f ltT ltF leT leF eqT eqF ltTn ltFn leTn leFn eqTn eqFn beqT beqF bneT bneF wi64 wu64 wu32 wu16 wu8 tmodP tdivP hgetL hgetNe hgetEq setL nums_def nums_len Nat.succ_le_of_lt List.getElem?_cons_zero List.getElem?_cons_succ Option.getD_some Int.toNat_add Int.toNat_mul agB agI agS agP agL agA okB okI okS okP okSl okA
section
variable {H : AH} {γ : Nat → Option Nat} {nro p : Nat} {X : List Nat} {L : Nat → List ByteArray} {kd to i k : Int} {s : ByteArray}
theorem do_ac (h : Rl 28 X H p L) (hb : LB L) (hn : nro ≤ p) (hnl : nro ≤ H.length) (hX : ∀ j ∈ X, j < H.length) :
    AC Try.prog nro γ 7 #[.pointer (some ⟨p, 0, none⟩), .agg #[.int .i64 kd, .int .i64 to, .int .i64 i, .int .i64 k, .string s]] H (fun v' H' => v' = .tuple #[.string (doS L (kd.tmod 5) to i), .int .i64 (doE L (kd.tmod 5) to i k)] ∧ Rl 28 X H' p (doL L (kd.tmod 5) to i k s) ∧ Fr H H' [p] [p]) := by
  obtain ⟨blk, hblk⟩ : ∃ blk, blk = (some ⟨[.int .i64 kd, .int .i64 to, .int .i64 i, .int .i64 k, .string s], 33, none⟩ : Option Blk) := ⟨_, rfl⟩
  have hf1 : Fr H (H ++ [blk]) [p] [p] := Fr.mk (by simp) (fun j hj _ => hget_left hj) (fun j hj => .inl hj)
  have hr1 : Rl 28 X (H ++ [blk]) p L := h.fr (F := []) (F' := []) (Fr.mk (by simp) (fun j hj _ => hget_left hj) (fun j hj => .inl hj)) (by simp) (fun j hj => by cases hj)
  have hnl1 : nro ≤ (H ++ [blk]).length := by rw [List.length_append]; omega
  have hX1 : ∀ j ∈ X, j < (H ++ [blk]).length := fun j hj => by have := hX j hj; rw [List.length_append]; omega
  have hga : hget (H ++ [blk]) H.length = some ⟨[.int .i64 kd, .int .i64 to, .int .i64 i, .int .i64 k, .string s], 33, none⟩ := by rw [hget_app0, hblk]; rfl
  refine ac_of_aw Try.func7 rfl Try.ntmps7 Try.results7 (by simp) ?_
  refine aw_seq ?_
  (refine aw_ops (by kernel_rfl) (fun K hK => ?_); simp (disch := first | omega | (simp only [List.length_set, List.length_append, List.length_cons, List.length_nil, iv_length, zl_length]; try omega; done)) [-getElem?_pos, -getElem?_neg]; refine hK _ _ ?_; clear hK K)
  rw [← hblk]
  refine aw_seq ?_
  refine aw_seq ?_
  (refine aw_ops (by kernel_rfl) (fun K hK => ?_); simp (disch := first | omega | (simp only [List.length_set, List.length_append, List.length_cons, List.length_nil, iv_length, zl_length]; try omega; done)) [-getElem?_pos, -getElem?_neg, hga, -tmodP]; refine hK _ _ ?_; clear hK K)
  generalize kd.tmod 5 = k5 at *
  refine aw_block ?_
  refine aw_seq ?_
  by_cases k0 : k5 = 0
  · (refine aw_ops (by kernel_rfl) (fun K hK => ?_); simp (disch := first | omega | (simp only [List.length_set, List.length_append, List.length_cons, List.length_nil, iv_length, zl_length]; try omega; done)) [-getElem?_pos, -getElem?_neg, k0]; refine hK _ _ ?_; clear hK K)
    refine aw_t (by (first | (simp [eval_tmp, put_at]; done) | (simp [eval_tmp, put_at]; omega))) (by kernel_rfl) ?_
    refine aw_seq ?_
    refine aw_ops (by kernel_rfl) (fun K hK => ?_)
    simp (disch := first | omega | (simp only [List.length_set, List.length_append, List.length_cons, List.length_nil, iv_length, zl_length]; try omega; done)) [-getElem?_pos, -getElem?_neg, hga]
    refine ⟨by kernel_rfl, (post_ac hr1 hb hn hnl1 hX1).mono ?_⟩
    rintro _ H3 ⟨rfl, h3, hf3⟩
    try simp (disch := first | omega | (simp only [List.length_set, List.length_append, List.length_cons, List.length_nil, iv_length, zl_length]; try omega; done)) [-getElem?_pos, -getElem?_neg]
    refine hK _ _ ?_; clear hK K
    (refine aw_ret ?_; simp (disch := first | omega | (simp only [List.length_set, List.length_append, List.length_cons, List.length_nil, iv_length, zl_length]; try omega; done)) [-getElem?_pos, -getElem?_neg, thenQ_ret, inBlockQ_ret, RQ, resL, resV])
    exact ⟨⟨by simp [doS, empty_is, k0], by simp [doE, k0]⟩, by simpa [doL, k0] using h3, hf1.trans hf3⟩
  · (refine aw_ops (by kernel_rfl) (fun K hK => ?_); simp (disch := first | omega | (simp only [List.length_set, List.length_append, List.length_cons, List.length_nil, iv_length, zl_length]; try omega; done)) [-getElem?_pos, -getElem?_neg, k0]; refine hK _ _ ?_; clear hK K)
    refine aw_f (by (first | (simp [eval_tmp, put_at]; done) | (simp [eval_tmp, put_at]; omega))) (by kernel_rfl) ?_
    refine aw_seq ?_
    by_cases k1 : k5 = 1
    · (refine aw_ops (by kernel_rfl) (fun K hK => ?_); simp (disch := first | omega | (simp only [List.length_set, List.length_append, List.length_cons, List.length_nil, iv_length, zl_length]; try omega; done)) [-getElem?_pos, -getElem?_neg, k1]; refine hK _ _ ?_; clear hK K)
      refine aw_t (by (first | (simp [eval_tmp, put_at]; done) | (simp [eval_tmp, put_at]; omega))) (by kernel_rfl) ?_
      refine aw_seq ?_
      refine aw_ops (by kernel_rfl) (fun K hK => ?_)
      simp (disch := first | omega | (simp only [List.length_set, List.length_append, List.length_cons, List.length_nil, iv_length, zl_length]; try omega; done)) [-getElem?_pos, -getElem?_neg, hga]
      refine ⟨by kernel_rfl, (take_ac hr1 hb hn hnl1 hX1).mono ?_⟩
      rintro _ H3 ⟨rfl, h3, hf3⟩
      try simp (disch := first | omega | (simp only [List.length_set, List.length_append, List.length_cons, List.length_nil, iv_length, zl_length]; try omega; done)) [-getElem?_pos, -getElem?_neg]
      refine hK _ _ ?_; clear hK K
      (refine aw_ret ?_; simp (disch := first | omega | (simp only [List.length_set, List.length_append, List.length_cons, List.length_nil, iv_length, zl_length]; try omega; done)) [-getElem?_pos, -getElem?_neg, thenQ_ret, inBlockQ_ret, RQ, resL, resV])
      exact ⟨⟨by simp [doS, empty_is, k1], by simp [doE, k1]⟩, by simpa [doL, k1] using h3, hf1.trans hf3⟩
    · (refine aw_ops (by kernel_rfl) (fun K hK => ?_); simp (disch := first | omega | (simp only [List.length_set, List.length_append, List.length_cons, List.length_nil, iv_length, zl_length]; try omega; done)) [-getElem?_pos, -getElem?_neg, k1]; refine hK _ _ ?_; clear hK K)
      refine aw_f (by (first | (simp [eval_tmp, put_at]; done) | (simp [eval_tmp, put_at]; omega))) (by kernel_rfl) ?_
      refine aw_seq ?_
      by_cases k2 : k5 = 2
      · (refine aw_ops (by kernel_rfl) (fun K hK => ?_); simp (disch := first | omega | (simp only [List.length_set, List.length_append, List.length_cons, List.length_nil, iv_length, zl_length]; try omega; done)) [-getElem?_pos, -getElem?_neg, k2]; refine hK _ _ ?_; clear hK K)
        refine aw_t (by (first | (simp [eval_tmp, put_at]; done) | (simp [eval_tmp, put_at]; omega))) (by kernel_rfl) ?_
        refine aw_seq ?_
        refine aw_ops (by kernel_rfl) (fun K hK => ?_)
        simp (disch := first | omega | (simp only [List.length_set, List.length_append, List.length_cons, List.length_nil, iv_length, zl_length]; try omega; done)) [-getElem?_pos, -getElem?_neg, hga]
        refine ⟨by kernel_rfl, (drop_ac hr1 hb hn hnl1 hX1).mono ?_⟩
        rintro _ H3 ⟨rfl, h3, hf3⟩
        try simp (disch := first | omega | (simp only [List.length_set, List.length_append, List.length_cons, List.length_nil, iv_length, zl_length]; try omega; done)) [-getElem?_pos, -getElem?_neg]
        refine hK _ _ ?_; clear hK K
        (refine aw_ret ?_; simp (disch := first | omega | (simp only [List.length_set, List.length_append, List.length_cons, List.length_nil, iv_length, zl_length]; try omega; done)) [-getElem?_pos, -getElem?_neg, thenQ_ret, inBlockQ_ret, RQ, resL, resV])
        exact ⟨⟨by simp [doS, empty_is, k2], by simp [doE, k2]⟩, by simpa [doL, k2] using h3, hf1.trans hf3⟩
      · (refine aw_ops (by kernel_rfl) (fun K hK => ?_); simp (disch := first | omega | (simp only [List.length_set, List.length_append, List.length_cons, List.length_nil, iv_length, zl_length]; try omega; done)) [-getElem?_pos, -getElem?_neg, k2]; refine hK _ _ ?_; clear hK K)
        refine aw_f (by (first | (simp [eval_tmp, put_at]; done) | (simp [eval_tmp, put_at]; omega))) (by kernel_rfl) ?_
        refine aw_seq ?_
        by_cases k3 : k5 = 3
        · (refine aw_ops (by kernel_rfl) (fun K hK => ?_); simp (disch := first | omega | (simp only [List.length_set, List.length_append, List.length_cons, List.length_nil, iv_length, zl_length]; try omega; done)) [-getElem?_pos, -getElem?_neg, k3]; refine hK _ _ ?_; clear hK K)
          refine aw_t (by (first | (simp [eval_tmp, put_at]; done) | (simp [eval_tmp, put_at]; omega))) (by kernel_rfl) ?_
          refine aw_seq ?_
          refine aw_ops (by kernel_rfl) (fun K hK => ?_)
          simp (disch := first | omega | (simp only [List.length_set, List.length_append, List.length_cons, List.length_nil, iv_length, zl_length]; try omega; done)) [-getElem?_pos, -getElem?_neg, hga]
          refine ⟨by kernel_rfl, (double_ac hr1 hb hn hnl1 hX1).mono ?_⟩
          rintro _ H3 ⟨rfl, h3, hf3⟩
          try simp (disch := first | omega | (simp only [List.length_set, List.length_append, List.length_cons, List.length_nil, iv_length, zl_length]; try omega; done)) [-getElem?_pos, -getElem?_neg]
          refine hK _ _ ?_; clear hK K
          (refine aw_ret ?_; simp (disch := first | omega | (simp only [List.length_set, List.length_append, List.length_cons, List.length_nil, iv_length, zl_length]; try omega; done)) [-getElem?_pos, -getElem?_neg, thenQ_ret, inBlockQ_ret, RQ, resL, resV])
          exact ⟨⟨by simp [doS, empty_is, k3], by simp [doE, k3]⟩, by simpa [doL, k3] using h3, hf1.trans hf3⟩
        · (refine aw_ops (by kernel_rfl) (fun K hK => ?_); simp (disch := first | omega | (simp only [List.length_set, List.length_append, List.length_cons, List.length_nil, iv_length, zl_length]; try omega; done)) [-getElem?_pos, -getElem?_neg, k3]; refine hK _ _ ?_; clear hK K)
          refine aw_f (by (first | (simp [eval_tmp, put_at]; done) | (simp [eval_tmp, put_at]; omega))) (by kernel_rfl) ?_
          refine aw_seq ?_
          by_cases k4 : k5 = 4
          · (refine aw_ops (by kernel_rfl) (fun K hK => ?_); simp (disch := first | omega | (simp only [List.length_set, List.length_append, List.length_cons, List.length_nil, iv_length, zl_length]; try omega; done)) [-getElem?_pos, -getElem?_neg, k4]; refine hK _ _ ?_; clear hK K)
            refine aw_t (by (first | (simp [eval_tmp, put_at]; done) | (simp [eval_tmp, put_at]; omega))) (by kernel_rfl) ?_
            refine aw_seq ?_
            refine aw_ops (by kernel_rfl) (fun K hK => ?_)
            simp (disch := first | omega | (simp only [List.length_set, List.length_append, List.length_cons, List.length_nil, iv_length, zl_length]; try omega; done)) [-getElem?_pos, -getElem?_neg, hga]
            refine ⟨by kernel_rfl, (move_ac hr1 hb hn hnl1 hX1).mono ?_⟩
            rintro _ H3 ⟨rfl, h3, hf3⟩
            try simp (disch := first | omega | (simp only [List.length_set, List.length_append, List.length_cons, List.length_nil, iv_length, zl_length]; try omega; done)) [-getElem?_pos, -getElem?_neg]
            refine hK _ _ ?_; clear hK K
            (refine aw_ret ?_; simp (disch := first | omega | (simp only [List.length_set, List.length_append, List.length_cons, List.length_nil, iv_length, zl_length]; try omega; done)) [-getElem?_pos, -getElem?_neg, thenQ_ret, inBlockQ_ret, RQ, resL, resV])
            exact ⟨⟨by simp [doS, empty_is, k4], by simp [doE, k4]⟩, by simpa [doL, k4] using h3, hf1.trans hf3⟩
          · (refine aw_ops (by kernel_rfl) (fun K hK => ?_); simp (disch := first | omega | (simp only [List.length_set, List.length_append, List.length_cons, List.length_nil, iv_length, zl_length]; try omega; done)) [-getElem?_pos, -getElem?_neg, k4]; refine hK _ _ ?_; clear hK K)
            refine aw_f (by (first | (simp [eval_tmp, put_at]; done) | (simp [eval_tmp, put_at]; omega))) (by kernel_rfl) ?_
            refine aw_skip ?_
            refine aw_seq ?_
            (refine aw_ops (by kernel_rfl) (fun K hK => ?_); simp (disch := first | omega | (simp only [List.length_set, List.length_append, List.length_cons, List.length_nil, iv_length, zl_length]; try omega; done)) [-getElem?_pos, -getElem?_neg]; refine hK _ _ ?_; clear hK K)
            (refine aw_ret ?_; simp (disch := first | omega | (simp only [List.length_set, List.length_append, List.length_cons, List.length_nil, iv_length, zl_length]; try omega; done)) [-getElem?_pos, -getElem?_neg, thenQ_ret, inBlockQ_ret, RQ, resL, resV])
            exact ⟨⟨by simp [doS, empty_is, k0, k1, k2, k3, k4], by simp [doE, k0, k1, k2, k3, k4]⟩, by simpa [doL, k0, k1, k2, k3, k4] using hr1, hf1⟩
theorem do_nil_ac (hnl : nro ≤ H.length) :
    AC Try.prog nro γ 7 #[.pointer none, .agg #[.int .i64 kd, .int .i64 to, .int .i64 i, .int .i64 k, .string s]] H (fun v' H' => v' = .tuple #[.string ByteArray.empty, .int .i64 (nilE (kd.tmod 5))] ∧ H.length ≤ H'.length ∧ ∀ j, j < H.length → hget H' j = hget H j) := by
  obtain ⟨blk, hblk⟩ : ∃ blk, blk = (some ⟨[.int .i64 kd, .int .i64 to, .int .i64 i, .int .i64 k, .string s], 33, none⟩ : Option Blk) := ⟨_, rfl⟩
  have hga : hget (H ++ [blk]) H.length = some ⟨[.int .i64 kd, .int .i64 to, .int .i64 i, .int .i64 k, .string s], 33, none⟩ := by rw [hget_app0, hblk]; rfl
  have hlen : H.length ≤ (H ++ [blk]).length := by simp
  have hlow : ∀ j, j < H.length → hget (H ++ [blk]) j = hget H j := fun j hj => hget_left hj
  refine ac_of_aw Try.func7 rfl Try.ntmps7 Try.results7 (by simp) ?_
  refine aw_seq ?_
  (refine aw_ops (by kernel_rfl) (fun K hK => ?_); simp (disch := first | omega | (simp only [List.length_set, List.length_append, List.length_cons, List.length_nil, iv_length, zl_length]; try omega; done)) [-getElem?_pos, -getElem?_neg]; refine hK _ _ ?_; clear hK K)
  rw [← hblk]
  refine aw_seq ?_
  refine aw_seq ?_
  (refine aw_ops (by kernel_rfl) (fun K hK => ?_); simp (disch := first | omega | (simp only [List.length_set, List.length_append, List.length_cons, List.length_nil, iv_length, zl_length]; try omega; done)) [-getElem?_pos, -getElem?_neg, hga, -tmodP]; refine hK _ _ ?_; clear hK K)
  generalize kd.tmod 5 = k5 at *
  refine aw_block ?_
  refine aw_seq ?_
  by_cases k0 : k5 = 0
  · (refine aw_ops (by kernel_rfl) (fun K hK => ?_); simp (disch := first | omega | (simp only [List.length_set, List.length_append, List.length_cons, List.length_nil, iv_length, zl_length]; try omega; done)) [-getElem?_pos, -getElem?_neg, k0]; refine hK _ _ ?_; clear hK K)
    refine aw_t (by (first | (simp [eval_tmp, put_at]; done) | (simp [eval_tmp, put_at]; omega))) (by kernel_rfl) ?_
    refine aw_seq ?_
    refine aw_ops (by kernel_rfl) (fun K hK => ?_)
    simp (disch := first | omega | (simp only [List.length_set, List.length_append, List.length_cons, List.length_nil, iv_length, zl_length]; try omega; done)) [-getElem?_pos, -getElem?_neg, hga]
    refine ⟨by kernel_rfl, post_nil_ac.mono ?_⟩
    rintro _ H0 ⟨rfl, e0⟩; subst H0
    try simp (disch := first | omega | (simp only [List.length_set, List.length_append, List.length_cons, List.length_nil, iv_length, zl_length]; try omega; done)) [-getElem?_pos, -getElem?_neg]
    refine hK _ _ ?_; clear hK K
    (refine aw_ret ?_; simp (disch := first | omega | (simp only [List.length_set, List.length_append, List.length_cons, List.length_nil, iv_length, zl_length]; try omega; done)) [-getElem?_pos, -getElem?_neg, thenQ_ret, inBlockQ_ret, RQ, resL, resV])
    first | exact ⟨⟨by simp [empty_is], by simp [nilE, k0]⟩, hlow⟩ | exact ⟨by simp [nilE, k0], hlow⟩
  · (refine aw_ops (by kernel_rfl) (fun K hK => ?_); simp (disch := first | omega | (simp only [List.length_set, List.length_append, List.length_cons, List.length_nil, iv_length, zl_length]; try omega; done)) [-getElem?_pos, -getElem?_neg, k0]; refine hK _ _ ?_; clear hK K)
    refine aw_f (by (first | (simp [eval_tmp, put_at]; done) | (simp [eval_tmp, put_at]; omega))) (by kernel_rfl) ?_
    refine aw_seq ?_
    by_cases k1 : k5 = 1
    · (refine aw_ops (by kernel_rfl) (fun K hK => ?_); simp (disch := first | omega | (simp only [List.length_set, List.length_append, List.length_cons, List.length_nil, iv_length, zl_length]; try omega; done)) [-getElem?_pos, -getElem?_neg, k1]; refine hK _ _ ?_; clear hK K)
      refine aw_t (by (first | (simp [eval_tmp, put_at]; done) | (simp [eval_tmp, put_at]; omega))) (by kernel_rfl) ?_
      refine aw_seq ?_
      refine aw_ops (by kernel_rfl) (fun K hK => ?_)
      simp (disch := first | omega | (simp only [List.length_set, List.length_append, List.length_cons, List.length_nil, iv_length, zl_length]; try omega; done)) [-getElem?_pos, -getElem?_neg, hga]
      refine ⟨by kernel_rfl, take_nil_ac.mono ?_⟩
      rintro _ H0 ⟨rfl, e0⟩; subst H0
      try simp (disch := first | omega | (simp only [List.length_set, List.length_append, List.length_cons, List.length_nil, iv_length, zl_length]; try omega; done)) [-getElem?_pos, -getElem?_neg]
      refine hK _ _ ?_; clear hK K
      (refine aw_ret ?_; simp (disch := first | omega | (simp only [List.length_set, List.length_append, List.length_cons, List.length_nil, iv_length, zl_length]; try omega; done)) [-getElem?_pos, -getElem?_neg, thenQ_ret, inBlockQ_ret, RQ, resL, resV])
      first | exact ⟨⟨by simp [empty_is], by simp [nilE, k1]⟩, hlow⟩ | exact ⟨by simp [nilE, k1], hlow⟩
    · (refine aw_ops (by kernel_rfl) (fun K hK => ?_); simp (disch := first | omega | (simp only [List.length_set, List.length_append, List.length_cons, List.length_nil, iv_length, zl_length]; try omega; done)) [-getElem?_pos, -getElem?_neg, k1]; refine hK _ _ ?_; clear hK K)
      refine aw_f (by (first | (simp [eval_tmp, put_at]; done) | (simp [eval_tmp, put_at]; omega))) (by kernel_rfl) ?_
      refine aw_seq ?_
      by_cases k2 : k5 = 2
      · (refine aw_ops (by kernel_rfl) (fun K hK => ?_); simp (disch := first | omega | (simp only [List.length_set, List.length_append, List.length_cons, List.length_nil, iv_length, zl_length]; try omega; done)) [-getElem?_pos, -getElem?_neg, k2]; refine hK _ _ ?_; clear hK K)
        refine aw_t (by (first | (simp [eval_tmp, put_at]; done) | (simp [eval_tmp, put_at]; omega))) (by kernel_rfl) ?_
        refine aw_seq ?_
        refine aw_ops (by kernel_rfl) (fun K hK => ?_)
        simp (disch := first | omega | (simp only [List.length_set, List.length_append, List.length_cons, List.length_nil, iv_length, zl_length]; try omega; done)) [-getElem?_pos, -getElem?_neg, hga]
        refine ⟨by kernel_rfl, drop_nil_ac.mono ?_⟩
        rintro _ H0 ⟨rfl, e0⟩; subst H0
        try simp (disch := first | omega | (simp only [List.length_set, List.length_append, List.length_cons, List.length_nil, iv_length, zl_length]; try omega; done)) [-getElem?_pos, -getElem?_neg]
        refine hK _ _ ?_; clear hK K
        (refine aw_ret ?_; simp (disch := first | omega | (simp only [List.length_set, List.length_append, List.length_cons, List.length_nil, iv_length, zl_length]; try omega; done)) [-getElem?_pos, -getElem?_neg, thenQ_ret, inBlockQ_ret, RQ, resL, resV])
        first | exact ⟨⟨by simp [empty_is], by simp [nilE, k2]⟩, hlow⟩ | exact ⟨by simp [nilE, k2], hlow⟩
      · (refine aw_ops (by kernel_rfl) (fun K hK => ?_); simp (disch := first | omega | (simp only [List.length_set, List.length_append, List.length_cons, List.length_nil, iv_length, zl_length]; try omega; done)) [-getElem?_pos, -getElem?_neg, k2]; refine hK _ _ ?_; clear hK K)
        refine aw_f (by (first | (simp [eval_tmp, put_at]; done) | (simp [eval_tmp, put_at]; omega))) (by kernel_rfl) ?_
        refine aw_seq ?_
        by_cases k3 : k5 = 3
        · (refine aw_ops (by kernel_rfl) (fun K hK => ?_); simp (disch := first | omega | (simp only [List.length_set, List.length_append, List.length_cons, List.length_nil, iv_length, zl_length]; try omega; done)) [-getElem?_pos, -getElem?_neg, k3]; refine hK _ _ ?_; clear hK K)
          refine aw_t (by (first | (simp [eval_tmp, put_at]; done) | (simp [eval_tmp, put_at]; omega))) (by kernel_rfl) ?_
          refine aw_seq ?_
          refine aw_ops (by kernel_rfl) (fun K hK => ?_)
          simp (disch := first | omega | (simp only [List.length_set, List.length_append, List.length_cons, List.length_nil, iv_length, zl_length]; try omega; done)) [-getElem?_pos, -getElem?_neg, hga]
          refine ⟨by kernel_rfl, double_nil_ac.mono ?_⟩
          rintro _ H0 ⟨rfl, e0⟩; subst H0
          try simp (disch := first | omega | (simp only [List.length_set, List.length_append, List.length_cons, List.length_nil, iv_length, zl_length]; try omega; done)) [-getElem?_pos, -getElem?_neg]
          refine hK _ _ ?_; clear hK K
          (refine aw_ret ?_; simp (disch := first | omega | (simp only [List.length_set, List.length_append, List.length_cons, List.length_nil, iv_length, zl_length]; try omega; done)) [-getElem?_pos, -getElem?_neg, thenQ_ret, inBlockQ_ret, RQ, resL, resV])
          first | exact ⟨⟨by simp [empty_is], by simp [nilE, k3]⟩, hlow⟩ | exact ⟨by simp [nilE, k3], hlow⟩
        · (refine aw_ops (by kernel_rfl) (fun K hK => ?_); simp (disch := first | omega | (simp only [List.length_set, List.length_append, List.length_cons, List.length_nil, iv_length, zl_length]; try omega; done)) [-getElem?_pos, -getElem?_neg, k3]; refine hK _ _ ?_; clear hK K)
          refine aw_f (by (first | (simp [eval_tmp, put_at]; done) | (simp [eval_tmp, put_at]; omega))) (by kernel_rfl) ?_
          refine aw_seq ?_
          by_cases k4 : k5 = 4
          · (refine aw_ops (by kernel_rfl) (fun K hK => ?_); simp (disch := first | omega | (simp only [List.length_set, List.length_append, List.length_cons, List.length_nil, iv_length, zl_length]; try omega; done)) [-getElem?_pos, -getElem?_neg, k4]; refine hK _ _ ?_; clear hK K)
            refine aw_t (by (first | (simp [eval_tmp, put_at]; done) | (simp [eval_tmp, put_at]; omega))) (by kernel_rfl) ?_
            refine aw_seq ?_
            refine aw_ops (by kernel_rfl) (fun K hK => ?_)
            simp (disch := first | omega | (simp only [List.length_set, List.length_append, List.length_cons, List.length_nil, iv_length, zl_length]; try omega; done)) [-getElem?_pos, -getElem?_neg, hga]
            refine ⟨by kernel_rfl, move_nil_ac.mono ?_⟩
            rintro _ H0 ⟨rfl, e0⟩; subst H0
            try simp (disch := first | omega | (simp only [List.length_set, List.length_append, List.length_cons, List.length_nil, iv_length, zl_length]; try omega; done)) [-getElem?_pos, -getElem?_neg]
            refine hK _ _ ?_; clear hK K
            (refine aw_ret ?_; simp (disch := first | omega | (simp only [List.length_set, List.length_append, List.length_cons, List.length_nil, iv_length, zl_length]; try omega; done)) [-getElem?_pos, -getElem?_neg, thenQ_ret, inBlockQ_ret, RQ, resL, resV])
            first | exact ⟨⟨by simp [empty_is], by simp [nilE, k4]⟩, hlow⟩ | exact ⟨by simp [nilE, k4], hlow⟩
          · (refine aw_ops (by kernel_rfl) (fun K hK => ?_); simp (disch := first | omega | (simp only [List.length_set, List.length_append, List.length_cons, List.length_nil, iv_length, zl_length]; try omega; done)) [-getElem?_pos, -getElem?_neg, k4]; refine hK _ _ ?_; clear hK K)
            refine aw_f (by (first | (simp [eval_tmp, put_at]; done) | (simp [eval_tmp, put_at]; omega))) (by kernel_rfl) ?_
            refine aw_skip ?_
            refine aw_seq ?_
            (refine aw_ops (by kernel_rfl) (fun K hK => ?_); simp (disch := first | omega | (simp only [List.length_set, List.length_append, List.length_cons, List.length_nil, iv_length, zl_length]; try omega; done)) [-getElem?_pos, -getElem?_neg]; refine hK _ _ ?_; clear hK K)
            (refine aw_ret ?_; simp (disch := first | omega | (simp only [List.length_set, List.length_append, List.length_cons, List.length_nil, iv_length, zl_length]; try omega; done)) [-getElem?_pos, -getElem?_neg, thenQ_ret, inBlockQ_ret, RQ, resL, resV])
            first | exact ⟨⟨by simp [empty_is], by simp [nilE, k0, k1, k2, k3, k4]⟩, hlow⟩ | exact ⟨by simp [nilE, k0, k1, k2, k3, k4], hlow⟩
theorem part_at {lo j : Nat} {v : Value} {l : List ByteArray} (h : Part H lo v (ss l)) {i : Nat} {s : ByteArray} (hi : l[i]? = some s) :
    ∃ j off c cs ty es, v = .slice (some ⟨j, off, none⟩) l.length c ∧ hget H j = some ⟨cs, ty, es⟩ ∧ cs[off + i]? = some (.string s) := by
  obtain ⟨⟨a, c, rfl⟩, hx⟩ := h
  have hil := (List.getElem?_eq_some_iff.1 hi).1
  have h6 : (ss l)[i]? = some (.string s) := by simp [ss, hi]
  have h := hx H (fun _ _ => rfl)
  rw [ss_len] at h ⊢
  unfold xcells at h
  split at h
  · rename_i e; injection e with e1 e2 e3; omega
  · rename_i e; injection e with e1 e2 e3; omega
  · rename_i j off n c' e
    injection e with e1 e2 e3
    subst e1 e2 e3
    cases hg : hget H j with
    | none => rw [hg] at h; cases h
    | some k =>
      rw [hg] at h
      simp only [Nat.mul_one] at h
      split at h
      · have h := Option.some.inj h
        refine ⟨j, off, c, k.cells, k.ty, k.es, rfl, hg, ?_⟩
        rw [← h, List.getElem?_take_of_lt hil, List.getElem?_drop] at h6
        exact h6
      · cases h
  · rename_i e; cases e
  · cases h
theorem same_ac {lo1 lo2 : Nat} {a b : Value} {l : List ByteArray} (ha : Part H lo1 a (ss l)) (hb : Part H lo2 b (ss l)) (hl : l.length ≤ 1000) :
    AC Try.prog nro γ 13 #[a, b] H (fun v' H' => v' = .bool true ∧ H' = H) := by
  have hna := ha.nt
  have hnb := hb.nt
  have hla := ha.len (P := Try.prog) (t := 25) (e := 9) (by simp)
  have hlb := hb.len (P := Try.prog) (t := 25) (e := 9) (by simp)
  rw [ss_len] at hla hlb
  refine ac_of_aw Try.func13 rfl Try.ntmps13 Try.results13 (by simp) ?_
  refine aw_seq ?_
  (refine aw_ops (by kernel_rfl) (fun K hK => ?_); simp (disch := first | omega | (simp only [List.length_set, List.length_append, List.length_cons, List.length_nil, iv_length, zl_length]; try omega; done)) [-getElem?_pos, -getElem?_neg]; refine hK _ _ ?_; clear hK K)
  refine aw_seq ?_
  refine aw_seq ?_
  (refine aw_ops (by kernel_rfl) (fun K hK => ?_); simp (disch := first | omega | (simp only [List.length_set, List.length_append, List.length_cons, List.length_nil, iv_length, zl_length]; try omega; done)) [-getElem?_pos, -getElem?_neg, -xlen, hla, hlb]; refine hK _ _ ?_; clear hK K)
  refine aw_f (by (first | (simp [eval_tmp, put_at]; done) | (simp [eval_tmp, put_at]; omega))) (by kernel_rfl) ?_
  refine aw_skip ?_
  refine aw_seq ?_
  refine aw_seq ?_
  (refine aw_ops (by kernel_rfl) (fun K hK => ?_); simp (disch := first | omega | (simp only [List.length_set, List.length_append, List.length_cons, List.length_nil, iv_length, zl_length]; try omega; done)) [-getElem?_pos, -getElem?_neg]; refine hK _ _ ?_; clear hK K)
  refine aw_block ?_
  refine aw_loop (fun c α G => ∃ i : Nat, i + c = l.length ∧ α 5 = .int .i64 (i : Nat) ∧ α 0 = a ∧ α 1 = b ∧ G = H) l.length ?_ ?_
  · exact ⟨0, by omega, by (first | (simp [put_at, put_none, fr0_at]; done) | rfl), by (first | (simp [put_at, put_none, fr0_at]; done) | rfl), by (first | (simp [put_at, put_none, fr0_at]; done) | rfl), rfl⟩
  rintro c α G ⟨i, hic, h5, h0, h1, rfl⟩
  refine aw_seq ?_
  refine aw_seq ?_
  by_cases hi : i < l.length
  · obtain ⟨s, hs⟩ : ∃ s, l[i]? = some s := ⟨_, List.getElem?_eq_getElem hi⟩
    obtain ⟨ja, oa, ca, csa, ta, ea, rfl, hja, hca⟩ := part_at (j := 0) ha hs
    obtain ⟨jb, ob, cb, csb, tb, eb, rfl, hjb, hcb⟩ := part_at (j := 0) hb hs
    (refine aw_ops (by kernel_rfl) (fun K hK => ?_); simp (disch := first | omega | (simp only [List.length_set, List.length_append, List.length_cons, List.length_nil, iv_length, zl_length]; try omega; done)) [-getElem?_pos, -getElem?_neg, h5, h0, -xlen, hla, hi]; refine hK _ _ ?_; clear hK K)
    refine aw_t (by (first | (simp [eval_tmp, put_at, hi]; done) | (simp [eval_tmp, put_at, hi]; omega))) (by kernel_rfl) ?_
    refine aw_skip ?_
    refine aw_seq ?_
    refine aw_block ?_
    refine aw_seq ?_
    (refine aw_quiet (by kernel_rfl) (by kernel_rfl) (by kernel_rfl) (fun K hK => ?_); simp (disch := first | omega | (simp only [List.length_set, List.length_append, List.length_cons, List.length_nil, iv_length, zl_length]; try omega; done)) [-getElem?_pos, -getElem?_neg, h5, h0, h1, hja, hca, hjb, hcb, hi, bne_self_eq_false]; refine hK _ ?_; clear hK K)
    refine aw_f (by (first | (simp [eval_tmp, put_at]; done) | (simp [eval_tmp, put_at]; omega))) (by kernel_rfl) ?_
    refine aw_skip ?_
    (refine aw_ops (by kernel_rfl) (fun K hK => ?_); simp (disch := first | omega | (simp only [List.length_set, List.length_append, List.length_cons, List.length_nil, iv_length, zl_length]; try omega; done)) [-getElem?_pos, -getElem?_neg, h5]; refine hK _ _ ?_; clear hK K)
    exact ⟨c - 1, by omega, i + 1, by omega, by (first | (simp [put_at, put_none, fr0_at]; done) | rfl), by (first | (simp [put_at, put_none, fr0_at, h0]; done) | rfl), by (first | (simp [put_at, put_none, fr0_at, h1]; done) | rfl), rfl⟩
  · (refine aw_ops (by kernel_rfl) (fun K hK => ?_); simp (disch := first | omega | (simp only [List.length_set, List.length_append, List.length_cons, List.length_nil, iv_length, zl_length]; try omega; done)) [-getElem?_pos, -getElem?_neg, h5, h0, -xlen, hla, hi]; refine hK _ _ ?_; clear hK K)
    refine aw_f (by (first | (simp [eval_tmp, put_at, hi]; done) | (simp [eval_tmp, put_at, hi]; omega))) (by kernel_rfl) ?_
    refine aw_exit ?_
    refine aw_seq ?_
    (refine aw_ops (by kernel_rfl) (fun K hK => ?_); simp (disch := first | omega | (simp only [List.length_set, List.length_append, List.length_cons, List.length_nil, iv_length, zl_length]; try omega; done)) [-getElem?_pos, -getElem?_neg]; refine hK _ _ ?_; clear hK K)
    (refine aw_ret ?_; simp (disch := first | omega | (simp only [List.length_set, List.length_append, List.length_cons, List.length_nil, iv_length, zl_length]; try omega; done)) [-getElem?_pos, -getElem?_neg, thenQ_ret, inBlockQ_ret, RQ, resL, resV])
end
end Go.Proofs.Yteldoimjachbbaa
