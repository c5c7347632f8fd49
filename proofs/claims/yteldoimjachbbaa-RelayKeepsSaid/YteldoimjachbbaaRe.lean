/-
  The relay's functions, walked: Take, Drop, Double, Move.
-/
import Derived.Test.YteldoimjachbbaaRd
namespace Go.Proofs.Yteldoimjachbbaa
open Go Go.RowKit
set_option linter.unusedVariables false
set_option linter.unusedSimpArgs false
set_option maxRecDepth 100000
set_option maxHeartbeats 4000000

theorem has_nat {L : Nat → List ByteArray} {to i : Int} (h : hasB L to i = true) : ∃ k n s, k < 8 ∧ to = (k : Nat) ∧ i = (n : Nat) ∧ n < (L k).length ∧ (L k)[n]? = some s := by
  simp only [hasB, Bool.and_eq_true, decide_eq_true_eq] at h
  obtain ⟨h1, h2, h3⟩ := h
  obtain ⟨k, hk, rfl⟩ := mem_nat h1
  have h4 : i.toNat < (L k).length := by simp only [Int.toNat_natCast] at h3; omega
  exact ⟨k, i.toNat, _, hk, rfl, by omega, h4, List.getElem?_eq_getElem h4⟩
theorem MlV.cell {X : List Nat} {H : AH} {v : Value} {l : List ByteArray} (h : MlV X H v l) {i : Nat} {s : ByteArray} (hi : l[i]? = some s) :
    ∃ j off cs ty es, v = .slice (some ⟨j, off, none⟩) l.length l.length ∧ hget H j = some ⟨cs, ty, es⟩ ∧ cs[off + i]? = some (.string s) := by
  have hil := (List.getElem?_eq_some_iff.1 hi).1
  rcases h with ⟨rfl, rfl⟩ | ⟨j, off, cs, rfl, h2, h3, h4, h5⟩
  · simp at hi
  · refine ⟨j, off, cs.cells, cs.ty, cs.es, rfl, h3, ?_⟩
    have h6 : (ss l)[i]? = some (.string s) := by simp [ss, hi]
    rw [← h4, List.getElem?_take_of_lt hil, List.getElem?_drop] at h6
    exact h6
def cutL (L : Nat → List ByteArray) (k n : Nat) : Nat → List ByteArray := upd L k ((L k).take n ++ (L k).drop (n + 1))
def tkL (L : Nat → List ByteArray) (to i : Int) : Nat → List ByteArray := if hasB L to i then cutL L to.toNat i.toNat else L
def tkS (L : Nat → List ByteArray) (to i : Int) : ByteArray := if hasB L to i then ((L to.toNat)[i.toNat]?).getD ByteArray.empty else ByteArray.empty
def tkE (L : Nat → List ByteArray) (to i : Int) : Int := if hasB L to i then 0 else 22
def dbL (L : Nat → List ByteArray) (to i : Int) : Nat → List ByteArray := if hasB L to i then postL L to (tkS L to i) else L
def mvL (L : Nat → List ByteArray) (to i k : Int) : Nat → List ByteArray :=
  if hasB L to i && hasB L to k then upd L to.toNat ((cutL L to.toNat i.toNat to.toNat).take k.toNat ++ [tkS L to i] ++ (cutL L to.toNat i.toNat to.toNat).drop k.toNat) else L
def mvE (L : Nat → List ByteArray) (to i k : Int) : Int := if hasB L to i then (if hasB L to k then 0 else 1) else 22
theorem cutL_len {L : Nat → List ByteArray} {k n : Nat} (hn : n < (L k).length) : (cutL L k n k).length + 1 = (L k).length := by
  simp only [cutL, upd_self, List.length_append, List.length_take, List.length_drop]; omega
theorem tkL_b {L : Nat → List ByteArray} {to i : Int} (h : LB L) : LB (tkL L to i) := by
  unfold tkL
  split
  · rename_i hh
    obtain ⟨k, n, s, hk, rfl, rfl, hn, hs⟩ := has_nat hh
    intro j hj
    simp only [Int.toNat_natCast]
    by_cases e : j = k
    · subst e
      have := cutL_len hn; have := h j hj; omega
    · rw [cutL, upd_ne _ _ e]; exact h j hj
  · exact h
theorem dbL_b {L : Nat → List ByteArray} {to i : Int} (h : LB L) : LB (dbL L to i) := by
  unfold dbL
  split
  · exact postL_b h
  · exact h
theorem mvL_b {L : Nat → List ByteArray} {to i k : Int} (h : LB L) : LB (mvL L to i k) := by
  unfold mvL
  split
  · rename_i hh
    simp only [Bool.and_eq_true] at hh
    obtain ⟨k', n, s, hk, rfl, rfl, hn, hs⟩ := has_nat hh.1
    intro j hj
    simp only [Int.toNat_natCast]
    by_cases e : j = k'
    · subst e
      rw [upd_self]
      have := cutL_len hn; have := h j hj
      simp only [List.length_append, List.length_take, List.length_drop, List.length_cons, List.length_nil]; omega
    · rw [upd_ne _ _ e]; exact h j hj
  · exact h
attribute [local simp] wb_bool wb_undef XL_nil XL_cons XLc_val XLc_call step1_eq stepW_t stepW_f stepC_n stepC_s stepX_s xop_eq xopR_s xopR_n wantedA_eq wantedG_n wantedG_s plain1_int plain1_bool plain1_string bits_i64 bits_u64 bits_u32 bits_u16 bits_u8 xeqA xarr allK_iv num_iv calleeOf xread xeff xbin xint xnil xun xstr xload xconv xpart xfield xfieldAddr xindexAddr xindex bnd asInt? xslice xlen xmin xmax xbuild xfill xappend xappmk xcap xcopy xcells eval_tmp eval_const put_at put_none fr0_at cells_agg cells_int cells_bool cells_string cells_ptr cells_slice notTuple tab iv_all hget_app hget_app0 hget_cons0 hget_cons set_app set_app0 setR setR_one QL_nil QL_cons QLc_val stepQ_t stepQ_f stepQC_n stepQC_s stepQX_s SL_nil SL_cons SLc_val stepS_t stepS_f ltT ltF leT leF eqT eqF ltTn ltFn leTn leFn eqTn eqFn beqT beqF bneT bneF wi64 wu64 wu32 wu16 wu8 tmodP tdivP hgetL hgetNe hgetEq setL nums_def nums_len Nat.succ_le_of_lt List.getElem?_cons_zero List.getElem?_cons_succ Option.getD_some Int.toNat_add Int.toNat_mul agB agI agS agP agL agA okB okI okS okP okSl okA
section
variable {H : AH} {γ : Nat → Option Nat} {nro p : Nat} {X : List Nat} {L : Nat → List ByteArray} {to i k : Int} {s : ByteArray}
theorem take_ac (h : Rl 28 X H p L) (hb : LB L) (hn : nro ≤ p) (hnl : nro ≤ H.length) (hX : ∀ j ∈ X, j < H.length) :
    AC Try.prog nro γ 16 #[.pointer (some ⟨p, 0, none⟩), .int .i64 to, .int .i64 i] H (fun v' H' => v' = .tuple #[.string (tkS L to i), .int .i64 (tkE L to i)] ∧ Rl 28 X H' p (tkL L to i) ∧ Fr H H' [p] [p]) := by
  refine ac_of_aw Try.func16 rfl Try.ntmps16 Try.results16 (by simp) ?_
  refine aw_seq ?_
  (refine aw_ops (by kernel_rfl) (fun K hK => ?_); simp (disch := first | omega | (simp only [List.length_set, List.length_append, List.length_cons, List.length_nil, iv_length, zl_length]; try omega; done)) [-getElem?_pos, -getElem?_neg]; refine hK _ _ ?_; clear hK K)
  refine aw_seq ?_
  refine aw_seq ?_
  refine aw_ops (by kernel_rfl) (fun K hK => ?_)
  simp (disch := first | omega | (simp only [List.length_set, List.length_append, List.length_cons, List.length_nil, iv_length, zl_length]; try omega; done)) [-getElem?_pos, -getElem?_neg]
  refine ⟨by kernel_rfl, (has_ac h hnl).mono ?_⟩
  rintro _ H0 ⟨rfl, e0⟩; subst H0
  simp (disch := first | omega | (simp only [List.length_set, List.length_append, List.length_cons, List.length_nil, iv_length, zl_length]; try omega; done)) [-getElem?_pos, -getElem?_neg]
  refine hK _ _ ?_; clear hK K
  cases hm : hasB L to i with
  | false =>
    refine aw_t (by (first | (simp [eval_tmp, put_at, hm]; done) | (simp [eval_tmp, put_at, hm]; omega))) (by kernel_rfl) ?_
    refine aw_seq ?_
    (refine aw_ops (by kernel_rfl) (fun K hK => ?_); simp (disch := first | omega | (simp only [List.length_set, List.length_append, List.length_cons, List.length_nil, iv_length, zl_length]; try omega; done)) [-getElem?_pos, -getElem?_neg]; refine hK _ _ ?_; clear hK K)
    (refine aw_ret ?_; simp (disch := first | omega | (simp only [List.length_set, List.length_append, List.length_cons, List.length_nil, iv_length, zl_length]; try omega; done)) [-getElem?_pos, -getElem?_neg, thenQ_ret, inBlockQ_ret, RQ, resL, resV])
    simp only [tkL, tkS, tkE, hm]
    exact ⟨⟨rfl, rfl⟩, h, .refl _ _⟩
  | true =>
    obtain ⟨k, n, s, hk, rfl, rfl, hnk, hs⟩ := has_nat hm
    have h' := h
    obtain ⟨Ms, h⟩ := h
    have hcells := h.cells
    have hpl := hget_lt hcells
    have hck : ((List.range 8).map Ms)[k]? = some (Ms k) := by rw [List.getElem?_map, List.getElem?_range hk]; rfl
    obtain ⟨cs, hcs⟩ : ∃ cs, cs = (List.range 8).map Ms := ⟨_, rfl⟩
    rw [← hcs] at hck hcells
    obtain ⟨j, off, cj, ty, es, hv, hj, hcj⟩ := (h.sl k hk).cell hs
    rw [hv] at hck
    have hcl : cs.length = 8 := by rw [hcs]; simp
    have hlk := hb k hk
    refine aw_f (by (first | (simp [eval_tmp, put_at, hm]; done) | (simp [eval_tmp, put_at, hm]; omega))) (by kernel_rfl) ?_
    refine aw_skip ?_
    refine aw_seq ?_
    (refine aw_ops (by kernel_rfl) (fun K hK => ?_); simp (disch := first | omega | (simp only [List.length_set, List.length_append, List.length_cons, List.length_nil, iv_length, zl_length]; try omega; done)) [-getElem?_pos, -getElem?_neg, hcells, hck, hcl, hj, hcj, hnk]; refine hK _ _ ?_; clear hK K)
    refine aw_seq ?_
    have hp2 : Part H H.length (.slice none 0 0) (ss []) := ⟨⟨_, _, rfl⟩, fun G hG => rfl⟩
    refine aw_ops (by kernel_rfl) (fun K hK => ?_)
    simp (disch := first | omega | (simp only [List.length_set, List.length_append, List.length_cons, List.length_nil, iv_length, zl_length]; try omega; done)) [-getElem?_pos, -getElem?_neg]
    refine ⟨by kernel_rfl, ?_⟩
    refine AC.mono (splice_ac h' hn hnl hX (k := k) (fr := n) (be := n + 1) hk (by omega) (by omega) (by omega) hp2 (by simp)) ?_
    rintro v3 H3 ⟨h3, hf3⟩
    try simp (disch := first | omega | (simp only [List.length_set, List.length_append, List.length_cons, List.length_nil, iv_length, zl_length]; try omega; done)) [-getElem?_pos, -getElem?_neg]
    refine hK _ _ ?_; clear hK K
    refine aw_seq ?_
    (refine aw_ops (by kernel_rfl) (fun K hK => ?_); simp (disch := first | omega | (simp only [List.length_set, List.length_append, List.length_cons, List.length_nil, iv_length, zl_length]; try omega; done)) [-getElem?_pos, -getElem?_neg]; refine hK _ _ ?_; clear hK K)
    (refine aw_ret ?_; simp (disch := first | omega | (simp only [List.length_set, List.length_append, List.length_cons, List.length_nil, iv_length, zl_length]; try omega; done)) [-getElem?_pos, -getElem?_neg, thenQ_ret, inBlockQ_ret, RQ, resL, resV])
    refine ⟨⟨by simp [tkS, hm, hs], by simp [tkE, hm]⟩, ?_, hf3⟩
    simp only [tkL, hm, cutL]
    simpa using h3
theorem take_nil_ac : AC Try.prog nro γ 16 #[.pointer none, .int .i64 to, .int .i64 i] H (fun v' H' => v' = .tuple #[.string ByteArray.empty, .int .i64 22] ∧ H' = H) := by
  refine ac_of_aw Try.func16 rfl Try.ntmps16 Try.results16 (by simp) ?_
  refine aw_seq ?_
  (refine aw_ops (by kernel_rfl) (fun K hK => ?_); simp (disch := first | omega | (simp only [List.length_set, List.length_append, List.length_cons, List.length_nil, iv_length, zl_length]; try omega; done)) [-getElem?_pos, -getElem?_neg]; refine hK _ _ ?_; clear hK K)
  refine aw_seq ?_
  refine aw_seq ?_
  refine aw_ops (by kernel_rfl) (fun K hK => ?_)
  simp (disch := first | omega | (simp only [List.length_set, List.length_append, List.length_cons, List.length_nil, iv_length, zl_length]; try omega; done)) [-getElem?_pos, -getElem?_neg]
  refine ⟨by kernel_rfl, has_nil_ac.mono ?_⟩
  rintro _ H0 ⟨rfl, e0⟩; subst H0
  simp (disch := first | omega | (simp only [List.length_set, List.length_append, List.length_cons, List.length_nil, iv_length, zl_length]; try omega; done)) [-getElem?_pos, -getElem?_neg]
  refine hK _ _ ?_; clear hK K
  refine aw_t (by (first | (simp [eval_tmp, put_at]; done) | (simp [eval_tmp, put_at]; omega))) (by kernel_rfl) ?_
  refine aw_seq ?_
  (refine aw_ops (by kernel_rfl) (fun K hK => ?_); simp (disch := first | omega | (simp only [List.length_set, List.length_append, List.length_cons, List.length_nil, iv_length, zl_length]; try omega; done)) [-getElem?_pos, -getElem?_neg]; refine hK _ _ ?_; clear hK K)
  (refine aw_ret ?_; simp (disch := first | omega | (simp only [List.length_set, List.length_append, List.length_cons, List.length_nil, iv_length, zl_length]; try omega; done)) [-getElem?_pos, -getElem?_neg, thenQ_ret, inBlockQ_ret, RQ, resL, resV])
  rfl
theorem drop_ac (h : Rl 28 X H p L) (hb : LB L) (hn : nro ≤ p) (hnl : nro ≤ H.length) (hX : ∀ j ∈ X, j < H.length) :
    AC Try.prog nro γ 17 #[.pointer (some ⟨p, 0, none⟩), .int .i64 to, .int .i64 i] H (fun v' H' => v' = .int .i64 (tkE L to i) ∧ Rl 28 X H' p (tkL L to i) ∧ Fr H H' [p] [p]) := by
  refine ac_of_aw Try.func17 rfl Try.ntmps17 Try.results17 (by simp) ?_
  refine aw_seq ?_
  (refine aw_ops (by kernel_rfl) (fun K hK => ?_); simp (disch := first | omega | (simp only [List.length_set, List.length_append, List.length_cons, List.length_nil, iv_length, zl_length]; try omega; done)) [-getElem?_pos, -getElem?_neg]; refine hK _ _ ?_; clear hK K)
  refine aw_seq ?_
  refine aw_ops (by kernel_rfl) (fun K hK => ?_)
  simp (disch := first | omega | (simp only [List.length_set, List.length_append, List.length_cons, List.length_nil, iv_length, zl_length]; try omega; done)) [-getElem?_pos, -getElem?_neg]
  refine ⟨by kernel_rfl, (take_ac h hb hn hnl hX).mono ?_⟩
  rintro _ H3 ⟨rfl, h3, hf3⟩
  simp (disch := first | omega | (simp only [List.length_set, List.length_append, List.length_cons, List.length_nil, iv_length, zl_length]; try omega; done)) [-getElem?_pos, -getElem?_neg]
  refine hK _ _ ?_; clear hK K
  refine aw_seq ?_
  (refine aw_ops (by kernel_rfl) (fun K hK => ?_); simp (disch := first | omega | (simp only [List.length_set, List.length_append, List.length_cons, List.length_nil, iv_length, zl_length]; try omega; done)) [-getElem?_pos, -getElem?_neg]; refine hK _ _ ?_; clear hK K)
  (refine aw_ret ?_; simp (disch := first | omega | (simp only [List.length_set, List.length_append, List.length_cons, List.length_nil, iv_length, zl_length]; try omega; done)) [-getElem?_pos, -getElem?_neg, thenQ_ret, inBlockQ_ret, RQ, resL, resV])
  exact ⟨h3, hf3⟩
theorem drop_nil_ac : AC Try.prog nro γ 17 #[.pointer none, .int .i64 to, .int .i64 i] H (fun v' H' => v' = .int .i64 22 ∧ H' = H) := by
  refine ac_of_aw Try.func17 rfl Try.ntmps17 Try.results17 (by simp) ?_
  refine aw_seq ?_
  (refine aw_ops (by kernel_rfl) (fun K hK => ?_); simp (disch := first | omega | (simp only [List.length_set, List.length_append, List.length_cons, List.length_nil, iv_length, zl_length]; try omega; done)) [-getElem?_pos, -getElem?_neg]; refine hK _ _ ?_; clear hK K)
  refine aw_seq ?_
  refine aw_ops (by kernel_rfl) (fun K hK => ?_)
  simp (disch := first | omega | (simp only [List.length_set, List.length_append, List.length_cons, List.length_nil, iv_length, zl_length]; try omega; done)) [-getElem?_pos, -getElem?_neg]
  refine ⟨by kernel_rfl, take_nil_ac.mono ?_⟩
  rintro _ H0 ⟨rfl, e0⟩; subst H0
  simp (disch := first | omega | (simp only [List.length_set, List.length_append, List.length_cons, List.length_nil, iv_length, zl_length]; try omega; done)) [-getElem?_pos, -getElem?_neg]
  refine hK _ _ ?_; clear hK K
  refine aw_seq ?_
  (refine aw_ops (by kernel_rfl) (fun K hK => ?_); simp (disch := first | omega | (simp only [List.length_set, List.length_append, List.length_cons, List.length_nil, iv_length, zl_length]; try omega; done)) [-getElem?_pos, -getElem?_neg]; refine hK _ _ ?_; clear hK K)
  (refine aw_ret ?_; simp (disch := first | omega | (simp only [List.length_set, List.length_append, List.length_cons, List.length_nil, iv_length, zl_length]; try omega; done)) [-getElem?_pos, -getElem?_neg, thenQ_ret, inBlockQ_ret, RQ, resL, resV])
theorem double_ac (h : Rl 28 X H p L) (hb : LB L) (hn : nro ≤ p) (hnl : nro ≤ H.length) (hX : ∀ j ∈ X, j < H.length) :
    AC Try.prog nro γ 18 #[.pointer (some ⟨p, 0, none⟩), .int .i64 to, .int .i64 i] H (fun v' H' => v' = .int .i64 (tkE L to i) ∧ Rl 28 X H' p (dbL L to i) ∧ Fr H H' [p] [p]) := by
  refine ac_of_aw Try.func18 rfl Try.ntmps18 Try.results18 (by simp) ?_
  refine aw_seq ?_
  (refine aw_ops (by kernel_rfl) (fun K hK => ?_); simp (disch := first | omega | (simp only [List.length_set, List.length_append, List.length_cons, List.length_nil, iv_length, zl_length]; try omega; done)) [-getElem?_pos, -getElem?_neg]; refine hK _ _ ?_; clear hK K)
  refine aw_seq ?_
  refine aw_seq ?_
  refine aw_ops (by kernel_rfl) (fun K hK => ?_)
  simp (disch := first | omega | (simp only [List.length_set, List.length_append, List.length_cons, List.length_nil, iv_length, zl_length]; try omega; done)) [-getElem?_pos, -getElem?_neg]
  refine ⟨by kernel_rfl, (has_ac h hnl).mono ?_⟩
  rintro _ H0 ⟨rfl, e0⟩; subst H0
  simp (disch := first | omega | (simp only [List.length_set, List.length_append, List.length_cons, List.length_nil, iv_length, zl_length]; try omega; done)) [-getElem?_pos, -getElem?_neg]
  refine hK _ _ ?_; clear hK K
  cases hm : hasB L to i with
  | false =>
    refine aw_t (by (first | (simp [eval_tmp, put_at, hm]; done) | (simp [eval_tmp, put_at, hm]; omega))) (by kernel_rfl) ?_
    refine aw_seq ?_
    (refine aw_ops (by kernel_rfl) (fun K hK => ?_); simp (disch := first | omega | (simp only [List.length_set, List.length_append, List.length_cons, List.length_nil, iv_length, zl_length]; try omega; done)) [-getElem?_pos, -getElem?_neg]; refine hK _ _ ?_; clear hK K)
    (refine aw_ret ?_; simp (disch := first | omega | (simp only [List.length_set, List.length_append, List.length_cons, List.length_nil, iv_length, zl_length]; try omega; done)) [-getElem?_pos, -getElem?_neg, thenQ_ret, inBlockQ_ret, RQ, resL, resV])
    simp only [dbL, tkE, hm]
    exact ⟨rfl, h, .refl _ _⟩
  | true =>
    have hm' := hm
    obtain ⟨k, n, s, hk, rfl, rfl, hnk, hs⟩ := has_nat hm
    have h' := h
    obtain ⟨Ms, h⟩ := h
    have hcells := h.cells
    have hpl := hget_lt hcells
    have hck : ((List.range 8).map Ms)[k]? = some (Ms k) := by rw [List.getElem?_map, List.getElem?_range hk]; rfl
    obtain ⟨cs, hcs⟩ : ∃ cs, cs = (List.range 8).map Ms := ⟨_, rfl⟩
    rw [← hcs] at hck hcells
    obtain ⟨j, off, cj, ty, es, hv, hj, hcj⟩ := (h.sl k hk).cell hs
    rw [hv] at hck
    have hcl : cs.length = 8 := by rw [hcs]; simp
    refine aw_f (by (first | (simp [eval_tmp, put_at, hm]; done) | (simp [eval_tmp, put_at, hm]; omega))) (by kernel_rfl) ?_
    refine aw_skip ?_
    refine aw_seq ?_
    refine aw_ops (by kernel_rfl) (fun K hK => ?_)
    simp (disch := first | omega | (simp only [List.length_set, List.length_append, List.length_cons, List.length_nil, iv_length, zl_length]; try omega; done)) [-getElem?_pos, -getElem?_neg, hcells, hck, hcl, hj, hcj, hnk]
    refine ⟨by kernel_rfl, ?_⟩
    refine AC.mono (post_ac (s := s) h' hb hn hnl hX) ?_
    rintro _ H3 ⟨rfl, h3, hf3⟩
    try simp (disch := first | omega | (simp only [List.length_set, List.length_append, List.length_cons, List.length_nil, iv_length, zl_length]; try omega; done)) [-getElem?_pos, -getElem?_neg]
    refine hK _ _ ?_; clear hK K
    (refine aw_ret ?_; simp (disch := first | omega | (simp only [List.length_set, List.length_append, List.length_cons, List.length_nil, iv_length, zl_length]; try omega; done)) [-getElem?_pos, -getElem?_neg, thenQ_ret, inBlockQ_ret, RQ, resL, resV])
    refine ⟨by simp [postE, tkE, hm, memB_nat hk], ?_, hf3⟩
    simp only [dbL, hm, tkS]
    simpa [hs] using h3
theorem double_nil_ac : AC Try.prog nro γ 18 #[.pointer none, .int .i64 to, .int .i64 i] H (fun v' H' => v' = .int .i64 22 ∧ H' = H) := by
  refine ac_of_aw Try.func18 rfl Try.ntmps18 Try.results18 (by simp) ?_
  refine aw_seq ?_
  (refine aw_ops (by kernel_rfl) (fun K hK => ?_); simp (disch := first | omega | (simp only [List.length_set, List.length_append, List.length_cons, List.length_nil, iv_length, zl_length]; try omega; done)) [-getElem?_pos, -getElem?_neg]; refine hK _ _ ?_; clear hK K)
  refine aw_seq ?_
  refine aw_seq ?_
  refine aw_ops (by kernel_rfl) (fun K hK => ?_)
  simp (disch := first | omega | (simp only [List.length_set, List.length_append, List.length_cons, List.length_nil, iv_length, zl_length]; try omega; done)) [-getElem?_pos, -getElem?_neg]
  refine ⟨by kernel_rfl, has_nil_ac.mono ?_⟩
  rintro _ H0 ⟨rfl, e0⟩; subst H0
  simp (disch := first | omega | (simp only [List.length_set, List.length_append, List.length_cons, List.length_nil, iv_length, zl_length]; try omega; done)) [-getElem?_pos, -getElem?_neg]
  refine hK _ _ ?_; clear hK K
  refine aw_t (by (first | (simp [eval_tmp, put_at]; done) | (simp [eval_tmp, put_at]; omega))) (by kernel_rfl) ?_
  refine aw_seq ?_
  (refine aw_ops (by kernel_rfl) (fun K hK => ?_); simp (disch := first | omega | (simp only [List.length_set, List.length_append, List.length_cons, List.length_nil, iv_length, zl_length]; try omega; done)) [-getElem?_pos, -getElem?_neg]; refine hK _ _ ?_; clear hK K)
  (refine aw_ret ?_; simp (disch := first | omega | (simp only [List.length_set, List.length_append, List.length_cons, List.length_nil, iv_length, zl_length]; try omega; done)) [-getElem?_pos, -getElem?_neg, thenQ_ret, inBlockQ_ret, RQ, resL, resV])
theorem move_nil_ac : AC Try.prog nro γ 15 #[.pointer none, .int .i64 to, .int .i64 i, .int .i64 k] H (fun v' H' => v' = .int .i64 22 ∧ H' = H) := by
  refine ac_of_aw Try.func15 rfl Try.ntmps15 Try.results15 (by simp) ?_
  refine aw_seq ?_
  (refine aw_ops (by kernel_rfl) (fun K hK => ?_); simp (disch := first | omega | (simp only [List.length_set, List.length_append, List.length_cons, List.length_nil, iv_length, zl_length]; try omega; done)) [-getElem?_pos, -getElem?_neg]; refine hK _ _ ?_; clear hK K)
  refine aw_seq ?_
  refine aw_seq ?_
  refine aw_ops (by kernel_rfl) (fun K hK => ?_)
  simp (disch := first | omega | (simp only [List.length_set, List.length_append, List.length_cons, List.length_nil, iv_length, zl_length]; try omega; done)) [-getElem?_pos, -getElem?_neg]
  refine ⟨by kernel_rfl, has_nil_ac.mono ?_⟩
  rintro _ H0 ⟨rfl, e0⟩; subst H0
  simp (disch := first | omega | (simp only [List.length_set, List.length_append, List.length_cons, List.length_nil, iv_length, zl_length]; try omega; done)) [-getElem?_pos, -getElem?_neg]
  refine hK _ _ ?_; clear hK K
  refine aw_t (by (first | (simp [eval_tmp, put_at]; done) | (simp [eval_tmp, put_at]; omega))) (by kernel_rfl) ?_
  refine aw_seq ?_
  (refine aw_ops (by kernel_rfl) (fun K hK => ?_); simp (disch := first | omega | (simp only [List.length_set, List.length_append, List.length_cons, List.length_nil, iv_length, zl_length]; try omega; done)) [-getElem?_pos, -getElem?_neg]; refine hK _ _ ?_; clear hK K)
  (refine aw_ret ?_; simp (disch := first | omega | (simp only [List.length_set, List.length_append, List.length_cons, List.length_nil, iv_length, zl_length]; try omega; done)) [-getElem?_pos, -getElem?_neg, thenQ_ret, inBlockQ_ret, RQ, resL, resV])
theorem move_ac (h : Rl 28 X H p L) (hb : LB L) (hn : nro ≤ p) (hnl : nro ≤ H.length) (hX : ∀ j ∈ X, j < H.length) :
    AC Try.prog nro γ 15 #[.pointer (some ⟨p, 0, none⟩), .int .i64 to, .int .i64 i, .int .i64 k] H (fun v' H' => v' = .int .i64 (mvE L to i k) ∧ Rl 28 X H' p (mvL L to i k) ∧ Fr H H' [p] [p]) := by
  refine ac_of_aw Try.func15 rfl Try.ntmps15 Try.results15 (by simp) ?_
  refine aw_seq ?_
  (refine aw_ops (by kernel_rfl) (fun K hK => ?_); simp (disch := first | omega | (simp only [List.length_set, List.length_append, List.length_cons, List.length_nil, iv_length, zl_length]; try omega; done)) [-getElem?_pos, -getElem?_neg]; refine hK _ _ ?_; clear hK K)
  refine aw_seq ?_
  refine aw_seq ?_
  refine aw_ops (by kernel_rfl) (fun K hK => ?_)
  simp (disch := first | omega | (simp only [List.length_set, List.length_append, List.length_cons, List.length_nil, iv_length, zl_length]; try omega; done)) [-getElem?_pos, -getElem?_neg]
  refine ⟨by kernel_rfl, (has_ac h hnl).mono ?_⟩
  rintro _ H0 ⟨rfl, e0⟩; subst H0
  simp (disch := first | omega | (simp only [List.length_set, List.length_append, List.length_cons, List.length_nil, iv_length, zl_length]; try omega; done)) [-getElem?_pos, -getElem?_neg]
  refine hK _ _ ?_; clear hK K
  cases hm : hasB L to i with
  | false =>
    refine aw_t (by (first | (simp [eval_tmp, put_at, hm]; done) | (simp [eval_tmp, put_at, hm]; omega))) (by kernel_rfl) ?_
    refine aw_seq ?_
    (refine aw_ops (by kernel_rfl) (fun K hK => ?_); simp (disch := first | omega | (simp only [List.length_set, List.length_append, List.length_cons, List.length_nil, iv_length, zl_length]; try omega; done)) [-getElem?_pos, -getElem?_neg]; refine hK _ _ ?_; clear hK K)
    (refine aw_ret ?_; simp (disch := first | omega | (simp only [List.length_set, List.length_append, List.length_cons, List.length_nil, iv_length, zl_length]; try omega; done)) [-getElem?_pos, -getElem?_neg, thenQ_ret, inBlockQ_ret, RQ, resL, resV])
    simp only [mvL, mvE, hm]
    exact ⟨rfl, h, .refl _ _⟩
  | true =>
    refine aw_f (by (first | (simp [eval_tmp, put_at, hm]; done) | (simp [eval_tmp, put_at, hm]; omega))) (by kernel_rfl) ?_
    refine aw_skip ?_
    refine aw_seq ?_
    refine aw_seq ?_
    refine aw_ops (by kernel_rfl) (fun K hK => ?_)
    simp (disch := first | omega | (simp only [List.length_set, List.length_append, List.length_cons, List.length_nil, iv_length, zl_length]; try omega; done)) [-getElem?_pos, -getElem?_neg]
    refine ⟨by kernel_rfl, (has_ac h hnl).mono ?_⟩
    rintro _ H0 ⟨rfl, e0⟩; subst H0
    simp (disch := first | omega | (simp only [List.length_set, List.length_append, List.length_cons, List.length_nil, iv_length, zl_length]; try omega; done)) [-getElem?_pos, -getElem?_neg]
    refine hK _ _ ?_; clear hK K
    cases hm2 : hasB L to k with
    | false =>
      refine aw_t (by (first | (simp [eval_tmp, put_at, hm2]; done) | (simp [eval_tmp, put_at, hm2]; omega))) (by kernel_rfl) ?_
      refine aw_seq ?_
      (refine aw_ops (by kernel_rfl) (fun K hK => ?_); simp (disch := first | omega | (simp only [List.length_set, List.length_append, List.length_cons, List.length_nil, iv_length, zl_length]; try omega; done)) [-getElem?_pos, -getElem?_neg]; refine hK _ _ ?_; clear hK K)
      (refine aw_ret ?_; simp (disch := first | omega | (simp only [List.length_set, List.length_append, List.length_cons, List.length_nil, iv_length, zl_length]; try omega; done)) [-getElem?_pos, -getElem?_neg, thenQ_ret, inBlockQ_ret, RQ, resL, resV])
      simp only [mvL, mvE, hm, hm2]
      exact ⟨rfl, h, .refl _ _⟩
    | true =>
      have hm' := hm
      have hm2' := hm2
      obtain ⟨kk, n, s, hk, rfl, rfl, hnk, hs⟩ := has_nat hm
      obtain ⟨kk', m, s', hk', e1, rfl, hmk, hs'⟩ := has_nat hm2
      obtain rfl : kk' = kk := by omega
      have h' := h
      obtain ⟨Ms, h⟩ := h
      have hcells := h.cells
      have hpl := hget_lt hcells
      have hck : ((List.range 8).map Ms)[kk']? = some (Ms kk') := by rw [List.getElem?_map, List.getElem?_range hk]; rfl
      obtain ⟨cs, hcs⟩ : ∃ cs, cs = (List.range 8).map Ms := ⟨_, rfl⟩
      rw [← hcs] at hck hcells
      obtain ⟨j, off, cj, ty, es, hv, hj, hcj⟩ := (h.sl kk' hk).cell hs
      rw [hv] at hck
      have hcl : cs.length = 8 := by rw [hcs]; simp
      have hlk := hb kk' hk
      refine aw_f (by (first | (simp [eval_tmp, put_at, hm2]; done) | (simp [eval_tmp, put_at, hm2]; omega))) (by kernel_rfl) ?_
      refine aw_skip ?_
      refine aw_seq ?_
      (refine aw_ops (by kernel_rfl) (fun K hK => ?_); simp (disch := first | omega | (simp only [List.length_set, List.length_append, List.length_cons, List.length_nil, iv_length, zl_length]; try omega; done)) [-getElem?_pos, -getElem?_neg, hcells, hck, hcl, hj, hcj, hnk]; refine hK _ _ ?_; clear hK K)
      refine aw_seq ?_
      have hp2 : Part H H.length (.slice none 0 0) (ss []) := ⟨⟨_, _, rfl⟩, fun G hG => rfl⟩
      refine aw_ops (by kernel_rfl) (fun K hK => ?_)
      simp (disch := first | omega | (simp only [List.length_set, List.length_append, List.length_cons, List.length_nil, iv_length, zl_length]; try omega; done)) [-getElem?_pos, -getElem?_neg]
      refine ⟨by kernel_rfl, ?_⟩
      refine AC.mono (splice_ac h' hn hnl hX (k := kk') (fr := n) (be := n + 1) hk (by omega) (by omega) (by omega) hp2 (by simp)) ?_
      rintro v3 H3 ⟨h3, hf3⟩
      try simp (disch := first | omega | (simp only [List.length_set, List.length_append, List.length_cons, List.length_nil, iv_length, zl_length]; try omega; done)) [-getElem?_pos, -getElem?_neg]
      refine hK _ _ ?_; clear hK K
      refine aw_seq ?_
      have hcut : upd L kk' ((L kk').take n ++ [] ++ (L kk').drop (n + 1)) = cutL L kk' n := by rw [cutL, List.append_nil]
      rw [hcut] at h3
      have hcl2 := cutL_len hnk
      have hl3 := hf3.len
      have hpt : ∀ G1 : AH, G1 = H3 ++ [some ⟨[.string s], 9, some 1⟩] → Part G1 G1.length (.slice (some ⟨H3.length, 0, none⟩) 1 1) (ss [s]) := by
        rintro G1 rfl
        refine ⟨⟨_, _, rfl⟩, fun G hG => ?_⟩
        have hg : hget G H3.length = _ := (hG H3.length (by rw [List.length_append]; exact Nat.lt_succ_self _)).trans (by rw [hget_app0])
        simp [xcells, hg, ss]
      have hf1 : Fr H3 (H3 ++ [some ⟨[.string s], 9, some 1⟩]) [p] [p] := Fr.mk (by simp) (fun j hj _ => hget_left hj) (fun j hj => .inl hj)
      have hr1 : Rl 28 X (H3 ++ [some ⟨[.string s], 9, some 1⟩]) p (cutL L kk' n) := h3.fr (F := []) (F' := []) (Fr.mk (by simp) (fun j hj _ => hget_left hj) (fun j hj => .inl hj)) (by simp) (fun j hj => by cases hj)
      refine aw_ops (by kernel_rfl) (fun K hK => ?_)
      simp (disch := first | omega | (simp only [List.length_set, List.length_append, List.length_cons, List.length_nil, iv_length, zl_length]; try omega; done)) [-getElem?_pos, -getElem?_neg]
      refine ⟨by kernel_rfl, (splice_ac hr1 hn (by rw [List.length_append]; omega) (fun j hj => by have := hX j hj; rw [List.length_append]; omega) (k := kk') (fr := m) (be := m) hk (by omega) (by omega) (by omega) (fs := [s]) (hpt _ rfl) (by simp)).mono ?_⟩
      rintro v2 H2 ⟨h2, hf2⟩
      try simp (disch := first | omega | (simp only [List.length_set, List.length_append, List.length_cons, List.length_nil, iv_length, zl_length]; try omega; done)) [-getElem?_pos, -getElem?_neg]
      refine hK _ _ ?_; clear hK K
      refine aw_seq ?_
      (refine aw_ops (by kernel_rfl) (fun K hK => ?_); simp (disch := first | omega | (simp only [List.length_set, List.length_append, List.length_cons, List.length_nil, iv_length, zl_length]; try omega; done)) [-getElem?_pos, -getElem?_neg]; refine hK _ _ ?_; clear hK K)
      (refine aw_ret ?_; simp (disch := first | omega | (simp only [List.length_set, List.length_append, List.length_cons, List.length_nil, iv_length, zl_length]; try omega; done)) [-getElem?_pos, -getElem?_neg, thenQ_ret, inBlockQ_ret, RQ, resL, resV])
      refine ⟨by simp [mvE, hm, hm2], ?_, hf3.trans (hf1.trans hf2)⟩
      have e2 : upd (cutL L kk' n) kk' = upd L kk' := by funext x; rw [cutL, upd_upd]
      rw [e2] at h2
      simp only [mvL, hm, hm2, tkS, Bool.and_true, if_true, Int.toNat_natCast, hs, Option.getD_some]
      exact h2
end
end Go.Proofs.Yteldoimjachbbaa
