/-
  The relay's functions, walked: has, Post, Mail.
-/
import Derived.Test.YteldoimjachbbaaRc
namespace Go.Proofs.Yteldoimjachbbaa
open Go Go.RowKit
set_option linter.unusedVariables false
set_option linter.unusedSimpArgs false
set_option maxRecDepth 100000
set_option maxHeartbeats 4000000

def hasB (L : Nat → List ByteArray) (to i : Int) : Bool := memB to && (decide (0 ≤ i) && decide (i < (L to.toNat).length))
theorem memB_iff {to : Int} : memB to = true ↔ 0 ≤ to ∧ to < 8 := by simp [memB]
theorem mem_nat {to : Int} (h : memB to = true) : ∃ k, k < 8 ∧ to = (k : Nat) := by
  obtain ⟨h1, h2⟩ := memB_iff.1 h
  exact ⟨to.toNat, by omega, by omega⟩
theorem memB_nat {k : Nat} (h : k < 8) : memB (k : Nat) = true := by rw [memB_iff]; omega
def LB (L : Nat → List ByteArray) : Prop := ∀ k, k < 8 → (L k).length ≤ 40
def postL (L : Nat → List ByteArray) (to : Int) (s : ByteArray) : Nat → List ByteArray := if memB to then upd L to.toNat ((L to.toNat ++ [s]).drop ((L to.toNat).length - 39)) else L
def postE (to : Int) : Int := if memB to then 0 else 1
theorem postL_b {L : Nat → List ByteArray} {to : Int} {s : ByteArray} (h : LB L) : LB (postL L to s) := by
  unfold postL
  split
  · intro k hk
    by_cases e : k = to.toNat
    · subst e
      rw [upd_self]
      simp; omega
    · rw [upd_ne _ _ e]; exact h k hk
  · exact h
theorem upd_upd {α : Type} (f : Nat → α) (k : Nat) (a b : α) : upd (upd f k a) k b = upd f k b := by
  funext j
  by_cases e : j = k
  · subst e; simp [upd_self]
  · simp [upd_ne _ _ e]
def mailL (L : Nat → List ByteArray) (to : Int) : List ByteArray := if memB to then L to.toNat else []
attribute [local simp] wb_bool wb_undef XL_nil XL_cons XLc_val XLc_call step1_eq stepW_t stepW_f stepC_n stepC_s stepX_s xop_eq xopR_s xopR_n wantedA_eq wantedG_n wantedG_s plain1_int plain1_bool plain1_string bits_i64 bits_u64 bits_u32 bits_u16 bits_u8 xeqA xarr allK_iv num_iv calleeOf xread xeff xbin xint xnil xun xstr xload xconv xpart xfield xfieldAddr xindexAddr xindex bnd asInt? xslice xlen xmin xmax xbuild xfill xappend xappmk xcap xcopy xcells eval_tmp eval_const put_at put_none fr0_at cells_agg cells_int cells_bool cells_string cells_ptr cells_slice notTuple tab iv_all hget_app hget_app0 hget_cons0 hget_cons set_app set_app0 setR setR_one QL_nil QL_cons QLc_val stepQ_t stepQ_f stepQC_n stepQC_s stepQX_s SL_nil SL_cons SLc_val stepS_t stepS_f ltT ltF leT leF eqT eqF ltTn ltFn leTn leFn eqTn eqFn beqT beqF bneT bneF wi64 wu64 wu32 wu16 wu8 tmodP tdivP hgetL hgetNe hgetEq setL nums_def nums_len Nat.succ_le_of_lt List.getElem?_cons_zero List.getElem?_cons_succ Option.getD_some Int.toNat_add Int.toNat_mul agB agI agS agP agL agA okB okI okS okP okSl okA
section
variable {H : AH} {γ : Nat → Option Nat} {nro p : Nat} {X : List Nat} {L : Nat → List ByteArray} {to i : Int} {s : ByteArray}
theorem member_mono {to : Int} : AC Try.prog nro γ 20 #[.int .i64 to] H (fun v' H' => v' = .bool (memB to) ∧ H' = H) := ac_of_vc (by simp [pv_iv, pv_int, pv_bool, pv_string, pv_tup2, pv_tup3, iv_plain, p2_int, p2_bool, p2_string]) (member_vc to) ⟨rfl, rfl⟩
theorem has_ac (h : Rl 28 X H p L) (hn : nro ≤ H.length) : AC Try.prog nro γ 23 #[.pointer (some ⟨p, 0, none⟩), .int .i64 to, .int .i64 i] H (fun v' H' => v' = .bool (hasB L to i) ∧ H' = H) := by
  obtain ⟨Ms, h⟩ := h
  have hcells := h.cells
  refine ac_of_aw Try.func23 rfl Try.ntmps23 Try.results23 (by simp) ?_
  refine aw_seq ?_
  (refine aw_ops (by kernel_rfl) (fun K hK => ?_); simp (disch := first | omega | (simp only [List.length_set, List.length_append, List.length_cons, List.length_nil, iv_length, zl_length]; try omega; done)) [-getElem?_pos, -getElem?_neg]; refine hK _ _ ?_; clear hK K)
  refine aw_seq ?_
  refine aw_ops (by kernel_rfl) (fun K hK => ?_)
  simp (disch := first | omega | (simp only [List.length_set, List.length_append, List.length_cons, List.length_nil, iv_length, zl_length]; try omega; done)) [-getElem?_pos, -getElem?_neg]
  refine ⟨by kernel_rfl, member_mono.mono ?_⟩
  rintro _ H0 ⟨rfl, e0⟩; subst H0
  cases hm : memB to with
  | false =>
    simp (disch := first | omega | (simp only [List.length_set, List.length_append, List.length_cons, List.length_nil, iv_length, zl_length]; try omega; done)) [-getElem?_pos, -getElem?_neg, hm]
    refine hK _ _ ?_; clear hK K
    (refine aw_ret ?_; simp (disch := first | omega | (simp only [List.length_set, List.length_append, List.length_cons, List.length_nil, iv_length, zl_length]; try omega; done)) [-getElem?_pos, -getElem?_neg, thenQ_ret, inBlockQ_ret, RQ, resL, resV])
    simp [hasB, hm]
  | true =>
    obtain ⟨k, hk, rfl⟩ := mem_nat hm
    have hck : ((List.range 8).map Ms)[k]? = some (Ms k) := by rw [List.getElem?_map, List.getElem?_range hk]; rfl
    obtain ⟨cs, hcs⟩ : ∃ cs, cs = (List.range 8).map Ms := ⟨_, rfl⟩
    rw [← hcs] at hck hcells
    have hln := (h.sl k hk).len (P := Try.prog) (t := 25) (e := 9) (by simp)
    have hnt := (h.sl k hk).nt
    have hcl : cs.length = 8 := by rw [hcs]; simp
    by_cases h0 : 0 ≤ i
    · simp (disch := first | omega | (simp only [List.length_set, List.length_append, List.length_cons, List.length_nil, iv_length, zl_length]; try omega; done)) [-getElem?_pos, -getElem?_neg, hm, h0, hcells, hck, -xlen, hln, hnt, hcl]
      refine hK _ _ ?_; clear hK K
      (refine aw_ret ?_; simp (disch := first | omega | (simp only [List.length_set, List.length_append, List.length_cons, List.length_nil, iv_length, zl_length]; try omega; done)) [-getElem?_pos, -getElem?_neg, thenQ_ret, inBlockQ_ret, RQ, resL, resV])
      simp [hasB, hm, h0]
    · simp (disch := first | omega | (simp only [List.length_set, List.length_append, List.length_cons, List.length_nil, iv_length, zl_length]; try omega; done)) [-getElem?_pos, -getElem?_neg, hm, h0]
      refine hK _ _ ?_; clear hK K
      (refine aw_ret ?_; simp (disch := first | omega | (simp only [List.length_set, List.length_append, List.length_cons, List.length_nil, iv_length, zl_length]; try omega; done)) [-getElem?_pos, -getElem?_neg, thenQ_ret, inBlockQ_ret, RQ, resL, resV])
      simp [hasB, hm, h0]
theorem has_nil_ac : AC Try.prog nro γ 23 #[.pointer none, .int .i64 to, .int .i64 i] H (fun v' H' => v' = .bool false ∧ H' = H) := by
  refine ac_of_aw Try.func23 rfl Try.ntmps23 Try.results23 (by simp) ?_
  refine aw_seq ?_
  (refine aw_ops (by kernel_rfl) (fun K hK => ?_); simp (disch := first | omega | (simp only [List.length_set, List.length_append, List.length_cons, List.length_nil, iv_length, zl_length]; try omega; done)) [-getElem?_pos, -getElem?_neg]; refine hK _ _ ?_; clear hK K)
  refine aw_seq ?_
  (refine aw_ops (by kernel_rfl) (fun K hK => ?_); simp (disch := first | omega | (simp only [List.length_set, List.length_append, List.length_cons, List.length_nil, iv_length, zl_length]; try omega; done)) [-getElem?_pos, -getElem?_neg]; refine hK _ _ ?_; clear hK K)
  (refine aw_ret ?_; simp (disch := first | omega | (simp only [List.length_set, List.length_append, List.length_cons, List.length_nil, iv_length, zl_length]; try omega; done)) [-getElem?_pos, -getElem?_neg, thenQ_ret, inBlockQ_ret, RQ, resL, resV])
theorem post_nil_ac : AC Try.prog nro γ 14 #[.pointer none, .int .i64 to, .string s] H (fun v' H' => v' = .int .i64 1 ∧ H' = H) := by
  refine ac_of_aw Try.func14 rfl Try.ntmps14 Try.results14 (by simp) ?_
  refine aw_seq ?_
  (refine aw_ops (by kernel_rfl) (fun K hK => ?_); simp (disch := first | omega | (simp only [List.length_set, List.length_append, List.length_cons, List.length_nil, iv_length, zl_length]; try omega; done)) [-getElem?_pos, -getElem?_neg]; refine hK _ _ ?_; clear hK K)
  refine aw_seq ?_
  refine aw_seq ?_
  (refine aw_ops (by kernel_rfl) (fun K hK => ?_); simp (disch := first | omega | (simp only [List.length_set, List.length_append, List.length_cons, List.length_nil, iv_length, zl_length]; try omega; done)) [-getElem?_pos, -getElem?_neg]; refine hK _ _ ?_; clear hK K)
  refine aw_t (by (first | (simp [eval_tmp, put_at]; done) | (simp [eval_tmp, put_at]; omega))) (by kernel_rfl) ?_
  refine aw_seq ?_
  (refine aw_ops (by kernel_rfl) (fun K hK => ?_); simp (disch := first | omega | (simp only [List.length_set, List.length_append, List.length_cons, List.length_nil, iv_length, zl_length]; try omega; done)) [-getElem?_pos, -getElem?_neg]; refine hK _ _ ?_; clear hK K)
  (refine aw_ret ?_; simp (disch := first | omega | (simp only [List.length_set, List.length_append, List.length_cons, List.length_nil, iv_length, zl_length]; try omega; done)) [-getElem?_pos, -getElem?_neg, thenQ_ret, inBlockQ_ret, RQ, resL, resV])
theorem post_ac (h : Rl 28 X H p L) (hb : LB L) (hn : nro ≤ p) (hnl : nro ≤ H.length) (hX : ∀ j ∈ X, j < H.length) :
    AC Try.prog nro γ 14 #[.pointer (some ⟨p, 0, none⟩), .int .i64 to, .string s] H (fun v' H' => v' = .int .i64 (postE to) ∧ Rl 28 X H' p (postL L to s) ∧ Fr H H' [p] [p]) := by
  refine ac_of_aw Try.func14 rfl Try.ntmps14 Try.results14 (by simp) ?_
  refine aw_seq ?_
  (refine aw_ops (by kernel_rfl) (fun K hK => ?_); simp (disch := first | omega | (simp only [List.length_set, List.length_append, List.length_cons, List.length_nil, iv_length, zl_length]; try omega; done)) [-getElem?_pos, -getElem?_neg]; refine hK _ _ ?_; clear hK K)
  refine aw_seq ?_
  refine aw_seq ?_
  refine aw_ops (by kernel_rfl) (fun K hK => ?_)
  simp (disch := first | omega | (simp only [List.length_set, List.length_append, List.length_cons, List.length_nil, iv_length, zl_length]; try omega; done)) [-getElem?_pos, -getElem?_neg]
  refine ⟨by kernel_rfl, member_mono.mono ?_⟩
  rintro _ H0 ⟨rfl, e0⟩; subst H0
  cases hm : memB to with
  | false =>
    simp (disch := first | omega | (simp only [List.length_set, List.length_append, List.length_cons, List.length_nil, iv_length, zl_length]; try omega; done)) [-getElem?_pos, -getElem?_neg, hm]
    refine hK _ _ ?_; clear hK K
    refine aw_t (by (first | (simp [eval_tmp, put_at, hm]; done) | (simp [eval_tmp, put_at, hm]; omega))) (by kernel_rfl) ?_
    refine aw_seq ?_
    (refine aw_ops (by kernel_rfl) (fun K hK => ?_); simp (disch := first | omega | (simp only [List.length_set, List.length_append, List.length_cons, List.length_nil, iv_length, zl_length]; try omega; done)) [-getElem?_pos, -getElem?_neg]; refine hK _ _ ?_; clear hK K)
    (refine aw_ret ?_; simp (disch := first | omega | (simp only [List.length_set, List.length_append, List.length_cons, List.length_nil, iv_length, zl_length]; try omega; done)) [-getElem?_pos, -getElem?_neg, thenQ_ret, inBlockQ_ret, RQ, resL, resV])
    simp only [postL, postE, hm]
    exact ⟨rfl, h, .refl _ _⟩
  | true =>
    obtain ⟨k, hk, rfl⟩ := mem_nat hm
    have h' := h
    obtain ⟨Ms, h⟩ := h
    have hcells := h.cells
    have hpl := hget_lt hcells
    have hck : ((List.range 8).map Ms)[k]? = some (Ms k) := by rw [List.getElem?_map, List.getElem?_range hk]; rfl
    obtain ⟨cs, hcs⟩ : ∃ cs, cs = (List.range 8).map Ms := ⟨_, rfl⟩
    rw [← hcs] at hck hcells
    have hln := (h.sl k hk).len (P := Try.prog) (t := 25) (e := 9) (by simp)
    have hnt := (h.sl k hk).nt
    have hcl : cs.length = 8 := by rw [hcs]; simp
    have hlk := hb k hk
    obtain ⟨n, hnn⟩ : ∃ n, n = (L k).length := ⟨_, rfl⟩
    rw [← hnn] at hln hlk
    simp (disch := first | omega | (simp only [List.length_set, List.length_append, List.length_cons, List.length_nil, iv_length, zl_length]; try omega; done)) [-getElem?_pos, -getElem?_neg, hm]
    refine hK _ _ ?_; clear hK K
    refine aw_f (by (first | (simp [eval_tmp, put_at, hm]; done) | (simp [eval_tmp, put_at, hm]; omega))) (by kernel_rfl) ?_
    refine aw_skip ?_
    refine aw_seq ?_
    (refine aw_ops (by kernel_rfl) (fun K hK => ?_); simp (disch := first | omega | (simp only [List.length_set, List.length_append, List.length_cons, List.length_nil, iv_length, zl_length]; try omega; done)) [-getElem?_pos, -getElem?_neg, hcells, hck, -xlen, hln, hnt, hcl]; refine hK _ _ ?_; clear hK K)
    refine aw_seq ?_
    have hpt : ∀ G1 : AH, G1 = H ++ [some ⟨[.string s], 9, some 1⟩] → Part G1 G1.length (.slice (some ⟨H.length, 0, none⟩) 1 1) (ss [s]) := by
      rintro G1 rfl
      refine ⟨⟨_, _, rfl⟩, fun G hG => ?_⟩
      have hg : hget G H.length = _ := (hG H.length (by rw [List.length_append]; exact Nat.lt_succ_self _)).trans (by rw [hget_app0])
      simp [xcells, hg, ss]
    have hf1 : Fr H (H ++ [some ⟨[.string s], 9, some 1⟩]) [p] [p] := Fr.mk (by simp) (fun j hj _ => hget_left hj) (fun j hj => .inl hj)
    have hr1 : Rl 28 X (H ++ [some ⟨[.string s], 9, some 1⟩]) p L := h'.fr (F := []) (F' := []) (Fr.mk (by simp) (fun j hj _ => hget_left hj) (fun j hj => .inl hj)) (by simp) (fun j hj => by cases hj)
    refine aw_ops (by kernel_rfl) (fun K hK => ?_)
    simp (disch := first | omega | (simp only [List.length_set, List.length_append, List.length_cons, List.length_nil, iv_length, zl_length]; try omega; done)) [-getElem?_pos, -getElem?_neg]
    refine ⟨by kernel_rfl, (splice_ac hr1 hn (by rw [List.length_append]; omega) (fun j hj => by have := hX j hj; rw [List.length_append]; omega) (k := k) (fr := n) (be := n) hk (by omega) (by omega) (by omega) (fs := [s]) (hpt _ rfl) (by simp)).mono ?_⟩
    rintro v2 H2 ⟨h2, hf2⟩
    try simp (disch := first | omega | (simp only [List.length_set, List.length_append, List.length_cons, List.length_nil, iv_length, zl_length]; try omega; done)) [-getElem?_pos, -getElem?_neg]
    refine hK _ _ ?_; clear hK K
    refine aw_seq ?_
    have hL1 : upd L k ((L k).take n ++ [s] ++ (L k).drop n) k = L k ++ [s] := by rw [upd_self, hnn]; simp
    have hp2 : Part H2 H2.length (.slice none 0 0) (ss []) := ⟨⟨_, _, rfl⟩, fun G hG => rfl⟩
    have hm2 : (if (n : Int) + 1 - 40 < 0 then (0 : Int) else (n : Int) + 1 - 40) = ((n - 39 : Nat) : Int) := by split <;> omega
    refine aw_ops (by kernel_rfl) (fun K hK => ?_)
    simp (disch := first | omega | (simp only [List.length_set, List.length_append, List.length_cons, List.length_nil, iv_length, zl_length]; try omega; done)) [-getElem?_pos, -getElem?_neg, hm2]
    refine ⟨by kernel_rfl, ?_⟩
    refine AC.mono (splice_ac h2 hn (by have := hf1.len; have := hf2.len; omega) (fun j hj => by have := hX j hj; have := hf1.len; have := hf2.len; omega) (k := k) (fr := 0) (be := n - 39) hk (by omega) (by rw [hL1]; simp; omega) (by rw [hL1]; simp; omega) hp2 (by simp)) ?_
    rintro v3 H3 ⟨h3, hf3⟩
    try simp (disch := first | omega | (simp only [List.length_set, List.length_append, List.length_cons, List.length_nil, iv_length, zl_length]; try omega; done)) [-getElem?_pos, -getElem?_neg]
    refine hK _ _ ?_; clear hK K
    refine aw_seq ?_
    (refine aw_ops (by kernel_rfl) (fun K hK => ?_); simp (disch := first | omega | (simp only [List.length_set, List.length_append, List.length_cons, List.length_nil, iv_length, zl_length]; try omega; done)) [-getElem?_pos, -getElem?_neg]; refine hK _ _ ?_; clear hK K)
    (refine aw_ret ?_; simp (disch := first | omega | (simp only [List.length_set, List.length_append, List.length_cons, List.length_nil, iv_length, zl_length]; try omega; done)) [-getElem?_pos, -getElem?_neg, thenQ_ret, inBlockQ_ret, RQ, resL, resV])
    refine ⟨by simp [postE, hm], ?_, hf1.trans (hf2.trans hf3)⟩
    refine h3.congr (fun k' hk' => ?_)
    rw [upd_upd, hL1, postL, hm, hnn]
    simp
theorem mail_fix (h : Rl 28 X H p L) (hb : LB L) (hnl : nro ≤ H.length) :
    ∃ v0, AC Try.prog nro γ 12 #[.pointer (some ⟨p, 0, none⟩), .int .i64 to] H (fun v' H' => v' = v0 ∧ Part H' H'.length v' (ss (mailL L to)) ∧ H.length ≤ H'.length ∧ ∀ j, j < H.length → hget H' j = hget H j) := by
  cases hm : memB to with
  | false =>
    refine ⟨.slice none 0 0, ?_⟩
    refine ac_of_aw Try.func12 rfl Try.ntmps12 Try.results12 (by simp) ?_
    refine aw_seq ?_
    (refine aw_ops (by kernel_rfl) (fun K hK => ?_); simp (disch := first | omega | (simp only [List.length_set, List.length_append, List.length_cons, List.length_nil, iv_length, zl_length]; try omega; done)) [-getElem?_pos, -getElem?_neg]; refine hK _ _ ?_; clear hK K)
    refine aw_seq ?_
    refine aw_seq ?_
    refine aw_ops (by kernel_rfl) (fun K hK => ?_)
    simp (disch := first | omega | (simp only [List.length_set, List.length_append, List.length_cons, List.length_nil, iv_length, zl_length]; try omega; done)) [-getElem?_pos, -getElem?_neg]
    refine ⟨by kernel_rfl, member_mono.mono ?_⟩
    rintro _ H0 ⟨rfl, e0⟩; subst H0
    simp (disch := first | omega | (simp only [List.length_set, List.length_append, List.length_cons, List.length_nil, iv_length, zl_length]; try omega; done)) [-getElem?_pos, -getElem?_neg, hm]
    refine hK _ _ ?_; clear hK K
    refine aw_t (by (first | (simp [eval_tmp, put_at, hm]; done) | (simp [eval_tmp, put_at, hm]; omega))) (by kernel_rfl) ?_
    refine aw_seq ?_
    (refine aw_ops (by kernel_rfl) (fun K hK => ?_); simp (disch := first | omega | (simp only [List.length_set, List.length_append, List.length_cons, List.length_nil, iv_length, zl_length]; try omega; done)) [-getElem?_pos, -getElem?_neg]; refine hK _ _ ?_; clear hK K)
    (refine aw_ret ?_; simp (disch := first | omega | (simp only [List.length_set, List.length_append, List.length_cons, List.length_nil, iv_length, zl_length]; try omega; done)) [-getElem?_pos, -getElem?_neg, thenQ_ret, inBlockQ_ret, RQ, resL, resV])
    simp only [mailL, hm]
    exact ⟨⟨_, _, rfl⟩, fun G hG => rfl⟩
  | true =>
    obtain ⟨k, hk, rfl⟩ := mem_nat hm
    obtain ⟨Ms, h⟩ := h
    have hcells := h.cells
    have hck : ((List.range 8).map Ms)[k]? = some (Ms k) := by rw [List.getElem?_map, List.getElem?_range hk]; rfl
    obtain ⟨cs, hcs⟩ : ∃ cs, cs = (List.range 8).map Ms := ⟨_, rfl⟩
    rw [← hcs] at hck hcells
    have hnt := (h.sl k hk).nt
    have hcl : cs.length = 8 := by rw [hcs]; simp
    have hlk := hb k hk
    obtain ⟨v0, hcl0⟩ := clone_fix (γ := γ) (h.sl k hk).part (by rw [ss_len]; omega) hnl
    refine ⟨v0, ?_⟩
    refine ac_of_aw Try.func12 rfl Try.ntmps12 Try.results12 (by simp) ?_
    refine aw_seq ?_
    (refine aw_ops (by kernel_rfl) (fun K hK => ?_); simp (disch := first | omega | (simp only [List.length_set, List.length_append, List.length_cons, List.length_nil, iv_length, zl_length]; try omega; done)) [-getElem?_pos, -getElem?_neg]; refine hK _ _ ?_; clear hK K)
    refine aw_seq ?_
    refine aw_seq ?_
    refine aw_ops (by kernel_rfl) (fun K hK => ?_)
    simp (disch := first | omega | (simp only [List.length_set, List.length_append, List.length_cons, List.length_nil, iv_length, zl_length]; try omega; done)) [-getElem?_pos, -getElem?_neg]
    refine ⟨by kernel_rfl, member_mono.mono ?_⟩
    rintro _ H0 ⟨rfl, e0⟩; subst H0
    simp (disch := first | omega | (simp only [List.length_set, List.length_append, List.length_cons, List.length_nil, iv_length, zl_length]; try omega; done)) [-getElem?_pos, -getElem?_neg, hm]
    refine hK _ _ ?_; clear hK K
    refine aw_f (by (first | (simp [eval_tmp, put_at, hm]; done) | (simp [eval_tmp, put_at, hm]; omega))) (by kernel_rfl) ?_
    refine aw_skip ?_
    refine aw_seq ?_
    refine aw_ops (by kernel_rfl) (fun K hK => ?_)
    simp (disch := first | omega | (simp only [List.length_set, List.length_append, List.length_cons, List.length_nil, iv_length, zl_length]; try omega; done)) [-getElem?_pos, -getElem?_neg, hcells, hck, hnt, hcl]
    refine ⟨by kernel_rfl, hcl0.mono ?_⟩
    rintro v2 H2 ⟨e2, h2, hl2, hk2⟩
    have hnt2 := h2.nt
    try simp (disch := first | omega | (simp only [List.length_set, List.length_append, List.length_cons, List.length_nil, iv_length, zl_length]; try omega; done)) [-getElem?_pos, -getElem?_neg]
    refine hK _ _ ?_; clear hK K
    (refine aw_ret ?_; simp (disch := first | omega | (simp only [List.length_set, List.length_append, List.length_cons, List.length_nil, iv_length, zl_length]; try omega; done)) [-getElem?_pos, -getElem?_neg, thenQ_ret, inBlockQ_ret, RQ, resL, resV])
    refine ⟨e2, ?_, hk2⟩
    simp only [mailL, hm]
    exact h2
theorem mail_ac (h : Rl 28 X H p L) (hb : LB L) (hnl : nro ≤ H.length) :
    AC Try.prog nro γ 12 #[.pointer (some ⟨p, 0, none⟩), .int .i64 to] H (fun v' H' => Part H' H'.length v' (ss (mailL L to)) ∧ H.length ≤ H'.length ∧ ∀ j, j < H.length → hget H' j = hget H j) := by
  obtain ⟨v0, h⟩ := mail_fix (γ := γ) (to := to) h hb hnl
  exact h.mono fun _ _ h => h.2
theorem mail_nil_ac : AC Try.prog nro γ 12 #[.pointer none, .int .i64 to] H (fun v' H' => v' = .slice none 0 0 ∧ H' = H) := by
  refine ac_of_aw Try.func12 rfl Try.ntmps12 Try.results12 (by simp) ?_
  refine aw_seq ?_
  (refine aw_ops (by kernel_rfl) (fun K hK => ?_); simp (disch := first | omega | (simp only [List.length_set, List.length_append, List.length_cons, List.length_nil, iv_length, zl_length]; try omega; done)) [-getElem?_pos, -getElem?_neg]; refine hK _ _ ?_; clear hK K)
  refine aw_seq ?_
  refine aw_seq ?_
  (refine aw_ops (by kernel_rfl) (fun K hK => ?_); simp (disch := first | omega | (simp only [List.length_set, List.length_append, List.length_cons, List.length_nil, iv_length, zl_length]; try omega; done)) [-getElem?_pos, -getElem?_neg]; refine hK _ _ ?_; clear hK K)
  refine aw_t (by (first | (simp [eval_tmp, put_at]; done) | (simp [eval_tmp, put_at]; omega))) (by kernel_rfl) ?_
  refine aw_seq ?_
  (refine aw_ops (by kernel_rfl) (fun K hK => ?_); simp (disch := first | omega | (simp only [List.length_set, List.length_append, List.length_cons, List.length_nil, iv_length, zl_length]; try omega; done)) [-getElem?_pos, -getElem?_neg]; refine hK _ _ ?_; clear hK K)
  (refine aw_ret ?_; simp (disch := first | omega | (simp only [List.length_set, List.length_append, List.length_cons, List.length_nil, iv_length, zl_length]; try omega; done)) [-getElem?_pos, -getElem?_neg, thenQ_ret, inBlockQ_ret, RQ, resL, resV])
end
end Go.Proofs.Yteldoimjachbbaa
