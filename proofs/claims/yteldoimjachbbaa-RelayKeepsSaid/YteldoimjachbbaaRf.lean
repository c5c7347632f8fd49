/-
  The reference's relay: has, Post, Take.
-/
import Derived.Test.YteldoimjachbbaaRe
namespace Go.Proofs.Yteldoimjachbbaa
open Go Go.RowKit
set_option linter.unusedVariables false
set_option linter.unusedSimpArgs false
set_option maxRecDepth 100000
set_option maxHeartbeats 4000000

theorem OwnL.one {lo : Nat} {H : AH} {v : Value} {cells : List Value} (h : OwnL lo H v cells) : v.cells = #[v] := by
  rcases h with ⟨rfl, _⟩ | ⟨j, cs, _, rfl, _⟩ <;> rfl
theorem OwnL.ml1 {X : List Nat} {lo q n : Nat} {H : AH} {l : List ByteArray} (h : OwnL lo H (.slice (some ⟨q, 0, none⟩) (n + 1) (n + 1)) (ss l)) (hn : l.length = n + 1) (hX : ∀ j ∈ X, j < lo) : MlV X H (.slice (some ⟨q, 1, none⟩) n n) (l.drop 1) := by
  rcases h with ⟨h, _⟩ | ⟨j, cs, h1, h2, h3, h4⟩
  · cases h
  · have hpl := h4.length_le
    rw [ss_len] at hpl
    obtain rfl : q = j := by injection h2 with a; injection a with a; injection a
    refine .inr ⟨_, 1, _, by simp [hn], fun hm => by have := hX _ hm; omega, h3, ?_, by simp; omega⟩
    obtain ⟨r, hr⟩ := h4
    have e : (List.drop 1 cs) = ss (l.drop 1) ++ r := by
      rw [← hr, List.drop_append_of_le_length (by rw [ss_len]; omega)]
      simp [ss, List.map_drop]
    show (List.drop 1 cs).take _ = _
    rw [e, ← ss_len (l.drop 1), List.take_left]
attribute [local simp] wb_bool wb_undef XL_nil XL_cons XLc_val XLc_call step1_eq stepW_t stepW_f stepC_n stepC_s stepX_s xop_eq xopR_s xopR_n wantedA_eq wantedG_n wantedG_s plain1_int plain1_bool plain1_string bits_i64 bits_u64 bits_u32 bits_u16 bits_u8 xeqA xarr allK_iv num_iv calleeOf xread xeff xbin xint xnil xun xstr xload xconv xpart xfield xfieldAddr xindexAddr xindex bnd asInt? xslice xlen xmin xmax xbuild xfill xappend xappmk xcap xcopy xcells eval_tmp eval_const put_at put_none fr0_at cells_agg cells_int cells_bool cells_string cells_ptr cells_slice notTuple tab iv_all hget_app hget_app0 hget_cons0 hget_cons set_app set_app0 setR setR_one QL_nil QL_cons QLc_val stepQ_t stepQ_f stepQC_n stepQC_s stepQX_s SL_nil SL_cons SLc_val stepS_t stepS_f ltT ltF leT leF eqT eqF ltTn ltFn leTn leFn eqTn eqFn beqT beqF bneT bneF wi64 wu64 wu32 wu16 wu8 tmodP tdivP hgetL hgetNe hgetEq setL nums_def nums_len Nat.succ_le_of_lt List.getElem?_cons_zero List.getElem?_cons_succ Option.getD_some Int.toNat_add Int.toNat_mul agB agI agS agP agL agA okB okI okS okP okSl okA
section
variable {H : AH} {γ : Nat → Option Nat} {nro p : Nat} {X : List Nat} {L : Nat → List ByteArray} {to i k : Int} {s : ByteArray}
theorem rhas_ac (h : Rl 31 X H p L) (hn : nro ≤ H.length) : AC Try.prog nro γ 19 #[.pointer (some ⟨p, 0, none⟩), .int .i64 to, .int .i64 i] H (fun v' H' => v' = .bool (hasB L to i) ∧ H' = H) := by
  obtain ⟨Ms, h⟩ := h
  have hcells := h.cells
  refine ac_of_aw Try.func19 rfl Try.ntmps19 Try.results19 (by simp) ?_
  refine aw_seq ?_
  (refine aw_ops (by kernel_rfl) (fun K hK => ?_); simp (disch := first | omega | (simp only [List.length_set, List.length_append, List.length_cons, List.length_nil, iv_length, zl_length]; try omega; done)) [-getElem?_pos, -getElem?_neg]; refine hK _ _ ?_; clear hK K)
  refine aw_seq ?_
  by_cases hm1 : 0 ≤ to
  · by_cases hm2 : to < 8
    · have hm : memB to = true := memB_iff.2 ⟨hm1, hm2⟩
      obtain ⟨k, hk, rfl⟩ := mem_nat hm
      have hck : ((List.range 8).map Ms)[k]? = some (Ms k) := by rw [List.getElem?_map, List.getElem?_range hk]; rfl
      obtain ⟨cs, hcs⟩ : ∃ cs, cs = (List.range 8).map Ms := ⟨_, rfl⟩
      rw [← hcs] at hck hcells
      have hln := (h.sl k hk).len (P := Try.prog) (t := 25) (e := 9) (by simp)
      have hnt := (h.sl k hk).nt
      have hcl : cs.length = 8 := by rw [hcs]; simp
      by_cases h0 : 0 ≤ i
      · (refine aw_ops (by kernel_rfl) (fun K hK => ?_); simp (disch := first | omega | (simp only [List.length_set, List.length_append, List.length_cons, List.length_nil, iv_length, zl_length]; try omega; done)) [-getElem?_pos, -getElem?_neg, hk, h0, hcells, hck, -xlen, hln, hnt, hcl]; refine hK _ _ ?_; clear hK K)
        (refine aw_ret ?_; simp (disch := first | omega | (simp only [List.length_set, List.length_append, List.length_cons, List.length_nil, iv_length, zl_length]; try omega; done)) [-getElem?_pos, -getElem?_neg, thenQ_ret, inBlockQ_ret, RQ, resL, resV])
        simp [hasB, hm, h0]
      · (refine aw_ops (by kernel_rfl) (fun K hK => ?_); simp (disch := first | omega | (simp only [List.length_set, List.length_append, List.length_cons, List.length_nil, iv_length, zl_length]; try omega; done)) [-getElem?_pos, -getElem?_neg, hk, h0]; refine hK _ _ ?_; clear hK K)
        (refine aw_ret ?_; simp (disch := first | omega | (simp only [List.length_set, List.length_append, List.length_cons, List.length_nil, iv_length, zl_length]; try omega; done)) [-getElem?_pos, -getElem?_neg, thenQ_ret, inBlockQ_ret, RQ, resL, resV])
        simp [hasB, hm, h0]
    · (refine aw_ops (by kernel_rfl) (fun K hK => ?_); simp (disch := first | omega | (simp only [List.length_set, List.length_append, List.length_cons, List.length_nil, iv_length, zl_length]; try omega; done)) [-getElem?_pos, -getElem?_neg, hm1, hm2]; refine hK _ _ ?_; clear hK K)
      (refine aw_ret ?_; simp (disch := first | omega | (simp only [List.length_set, List.length_append, List.length_cons, List.length_nil, iv_length, zl_length]; try omega; done)) [-getElem?_pos, -getElem?_neg, thenQ_ret, inBlockQ_ret, RQ, resL, resV])
      simp [hasB, memB, hm2]
  · (refine aw_ops (by kernel_rfl) (fun K hK => ?_); simp (disch := first | omega | (simp only [List.length_set, List.length_append, List.length_cons, List.length_nil, iv_length, zl_length]; try omega; done)) [-getElem?_pos, -getElem?_neg, hm1]; refine hK _ _ ?_; clear hK K)
    (refine aw_ret ?_; simp (disch := first | omega | (simp only [List.length_set, List.length_append, List.length_cons, List.length_nil, iv_length, zl_length]; try omega; done)) [-getElem?_pos, -getElem?_neg, thenQ_ret, inBlockQ_ret, RQ, resL, resV])
    simp [hasB, memB, hm1]
theorem rpost_ac (h : Rl 31 X H p L) (hb : LB L) (hn : nro ≤ p) (hnl : nro ≤ H.length) (hX : ∀ j ∈ X, j < H.length) :
    AC Try.prog nro γ 8 #[.pointer (some ⟨p, 0, none⟩), .int .i64 to, .string s] H (fun v' H' => v' = .int .i64 (postE to) ∧ Rl 31 X H' p (postL L to s) ∧ Fr H H' [p] [p]) := by
  refine ac_of_aw Try.func8 rfl Try.ntmps8 Try.results8 (by simp) ?_
  refine aw_seq ?_
  (refine aw_ops (by kernel_rfl) (fun K hK => ?_); simp (disch := first | omega | (simp only [List.length_set, List.length_append, List.length_cons, List.length_nil, iv_length, zl_length]; try omega; done)) [-getElem?_pos, -getElem?_neg]; refine hK _ _ ?_; clear hK K)
  refine aw_seq ?_
  refine aw_seq ?_
  cases hm : memB to with
  | false =>
    have hm' : ¬ (0 ≤ to ∧ to < 8) := fun h => by rw [memB_iff.2 h] at hm; cases hm
    by_cases h0 : 0 ≤ to
    · have h8 : ¬ to < 8 := fun h => hm' ⟨h0, h⟩
      (refine aw_ops (by kernel_rfl) (fun K hK => ?_); simp (disch := first | omega | (simp only [List.length_set, List.length_append, List.length_cons, List.length_nil, iv_length, zl_length]; try omega; done)) [-getElem?_pos, -getElem?_neg, h0, h8]; refine hK _ _ ?_; clear hK K)
      refine aw_t (by (first | (simp [eval_tmp, put_at, h0, h8]; done) | (simp [eval_tmp, put_at, h0, h8]; omega))) (by kernel_rfl) ?_
      refine aw_seq ?_
      (refine aw_ops (by kernel_rfl) (fun K hK => ?_); simp (disch := first | omega | (simp only [List.length_set, List.length_append, List.length_cons, List.length_nil, iv_length, zl_length]; try omega; done)) [-getElem?_pos, -getElem?_neg]; refine hK _ _ ?_; clear hK K)
      (refine aw_ret ?_; simp (disch := first | omega | (simp only [List.length_set, List.length_append, List.length_cons, List.length_nil, iv_length, zl_length]; try omega; done)) [-getElem?_pos, -getElem?_neg, thenQ_ret, inBlockQ_ret, RQ, resL, resV])
      simp only [postL, postE, hm]
      exact ⟨rfl, h, .refl _ _⟩
    · (refine aw_ops (by kernel_rfl) (fun K hK => ?_); simp (disch := first | omega | (simp only [List.length_set, List.length_append, List.length_cons, List.length_nil, iv_length, zl_length]; try omega; done)) [-getElem?_pos, -getElem?_neg, h0]; refine hK _ _ ?_; clear hK K)
      refine aw_t (by (first | (simp [eval_tmp, put_at, h0]; done) | (simp [eval_tmp, put_at, h0]; omega))) (by kernel_rfl) ?_
      refine aw_seq ?_
      (refine aw_ops (by kernel_rfl) (fun K hK => ?_); simp (disch := first | omega | (simp only [List.length_set, List.length_append, List.length_cons, List.length_nil, iv_length, zl_length]; try omega; done)) [-getElem?_pos, -getElem?_neg]; refine hK _ _ ?_; clear hK K)
      (refine aw_ret ?_; simp (disch := first | omega | (simp only [List.length_set, List.length_append, List.length_cons, List.length_nil, iv_length, zl_length]; try omega; done)) [-getElem?_pos, -getElem?_neg, thenQ_ret, inBlockQ_ret, RQ, resL, resV])
      simp only [postL, postE, hm]
      exact ⟨rfl, h, .refl _ _⟩
  | true =>
    obtain ⟨k, hk, rfl⟩ := mem_nat hm
    obtain ⟨Ms, h⟩ := h
    have hcells := h.cells
    have hpl := hget_lt hcells
    have hck : ((List.range 8).map Ms)[k]? = some (Ms k) := by rw [List.getElem?_map, List.getElem?_range hk]; rfl
    have hset := fun v => range8_set Ms k v
    obtain ⟨cs, hcs⟩ : ∃ cs, cs = (List.range 8).map Ms := ⟨_, rfl⟩
    rw [← hcs] at hck hcells hset
    have hnt := (h.sl k hk).nt
    have hcl : cs.length = 8 := by rw [hcs]; simp
    have hlk := hb k hk
    obtain ⟨v1, G1, hap1, ho1, hl1, hk1, _⟩ := ownL_append (P := Try.prog) (nro := nro) (t := 25) (lo := H.length) (H := H) (v := .slice none 0 0) (cells := []) (by simp) (by simp) (by simp) (by simp) (.inl ⟨rfl, rfl⟩) hnl (Nat.le_refl _) (h.sl k hk).part.ns ((h.sl k hk).part.2 H (fun _ _ => rfl)) (by simp; omega)
    have hn1 := ho1.nt
    obtain ⟨blk, hblk⟩ : ∃ blk, blk = (some ⟨[.string s], 9, some 1⟩ : Option Blk) := ⟨_, rfl⟩
    have ho2 : OwnL H.length (G1 ++ [blk]) v1 ([] ++ ss (L k)) := ho1.low (fun j _ hj => hget_left hj)
    obtain ⟨v3, G3, hap3, ho3, hl3, hk3, hd3⟩ := ownL_append (P := Try.prog) (nro := nro) (t := 25) (x := .slice (some ⟨G1.length, 0, none⟩) 1 1) (news := [.string s]) (by simp) (by simp) (by simp) (by simp) ho2 hnl (by rw [List.length_append]; omega) (fun s e => by cases e) (by rw [hblk]; simp [xcells, hget_app0]) (by simp; omega)
    have hn3 := ho3.nt
    have hk4 : ∀ j, j < H.length → hget G3 j = hget H j := fun j hj => (hk3 j hj).trans ((hget_left (by omega)).trans (hk1 j hj))
    have hl4 : H.length ≤ G3.length := by rw [List.length_append] at hl3; omega
    have hgp : hget G3 p = _ := (hk4 p hpl).trans hcells
    rw [hblk] at hap3
    obtain ⟨n, hnn⟩ : ∃ n, n = (L k).length := ⟨_, rfl⟩
    rcases hd3 with ⟨_, h0, _⟩ | ⟨_, hv3, hg3⟩
    · cases h0
    have hv3' : v3 = .slice (some ⟨(G1 ++ [blk]).length, 0, none⟩) (n + 1) (n + 1) := by rw [hv3]; simp [hnn]
    clear hv3
    obtain ⟨q, hq⟩ : ∃ q, q = (G1 ++ [blk]).length := ⟨_, rfl⟩
    rw [← hq] at hv3'
    subst hv3'
    rw [← hnn] at hlk
    (refine aw_ops (by kernel_rfl) (fun K hK => ?_); simp (disch := first | omega | (simp only [List.length_set, List.length_append, List.length_cons, List.length_nil, iv_length, zl_length]; try omega; done)) [-getElem?_pos, -getElem?_neg, hk]; refine hK _ _ ?_; clear hK K)
    refine aw_f (by (first | (simp [eval_tmp, put_at, hk]; done) | (simp [eval_tmp, put_at, hk]; omega))) (by kernel_rfl) ?_
    refine aw_skip ?_
    refine aw_seq ?_
    (refine aw_ops (by kernel_rfl) (fun K hK => ?_); simp (disch := first | omega | (simp only [List.length_set, List.length_append, List.length_cons, List.length_nil, iv_length, zl_length]; try omega; done)) [-getElem?_pos, -getElem?_neg]; refine hK _ _ ?_; clear hK K)
    refine aw_seq ?_
    (refine aw_ops (by kernel_rfl) (fun K hK => ?_); simp (disch := first | omega | (simp only [List.length_set, List.length_append, List.length_cons, List.length_nil, iv_length, zl_length]; try omega; done)) [-getElem?_pos, -getElem?_neg, hcells, hck, hcl, hnt, -xappend, hap1]; refine hK _ _ ?_; clear hK K)
    refine aw_seq ?_
    (refine aw_ops (by kernel_rfl) (fun K hK => ?_); simp (disch := first | omega | (simp only [List.length_set, List.length_append, List.length_cons, List.length_nil, iv_length, zl_length]; try omega; done)) [-getElem?_pos, -getElem?_neg, -xappend, hap3]; refine hK _ _ ?_; clear hK K)
    refine aw_seq ?_
    refine aw_seq ?_
    by_cases hlong : 40 < n + 1
    · (refine aw_ops (by kernel_rfl) (fun K hK => ?_); simp (disch := first | omega | (simp only [List.length_set, List.length_append, List.length_cons, List.length_nil, iv_length, zl_length]; try omega; done)) [-getElem?_pos, -getElem?_neg, hlong]; refine hK _ _ ?_; clear hK K)
      refine aw_t (by (first | (simp [eval_tmp, put_at, hlong]; done) | (simp [eval_tmp, put_at, hlong]; omega))) (by kernel_rfl) ?_
      (refine aw_ops (by kernel_rfl) (fun K hK => ?_); simp (disch := first | omega | (simp only [List.length_set, List.length_append, List.length_cons, List.length_nil, iv_length, zl_length]; try omega; done)) [-getElem?_pos, -getElem?_neg, hlong]; refine hK _ _ ?_; clear hK K)
      refine aw_seq ?_
      (refine aw_ops (by kernel_rfl) (fun K hK => ?_); simp (disch := first | omega | (simp only [List.length_set, List.length_append, List.length_cons, List.length_nil, iv_length, zl_length]; try omega; done)) [-getElem?_pos, -getElem?_neg, hgp, hcl]; refine hK _ _ ?_; clear hK K)
      refine aw_seq ?_
      (refine aw_ops (by kernel_rfl) (fun K hK => ?_); simp (disch := first | omega | (simp only [List.length_set, List.length_append, List.length_cons, List.length_nil, iv_length, zl_length]; try omega; done)) [-getElem?_pos, -getElem?_neg]; refine hK _ _ ?_; clear hK K)
      (refine aw_ret ?_; simp (disch := first | omega | (simp only [List.length_set, List.length_append, List.length_cons, List.length_nil, iv_length, zl_length]; try omega; done)) [-getElem?_pos, -getElem?_neg, thenQ_ret, inBlockQ_ret, RQ, resL, resV])
      have hput := h.put (G := G3) hl4 hk4 hk (v := .slice (some ⟨q, 1, none⟩) n n) (l := (L k ++ [s]).drop 1) (OwnL.ml1 (by simpa [ss] using ho3) (by simp; omega) hX)
      rw [← hset] at hput
      refine ⟨by simp [postE, hm], ?_, hput.2⟩
      have e : postL L (k : Nat) s = upd L k ((L k ++ [s]).drop 1) := by
        simp only [postL, hm, if_true, Int.toNat_natCast]
        rw [show (L k).length - 39 = 1 by omega]
      rw [e]
      exact hput.1
    · (refine aw_ops (by kernel_rfl) (fun K hK => ?_); simp (disch := first | omega | (simp only [List.length_set, List.length_append, List.length_cons, List.length_nil, iv_length, zl_length]; try omega; done)) [-getElem?_pos, -getElem?_neg, hlong]; refine hK _ _ ?_; clear hK K)
      refine aw_f (by (first | (simp [eval_tmp, put_at, hlong]; done) | (simp [eval_tmp, put_at, hlong]; omega))) (by kernel_rfl) ?_
      refine aw_skip ?_
      refine aw_seq ?_
      (refine aw_ops (by kernel_rfl) (fun K hK => ?_); simp (disch := first | omega | (simp only [List.length_set, List.length_append, List.length_cons, List.length_nil, iv_length, zl_length]; try omega; done)) [-getElem?_pos, -getElem?_neg, hgp, hcl]; refine hK _ _ ?_; clear hK K)
      refine aw_seq ?_
      (refine aw_ops (by kernel_rfl) (fun K hK => ?_); simp (disch := first | omega | (simp only [List.length_set, List.length_append, List.length_cons, List.length_nil, iv_length, zl_length]; try omega; done)) [-getElem?_pos, -getElem?_neg]; refine hK _ _ ?_; clear hK K)
      (refine aw_ret ?_; simp (disch := first | omega | (simp only [List.length_set, List.length_append, List.length_cons, List.length_nil, iv_length, zl_length]; try omega; done)) [-getElem?_pos, -getElem?_neg, thenQ_ret, inBlockQ_ret, RQ, resL, resV])
      have hput := h.put (G := G3) hl4 hk4 hk (v := .slice (some ⟨q, 0, none⟩) (n + 1) (n + 1)) (l := L k ++ [s]) (OwnL.ml (by simpa [ss] using ho3) hX)
      rw [← hset] at hput
      refine ⟨by simp [postE, hm], ?_, hput.2⟩
      have e : postL L (k : Nat) s = upd L k (L k ++ [s]) := by
        simp only [postL, hm, if_true, Int.toNat_natCast]
        rw [show (L k).length - 39 = 0 by omega]; rfl
      rw [e]
      exact hput.1
theorem rtake_ac (h : Rl 31 X H p L) (hb : LB L) (hn : nro ≤ p) (hnl : nro ≤ H.length) (hX : ∀ j ∈ X, j < H.length) :
    AC Try.prog nro γ 9 #[.pointer (some ⟨p, 0, none⟩), .int .i64 to, .int .i64 i] H (fun v' H' => v' = .tuple #[.string (tkS L to i), .int .i64 (tkE L to i)] ∧ Rl 31 X H' p (tkL L to i) ∧ Fr H H' [p] [p]) := by
  refine ac_of_aw Try.func9 rfl Try.ntmps9 Try.results9 (by simp) ?_
  refine aw_seq ?_
  (refine aw_ops (by kernel_rfl) (fun K hK => ?_); simp (disch := first | omega | (simp only [List.length_set, List.length_append, List.length_cons, List.length_nil, iv_length, zl_length]; try omega; done)) [-getElem?_pos, -getElem?_neg]; refine hK _ _ ?_; clear hK K)
  refine aw_seq ?_
  refine aw_seq ?_
  refine aw_ops (by kernel_rfl) (fun K hK => ?_)
  simp (disch := first | omega | (simp only [List.length_set, List.length_append, List.length_cons, List.length_nil, iv_length, zl_length]; try omega; done)) [-getElem?_pos, -getElem?_neg]
  refine ⟨by kernel_rfl, (rhas_ac h hnl).mono ?_⟩
  rintro _ H0 ⟨rfl, e0⟩; subst H0
  simp (disch := first | omega | (simp only [List.length_set, List.length_append, List.length_cons, List.length_nil, iv_length, zl_length]; try omega; done)) [-getElem?_pos, -getElem?_neg]
  refine hK _ _ ?_; clear hK K
  cases hm : hasB L to i with
  | false =>
    refine aw_t (by (first | (simp [eval_tmp, put_at, hm]; done) | (simp [eval_tmp, put_at, hm]; omega))) (by kernel_rfl) ?_
    refine aw_seq ?_
    (refine aw_ops (by kernel_rfl) (fun K hK => ?_); simp (disch := first | omega | (simp only [List.length_set, List.length_append, List.length_cons, List.length_nil, iv_length, zl_length]; try omega; done)) [-getElem?_pos, -getElem?_neg]; refine hK _ _ ?_; clear hK K)
    (refine aw_ret ?_; simp (disch := first | omega | (simp only [List.length_set, List.length_append, List.length_cons, List.length_nil, iv_length, zl_length]; try omega; done)) [-getElem?_pos, -getElem?_neg, thenQ_ret, inBlockQ_ret, RQ, resL, resV])
    simp only [tkL, tkS, tkE, hm]
    exact ⟨⟨rfl, rfl⟩, h, .refl _ _⟩
  | true =>
    obtain ⟨k, n, s, hk, rfl, rfl, hnk, hs⟩ := has_nat hm
    obtain ⟨Ms, h⟩ := h
    have hcells := h.cells
    have hpl := hget_lt hcells
    have hck0 : ((List.range 8).map Ms)[k]? = some (Ms k) := by rw [List.getElem?_map, List.getElem?_range hk]; rfl
    have hset := fun v => range8_set Ms k v
    obtain ⟨cs, hcs⟩ : ∃ cs, cs = (List.range 8).map Ms := ⟨_, rfl⟩
    rw [← hcs] at hck0 hcells hset
    obtain ⟨j, off, cj, ty, es, hv, hj, hcj⟩ := (h.sl k hk).cell hs
    have hck := hck0
    rw [hv] at hck
    have hcl : cs.length = 8 := by rw [hcs]; simp
    have hlk := hb k hk
    have hml := h.sl k hk
    obtain ⟨x1, hx1, hp1⟩ := hml.front (P := Try.prog) (t := 25) (e := 9) (by simp) (by simp) (by simp) (i := n) (by omega)
    obtain ⟨x3, hx3, hp3⟩ := hml.back (P := Try.prog) (t := 25) (e := 9) (by simp) (by simp) (by simp) (i := n + 1) (by omega)
    have hnx1 := hp1.nt
    have hnx3 := hp3.nt
    rw [hv] at hx1 hx3
    rw [show ((n + 1 : Nat) : Int) = (n : Int) + 1 by omega] at hx3
    obtain ⟨v1, G1, hap1, ho1, hl1, hk1, _⟩ := ownL_append (P := Try.prog) (nro := nro) (t := 25) (lo := H.length) (H := H) (v := .slice none 0 0) (cells := []) (by simp) (by simp) (by simp) (by simp) (.inl ⟨rfl, rfl⟩) hnl (Nat.le_refl _) hp1.ns (hp1.2 H (fun _ _ => rfl)) (by simp; omega)
    have hn1 := ho1.nt
    obtain ⟨v3, G3, hap3, ho3, hl3, hk3, _⟩ := ownL_append (P := Try.prog) (nro := nro) (t := 25) (by simp) (by simp) (by simp) (by simp) ho1 hnl hl1 hp3.ns (hp3.2 G1 hk1) (by simp; omega)
    have hn3 := ho3.nt
    have hc3 := ho3.one
    have hk4 : ∀ j, j < H.length → hget G3 j = hget H j := fun j hj => (hk3 j hj).trans (hk1 j hj)
    have hl4 : H.length ≤ G3.length := by omega
    have hgp1 : hget G1 p = _ := (hk1 p hpl).trans hcells
    have hgp : hget G3 p = _ := (hk4 p hpl).trans hcells
    refine aw_f (by (first | (simp [eval_tmp, put_at, hm]; done) | (simp [eval_tmp, put_at, hm]; omega))) (by kernel_rfl) ?_
    refine aw_skip ?_
    refine aw_seq ?_
    (refine aw_ops (by kernel_rfl) (fun K hK => ?_); simp (disch := first | omega | (simp only [List.length_set, List.length_append, List.length_cons, List.length_nil, iv_length, zl_length]; try omega; done)) [-getElem?_pos, -getElem?_neg, hcells, hck, hcl, hj, hcj, hnk]; refine hK _ _ ?_; clear hK K)
    refine aw_seq ?_
    (refine aw_ops (by kernel_rfl) (fun K hK => ?_); simp (disch := first | omega | (simp only [List.length_set, List.length_append, List.length_cons, List.length_nil, iv_length, zl_length]; try omega; done)) [-getElem?_pos, -getElem?_neg]; refine hK _ _ ?_; clear hK K)
    refine aw_seq ?_
    (refine aw_ops (by kernel_rfl) (fun K hK => ?_); simp (disch := first | omega | (simp only [List.length_set, List.length_append, List.length_cons, List.length_nil, iv_length, zl_length]; try omega; done)) [-getElem?_pos, -getElem?_neg, hcells, hck, hcl, -xslice, hx1, hnx1, -xappend, hap1]; refine hK _ _ ?_; clear hK K)
    refine aw_seq ?_
    (refine aw_ops (by kernel_rfl) (fun K hK => ?_); simp (disch := first | omega | (simp only [List.length_set, List.length_append, List.length_cons, List.length_nil, iv_length, zl_length]; try omega; done)) [-getElem?_pos, -getElem?_neg, hgp1, hck, hcl, -xslice, hx3, hnx3, -xappend, hap3]; refine hK _ _ ?_; clear hK K)
    refine aw_seq ?_
    (refine aw_ops (by kernel_rfl) (fun K hK => ?_); simp (disch := first | omega | (simp only [List.length_set, List.length_append, List.length_cons, List.length_nil, iv_length, zl_length]; try omega; done)) [-getElem?_pos, -getElem?_neg, hgp, hcl, -notTuple, hn3, hc3]; refine hK _ _ ?_; clear hK K)
    refine aw_seq ?_
    (refine aw_ops (by kernel_rfl) (fun K hK => ?_); simp (disch := first | omega | (simp only [List.length_set, List.length_append, List.length_cons, List.length_nil, iv_length, zl_length]; try omega; done)) [-getElem?_pos, -getElem?_neg]; refine hK _ _ ?_; clear hK K)
    (refine aw_ret ?_; simp (disch := first | omega | (simp only [List.length_set, List.length_append, List.length_cons, List.length_nil, iv_length, zl_length]; try omega; done)) [-getElem?_pos, -getElem?_neg, thenQ_ret, inBlockQ_ret, RQ, resL, resV])
    have hput := h.put (G := G3) hl4 hk4 hk (v := v3) (l := (L k).take n ++ (L k).drop (n + 1)) (OwnL.ml (by simpa [ss] using ho3) hX)
    rw [← hset] at hput
    refine ⟨⟨by simp [tkS, hm, hs], by simp [tkE, hm]⟩, ?_, hput.2⟩
    simp only [tkL, hm, cutL]
    exact hput.1
theorem rdouble_ac (h : Rl 31 X H p L) (hb : LB L) (hn : nro ≤ p) (hnl : nro ≤ H.length) (hX : ∀ j ∈ X, j < H.length) :
    AC Try.prog nro γ 10 #[.pointer (some ⟨p, 0, none⟩), .int .i64 to, .int .i64 i] H (fun v' H' => v' = .int .i64 (tkE L to i) ∧ Rl 31 X H' p (dbL L to i) ∧ Fr H H' [p] [p]) := by
  refine ac_of_aw Try.func10 rfl Try.ntmps10 Try.results10 (by simp) ?_
  refine aw_seq ?_
  (refine aw_ops (by kernel_rfl) (fun K hK => ?_); simp (disch := first | omega | (simp only [List.length_set, List.length_append, List.length_cons, List.length_nil, iv_length, zl_length]; try omega; done)) [-getElem?_pos, -getElem?_neg]; refine hK _ _ ?_; clear hK K)
  refine aw_seq ?_
  refine aw_seq ?_
  refine aw_ops (by kernel_rfl) (fun K hK => ?_)
  simp (disch := first | omega | (simp only [List.length_set, List.length_append, List.length_cons, List.length_nil, iv_length, zl_length]; try omega; done)) [-getElem?_pos, -getElem?_neg]
  refine ⟨by kernel_rfl, (rhas_ac h hnl).mono ?_⟩
  rintro _ H0 ⟨rfl, e0⟩; subst H0
  simp (disch := first | omega | (simp only [List.length_set, List.length_append, List.length_cons, List.length_nil, iv_length, zl_length]; try omega; done)) [-getElem?_pos, -getElem?_neg]
  refine hK _ _ ?_; clear hK K
  cases hm : hasB L to i with
  | false =>
    refine aw_t (by (first | (simp [eval_tmp, put_at, hm]; done) | (simp [eval_tmp, put_at, hm]; omega))) (by kernel_rfl) ?_
    refine aw_seq ?_
    (refine aw_ops (by kernel_rfl) (fun K hK => ?_); simp (disch := first | omega | (simp only [List.length_set, List.length_append, List.length_cons, List.length_nil, iv_length, zl_length]; try omega; done)) [-getElem?_pos, -getElem?_neg]; refine hK _ _ ?_; clear hK K)
    (refine aw_ret ?_; simp (disch := first | omega | (simp only [List.length_set, List.length_append, List.length_cons, List.length_nil, iv_length, zl_length]; try omega; done)) [-getElem?_pos, -getElem?_neg, thenQ_ret, inBlockQ_ret, RQ, resL, resV])
    simp only [dbL, tkE, hm]
    exact ⟨rfl, h, .refl _ _⟩
  | true =>
    obtain ⟨k, n, s, hk, rfl, rfl, hnk, hs⟩ := has_nat hm
    have h' := h
    obtain ⟨Ms, h⟩ := h
    have hcells := h.cells
    have hpl := hget_lt hcells
    have hck : ((List.range 8).map Ms)[k]? = some (Ms k) := by rw [List.getElem?_map, List.getElem?_range hk]; rfl
    obtain ⟨cs, hcs⟩ : ∃ cs, cs = (List.range 8).map Ms := ⟨_, rfl⟩
    rw [← hcs] at hck hcells
    obtain ⟨j, off, cj, ty, es, hv, hj, hcj⟩ := (h.sl k hk).cell hs
    rw [hv] at hck
    have hcl : cs.length = 8 := by rw [hcs]; simp
    refine aw_f (by (first | (simp [eval_tmp, put_at, hm]; done) | (simp [eval_tmp, put_at, hm]; omega))) (by kernel_rfl) ?_
    refine aw_skip ?_
    refine aw_seq ?_
    refine aw_ops (by kernel_rfl) (fun K hK => ?_)
    simp (disch := first | omega | (simp only [List.length_set, List.length_append, List.length_cons, List.length_nil, iv_length, zl_length]; try omega; done)) [-getElem?_pos, -getElem?_neg, hcells, hck, hcl, hj, hcj, hnk]
    refine ⟨by kernel_rfl, ?_⟩
    refine AC.mono (rpost_ac (s := s) h' hb hn hnl hX) ?_
    rintro _ H3 ⟨rfl, h3, hf3⟩
    try simp (disch := first | omega | (simp only [List.length_set, List.length_append, List.length_cons, List.length_nil, iv_length, zl_length]; try omega; done)) [-getElem?_pos, -getElem?_neg]
    refine hK _ _ ?_; clear hK K
    (refine aw_ret ?_; simp (disch := first | omega | (simp only [List.length_set, List.length_append, List.length_cons, List.length_nil, iv_length, zl_length]; try omega; done)) [-getElem?_pos, -getElem?_neg, thenQ_ret, inBlockQ_ret, RQ, resL, resV])
    refine ⟨by simp [postE, tkE, hm, memB_nat hk], ?_, hf3⟩
    simp only [dbL, hm, tkS]
    simpa [hs] using h3
theorem rmove_ac (h : Rl 31 X H p L) (hb : LB L) (hn : nro ≤ p) (hnl : nro ≤ H.length) (hX : ∀ j ∈ X, j < H.length) :
    AC Try.prog nro γ 11 #[.pointer (some ⟨p, 0, none⟩), .int .i64 to, .int .i64 i, .int .i64 k] H (fun v' H' => v' = .int .i64 (mvE L to i k) ∧ Rl 31 X H' p (mvL L to i k) ∧ Fr H H' [p] [p]) := by
  refine ac_of_aw Try.func11 rfl Try.ntmps11 Try.results11 (by simp) ?_
  refine aw_seq ?_
  (refine aw_ops (by kernel_rfl) (fun K hK => ?_); simp (disch := first | omega | (simp only [List.length_set, List.length_append, List.length_cons, List.length_nil, iv_length, zl_length]; try omega; done)) [-getElem?_pos, -getElem?_neg]; refine hK _ _ ?_; clear hK K)
  refine aw_seq ?_
  refine aw_seq ?_
  refine aw_ops (by kernel_rfl) (fun K hK => ?_)
  simp (disch := first | omega | (simp only [List.length_set, List.length_append, List.length_cons, List.length_nil, iv_length, zl_length]; try omega; done)) [-getElem?_pos, -getElem?_neg]
  refine ⟨by kernel_rfl, (rhas_ac h hnl).mono ?_⟩
  rintro _ H0 ⟨rfl, e0⟩; subst H0
  simp (disch := first | omega | (simp only [List.length_set, List.length_append, List.length_cons, List.length_nil, iv_length, zl_length]; try omega; done)) [-getElem?_pos, -getElem?_neg]
  refine hK _ _ ?_; clear hK K
  cases hm : hasB L to i with
  | false =>
    refine aw_t (by (first | (simp [eval_tmp, put_at, hm]; done) | (simp [eval_tmp, put_at, hm]; omega))) (by kernel_rfl) ?_
    refine aw_seq ?_
    (refine aw_ops (by kernel_rfl) (fun K hK => ?_); simp (disch := first | omega | (simp only [List.length_set, List.length_append, List.length_cons, List.length_nil, iv_length, zl_length]; try omega; done)) [-getElem?_pos, -getElem?_neg]; refine hK _ _ ?_; clear hK K)
    (refine aw_ret ?_; simp (disch := first | omega | (simp only [List.length_set, List.length_append, List.length_cons, List.length_nil, iv_length, zl_length]; try omega; done)) [-getElem?_pos, -getElem?_neg, thenQ_ret, inBlockQ_ret, RQ, resL, resV])
    simp only [mvL, mvE, hm]
    exact ⟨rfl, h, .refl _ _⟩
  | true =>
    refine aw_f (by (first | (simp [eval_tmp, put_at, hm]; done) | (simp [eval_tmp, put_at, hm]; omega))) (by kernel_rfl) ?_
    refine aw_skip ?_
    refine aw_seq ?_
    refine aw_seq ?_
    refine aw_ops (by kernel_rfl) (fun K hK => ?_)
    simp (disch := first | omega | (simp only [List.length_set, List.length_append, List.length_cons, List.length_nil, iv_length, zl_length]; try omega; done)) [-getElem?_pos, -getElem?_neg]
    refine ⟨by kernel_rfl, (rhas_ac h hnl).mono ?_⟩
    rintro _ H0 ⟨rfl, e0⟩; subst H0
    simp (disch := first | omega | (simp only [List.length_set, List.length_append, List.length_cons, List.length_nil, iv_length, zl_length]; try omega; done)) [-getElem?_pos, -getElem?_neg]
    refine hK _ _ ?_; clear hK K
    cases hm2 : hasB L to k with
    | false =>
      refine aw_t (by (first | (simp [eval_tmp, put_at, hm2]; done) | (simp [eval_tmp, put_at, hm2]; omega))) (by kernel_rfl) ?_
      refine aw_seq ?_
      (refine aw_ops (by kernel_rfl) (fun K hK => ?_); simp (disch := first | omega | (simp only [List.length_set, List.length_append, List.length_cons, List.length_nil, iv_length, zl_length]; try omega; done)) [-getElem?_pos, -getElem?_neg]; refine hK _ _ ?_; clear hK K)
      (refine aw_ret ?_; simp (disch := first | omega | (simp only [List.length_set, List.length_append, List.length_cons, List.length_nil, iv_length, zl_length]; try omega; done)) [-getElem?_pos, -getElem?_neg, thenQ_ret, inBlockQ_ret, RQ, resL, resV])
      simp only [mvL, mvE, hm, hm2]
      exact ⟨rfl, h, .refl _ _⟩
    | true =>
      refine aw_f (by (first | (simp [eval_tmp, put_at, hm2]; done) | (simp [eval_tmp, put_at, hm2]; omega))) (by kernel_rfl) ?_
      refine aw_skip ?_
      refine aw_seq ?_
      refine aw_ops (by kernel_rfl) (fun K hK => ?_)
      simp (disch := first | omega | (simp only [List.length_set, List.length_append, List.length_cons, List.length_nil, iv_length, zl_length]; try omega; done)) [-getElem?_pos, -getElem?_neg]
      refine ⟨by kernel_rfl, (rtake_ac h hb hn hnl hX).mono ?_⟩
      rintro _ H1 ⟨rfl, h1, hf1⟩
      simp (disch := first | omega | (simp only [List.length_set, List.length_append, List.length_cons, List.length_nil, iv_length, zl_length]; try omega; done)) [-getElem?_pos, -getElem?_neg]
      refine hK _ _ ?_; clear hK K
      obtain ⟨kk, n, s, hk, rfl, rfl, hnk, hs⟩ := has_nat hm
      obtain ⟨kk', m, s', hk', e1, rfl, hmk, hs'⟩ := has_nat hm2
      obtain rfl : kk' = kk := by omega
      have hlk := hb kk' hk
      have hcl2 := cutL_len hnk
      have eS : tkS L (kk' : Nat) (n : Nat) = s := by simp [tkS, hm, hs]
      have eL : tkL L (kk' : Nat) (n : Nat) = cutL L kk' n := by simp [tkL, hm]
      rw [eS]
      rw [eL] at h1
      have hlH := hf1.len
      clear h
      obtain ⟨Ms, h⟩ := h1
      have hcells := h.cells
      have hpl := hget_lt hcells
      have hck : ((List.range 8).map Ms)[kk']? = some (Ms kk') := by rw [List.getElem?_map, List.getElem?_range hk]; rfl
      have hset := fun v => range8_set Ms kk' v
      obtain ⟨cs, hcs⟩ : ∃ cs, cs = (List.range 8).map Ms := ⟨_, rfl⟩
      rw [← hcs] at hck hcells hset
      have hcl : cs.length = 8 := by rw [hcs]; simp
      have hml := h.sl kk' hk
      obtain ⟨l1, hl1e⟩ : ∃ l1, l1 = cutL L kk' n kk' := ⟨_, rfl⟩
      rw [← hl1e] at hml hcl2
      have hnt := hml.nt
      obtain ⟨x1, hx1, hp1⟩ := hml.front (P := Try.prog) (t := 25) (e := 9) (by simp) (by simp) (by simp) (i := m) (by omega)
      obtain ⟨x3, hx3, hp3⟩ := hml.back (P := Try.prog) (t := 25) (e := 9) (by simp) (by simp) (by simp) (i := m) (by omega)
      have hnx1 := hp1.nt
      have hnx3 := hp3.nt
      obtain ⟨v1, G1, hap1, ho1, hl1, hk1, _⟩ := ownL_append (P := Try.prog) (nro := nro) (t := 25) (lo := H1.length) (H := H1) (v := .slice none 0 0) (cells := []) (by simp) (by simp) (by simp) (by simp) (.inl ⟨rfl, rfl⟩) (by omega) (Nat.le_refl _) hp1.ns (hp1.2 H1 (fun _ _ => rfl)) (by simp; omega)
      have hn1 := ho1.nt
      obtain ⟨blk, hblk⟩ : ∃ blk, blk = (some ⟨[.string s], 9, some 1⟩ : Option Blk) := ⟨_, rfl⟩
      have ho2 : OwnL H1.length (G1 ++ [blk]) v1 ([] ++ ss (l1.take m)) := ho1.low (fun j _ hj => hget_left hj)
      obtain ⟨v2, G2, hap2, ho2', hl2, hk2, _⟩ := ownL_append (P := Try.prog) (nro := nro) (t := 25) (x := .slice (some ⟨G1.length, 0, none⟩) 1 1) (news := [.string s]) (by simp) (by simp) (by simp) (by simp) ho2 (by omega) (by rw [List.length_append]; omega) (fun s e => by cases e) (by rw [hblk]; simp [xcells, hget_app0]) (by simp; omega)
      have hn2 := ho2'.nt
      have hk2' : ∀ j, j < H1.length → hget G2 j = hget H1 j := fun j hj => (hk2 j hj).trans ((hget_left (by omega)).trans (hk1 j hj))
      have hl2' : H1.length ≤ G2.length := by rw [List.length_append] at hl2; omega
      obtain ⟨v3, G3, hap3, ho3, hl3, hk3, _⟩ := ownL_append (P := Try.prog) (nro := nro) (t := 25) (by simp) (by simp) (by simp) (by simp) ho2' (by omega) hl2' hp3.ns (hp3.2 G2 hk2') (by simp; omega)
      have hn3 := ho3.nt
      have hc3 := ho3.one
      have hk4 : ∀ j, j < H1.length → hget G3 j = hget H1 j := fun j hj => (hk3 j hj).trans (hk2' j hj)
      have hl4 : H1.length ≤ G3.length := by omega
      have hgp2 : hget G2 p = _ := (hk2' p hpl).trans hcells
      have hgp : hget G3 p = _ := (hk4 p hpl).trans hcells
      rw [hblk] at hap2
      refine aw_seq ?_
      (refine aw_ops (by kernel_rfl) (fun K hK => ?_); simp (disch := first | omega | (simp only [List.length_set, List.length_append, List.length_cons, List.length_nil, iv_length, zl_length]; try omega; done)) [-getElem?_pos, -getElem?_neg]; refine hK _ _ ?_; clear hK K)
      refine aw_seq ?_
      (refine aw_ops (by kernel_rfl) (fun K hK => ?_); simp (disch := first | omega | (simp only [List.length_set, List.length_append, List.length_cons, List.length_nil, iv_length, zl_length]; try omega; done)) [-getElem?_pos, -getElem?_neg, hcells, hck, hcl, hnt, -xslice, hx1, hnx1, -xappend, hap1]; refine hK _ _ ?_; clear hK K)
      refine aw_seq ?_
      (refine aw_ops (by kernel_rfl) (fun K hK => ?_); simp (disch := first | omega | (simp only [List.length_set, List.length_append, List.length_cons, List.length_nil, iv_length, zl_length]; try omega; done)) [-getElem?_pos, -getElem?_neg, -xappend, hap2]; refine hK _ _ ?_; clear hK K)
      refine aw_seq ?_
      (refine aw_ops (by kernel_rfl) (fun K hK => ?_); simp (disch := first | omega | (simp only [List.length_set, List.length_append, List.length_cons, List.length_nil, iv_length, zl_length]; try omega; done)) [-getElem?_pos, -getElem?_neg, hgp2, hck, hcl, hnt, -xslice, hx3, hnx3, -xappend, hap3]; refine hK _ _ ?_; clear hK K)
      refine aw_seq ?_
      (refine aw_ops (by kernel_rfl) (fun K hK => ?_); simp (disch := first | omega | (simp only [List.length_set, List.length_append, List.length_cons, List.length_nil, iv_length, zl_length]; try omega; done)) [-getElem?_pos, -getElem?_neg, hgp, hcl, -notTuple, hn3, hc3]; refine hK _ _ ?_; clear hK K)
      refine aw_seq ?_
      (refine aw_ops (by kernel_rfl) (fun K hK => ?_); simp (disch := first | omega | (simp only [List.length_set, List.length_append, List.length_cons, List.length_nil, iv_length, zl_length]; try omega; done)) [-getElem?_pos, -getElem?_neg]; refine hK _ _ ?_; clear hK K)
      (refine aw_ret ?_; simp (disch := first | omega | (simp only [List.length_set, List.length_append, List.length_cons, List.length_nil, iv_length, zl_length]; try omega; done)) [-getElem?_pos, -getElem?_neg, thenQ_ret, inBlockQ_ret, RQ, resL, resV])
      have hput := h.put (G := G3) hl4 hk4 hk (v := v3) (l := l1.take m ++ [s] ++ l1.drop m) (OwnL.ml (by simpa [ss] using ho3) (fun j hj => by have := hX j hj; omega))
      rw [← hset] at hput
      refine ⟨by simp [mvE, hm, hm2], ?_, hf1.trans hput.2⟩
      have e2 : upd (cutL L kk' n) kk' = upd L kk' := by funext x; rw [cutL, upd_upd]
      have h2 := hput.1
      rw [e2] at h2
      simp only [mvL, hm, hm2, tkS, Bool.and_true, if_true, Int.toNat_natCast, hs, Option.getD_some]
      rw [← hl1e]
      exact h2
end
end Go.Proofs.Yteldoimjachbbaa
