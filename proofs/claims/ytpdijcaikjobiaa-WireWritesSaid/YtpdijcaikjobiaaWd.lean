/-
  The writer's text; lists of numbers.
-/
import Derived.Test.YtpdijcaikjobiaaWc
namespace Go.Proofs.Ytpdijcaikjobiaa
open Go Go.RowKit
set_option linter.unusedVariables false
set_option linter.unusedSimpArgs false
set_option maxRecDepth 100000
set_option maxHeartbeats 4000000
attribute [local simp] wb_bool wb_undef XL_nil XL_cons XLc_val XLc_call step1_eq stepW_t stepW_f stepC_n stepC_s stepX_s xop_eq xopR_s xopR_n wantedA_eq wantedG_n wantedG_s plain1_int plain1_bool plain1_string bits_i64 bits_u64 bits_u32 bits_u16 bits_u8 xeqA xarr allK_iv num_iv calleeOf xread xeff xbin xint xnil xun xstr xload xconv xpart xfield xfieldAddr xindexAddr xindex bnd asInt? xslice xlen xmin xmax xbuild xfill xappend xapp2 xappstr xappmk xcap xcopy xcells eval_tmp eval_const put_at put_none fr0_at cells_agg cells_int cells_bool cells_string cells_ptr cells_slice notTuple tab iv_all hget_app hget_app0 hget_cons0 hget_cons set_app set_app0 setR setR_one QL_nil QL_cons QLc_val stepQ_t stepQ_f stepQC_n stepQC_s stepQX_s SL_nil SL_cons SLc_val stepS_t stepS_f ltT ltF leT leF eqT eqF ltTn ltFn leTn leFn eqTn eqFn beqT beqF bneT bneF wi64 wu64 wu32 wu16 wu8 tmodP tdivP hgetL hgetNe hgetEq setL nums_def nums_len Nat.succ_le_of_lt List.getElem?_cons_zero List.getElem?_cons_succ Option.getD_some Int.toNat_add Int.toNat_mul agB agI agS agP agL agA okB okI okS okP okSl okA
/-- A slice of one number that lies fresh. -/
theorem one_sls {G : AH} {F : List Nat} {x : Int} (hF : ∀ j ∈ F, j < G.length) : ∀ G1 : AH, G1 = G ++ [some ⟨[.int .u32 x], 37, some 1⟩] → SlS G1 F (.slice (some ⟨G.length, 0, none⟩) 1 1) (iv .u32 [x]) := by
  rintro G1 rfl G2 hg
  have e : hget G2 G.length = some ⟨[.int .u32 x], 37, some 1⟩ := (hg G.length (by rw [List.length_append]; exact Nat.lt_succ_self _) (fun hm => by have := hF _ hm; omega)).trans (by rw [hget_app0]; rfl)
  refine .inr ⟨G.length, 0, _, rfl, e, fun i x hi => ?_⟩
  simpa [iv] using hi
theorem numlist_ac {H : AH} {γ : Nat → Option Nat} {nro p : Nat} {F : List Nat} {bs l : List Int} {v : Value} (h : Wr H p F bs) (hlo : ∀ j ∈ F, nro ≤ j) (hnl : nro ≤ H.length) (hv : SlS H F v (iv .u32 l)) (hl : ∀ x ∈ l, 0 ≤ x ∧ x ≤ 4294967295) (hlen : bs.length + 5 * l.length ≤ 90000) :
    AC Try.prog nro γ 24 #[.pointer (some ⟨p, 0, none⟩), v] H (fun v' H' => ∃ F', Wr H' p F' (bs ++ numB l.length ++ numsB l) ∧ Fr H H' F F') := by
  have hno : notTuple v = true := by rcases hv.now with ⟨a, rfl, _⟩ | ⟨j, off, k, rfl, _⟩ <;> rfl
  have hxl := hv.now.len (P := Try.prog) (t := 30) (e := 37) (by simp)
  have hil : (iv .u32 l).length = l.length := iv_length _ _
  rw [hil] at hxl
  have hwl : IntKind.u32.wrap (l.length : Nat) = (l.length : Nat) := by simp only [IntKind.wrap_u32']; omega
  have hlt := h.lt
  have hs1 := one_sls (x := (l.length : Nat)) hlt _ rfl
  have hf0 : Fr H (H ++ [some ⟨[.int .u32 (l.length : Nat)], 37, some 1⟩]) F F := Fr.mk (by simp) (fun j hj _ => hget_left hj) (fun j hj => .inl hj)
  have hw1 := h.low (H' := H ++ [some ⟨[.int .u32 (l.length : Nat)], 37, some 1⟩]) (fun j hj => hget_left (hlt j hj))
  have hn5 := numB_len l.length
  refine ac_of_aw Try.func24 rfl Try.ntmps24 Try.results24 (by simp) ?_
  refine aw_seq ?_
  refine aw_ops (by kernel_rfl) (fun K hK => ?_)
  simp (disch := first | omega | (simp only [List.length_set, List.length_append, List.length_cons, List.length_nil, iv_length, zl_length]; try omega; done)) [-getElem?_pos, -getElem?_neg, -xlen, hxl, hwl]
  refine ⟨by kernel_rfl, (numbers_ac hw1 hlo (by rw [List.length_append]; omega) hs1 (by simp; omega) (by simp; omega)).mono ?_⟩
  rintro v1 H1 ⟨F1, hw2, hf1⟩
  try simp (disch := first | omega | (simp only [List.length_set, List.length_append, List.length_cons, List.length_nil, iv_length, zl_length]; try omega; done)) [-getElem?_pos, -getElem?_neg]
  refine hK _ _ ?_; clear hK K
  have hf2 := hf0.trans hf1
  have e1 : numsB [((l.length : Nat) : Int)] = numB l.length := by simp [numsB]
  rw [e1] at hw2
  have hbl : (bs ++ numB l.length).length + 5 * l.length ≤ 100000 := by rw [List.length_append]; omega
  refine aw_ops (by kernel_rfl) (fun K hK => ?_)
  simp (disch := first | omega | (simp only [List.length_set, List.length_append, List.length_cons, List.length_nil, iv_length, zl_length]; try omega; done)) [-getElem?_pos, -getElem?_neg]
  refine ⟨by kernel_rfl, (numbers_ac hw2 (fun j hj => ?_) (by have := hf2.len; omega) (hv.fr hf2) hl hbl).mono ?_⟩
  · rcases hf2.new j hj with h1 | h1
    · exact hlo j h1
    · omega
  rintro v2 H2 ⟨F2, hw3, hf3⟩
  try simp (disch := first | omega | (simp only [List.length_set, List.length_append, List.length_cons, List.length_nil, iv_length, zl_length]; try omega; done)) [-getElem?_pos, -getElem?_neg]
  refine hK _ _ ?_; clear hK K
  exact ⟨_, _, rfl, rfl, F2, hw3, hf2.trans hf3⟩
theorem wstring_ac {H : AH} {γ : Nat → Option Nat} {nro p : Nat} {F : List Nat} {bs : List Int} (h : Wr H p F bs) :
    AC Try.prog nro γ 10 #[.pointer (some ⟨p, 0, none⟩)] H (fun v' H' => v' = .string (strOfNums bs) ∧ H' = H) := by
  obtain ⟨v, FU, rfl, h1, h2, h3⟩ := h
  have hno := (own_shape h2).1
  refine ac_of_aw Try.func10 rfl Try.ntmps10 Try.results10 (by simp) ?_
  refine aw_seq ?_
  (refine aw_ops (by kernel_rfl) (fun K hK => ?_); simp (disch := first | omega | (simp only [List.length_set, List.length_append, List.length_cons, List.length_nil, iv_length, zl_length]; try omega; done)) [-getElem?_pos, -getElem?_neg]; refine hK _ _ ?_; clear hK K)
  refine aw_seq ?_
  rcases h2 with ⟨rfl, hb, _⟩ | ⟨j, len, rfl, hg, hl, _⟩
  · obtain rfl : bs = [] := by cases bs with
      | nil => rfl
      | cons x l => simp [iv] at hb
    (refine aw_ops (by kernel_rfl) (fun K hK => ?_); simp (disch := first | omega | (simp only [List.length_set, List.length_append, List.length_cons, List.length_nil, iv_length, zl_length]; try omega; done)) [-getElem?_pos, -getElem?_neg, h1, hno]; refine hK _ _ ?_; clear hK K)
    (refine aw_ret ?_; simp (disch := first | omega | (simp only [List.length_set, List.length_append, List.length_cons, List.length_nil, iv_length, zl_length]; try omega; done)) [-getElem?_pos, -getElem?_neg, thenQ_ret, inBlockQ_ret, RQ, resL, resV])
    rfl
  · have hbl := byteList_iv bs
    have hll : len = bs.length := by rw [iv_length] at hl; omega
    subst hll
    have htk : (iv .u8 bs).take bs.length = iv .u8 bs := by rw [List.take_of_length_le]; rw [iv_length]; exact Nat.le_refl _
    (refine aw_ops (by kernel_rfl) (fun K hK => ?_); simp (disch := first | omega | (simp only [List.length_set, List.length_append, List.length_cons, List.length_nil, iv_length, zl_length]; try omega; done)) [-getElem?_pos, -getElem?_neg, h1, hno, hg, htk, hbl]; refine hK _ _ ?_; clear hK K)
    (refine aw_ret ?_; simp (disch := first | omega | (simp only [List.length_set, List.length_append, List.length_cons, List.length_nil, iv_length, zl_length]; try omega; done)) [-getElem?_pos, -getElem?_neg, thenQ_ret, inBlockQ_ret, RQ, resL, resV])
end Go.Proofs.Ytpdijcaikjobiaa
