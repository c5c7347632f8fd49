/-
  What every right program answers.
-/
import Derived.Test.YteldoimjachbbaaRg
namespace Go.Proofs.Yteldoimjachbbaa
open Go Go.RowKit
set_option linter.unusedVariables false
set_option linter.unusedSimpArgs false
set_option maxRecDepth 100000
set_option maxHeartbeats 4000000

def eL : Nat → List ByteArray := fun _ => []
theorem eL_b : LB eL := fun k _ => by simp [eL]
theorem rl_new {T : TypeId} {H : AH} {X : List Nat} {cs : List Value} (hc : cs = (List.range 8).map fun _ => Value.slice none 0 0) (hX : H.length ∈ X) : Rl T X (H ++ [some ⟨cs, T, none⟩]) H.length eL := by
  subst hc
  refine ⟨fun _ => .slice none 0 0, ⟨by rw [hget_app0]; rfl, fun k _ => .inl ⟨rfl, rfl⟩, hX⟩⟩
def sA : ByteArray := ⟨#[97]⟩
def sB : ByteArray := ⟨#[98]⟩
def aL1 := postL eL 1 sA
def aL2 := postL aL1 1 sB
def aL3 := mvL aL2 1 1 0
def aL4 := tkL aL3 1 0
theorem aE1 : mvE aL2 1 1 0 = 0 := by decide
theorem aE2 : tkE aL3 1 0 = 0 := by decide
theorem aE3 : tkS aL3 1 0 = sB := by rfl
theorem aE4 : (mailL aL4 1).length = 1 := by rfl
theorem aE5 : postE 1 = 0 := by decide
theorem aQ1 : postL eL 1 ⟨#[97]⟩ = aL1 := rfl
theorem aQ2 : postL aL1 1 ⟨#[98]⟩ = aL2 := rfl
theorem aQ3 : mvL aL2 1 1 0 = aL3 := rfl
theorem aQ4 : tkL aL3 1 0 = aL4 := rfl
theorem aB1 : LB aL1 := postL_b eL_b
theorem aB2 : LB aL2 := postL_b aB1
theorem aB3 : LB aL3 := mvL_b aB2
theorem aB4 : LB aL4 := tkL_b aB3
theorem aS : sB = ⟨#[98]⟩ := rfl
attribute [local irreducible] aL1 aL2 aL3 aL4
attribute [local simp] wb_bool wb_undef XL_nil XL_cons XLc_val XLc_call step1_eq stepW_t stepW_f stepC_n stepC_s stepX_s xop_eq xopR_s xopR_n wantedA_eq wantedG_n wantedG_s plain1_int plain1_bool plain1_string bits_i64 bits_u64 bits_u32 bits_u16 bits_u8 xeqA xarr allK_iv num_iv calleeOf xread xeff xbin xint xnil xun xstr xload xconv xpart xfield xfieldAddr xindexAddr xindex bnd asInt? xslice xlen xmin xmax xbuild xfill xappend xappmk xcap xcopy xcells eval_tmp eval_const put_at put_none fr0_at cells_agg cells_int cells_bool cells_string cells_ptr cells_slice notTuple tab iv_all hget_app hget_app0 hget_cons0 hget_cons set_app set_app0 setR setR_one QL_nil QL_cons QLc_val stepQ_t stepQ_f stepQC_n stepQC_s stepQX_s SL_nil SL_cons SLc_val stepS_t stepS_f ltT ltF leT leF eqT eqF ltTn ltFn leTn leFn eqTn eqFn beqT beqF bneT bneF wi64 wu64 wu32 wu16 wu8 tmodP tdivP hgetL hgetNe hgetEq setL nums_def nums_len Nat.succ_le_of_lt List.getElem?_cons_zero List.getElem?_cons_succ Option.getD_some Int.toNat_add Int.toNat_mul agB agI agS agP agL agA okB okI okS okP okSl okA
theorem alive_vc : VC Try.prog 6 #[] (.bool true) := by
  refine vc_of_ac (by simp [pv_iv, pv_int, pv_bool, pv_string, pv_tup2, pv_tup3, iv_plain, p2_int, p2_bool, p2_string]) (by simp [pv_iv, pv_int, pv_bool, pv_string, pv_tup2, pv_tup3, iv_plain, p2_int, p2_bool, p2_string]) ?_
  refine ac_of_aw Try.func6 rfl Try.ntmps6 Try.results6 (by simp) ?_
  refine aw_seq ?_
  (refine aw_ops (by kernel_rfl) (fun K hK => ?_); simp (disch := first | omega | (simp only [List.length_set, List.length_append, List.length_cons, List.length_nil, iv_length, zl_length]; try omega; done)) [-getElem?_pos, -getElem?_neg]; refine hK _ _ ?_; clear hK K)
  refine aw_seq ?_
  (refine aw_ops (by kernel_rfl) (fun K hK => ?_); simp (disch := first | omega | (simp only [List.length_set, List.length_append, List.length_cons, List.length_nil, iv_length, zl_length]; try omega; done)) [-getElem?_pos, -getElem?_neg]; refine hK _ _ ?_; clear hK K)
  refine aw_seq ?_
  have h0 : Rl 28 [0] ([] ++ [some ⟨(List.range 8).map fun _ => Value.slice none 0 0, 28, none⟩]) 0 eL := rl_new rfl (by simp)
  refine aw_ops (by kernel_rfl) (fun K hK => ?_)
  simp (disch := first | omega | (simp only [List.length_set, List.length_append, List.length_cons, List.length_nil, iv_length, zl_length]; try omega; done)) [-getElem?_pos, -getElem?_neg]
  refine ⟨by kernel_rfl, (post_ac (X := [0]) (L := eL) h0 eL_b (Nat.zero_le _) (Nat.zero_le _) (fun j hj => by simp at hj; simp; omega)).mono ?_⟩
  rintro _ H1 ⟨rfl, h1, hf1⟩
  rw [aQ1] at h1
  rw [aE5]
  try simp (disch := first | omega | (simp only [List.length_set, List.length_append, List.length_cons, List.length_nil, iv_length, zl_length]; try omega; done)) [-getElem?_pos, -getElem?_neg]
  refine ⟨by kernel_rfl, (post_ac h1 aB1 (Nat.zero_le _) (Nat.zero_le _) (fun j hj => by simp at hj; have := hf1.len; simp at this; omega)).mono ?_⟩
  rintro _ H2 ⟨rfl, h2, hf2⟩
  rw [aQ2] at h2
  rw [aE5]
  try simp (disch := first | omega | (simp only [List.length_set, List.length_append, List.length_cons, List.length_nil, iv_length, zl_length]; try omega; done)) [-getElem?_pos, -getElem?_neg]
  have hX2 : ∀ j ∈ [0], j < H2.length := fun j hj => by simp at hj; have := hf1.len; have := hf2.len; simp at *; omega
  refine ⟨by kernel_rfl, (move_ac h2 aB2 (Nat.zero_le _) (Nat.zero_le _) hX2).mono ?_⟩
  rintro _ H3 ⟨rfl, h3, hf3⟩
  rw [aQ3] at h3
  rw [aE1]
  try simp (disch := first | omega | (simp only [List.length_set, List.length_append, List.length_cons, List.length_nil, iv_length, zl_length]; try omega; done)) [-getElem?_pos, -getElem?_neg]
  refine hK _ _ ?_; clear hK K
  refine aw_seq ?_
  refine aw_ops (by kernel_rfl) (fun K hK => ?_)
  simp (disch := first | omega | (simp only [List.length_set, List.length_append, List.length_cons, List.length_nil, iv_length, zl_length]; try omega; done)) [-getElem?_pos, -getElem?_neg]
  have hX3 : ∀ j ∈ [0], j < H3.length := fun j hj => by have := hX2 j hj; have := hf3.len; omega
  refine ⟨by kernel_rfl, (take_ac h3 aB3 (Nat.zero_le _) (Nat.zero_le _) hX3).mono ?_⟩
  rintro _ H4 ⟨rfl, h4, hf4⟩
  rw [aQ4] at h4
  rw [aE2, aE3, aS]
  try simp (disch := first | omega | (simp only [List.length_set, List.length_append, List.length_cons, List.length_nil, iv_length, zl_length]; try omega; done)) [-getElem?_pos, -getElem?_neg]
  refine hK _ _ ?_; clear hK K
  refine aw_seq ?_
  refine aw_ops (by kernel_rfl) (fun K hK => ?_)
  simp (disch := first | omega | (simp only [List.length_set, List.length_append, List.length_cons, List.length_nil, iv_length, zl_length]; try omega; done)) [-getElem?_pos, -getElem?_neg, -xlen]
  refine ⟨by kernel_rfl, (mail_ac h4 aB4 (Nat.zero_le _)).mono ?_⟩
  rintro v5 H5 ⟨h5, _, _⟩
  have hl := h5.len (P := Try.prog) (t := 25) (e := 9) (by simp)
  rw [ss_len, aE4] at hl
  have hnt := h5.nt
  try simp (disch := first | omega | (simp only [List.length_set, List.length_append, List.length_cons, List.length_nil, iv_length, zl_length]; try omega; done)) [-getElem?_pos, -getElem?_neg, -xlen, hl]
  refine hK _ _ ?_; clear hK K
  (refine aw_ret ?_; simp (disch := first | omega | (simp only [List.length_set, List.length_append, List.length_cons, List.length_nil, iv_length, zl_length]; try omega; done)) [-getElem?_pos, -getElem?_neg, thenQ_ret, inBlockQ_ret, RQ, resL, resV])
end Go.Proofs.Yteldoimjachbbaa
