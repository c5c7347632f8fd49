/-
  The relay's functions, walked.
-/
import Derived.Test.YteldoimjachbbaaRb
namespace Go.Proofs.Yteldoimjachbbaa
open Go Go.RowKit
set_option linter.unusedVariables false
set_option linter.unusedSimpArgs false
set_option maxRecDepth 100000
set_option maxHeartbeats 4000000

def memB (to : Int) : Bool := decide (0 ≤ to) && decide (to < 8)
theorem plain_nil : plain1 (.slice none 0 0) = true := rfl
theorem fill3 (a b c : Value) : setR (setR (setR ((List.range 3).map fun j => [Value.slice none 0 0][j % 1]?.getD undef) 0 [a]) 1 [b]) 2 [c] = [a, b, c] := rfl
theorem fill3' (a b c : Value) : ((((List.range 3).map fun j => [Value.slice none 0 0][j % 1]?.getD undef).set 0 a).set 1 b).set 2 c = [a, b, c] := rfl
theorem concat3 (a b c : List ByteArray) : [ss a, ss b, ss c].flatten = ss (a ++ b ++ c) := by simp [ss]
theorem sum3 (a b c : List ByteArray) : sumL [ss a, ss b, ss c] 3 = a.length + b.length + c.length := by simp [sumL]; omega
attribute [local simp] wb_bool wb_undef XL_nil XL_cons XLc_val XLc_call step1_eq stepW_t stepW_f stepC_n stepC_s stepX_s xop_eq xopR_s xopR_n wantedA_eq wantedG_n wantedG_s plain1_int plain1_bool plain1_string bits_i64 bits_u64 bits_u32 bits_u16 bits_u8 xeqA xarr allK_iv num_iv calleeOf xread xeff xbin xint xnil xun xstr xload xconv xpart xfield xfieldAddr xindexAddr xindex bnd asInt? xslice xlen xmin xmax xbuild xfill xappend xappmk xcap xcopy xcells eval_tmp eval_const put_at put_none fr0_at cells_agg cells_int cells_bool cells_string cells_ptr cells_slice notTuple tab iv_all hget_app hget_app0 hget_cons0 hget_cons set_app set_app0 setR setR_one QL_nil QL_cons QLc_val stepQ_t stepQ_f stepQC_n stepQC_s stepQX_s SL_nil SL_cons SLc_val stepS_t stepS_f ltT ltF leT leF eqT eqF ltTn ltFn leTn leFn eqTn eqFn beqT beqF bneT bneF wi64 wu64 wu32 wu16 wu8 tmodP tdivP hgetL hgetNe hgetEq setL nums_def nums_len Nat.succ_le_of_lt List.getElem?_cons_zero List.getElem?_cons_succ Option.getD_some Int.toNat_add Int.toNat_mul agB agI agS agP agL agA okB okI okS okP okSl okA
section
variable {H : AH} {γ : Nat → Option Nat} {nro p : Nat} {X : List Nat} {L : Nat → List ByteArray}
theorem member_vc (to : Int) : VC Try.prog 20 #[.int .i64 to] (.bool (memB to)) := by
  refine vc_of_ac (by simp [pv_iv, pv_int, pv_bool, pv_string, pv_tup2, pv_tup3, iv_plain, p2_int, p2_bool, p2_string]) (by simp [pv_iv, pv_int, pv_bool, pv_string, pv_tup2, pv_tup3, iv_plain, p2_int, p2_bool, p2_string]) ?_
  refine ac_of_aw Try.func20 rfl Try.ntmps20 Try.results20 (by simp) ?_
  refine aw_seq ?_
  (refine aw_ops (by kernel_rfl) (fun K hK => ?_); simp (disch := first | omega | (simp only [List.length_set, List.length_append, List.length_cons, List.length_nil, iv_length, zl_length]; try omega; done)) [-getElem?_pos, -getElem?_neg]; refine hK _ _ ?_; clear hK K)
  refine aw_seq ?_
  by_cases hc : 0 ≤ to
  · (refine aw_ops (by kernel_rfl) (fun K hK => ?_); simp (disch := first | omega | (simp only [List.length_set, List.length_append, List.length_cons, List.length_nil, iv_length, zl_length]; try omega; done)) [-getElem?_pos, -getElem?_neg, hc]; refine hK _ _ ?_; clear hK K)
    (refine aw_ret ?_; simp (disch := first | omega | (simp only [List.length_set, List.length_append, List.length_cons, List.length_nil, iv_length, zl_length]; try omega; done)) [-getElem?_pos, -getElem?_neg, thenQ_ret, inBlockQ_ret, RQ, resL, resV])
    simp [memB, hc]
  · (refine aw_ops (by kernel_rfl) (fun K hK => ?_); simp (disch := first | omega | (simp only [List.length_set, List.length_append, List.length_cons, List.length_nil, iv_length, zl_length]; try omega; done)) [-getElem?_pos, -getElem?_neg, hc]; refine hK _ _ ?_; clear hK K)
    (refine aw_ret ?_; simp (disch := first | omega | (simp only [List.length_set, List.length_append, List.length_cons, List.length_nil, iv_length, zl_length]; try omega; done)) [-getElem?_pos, -getElem?_neg, thenQ_ret, inBlockQ_ret, RQ, resL, resV])
    simp [memB, hc]
theorem splice_ac (h : Rl 28 X H p L) (hn : nro ≤ p) (hnl : nro ≤ H.length) (hX : ∀ j ∈ X, j < H.length) {k fr be : Nat} (hk : k < 8) (hfr : fr ≤ (L k).length) (hbe : be ≤ (L k).length) (hlk : (L k).length ≤ 1000) {fv : Value} {fs : List ByteArray} (hf : Part H H.length fv (ss fs)) (hfl : fs.length ≤ 1000) :
    AC Try.prog nro γ 22 #[.pointer (some ⟨p, 0, none⟩), .int .i64 (k : Nat), .int .i64 (fr : Nat), .int .i64 (be : Nat), fv] H (fun v' H' => Rl 28 X H' p (upd L k ((L k).take fr ++ fs ++ (L k).drop be)) ∧ Fr H H' [p] [p]) := by
  obtain ⟨Ms, h⟩ := h
  have hcells := h.cells
  have hpl := hget_lt hcells
  have hml := h.sl k hk
  obtain ⟨x1, hx1, hp1⟩ := hml.front (P := Try.prog) (t := 25) (e := 9) (by simp) (by simp) (by simp) hfr
  obtain ⟨x3, hx3, hp3⟩ := hml.back (P := Try.prog) (t := 25) (e := 9) (by simp) (by simp) (by simp) hbe
  have hnm := hml.nt
  have hn1 := hp1.nt
  have hn2 := hf.nt
  have hn3 := hp3.nt
  have hc1 : x1.cells = #[x1] := by obtain ⟨⟨a, c, rfl⟩, _⟩ := hp1; rfl
  have hc2 : fv.cells = #[fv] := by obtain ⟨⟨a, c, rfl⟩, _⟩ := hf; rfl
  have hc3 : x3.cells = #[x3] := by obtain ⟨⟨a, c, rfl⟩, _⟩ := hp3; rfl
  obtain ⟨cs, hcs⟩ : ∃ cs, cs = (List.range 8).map Ms := ⟨_, rfl⟩
  have hcl : cs.length = 8 := by rw [hcs]; simp
  have hck : cs[k]? = some (Ms k) := by rw [hcs, List.getElem?_map, List.getElem?_range hk]; rfl
  have hset := fun v => range8_set Ms k v
  rw [← hcs] at hset
  have hcells' := hcells
  rw [← hcs] at hcells'
  obtain ⟨B, hB⟩ : ∃ B, B = (some ⟨[x1, fv, x3], 25, some 1⟩ : Option Blk) := ⟨_, rfl⟩
  obtain ⟨LL, hLL⟩ : ∃ LL, LL = [ss ((L k).take fr), ss fs, ss ((L k).drop be)] := ⟨_, rfl⟩
  have hLn : LL.length = 3 := by rw [hLL]; rfl
  have hsum : sumL LL LL.length ≤ 1000000 := by rw [hLL]; show sumL _ 3 ≤ _; rw [sum3]; simp; omega
  have hfl2 : LL.flatten = ss ((L k).take fr ++ fs ++ (L k).drop be) := by rw [hLL, concat3]
  have hgB : hget (H ++ [B]) H.length = some ⟨[x1, fv, x3], 25, some 1⟩ := by rw [hget_app0, hB]; rfl
  have hlow : ∀ j, j < H.length → hget (H ++ [B]) j = hget H j := fun j hj => hget_left hj
  have hcc := concat_ac (H := H ++ [B]) (γ := γ) (nro := nro) (v := fv) (j := H.length) (xs := [x1, fv, x3]) (L := LL) hgB (by rw [hLn]; rfl) (fun i x c hi hc => by
    rw [hLL] at hc
    match i, hi, hc with
    | 0, hi, hc => cases hi; cases hc; exact hp1.keep (by simp) hlow
    | 1, hi, hc => cases hi; cases hc; exact hf.keep (by simp) hlow
    | 2, hi, hc => cases hi; cases hc; exact hp3.keep (by simp) hlow
    | i + 3, hi, _ => simp at hi) hsum (by omega) (by simp; omega)
  rw [hLn] at hcc
  obtain ⟨v', hv'⟩ : ∃ v', v' = cV (H ++ [B]).length LL := ⟨_, rfl⟩
  have hnv : notTuple v' = true ∧ v'.cells = #[v'] := by rw [hv']; unfold cV; split <;> exact ⟨rfl, rfl⟩
  obtain ⟨hnv1, hnv2⟩ := hnv
  rw [← hv'] at hcc
  generalize Ms k = mk at *
  have hmv : (∃ a n c, mk = .slice a n c) := by
    rcases hml with ⟨rfl, _⟩ | ⟨j, off, cs, rfl, _⟩ <;> exact ⟨_, _, _, rfl⟩
  obtain ⟨ma, mn, mc, rfl⟩ := hmv
  refine ac_of_aw Try.func22 rfl Try.ntmps22 Try.results22 (by simp) ?_
  refine aw_seq ?_
  (refine aw_ops (by kernel_rfl) (fun K hK => ?_); simp (disch := first | omega | (simp only [List.length_set, List.length_append, List.length_cons, List.length_nil, iv_length, zl_length]; try omega; done)) [-getElem?_pos, -getElem?_neg, hcells', hcl, hck]; refine hK _ _ ?_; clear hK K)
  obtain ⟨Φ, e0, e1, e2, e3⟩ : ∃ Φ : Nat → AH → Prop, (∀ G, Φ 0 G ↔ G = H) ∧ (∀ G, Φ 1 G ↔ G = H ++ [B]) ∧ (∀ G, Φ 2 G ↔ (OwnL (H ++ [B]).length G v' LL.flatten ∧ (H ++ [B]).length ≤ G.length ∧ ∀ j, j < (H ++ [B]).length → hget G j = hget (H ++ [B]) j)) ∧
      (∀ G, Φ 3 G ↔ (Rl 28 X G p (upd L k ((L k).take fr ++ fs ++ (L k).drop be)) ∧ Fr H G [p] [p])) :=
    ⟨fun s G => match s with
      | 0 => G = H
      | 1 => G = H ++ [B]
      | 2 => OwnL (H ++ [B]).length G v' LL.flatten ∧ (H ++ [B]).length ≤ G.length ∧ ∀ j, j < (H ++ [B]).length → hget G j = hget (H ++ [B]) j
      | _ => Rl 28 X G p (upd L k ((L k).take fr ++ fs ++ (L k).drop be)) ∧ Fr H G [p] [p], fun _ => Iff.rfl, fun _ => Iff.rfl, fun _ => Iff.rfl, fun _ => Iff.rfl⟩
  refine aw_chain (fun _ => false) Φ (by kernel_rfl) (by kernel_rfl) (by kernel_rfl) (fun s G _ j hj => by cases hj) ((e0 H).2 rfl) (fun K hK => ?_)
  simp (disch := first | omega | (simp only [List.length_set, List.length_append, List.length_cons, List.length_nil, iv_length, zl_length]; try omega; done)) [-getElem?_pos, -getElem?_neg, -xslice, hx1, hx3, CL_nil, CL_cons, CLc_val, CLc_skip, memS, inS, inSp, isCallF, effF]
  refine CLc_eff (v := .slice (some ⟨H.length, 0, none⟩) 3 3) (fun G hG => ⟨H ++ [B], ?_, (e1 _).2 rfl⟩) ?_
  · obtain rfl := (e0 _).1 hG
    subst hB
    simp (disch := first | omega | (simp only [List.length_set, List.length_append, List.length_cons, List.length_nil, iv_length, zl_length]; try omega; done)) [-getElem?_pos, -getElem?_neg, -notTuple, hn1, hn2, hn3, hc1, hc2, hc3, plain_nil, fill3, fill3']
    try exact ⟨hn1, hn2, hn3⟩
  try simp (disch := first | omega | (simp only [List.length_set, List.length_append, List.length_cons, List.length_nil, iv_length, zl_length]; try omega; done)) [-getElem?_pos, -getElem?_neg, CL_nil, CL_cons, CLc_val, CLc_skip, memS, inS, inSp, isCallF, effF]
  refine CLc_call (v := v') (by kernel_rfl) (fun G hG => ?_) ?_
  · obtain rfl := (e1 _).1 hG
    exact hcc.mono (fun v'' G' ⟨e, h1, h2, h3⟩ => ⟨e, (e2 _).2 (by subst e; exact ⟨h1, h2, h3⟩)⟩)
  try simp (disch := first | omega | (simp only [List.length_set, List.length_append, List.length_cons, List.length_nil, iv_length, zl_length]; try omega; done)) [-getElem?_pos, -getElem?_neg, CL_nil, CL_cons, CLc_val, CLc_skip, memS, inS, inSp, isCallF, effF]
  refine CLc_eff (v := undef) (fun G hG => ?_) ?_
  · obtain ⟨ho, hle, hkp⟩ := (e2 _).1 hG
    have hkp' : ∀ j, j < H.length → hget G j = hget H j := fun j hj => (hkp j (by simp; omega)).trans (hlow j hj)
    rw [hfl2] at ho
    have hgp : hget G p = _ := (hkp' p hpl).trans hcells'
    have hle' : H.length ≤ G.length := by rw [List.length_append] at hle; omega
    have hput := h.put (G := G) hle' hkp' hk (v := v') (l := (L k).take fr ++ fs ++ (L k).drop be) (ho.ml (fun j hj => by have := hX j hj; rw [List.length_append]; omega))
    refine ⟨_, ?_, (e3 _).2 hput⟩
    rw [← hset v']
    simp (disch := first | omega | (simp only [List.length_set, List.length_append, List.length_cons, List.length_nil, iv_length, zl_length]; try omega; done)) [-getElem?_pos, -getElem?_neg, -notTuple, hgp, hcl, hnv1, hnv2]
    try exact hnv1
  try simp (disch := first | omega | (simp only [List.length_set, List.length_append, List.length_cons, List.length_nil, iv_length, zl_length]; try omega; done)) [-getElem?_pos, -getElem?_neg, CL_nil, CL_cons, CLc_val, CLc_skip, memS, inS, inSp, isCallF, effF]
  intro G h3
  obtain ⟨h1, h2⟩ := (e3 _).1 h3
  refine hK _ _ ?_; clear hK K
  exact ⟨_, _, rfl, rfl, h1, h2⟩
end
end Go.Proofs.Yteldoimjachbbaa
