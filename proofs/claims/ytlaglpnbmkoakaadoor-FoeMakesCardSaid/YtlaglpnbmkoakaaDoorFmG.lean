/-
  A stranger's law: what others made.
-/
import Derived.Test.YtlaglpnbmkoakaaDoorFmF
import Derived.Test.YtlaglpnbmkoakaaDoorFmC
namespace Go.Proofs.YtlaglpnbmkoakaaDoor
open Go Go.RowKit
set_option linter.unusedSimpArgs false
set_option linter.unusedVariables false
set_option maxRecDepth 100000
set_option maxHeartbeats 8000000
section
def sA : TermD := ⟨1, ⟨#[97]⟩, []⟩
def sB : TermD := ⟨1, ⟨#[98]⟩, []⟩
def sX : TermD := ⟨6, ⟨#[116, 101, 120, 116]⟩, [n0, zl 32, n1]⟩
def sP : TermD := ⟨3, ⟨#[]⟩, [n1]⟩
def sH : TermD := ⟨2, ⟨#[104]⟩, [n0]⟩
def sT1 : List TermD := [sA]
def sT2 : List TermD := [sA, sB]
def sT3 : List TermD := [sA, sB, sX]
def sT4 : List TermD := [sA, sB, sX, sP]
def sT5 : List TermD := [sA, sB, sX, sP, sH]
theorem sA_wf : sA.Wf := wf_atom (by decide)
theorem sB'_wf : sB.Wf := wf_atom (by decide)
theorem sB_wf : TermD.Wf ⟨6, ⟨#[116, 101, 120, 116]⟩, n0 :: zl 32 :: [n1]⟩ := wf_seal (by decide) rfl n0_by rfl zl_by32 (fun z hz => by rw [List.mem_singleton.1 hz]; exact ⟨rfl, n1_by⟩) (by decide)
theorem sP_wf : sP.Wf := wf_pub rfl n1_by
theorem sH_wf : sH.Wf := ⟨by decide, by decide, fun k hk => (by rw [List.mem_singleton.1 hk]; rfl), fun k hk => (by rw [List.mem_singleton.1 hk]; exact n0_by), by decide, fun e => (by cases e), fun e => (by cases e), fun e => (by cases e)⟩
theorem sT5_wf : ∀ x ∈ sT5, x.Wf := fun x hx => by
 simp only [sT5, List.mem_cons, List.not_mem_nil, or_false] at hx
 rcases hx with rfl | rfl | rfl | rfl | rfl
 ·exact sA_wf
 ·exact sB'_wf
 ·exact sB_wf
 ·exact sP_wf
 ·exact sH_wf
theorem kne {x y : TermD} (h : x.kind ≠ y.kind) : x ≠ y := fun e => h (congrArg TermD.kind e)
theorem sT5_nd : sT5.Nodup := by
 have h1 : sA ≠ sB := fun e => absurd (congrArg TermD.text e) (by decide)
 have h2 : sA ≠ sX := kne (by decide)
 have h3 : sA ≠ sP := kne (by decide)
 have h4 : sA ≠ sH := kne (by decide)
 have h5 : sB ≠ sX := kne (by decide)
 have h6 : sB ≠ sP := kne (by decide)
 have h7 : sB ≠ sH := kne (by decide)
 have h8 : sX ≠ sP := kne (by decide)
 have h9 : sX ≠ sH := kne (by decide)
 have hA : sP ≠ sH := kne (by decide)
 simp [sT5, h1, h2, h3, h4, h5, h6, h7, h8, h9, hA]
theorem s_add {x : TermD} {l : List TermD} {r : List TermD} (h : l ++ (x :: r) = sT5) : addT x l = l ++ [x] ∧ nameT x l = l.length := by
 have hw := sT5_wf
 have hn := sT5_nd
 rw [← h] at hw hn
 exact add_new (hw x (by simp)) (fun y hy => hw y (by simp [hy])) (fun hm => (List.nodup_append.1 hn).2.2 x hm x (by simp) rfl)
theorem sD1 : addT sA [] = sT1 := (s_add (l := []) (r := [sB, sX, sP, sH]) rfl).1
theorem sD2 : addT sB sT1 = sT2 := (s_add (l := sT1) (r := [sX, sP, sH]) rfl).1
theorem sD3 : addT sX sT2 = sT3 := (s_add (l := sT2) (r := [sP, sH]) rfl).1
theorem sD4 : addT sP sT3 = sT4 := (s_add (l := sT3) (r := [sH]) rfl).1
theorem sD5 : addT sH sT4 = sT5 := (s_add (l := sT4) (r := []) rfl).1
theorem sV1 : nmV sA [] = .agg (iv .u8 n0).toArray := by unfold nmV; rw [(s_add (x := sA) (l := []) (r := [sB, sX, sP, sH]) rfl).2]; rfl
theorem sV2 : nmV sB sT1 = .agg (iv .u8 n1).toArray := by unfold nmV; rw [(s_add (x := sB) (l := sT1) (r := [sX, sP, sH]) rfl).2]; rfl
theorem sV3 : nmL (nameT sX sT2 : Nat) = n2 := by rw [(s_add (x := sX) (l := sT2) (r := [sP, sH]) rfl).2]; rfl
theorem sV4 : nmV sP sT3 = .agg (iv .u8 n3).toArray := by unfold nmV; rw [(s_add (x := sP) (l := sT3) (r := [sH]) rfl).2]; rfl
theorem sV5 : nmV sH sT4 = .agg (iv .u8 n4).toArray := by unfold nmV; rw [(s_add (x := sH) (l := sT4) (r := []) rfl).2]; rfl
@[reducible] def SP1 (H0 B : AH) (S : List Nat) (tb rb : Nat) (s : Array Bool) (α : Fm) (G : AH) : Prop :=
 ∃ r5 r6 S2, Pl H0 S2 G tb rb (.slice none 0 0) (if s.getD 5 false = true then sT2 else if s.getD 2 false = true then sT1 else []) [] [] ∧ (∀ j ∈ S, j ∈ S2 ∧ hget G j = hget B j ∧ j < B.length) ∧ r5 ≠ r6 ∧
  (s.getD 6 false = true → α 5 = .pointer (some ⟨r5, 0, none⟩) ∧ r5 ∈ S2 ∧ B.length ≤ r5 ∧ hget G r5 = some ⟨iv .u8 (if s.getD 8 false = true then n0 else zl 32), 41, none⟩) ∧
  (s.getD 7 false = true → α 6 = .pointer (some ⟨r6, 0, none⟩) ∧ r6 ∈ S2 ∧ B.length ≤ r6 ∧ hget G r6 = some ⟨iv .u8 (if s.getD 9 false = true then n1 else zl 32), 41, none⟩)
theorem SP1.keep {H0 B : AH} {S : List Nat} {tb rb : Nat} {s : Array Bool} {α : Fm} {G : AH} {i t : Nat} {v : Value} (hi : i ∉ [2, 5, 6, 7, 8, 9]) (ht : t ∉ [5, 6]) (h : SP1 H0 B S tb rb s α G) : SP1 H0 B S tb rb (s.setIfInBounds i true) (α.put (some t) v) G := by
 simp only [List.mem_cons, List.not_mem_nil, or_false, not_or] at hi ht
 obtain ⟨h1, h2, h3, h4, h5, h6⟩ := hi
 obtain ⟨r5, r6, S2, w1, w2, w3, w4, w5⟩ := h
 refine ⟨r5, r6, S2, by rw [gs_ne h2, gs_ne h1]; exact w1, w2, w3, fun a => ?_, fun a => ?_⟩
 ·rw [gs_ne h3] at a
  rw [gs_ne h5]
  obtain ⟨x1, x2⟩ := w4 a
  exact ⟨by simpa [put_at, Ne.symm ht.1] using x1, x2⟩
 ·rw [gs_ne h4] at a
  rw [gs_ne h6]
  obtain ⟨x1, x2⟩ := w5 a
  exact ⟨by simpa [put_at, Ne.symm ht.2] using x1, x2⟩
@[reducible] def SP2 (H0 B : AH) (S : List Nat) (tb rb : Nat) (s : Array Bool) (α : Fm) (G : AH) : Prop :=
 ∃ r7 rA S2, Pl H0 S2 G tb rb (.slice none 0 0) (if s.getD 8 false = true then sT3 else sT2) sT2 [] ∧ (∀ j ∈ S, j ∈ S2 ∧ hget G j = hget B j ∧ j < B.length) ∧
  (s.getD 7 false = true → s.getD 8 false = false → α 27 = .slice (some ⟨r7, 0, none⟩) 1 1 ∧ r7 ∈ S2 ∧ hget G r7 = some ⟨iv .u8 n1, 41, some 32⟩) ∧
  (s.getD 10 false = true → α 7 = .pointer (some ⟨rA, 0, none⟩) ∧ rA ∈ S2 ∧ (H0.length ≤ rA ∧ rA ∉ S) ∧ hget G rA = some ⟨iv .u8 (if s.getD 11 false = true then n2 else zl 32), 41, none⟩)
theorem SP2.keep {H0 B : AH} {S : List Nat} {tb rb : Nat} {s : Array Bool} {α : Fm} {G : AH} {i t : Nat} {v : Value} (hi : i ∉ [7, 8, 10, 11]) (ht : t ∉ [27, 7]) (h : SP2 H0 B S tb rb s α G) : SP2 H0 B S tb rb (s.setIfInBounds i true) (α.put (some t) v) G := by
 simp only [List.mem_cons, List.not_mem_nil, or_false, not_or] at hi ht
 obtain ⟨h1, h2, h3, h4⟩ := hi
 obtain ⟨r7, rA, S2, w1, w2, w3, w4⟩ := h
 refine ⟨r7, rA, S2, by rw [gs_ne h2]; exact w1, w2, fun a b => ?_, fun a => ?_⟩
 ·rw [gs_ne h1] at a
  rw [gs_ne h2] at b
  obtain ⟨x1, x2⟩ := w3 a b
  exact ⟨by simpa [put_at, Ne.symm ht.1] using x1, x2⟩
 ·rw [gs_ne h3] at a
  rw [gs_ne h4]
  obtain ⟨x1, x2⟩ := w4 a
  exact ⟨by simpa [put_at, Ne.symm ht.2] using x1, x2⟩
def scAD : List (Option Nat) := [some 10, some 11, some 12, some 13, some 14, some 15, some 5, some 6, none, none]
def scAP : List (List Nat) := [[], [0], [1], [], [3], [2, 4], [], [], [0, 1, 2, 5, 6, 7], [0, 1, 2, 3, 4, 5, 6, 7, 8]]
def scAV (n tb : Nat) (i : Nat) (v : Value) : Prop := match i with
 | 0 => v = .pointer (some ⟨n, 0, none⟩)
 | 1 => v = .pointer (some ⟨tb, 0, none⟩)
 | 2 => v = .agg (iv .u8 n0).toArray
 | 3 => v = .pointer (some ⟨n, 0, none⟩)
 | 4 => v = .pointer (some ⟨tb, 0, none⟩)
 | 5 => v = .agg (iv .u8 n1).toArray
 | _ => True
theorem scA_nd : ∀ i j t : Nat, scAD[i]? = some (some t) → scAD[j]? = some (some t) → i = j := by
 have h : ∀ i < 10, ∀ j < 10, ∀ t : Nat, scAD[i]? = some (some t) → scAD[j]? = some (some t) → i = j := by
  intro i hi j hj t h1 h2
  have h3 : scAD[i]? = scAD[j]? := h1.trans h2.symm
  have h4 : (scAD[i]?.bind id).isSome = true := by rw [h1]; rfl
  revert h3 h4
  clear h1 h2
  revert i j
  decide
 intro i j t hi hj
 exact h i (List.getElem?_eq_some_iff.1 hi).1 j (List.getElem?_eq_some_iff.1 hj).1 t hi hj
def scBD : List (Option Nat) := [some 20, some 21, some 22, some 23, some 24, some 25, some 26, some 27, some 28, some 29, some 7, none]
def scBP : List (List Nat) := [[], [0], [], [2], [], [], [], [6], [3, 4, 5, 7], [1, 8], [], [0, 1, 2, 3, 4, 5, 6, 7, 8, 9, 10]]
def scBV (n tb b5 b6 : Nat) (i : Nat) (v : Value) : Prop := match i with
 | 0 => v = .pointer (some ⟨n, 0, none⟩)
 | 1 => v = .pointer (some ⟨tb, 0, none⟩)
 | 2 => v = .pointer (some ⟨n, 0, none⟩)
 | 3 => v = .pointer (some ⟨tb, 0, none⟩)
 | 4 => v = .agg (iv .u8 n0).toArray
 | 5 => v = .agg (iv .u8 (zl 32)).toArray
 | 6 => v = .agg (iv .u8 n1).toArray
 | 8 => v = .string (strOfNums n2)
 | 9 => v = .agg (iv .u8 n2).toArray
 | _ => True
theorem scB_nd : ∀ i j t : Nat, scBD[i]? = some (some t) → scBD[j]? = some (some t) → i = j := by
 have h : ∀ i < 12, ∀ j < 12, ∀ t : Nat, scBD[i]? = some (some t) → scBD[j]? = some (some t) → i = j := by
  intro i hi j hj t h1 h2
  have h3 : scBD[i]? = scBD[j]? := h1.trans h2.symm
  have h4 : (scBD[i]?.bind id).isSome = true := by rw [h1]; rfl
  revert h3 h4
  clear h1 h2
  revert i j
  decide
 intro i j t hi hj
 exact h i (List.getElem?_eq_some_iff.1 hi).1 j (List.getElem?_eq_some_iff.1 hj).1 t hi hj
end
section
attribute [local simp] wb_bool wb_undef with_lit XL_nil XL_cons XLc_val XLc_call step1_eq stepW_t stepW_f stepC_n stepC_s stepX_s stepX_n stepN_s calleeX xrecv oneV xop_eq xopR_s xopR_n wantedA_eq wantedG_n wantedG_s plain1_int plain1_bool plain1_string bits_i64 bits_u64 bits_u32 bits_u16 bits_u8 xeqA xagg xcmp xarr allK_iv num_iv calleeOf xread xeff xbin xint xnil xun xstr xload xconv xpart xfield xfieldAddr xindexAddr xindex bnd asInt? xslice xlen xmin xmax xbuild xfill xappend xapp2 xappstr xappmk xcap xcopy xcells eval_tmp eval_const put_at put_none fr0_at cells_agg cells_int cells_bool cells_string cells_ptr cells_slice notTuple tab iv_all hget_app hget_app0 hget_cons0 hget_cons set_app set_app0 setR setR_one QL_nil QL_cons QLc_val stepQ_t stepQ_f stepQC_n stepQC_s stepQX_s SL_nil SL_cons SLc_val stepS_t stepS_f ltT ltF leT leF eqT eqF ltTn ltFn leTn leFn eqTn eqFn beqT beqF bneT bneF wi64 wu64 wu32 wu16 wu8 tmodP tdivP hgetL hgetNe hgetEq setL nums_def nums_len Nat.succ_le_of_lt List.getElem?_cons_zero List.getElem?_cons_succ Option.getD_some Int.toNat_add Int.toNat_mul agM okM agB agI agS agP agL agA okB okI okS okP okSl okA nt_strG nt_boolG nt_aggG nt_intG nt_ptrG nt_slG XO_s XO_z XLk_val XLk_call headsO behind List.length_cons List.length_nil List.mem_cons List.not_mem_nil or_false forall_eq_or_imp forall_eq List.contains_cons List.contains_nil XOm
section
def SecQ (H0 : AH) (S : List Nat) (H : AH) (tb rb : Nat) (v' : Value) (H' : AH) : Prop := ∃ r, v' = .slice (some ⟨r, 0, none⟩) 3 3 ∧ hget H' r = some ⟨kr [n2, n3, n4], 41, some 32⟩ ∧ Pl H0 (r :: S) H' tb rb (.slice none 0 0) sT5 sT5 [] ∧ ∀ j ∈ S, hget H' j = hget H j
theorem secret_ac {γ : Nat → Option Nat} {H0 H : AH} {S : List Nat} (hpw : Pw γ H0) {tb rb : Nat} (h : Pl H0 S H tb rb (.slice none 0 0) [] [] []) :
  AC Tryd.prog H0.length γ 9 #[.agg #[.pointer (some ⟨tb, 0, none⟩)], .pointer (some ⟨rb, 0, none⟩)] H (SecQ H0 S H tb rb) := by
 have l0 : n0.length = 32 := rfl
 have l1 : n1.length = 32 := rfl
 have l2 : n2.length = 32 := rfl
 have l3 : n3.length = 32 := rfl
 have l4 : n4.length = 32 := rfl
 have tN0 : (iv .u8 n0).take 32 = iv .u8 n0 := rfl
 have tN1 : (iv .u8 n1).take 32 = iv .u8 n1 := rfl
 have tN2 : (iv .u8 n2).take 32 = iv .u8 n2 := rfl
 have tN3 : (iv .u8 n3).take 32 = iv .u8 n3 := rfl
 have tN4 : (iv .u8 n4).take 32 = iv .u8 n4 := rfl
 have sN0 : setR (iv .u8 (zl 32)) 0 (iv .u8 n0) = iv .u8 n0 := setR_all _ _ (by simp [l0])
 have sN1 : setR (iv .u8 (zl 32)) 0 (iv .u8 n1) = iv .u8 n1 := setR_all _ _ (by simp [l1])
 have sN2 : setR (iv .u8 (zl 32)) 0 (iv .u8 n2) = iv .u8 n2 := setR_all _ _ (by simp [l2])
 have sN3 : setR (iv .u8 (zl 32)) 0 (iv .u8 n3) = iv .u8 n3 := setR_all _ _ (by simp [l3])
 have sN4 : setR (iv .u8 (zl 32)) 0 (iv .u8 n4) = iv .u8 n4 := setR_all _ _ (by simp [l4])
 have rN0 : setR (List.map (fun j => (iv .u8 (zl 32))[j % 32]?.getD undef) (List.range 32)) 0 (iv .u8 n0) = iv .u8 n0 := setR_all _ _ (by simp [l0])
 have rN1 : setR (List.map (fun j => (iv .u8 (zl 32))[j % 32]?.getD undef) (List.range 32)) 0 (iv .u8 n1) = iv .u8 n1 := setR_all _ _ (by simp [l1])
 have hpl : plain1 (.slice none 0 0) = true := rfl
 obtain ⟨n, hn⟩ : ∃ n, n = H.length := ⟨_, rfl⟩
 obtain ⟨B, hB⟩ : ∃ B : AH, B = H ++ [some ⟨[.pointer (some ⟨tb, 0, none⟩)], 27, none⟩] := ⟨_, rfl⟩
 have gT : hget B n = some ⟨[.pointer (some ⟨tb, 0, none⟩)], 27, none⟩ := by rw [hB, hn, hget_app0]; rfl
 have lwB : Low H.length H B := by rw [hB]; exact Low.push (Nat.le_refl _) _
 have hBl : B.length = n + 1 := by rw [hB, hn]; simp
 obtain ⟨SB, hSB⟩ : ∃ SB : List Nat, SB = [n] ++ S := ⟨_, rfl⟩
 have pB : Pl H0 SB B tb rb (.slice none 0 0) [] [] [] := by rw [hSB]; exact h.push lwB (fun j hj => by rw [List.mem_singleton.1 hj]; omega)
 have hnS : n ∈ SB := by rw [hSB]; simp
 have hS0 : ∀ j ∈ S, j ∈ SB ∧ hget B j = hget H j := fun j hj => ⟨by rw [hSB]; simp [hj], lwB.1 j (h.sl hj)⟩
 clear hSB
 have hnB : H0.length ≤ B.length := pB.lw.2
 refine ac_of_aw Tryd.func9 rfl Tryd.ntmps9 Tryd.results9 (by simp) ?_
 (refine aw_seq (aoo fun K hK => ?_); simp (disch := first | omega | (simp only [lnS]; try omega)) [-getElem?_pos, -getElem?_neg]; refine hK _ _ ?_; clear hK K)
 rw [← hn, ← hB]
 clear hB
 refine aw_seq ?_
 refine name_aw (fun β hβ => ?_)
 have e1 : β 1 = .pointer (some ⟨rb, 0, none⟩) := by rw [hβ]; (first | (simp; done) | rfl)
 have e2 : β 2 = .pointer (some ⟨n, 0, none⟩) := by rw [hβ]; (first | (simp; done) | rfl)
 clear hβ
 refine aw_inv scAP (JT scAD (scAV n tb) β (SP1 H0 B SB tb rb)) (by kernel_rfl) (by kernel_rfl) (by kernel_rfl) ?_ ?_ ?_
 ·exact ⟨by simp; rfl, fun _ _ => rfl, fun i t' hi h => (by rw [gs_0] at h; cases h), 0, 1, SB, (by rw [gs_0, gs_0]; exact pB), fun j hj => ⟨hj, rfl, pB.sl hj⟩, by decide, fun h => (by rw [gs_0] at h; cases h), fun h => (by rw [gs_0] at h; cases h)⟩
 ·intro i s α G k hJ hi0 hsi hd hcc hcont
  obtain ⟨r5, r6, S2, jp, js, jne, ja, jb⟩ := hJ.hp
  have j2 := (hJ.lo 2 (by decide)).trans e2
  have gT := (js n hnS).2.1.trans gT
  have ldT := ld_tb gT
  have hnG : H0.length ≤ G.length := jp.lw.2
  have hi : i = 0 ∨ i = 1 ∨ i = 2 ∨ i = 3 ∨ i = 4 ∨ i = 5 ∨ i = 6 ∨ i = 7 ∨ i = 8 ∨ i = 9 := by have hi0 : i < 10 := hi0; omega
  rcases hi with rfl | rfl | rfl | rfl | rfl | rfl | rfl | rfl | rfl | rfl
  ·simp (disch := first | omega | (simp only [lnS]; try omega)) [-getElem?_pos, -getElem?_neg, -notTuple, j2]
   exact hcont _ _ (hJ.put scA_nd (t := 10) rfl rfl (hJ.hp.keep (by decide) (by decide)))
  ·have f0 : α 10 = .pointer (some ⟨n, 0, none⟩) := hJ.val 0 10 rfl (hd 0 (by decide))
   simp (disch := first | omega | (simp only [lnS]; try omega)) [-getElem?_pos, -getElem?_neg, -notTuple, -xload, ldT, f0]
   exact hcont _ _ (hJ.put scA_nd (t := 11) rfl rfl (hJ.hp.keep (by decide) (by decide)))
  ·have f1 : α 11 = .pointer (some ⟨tb, 0, none⟩) := hJ.val 1 11 rfl (hd 1 (by decide))
   simp (disch := first | omega | (simp only [lnS]; try omega)) [-getElem?_pos, -getElem?_neg, f1]
   have jp : Pl H0 S2 G tb rb (.slice none 0 0) [] [] [] := by rw [hsi, hcc 5 (by decide)] at jp; exact jp
   refine ⟨by kernel_rfl, AC.mono (pl_draw hpw jp (s := ⟨#[97]⟩) (by decide) (by decide)) ?_⟩
   rintro v' G' ⟨hv, pp, ss⟩
   rw [show nmV ⟨1, ⟨#[97]⟩, []⟩ [] = _ from sV1] at hv
   rw [show addT ⟨1, ⟨#[97]⟩, []⟩ [] = _ from sD1] at pp
   subst hv
   exact hcont _ _ (hJ.put scA_nd (t := 12) rfl rfl ⟨r5, r6, S2, by rw [gs_ne (by decide), hcc 5 (by decide), gs_eq (by rw [hJ.sz]; decide)]; exact pp, fun j hj => ⟨(js j hj).1, (ss j (js j hj).1).trans (js j hj).2.1, (js j hj).2.2⟩, jne, fun a => by
    rw [gs_ne (by decide)] at a
    obtain ⟨w1, w2, w3, w4⟩ := ja a
    exact ⟨by (first | (simp [w1]; done) | rfl), w2, w3, by rw [gs_ne (by decide), ss _ w2]; exact w4⟩, fun a => by
    rw [gs_ne (by decide)] at a
    obtain ⟨w1, w2, w3, w4⟩ := jb a
    exact ⟨by (first | (simp [w1]; done) | rfl), w2, w3, by rw [gs_ne (by decide), ss _ w2]; exact w4⟩⟩)
  ·simp (disch := first | omega | (simp only [lnS]; try omega)) [-getElem?_pos, -getElem?_neg, -notTuple, j2]
   exact hcont _ _ (hJ.put scA_nd (t := 13) rfl rfl (hJ.hp.keep (by decide) (by decide)))
  ·have f3 : α 13 = .pointer (some ⟨n, 0, none⟩) := hJ.val 3 13 rfl (hd 3 (by decide))
   simp (disch := first | omega | (simp only [lnS]; try omega)) [-getElem?_pos, -getElem?_neg, -notTuple, -xload, ldT, f3]
   exact hcont _ _ (hJ.put scA_nd (t := 14) rfl rfl (hJ.hp.keep (by decide) (by decide)))
  ·have f2 : α 12 = .agg (iv .u8 n0).toArray := hJ.val 2 12 rfl (hd 2 (by decide))
   have f4 : α 14 = .pointer (some ⟨tb, 0, none⟩) := hJ.val 4 14 rfl (hd 4 (by decide))
   simp (disch := first | omega | (simp only [lnS]; try omega)) [-getElem?_pos, -getElem?_neg, f2, f4]
   have jp : Pl H0 S2 G tb rb (.slice none 0 0) sT1 [] [] := by rw [hsi, hd 2 (by decide)] at jp; exact jp
   refine ⟨by kernel_rfl, AC.mono (pl_draw hpw jp (s := ⟨#[98]⟩) (by decide) (by decide)) ?_⟩
   rintro v' G' ⟨hv, pp, ss⟩
   rw [show nmV ⟨1, ⟨#[98]⟩, []⟩ sT1 = _ from sV2] at hv
   rw [show addT ⟨1, ⟨#[98]⟩, []⟩ sT1 = _ from sD2] at pp
   subst hv
   exact hcont _ _ (hJ.put scA_nd (t := 15) rfl rfl ⟨r5, r6, S2, by rw [gs_eq (by rw [hJ.sz]; decide)]; exact pp, fun j hj => ⟨(js j hj).1, (ss j (js j hj).1).trans (js j hj).2.1, (js j hj).2.2⟩, jne, fun a => by
    rw [gs_ne (by decide)] at a
    obtain ⟨w1, w2, w3, w4⟩ := ja a
    exact ⟨by (first | (simp [w1]; done) | rfl), w2, w3, by rw [gs_ne (by decide), ss _ w2]; exact w4⟩, fun a => by
    rw [gs_ne (by decide)] at a
    obtain ⟨w1, w2, w3, w4⟩ := jb a
    exact ⟨by (first | (simp [w1]; done) | rfl), w2, w3, by rw [gs_ne (by decide), ss _ w2]; exact w4⟩⟩)
  ·simp (disch := first | omega | (simp only [lnS]; try omega)) [-getElem?_pos, -getElem?_neg, hnG]
   obtain ⟨m6, hm6⟩ : ∃ m6, m6 = if s.getD 7 false = true then r6 else G.length + 1 := ⟨_, rfl⟩
   have hlt : s.getD 7 false = true → r6 < G.length := fun a => hget_lt (jb a).2.2.2
   exact hcont _ _ (hJ.put scA_nd (t := 5) rfl trivial ⟨G.length, m6, [G.length] ++ S2, by rw [gs_ne (by decide), gs_ne (by decide)]; exact jp.push (Low.push (Nat.le_refl _) _) (fun j hj => by rw [List.mem_singleton.1 hj]; simp), fun j hj => ⟨by simp [(js j hj).1], (hget_left (jp.sl (js j hj).1)).trans (js j hj).2.1, (js j hj).2.2⟩, by
    rw [hm6]
    split
    ·rename_i a; have := hlt a; omega
    ·omega, fun _ => ⟨by (first | (simp; done) | rfl), by simp, (by have := jp.sl (js n hnS).1; omega), by rw [gs_ne (by decide), hcc 8 (by decide), hget_app0]; rfl⟩, fun a => by
    rw [gs_ne (by decide)] at a
    rw [hm6, if_pos a, gs_ne (by decide)]
    obtain ⟨w1, w2, w3, w4⟩ := jb a
    exact ⟨by (first | (simp [w1]; done) | rfl), by simp [w2], w3, (hget_left (hget_lt w4)).trans w4⟩⟩)
  ·simp (disch := first | omega | (simp only [lnS]; try omega)) [-getElem?_pos, -getElem?_neg, hnG]
   obtain ⟨m5, hm5⟩ : ∃ m5, m5 = if s.getD 6 false = true then r5 else G.length + 1 := ⟨_, rfl⟩
   have hlt : s.getD 6 false = true → r5 < G.length := fun a => hget_lt (ja a).2.2.2
   exact hcont _ _ (hJ.put scA_nd (t := 6) rfl trivial ⟨m5, G.length, [G.length] ++ S2, by rw [gs_ne (by decide), gs_ne (by decide)]; exact jp.push (Low.push (Nat.le_refl _) _) (fun j hj => by rw [List.mem_singleton.1 hj]; simp), fun j hj => ⟨by simp [(js j hj).1], (hget_left (jp.sl (js j hj).1)).trans (js j hj).2.1, (js j hj).2.2⟩, by
    rw [hm5]
    split
    ·rename_i a; have := hlt a; omega
    ·omega, fun a => by
    rw [gs_ne (by decide)] at a
    rw [hm5, if_pos a, gs_ne (by decide)]
    obtain ⟨w1, w2, w3, w4⟩ := ja a
    exact ⟨by (first | (simp [w1]; done) | rfl), by simp [w2], w3, (hget_left (hget_lt w4)).trans w4⟩, fun _ => ⟨by (first | (simp; done) | rfl), by simp, (by have := jp.sl (js n hnS).1; omega), by rw [gs_ne (by decide), hcc 9 (by decide), hget_app0]; rfl⟩⟩)
  ·have f0 : α 10 = .pointer (some ⟨n, 0, none⟩) := hJ.val 0 10 rfl (hd 0 (by decide))
   have f1 : α 11 = .pointer (some ⟨tb, 0, none⟩) := hJ.val 1 11 rfl (hd 1 (by decide))
   have f2 : α 12 = .agg (iv .u8 n0).toArray := hJ.val 2 12 rfl (hd 2 (by decide))
   have f5 : α 15 = .agg (iv .u8 n1).toArray := hJ.val 5 15 rfl (hd 5 (by decide))
   obtain ⟨w1, w2, w3, w4⟩ := ja (hd 6 (by decide))
   rw [hsi] at w4
   have w4 : hget G r5 = some ⟨iv .u8 (zl 32), 41, none⟩ := w4
   have wl := hget_lt w4
   have wn : H0.length ≤ r5 := by omega
   simp (disch := first | omega | (simp only [lnS]; try omega)) [-getElem?_pos, -getElem?_neg, w1, w4, wl, wn, f2, l0, sN0]
   exact hcont _ _ (hJ.put0 rfl ⟨r5, r6, S2, by rw [gs_ne (by decide), gs_ne (by decide)]; exact jp.set w2 wn _, fun j hj => ⟨(js j hj).1, (hget_set_ne (by have := (js j hj).2.2; omega)).trans (js j hj).2.1, (js j hj).2.2⟩, jne, fun _ => ⟨w1, w2, w3, by rw [gs_eq (by rw [hJ.sz]; decide)]; exact hget_set_eq wl⟩, fun a => by
    rw [gs_ne (by decide)] at a
    obtain ⟨x1, x2, x3, x4⟩ := jb a
    exact ⟨x1, x2, x3, by rw [gs_ne (by decide), hget_set_ne jne]; exact x4⟩⟩)
  ·have f0 : α 10 = .pointer (some ⟨n, 0, none⟩) := hJ.val 0 10 rfl (hd 0 (by decide))
   have f1 : α 11 = .pointer (some ⟨tb, 0, none⟩) := hJ.val 1 11 rfl (hd 1 (by decide))
   have f2 : α 12 = .agg (iv .u8 n0).toArray := hJ.val 2 12 rfl (hd 2 (by decide))
   have f3 : α 13 = .pointer (some ⟨n, 0, none⟩) := hJ.val 3 13 rfl (hd 3 (by decide))
   have f4 : α 14 = .pointer (some ⟨tb, 0, none⟩) := hJ.val 4 14 rfl (hd 4 (by decide))
   have f5 : α 15 = .agg (iv .u8 n1).toArray := hJ.val 5 15 rfl (hd 5 (by decide))
   obtain ⟨w1, w2, w3, w4⟩ := jb (hd 7 (by decide))
   rw [hsi] at w4
   have w4 : hget G r6 = some ⟨iv .u8 (zl 32), 41, none⟩ := w4
   have wl := hget_lt w4
   have wn : H0.length ≤ r6 := by omega
   simp (disch := first | omega | (simp only [lnS]; try omega)) [-getElem?_pos, -getElem?_neg, w1, w4, wl, wn, f5, l1, sN1]
   exact hcont _ _ (hJ.put0 rfl ⟨r5, r6, S2, by rw [gs_ne (by decide), gs_ne (by decide)]; exact jp.set w2 wn _, fun j hj => ⟨(js j hj).1, (hget_set_ne (by have := (js j hj).2.2; omega)).trans (js j hj).2.1, (js j hj).2.2⟩, jne, fun a => by
    rw [gs_ne (by decide)] at a
    obtain ⟨x1, x2, x3, x4⟩ := ja a
    exact ⟨x1, x2, x3, by rw [gs_ne (by decide), hget_set_ne (Ne.symm jne)]; exact x4⟩, fun _ => ⟨w1, w2, w3, by rw [gs_eq (by rw [hJ.sz]; decide)]; exact hget_set_eq wl⟩⟩)
 rintro s α1 G1 hJ hall
 have hsz : s.size = 10 := hJ.sz
 have hg : ∀ i, i < 10 → s.getD i false = true := fun i hi => by
  rw [Array.getD_eq_getD_getElem?, Array.getElem?_eq_getElem (by omega)]
  exact Array.all_eq_true.1 hall i (by omega)
 obtain ⟨b5, b6, S1, p1, js, _, ja, jb⟩ := hJ.hp
 rw [hg 5 (by omega)] at p1
 obtain ⟨a5, h5S, _, g5⟩ := ja (hg 6 (by omega))
 obtain ⟨a6, h6S, _, g6⟩ := jb (hg 7 (by omega))
 rw [hg 8 (by omega)] at g5
 rw [hg 9 (by omega)] at g6
 have g5 : hget G1 b5 = some ⟨iv .u8 n0, 41, none⟩ := g5
 have g6 : hget G1 b6 = some ⟨iv .u8 n1, 41, none⟩ := g6
 have p1 : Pl H0 S1 G1 tb rb (.slice none 0 0) sT2 [] [] := p1
 have a1 := (hJ.lo 1 (by decide)).trans e1
 have a2 := (hJ.lo 2 (by decide)).trans e2
 have gT := (js n hnS).2.1.trans gT
 have hS1 : ∀ j ∈ S, j ∈ S1 ∧ hget G1 j = hget H j := fun j hj => ⟨(js j (hS0 j hj).1).1, (js j (hS0 j hj).1).2.1.trans (hS0 j hj).2⟩
 have hnS1 := (js n hnS).1
 have hS1l : ∀ j ∈ S, j < H.length := fun j hj => h.sl hj
 clear hall hsz hg hJ e1 e2 ja jb js pB lwB hS0 hnS hBl hnB
 refine aw_seq (aoo fun K hK => ?_)
 simp (disch := first | omega | (simp only [lnS]; try omega)) [-getElem?_pos, -getElem?_neg, a1]
 refine ⟨by kernel_rfl, AC.mono (pl_make p1 (x := sA) sA_wf (v := .slice none 0 0) (ks_nil _) (by decide)) ?_⟩
 rintro v1 G2 ⟨_, p2, s2⟩
 rw [sD1] at p2
 try simp (disch := first | omega | (simp only [lnS]; try omega)) [-getElem?_pos, -getElem?_neg]
 refine hK _ _ ?_; clear hK K
 refine aw_seq (aoo fun K hK => ?_)
 simp (disch := first | omega | (simp only [lnS]; try omega)) [-getElem?_pos, -getElem?_neg, a1]
 refine ⟨by kernel_rfl, AC.mono (pl_make p2 (x := sB) sB'_wf (v := .slice none 0 0) (ks_nil _) (by decide)) ?_⟩
 rintro v2 G3 ⟨_, p3, s3⟩
 rw [sD2] at p3
 try simp (disch := first | omega | (simp only [lnS]; try omega)) [-getElem?_pos, -getElem?_neg]
 refine hK _ _ ?_; clear hK K
 have s23 : ∀ j ∈ S1, hget G3 j = hget G1 j := fun j hj => (s3 j hj).trans (s2 j hj)
 have gT := (s23 n hnS1).trans gT
 have g5 := (s23 b5 h5S).trans g5
 have g6 := (s23 b6 h6S).trans g6
 obtain ⟨B, hBB⟩ : ∃ B, B = G3 := ⟨_, rfl⟩
 rw [← hBB] at p3 gT g5 g6 s23 ⊢
 clear hBB p2 p1 s2 s3
 have hnB : H0.length ≤ B.length := p3.lw.2
 refine aw_seq ?_
 refine name_aw (fun β hβ => ?_)
 have e1 : β 1 = .pointer (some ⟨rb, 0, none⟩) := by rw [hβ]; (first | (simp [a1]; done) | rfl)
 have e2 : β 2 = .pointer (some ⟨n, 0, none⟩) := by rw [hβ]; (first | (simp [a2]; done) | rfl)
 have e5 : β 5 = .pointer (some ⟨b5, 0, none⟩) := by rw [hβ]; (first | (simp [a5]; done) | rfl)
 have e6 : β 6 = .pointer (some ⟨b6, 0, none⟩) := by rw [hβ]; (first | (simp [a6]; done) | rfl)
 clear hβ a1 a2 a5 a6
 have zk32 : iv .u8 (zl 32) = iv .u8 (zl 32) := rfl
 obtain ⟨hnS, hnS'⟩ : n ∈ S1 ∧ True := ⟨hnS1, trivial⟩
 refine aw_inv scBP (JT scBD (scBV n tb b5 b6) β (SP2 H0 B S1 tb rb)) (by kernel_rfl) (by kernel_rfl) (by kernel_rfl) ?_ ?_ ?_
 ·exact ⟨by simp; rfl, fun _ _ => rfl, fun i t' hi h => (by rw [gs_0] at h; cases h), 0, 1, S1, (by rw [gs_0]; exact p3), fun j hj => ⟨hj, rfl, p3.sl hj⟩, fun h => (by rw [gs_0] at h; cases h), fun h => (by rw [gs_0] at h; cases h)⟩
 ·intro i s α G k hJ hi0 hsi hd hcc hcont
  obtain ⟨r7, rA, S2, jp, js, ja, jb⟩ := hJ.hp
  have j2 := (hJ.lo 2 (by decide)).trans e2
  have j5 := (hJ.lo 5 (by decide)).trans e5
  have j6 := (hJ.lo 6 (by decide)).trans e6
  have gT := (js n hnS).2.1.trans gT
  have g5 := (js b5 h5S).2.1.trans g5
  have g6 := (js b6 h6S).2.1.trans g6
  have ldT := ld_tb gT
  have ld5 := key_load l0 g5
  have ld6 := key_load l1 g6
  have hnG : H0.length ≤ G.length := jp.lw.2
  have hi : i = 0 ∨ i = 1 ∨ i = 2 ∨ i = 3 ∨ i = 4 ∨ i = 5 ∨ i = 6 ∨ i = 7 ∨ i = 8 ∨ i = 9 ∨ i = 10 ∨ i = 11 := by have hi0 : i < 12 := hi0; omega
  rcases hi with rfl | rfl | rfl | rfl | rfl | rfl | rfl | rfl | rfl | rfl | rfl | rfl
  ·simp (disch := first | omega | (simp only [lnS]; try omega)) [-getElem?_pos, -getElem?_neg, -notTuple, j2]
   exact hcont _ _ (hJ.put scB_nd (t := 20) rfl rfl (hJ.hp.keep (by decide) (by decide)))
  ·have f0 : α 20 = .pointer (some ⟨n, 0, none⟩) := hJ.val 0 20 rfl (hd 0 (by decide))
   simp (disch := first | omega | (simp only [lnS]; try omega)) [-getElem?_pos, -getElem?_neg, -notTuple, -xload, ldT, f0]
   exact hcont _ _ (hJ.put scB_nd (t := 21) rfl rfl (hJ.hp.keep (by decide) (by decide)))
  ·simp (disch := first | omega | (simp only [lnS]; try omega)) [-getElem?_pos, -getElem?_neg, -notTuple, j2]
   exact hcont _ _ (hJ.put scB_nd (t := 22) rfl rfl (hJ.hp.keep (by decide) (by decide)))
  ·have f2 : α 22 = .pointer (some ⟨n, 0, none⟩) := hJ.val 2 22 rfl (hd 2 (by decide))
   simp (disch := first | omega | (simp only [lnS]; try omega)) [-getElem?_pos, -getElem?_neg, -notTuple, -xload, ldT, f2]
   exact hcont _ _ (hJ.put scB_nd (t := 23) rfl rfl (hJ.hp.keep (by decide) (by decide)))
  ·simp (disch := first | omega | (simp only [lnS]; try omega)) [-getElem?_pos, -getElem?_neg, -notTuple, j5, -xload, ld5]
   exact hcont _ _ (hJ.put scB_nd (t := 24) rfl rfl (hJ.hp.keep (by decide) (by decide)))
  ·simp (disch := first | omega | (simp only [lnS]; try omega)) [-getElem?_pos, -getElem?_neg, -notTuple]
   exact hcont _ _ (hJ.put scB_nd (t := 25) rfl rfl (hJ.hp.keep (by decide) (by decide)))
  ·simp (disch := first | omega | (simp only [lnS]; try omega)) [-getElem?_pos, -getElem?_neg, -notTuple, j6, -xload, ld6]
   exact hcont _ _ (hJ.put scB_nd (t := 26) rfl rfl (hJ.hp.keep (by decide) (by decide)))
  ·have f6 : α 26 = .agg (iv .u8 n1).toArray := hJ.val 6 26 rfl (hd 6 (by decide))
   simp (disch := first | omega | (simp only [lnS]; try omega)) [-getElem?_pos, -getElem?_neg, f6, l1, tN1, rN1]
   exact hcont _ _ (hJ.put scB_nd (t := 27) rfl trivial ⟨G.length, rA, [G.length] ++ S2, by rw [gs_ne (by decide)]; exact jp.push (Low.push (Nat.le_refl _) _) (fun j hj => by rw [List.mem_singleton.1 hj]; simp), fun j hj => ⟨by simp [(js j hj).1], (hget_left (jp.sl (js j hj).1)).trans (js j hj).2.1, (js j hj).2.2⟩, fun _ _ => ⟨by (first | (simp; done) | rfl), by simp, by rw [hget_app0]; rfl⟩, fun a => by
    rw [gs_ne (by decide)] at a
    obtain ⟨w1, w2, w3, w4⟩ := jb a
    exact ⟨by (first | (simp [w1]; done) | rfl), by simp [w2], w3, by rw [gs_ne (by decide), hget_left (hget_lt w4)]; exact w4⟩⟩)
  ·have f3 : α 23 = .pointer (some ⟨tb, 0, none⟩) := hJ.val 3 23 rfl (hd 3 (by decide))
   have f4 : α 24 = .agg (iv .u8 n0).toArray := hJ.val 4 24 rfl (hd 4 (by decide))
   have f5 : α 25 = .agg (iv .u8 (zl 32)).toArray := hJ.val 5 25 rfl (hd 5 (by decide))
   obtain ⟨w1, w2, w3⟩ := ja (hd 7 (by decide)) hsi
   simp (disch := first | omega | (simp only [lnS]; try omega)) [-getElem?_pos, -getElem?_neg, f3, f4, f5, w1]
   have jp : Pl H0 S2 G tb rb (.slice none 0 0) sT2 sT2 [] := by rw [hsi] at jp; exact jp
   refine ⟨by kernel_rfl, AC.mono (pl_seal hpw jp (k := n0) (y := zl 32) (s := ⟨#[116, 101, 120, 116]⟩) (ks := [n1]) l0 (by decide) sB_wf (keys1 l1 w3) (by decide)) ?_⟩
   rintro v' G' ⟨hv, pp, ss⟩
   rw [show (nmL (nameT ⟨6, ⟨#[116, 101, 120, 116]⟩, [n0, zl 32, n1]⟩ sT2 : Nat)) = n2 from sV3] at hv
   rw [show addT ⟨6, ⟨#[116, 101, 120, 116]⟩, [n0, zl 32, n1]⟩ sT2 = sT3 from sD3] at pp
   subst hv
   exact hcont _ _ (hJ.put scB_nd (t := 28) rfl rfl ⟨r7, rA, S2, by rw [gs_eq (by rw [hJ.sz]; decide)]; exact pp, fun j hj => ⟨(js j hj).1, (ss j (js j hj).1).trans (js j hj).2.1, (js j hj).2.2⟩, fun a b => (by rw [gs_eq (by rw [hJ.sz]; decide)] at b; cases b), fun a => by
    rw [gs_ne (by decide)] at a
    obtain ⟨w1, w2, w3, w4⟩ := jb a
    exact ⟨by (first | (simp [w1]; done) | rfl), w2, w3, by rw [gs_ne (by decide), ss _ w2]; exact w4⟩⟩)
  ·have f1 : α 21 = .pointer (some ⟨tb, 0, none⟩) := hJ.val 1 21 rfl (hd 1 (by decide))
   have f8 : α 28 = .string (strOfNums n2) := hJ.val 8 28 rfl (hd 8 (by decide))
   simp (disch := first | omega | (simp only [lnS]; try omega)) [-getElem?_pos, -getElem?_neg, f1, f8]
   have jp : Pl H0 S2 G tb rb (.slice none 0 0) sT3 sT2 [] := by rw [hd 8 (by decide)] at jp; exact jp
   refine ⟨by kernel_rfl, AC.mono (pl_mark hpw jp (s := strOfNums n2) (by rw [sn_size, l2]; decide) (by decide)) ?_⟩
   rintro v' G' ⟨hv, pp, ss⟩
   unfold markV at hv
   unfold markT at pp
   rw [if_pos (by rw [sn_size, l2]), nums_of _ n2_by] at hv
   rw [if_pos (by rw [sn_size, l2])] at pp
   subst hv
   exact hcont _ _ (hJ.put scB_nd (t := 29) rfl rfl ⟨r7, rA, S2, by rw [gs_ne (by decide), hd 8 (by decide)]; exact pp, fun j hj => ⟨(js j hj).1, (ss j (js j hj).1).trans (js j hj).2.1, (js j hj).2.2⟩, fun a b => (by rw [gs_ne (by decide), hd 8 (by decide)] at b; cases b), fun a => by
    rw [gs_ne (by decide)] at a
    obtain ⟨w1, w2, w3, w4⟩ := jb a
    exact ⟨by (first | (simp [w1]; done) | rfl), w2, w3, by rw [gs_ne (by decide), ss _ w2]; exact w4⟩⟩)
  ·simp (disch := first | omega | (simp only [lnS]; try omega)) [-getElem?_pos, -getElem?_neg, hnG]
   exact hcont _ _ (hJ.put scB_nd (t := 7) rfl trivial ⟨r7, G.length, [G.length] ++ S2, by rw [gs_ne (by decide)]; exact jp.push (Low.push (Nat.le_refl _) _) (fun j hj => by rw [List.mem_singleton.1 hj]; simp), fun j hj => ⟨by simp [(js j hj).1], (hget_left (jp.sl (js j hj).1)).trans (js j hj).2.1, (js j hj).2.2⟩, fun a b => by
    rw [gs_ne (by decide)] at a b
    obtain ⟨w1, w2, w3⟩ := ja a b
    exact ⟨by (first | (simp [w1]; done) | rfl), by simp [w2], (hget_left (hget_lt w3)).trans w3⟩, fun _ => ⟨by (first | (simp; done) | rfl), by simp, ⟨hnG, fun e => by have := jp.sl (js _ e).1; omega⟩, by rw [gs_ne (by decide), hcc 11 (by decide), hget_app0]; rfl⟩⟩)
  ·have f0 : α 20 = .pointer (some ⟨n, 0, none⟩) := hJ.val 0 20 rfl (hd 0 (by decide))
   have f1 : α 21 = .pointer (some ⟨tb, 0, none⟩) := hJ.val 1 21 rfl (hd 1 (by decide))
   have f2 : α 22 = .pointer (some ⟨n, 0, none⟩) := hJ.val 2 22 rfl (hd 2 (by decide))
   have f3 : α 23 = .pointer (some ⟨tb, 0, none⟩) := hJ.val 3 23 rfl (hd 3 (by decide))
   have f4 : α 24 = .agg (iv .u8 n0).toArray := hJ.val 4 24 rfl (hd 4 (by decide))
   have f5 : α 25 = .agg (iv .u8 (zl 32)).toArray := hJ.val 5 25 rfl (hd 5 (by decide))
   have f6 : α 26 = .agg (iv .u8 n1).toArray := hJ.val 6 26 rfl (hd 6 (by decide))
   have f8 : α 28 = .string (strOfNums n2) := hJ.val 8 28 rfl (hd 8 (by decide))
   have f9 : α 29 = .agg (iv .u8 n2).toArray := hJ.val 9 29 rfl (hd 9 (by decide))
   obtain ⟨w1, w2, w3, w4⟩ := jb (hd 10 (by decide))
   rw [hsi] at w4
   have w4 : hget G rA = some ⟨iv .u8 (zl 32), 41, none⟩ := w4
   have wl := hget_lt w4
   have wn : H0.length ≤ rA := w3.1
   simp (disch := first | omega | (simp only [lnS]; try omega)) [-getElem?_pos, -getElem?_neg, w1, w4, wl, wn, f9, l2, sN2]
   exact hcont _ _ (hJ.put0 rfl ⟨r7, rA, S2, by rw [gs_ne (by decide)]; exact jp.set w2 wn _, fun j hj => ⟨(js j hj).1, (hget_set_ne (fun e => w3.2 (by rw [e]; exact hj))).trans (js j hj).2.1, (js j hj).2.2⟩, fun a b => (by rw [gs_ne (by decide), hd 8 (by decide)] at b; cases b), fun _ => ⟨w1, w2, w3, by rw [gs_eq (by rw [hJ.sz]; decide)]; exact hget_set_eq wl⟩⟩)
 rintro s α2 G4 hJ hall
 have hsz : s.size = 12 := hJ.sz
 have hg : ∀ i, i < 12 → s.getD i false = true := fun i hi => by
  rw [Array.getD_eq_getD_getElem?, Array.getElem?_eq_getElem (by omega)]
  exact Array.all_eq_true.1 hall i (by omega)
 obtain ⟨_, b7, S4, p4, js, _, ja⟩ := hJ.hp
 rw [hg 8 (by omega)] at p4
 obtain ⟨a7, h7S, _, g7⟩ := ja (hg 10 (by omega))
 rw [hg 11 (by omega)] at g7
 have g7 : hget G4 b7 = some ⟨iv .u8 n2, 41, none⟩ := g7
 have p4 : Pl H0 S4 G4 tb rb (.slice none 0 0) sT3 sT2 [] := p4
 have a1 := (hJ.lo 1 (by decide)).trans e1
 have a2 := (hJ.lo 2 (by decide)).trans e2
 have a5 := (hJ.lo 5 (by decide)).trans e5
 have a6 := (hJ.lo 6 (by decide)).trans e6
 have gT := (js n hnS).2.1.trans gT
 have g5 := (js b5 h5S).2.1.trans g5
 have g6 := (js b6 h6S).2.1.trans g6
 have hS4 : ∀ j ∈ S, j ∈ S4 ∧ hget G4 j = hget H j := fun j hj => ⟨(js j (hS1 j hj).1).1, ((js j (hS1 j hj).1).2.1.trans (s23 j (hS1 j hj).1)).trans (hS1 j hj).2⟩
 have i0 := (js n hnS).1
 have i5 := (js b5 h5S).1
 have i6 := (js b6 h6S).1
 clear hall hsz hg hJ e1 e2 e5 e6 ja js p3 hS1 s23 hnB
 have l5 := hget_lt g5
 have l6 := hget_lt g6
 have p4' := p4.push (Low.push (Nat.le_refl _) [some ⟨iv .u8 n1, 41, some 32⟩]) (S2 := [G4.length]) (fun j hj => by rw [List.mem_singleton.1 hj]; simp)
 have gr4 : hget (G4 ++ [some ⟨iv .u8 n1, 41, some 32⟩]) G4.length = some ⟨iv .u8 n1, 41, some 32⟩ := by rw [hget_app0]; rfl
 have ld5 := key_load l0 g5
 have ld6 := key_load l1 g6
 refine aw_seq (aoo fun K hK => ?_)
 simp (disch := first | omega | (simp only [lnS]; try omega)) [-getElem?_pos, -getElem?_neg, a1, a5, a6, -xload, ld5, ld6, l1, tN1, rN1]
 refine ⟨by kernel_rfl, AC.mono (pl_rseal p4' (k := n0) (y := zl 32) (s := ⟨#[116, 101, 120, 116]⟩) (ks := [n1]) l0 (by decide) sB_wf (keys1 l1 gr4) (by decide)) ?_⟩
 rintro v5 G5 ⟨_, p5, s5⟩
 rw [show addT ⟨6, ⟨#[116, 101, 120, 116]⟩, [n0, zl 32, n1]⟩ sT2 = sT3 from sD3] at p5
 try simp (disch := first | omega | (simp only [lnS]; try omega)) [-getElem?_pos, -getElem?_neg]
 refine hK _ _ ?_; clear hK K
 have s5' : ∀ j ∈ S4, hget G5 j = hget G4 j := fun j hj => (s5 j (by simp [hj])).trans (hget_left (p4.sl hj))
 have p5 := p5.less (S2 := S4) (fun j hj => by simp [hj])
 have gT := (s5' n i0).trans gT
 have g5 := (s5' b5 i5).trans g5
 have g6 := (s5' b6 i6).trans g6
 have g7 := (s5' b7 h7S).trans g7
 have hS5 : ∀ j ∈ S, j ∈ S4 ∧ hget G5 j = hget H j := fun j hj => ⟨(hS4 j hj).1, (s5' j (hS4 j hj).1).trans (hS4 j hj).2⟩
 clear p4 p4' gr4 s5 s5' hS4 l5 l6 ld5 ld6
 have ldT := ld_tb gT
 have ld6 := key_load l1 g6
 have hn5 : H0.length ≤ G5.length := p5.lw.2
 refine aw_seq (aoo fun K hK => ?_)
 simp (disch := first | omega | (simp only [lnS]; try omega)) [-getElem?_pos, -getElem?_neg, a2, a6, -xload, ldT, ld6, -notTuple]
 refine ⟨by kernel_rfl, AC.mono (pl_pub hpw p5 (k := n1) l1 n1_by (by decide)) ?_⟩
 rintro v6 G6 ⟨hv6, p6, s6⟩
 rw [show nmV ⟨3, ⟨#[]⟩, [n1]⟩ sT3 = _ from sV4] at hv6
 rw [show addT ⟨3, ⟨#[]⟩, [n1]⟩ sT3 = sT4 from sD4] at p6
 subst hv6
 have hn6 : H0.length ≤ G6.length := p6.lw.2
 try simp (disch := first | omega | (simp only [lnS]; try omega)) [-getElem?_pos, -getElem?_neg, l3, tN3, sN3, hn6, -notTuple]
 refine hK _ _ ?_; clear hK K
 have p7 := p6.push (Low.push (Nat.le_refl _) [some ⟨iv .u8 n3, 41, none⟩]) (S2 := [G6.length]) (fun j hj => by rw [List.mem_singleton.1 hj]; simp)
 have g8 : hget (G6 ++ [some ⟨iv .u8 n3, 41, none⟩]) G6.length = some ⟨iv .u8 n3, 41, none⟩ := by rw [hget_app0]; rfl
 have s7 : ∀ j ∈ S4, j ∈ [G6.length] ++ S4 ∧ hget (G6 ++ [some ⟨iv .u8 n3, 41, none⟩]) j = hget G5 j := fun j hj => ⟨by simp [hj], (hget_left (p6.sl hj)).trans (s6 j hj)⟩
 obtain ⟨b8, hb8⟩ : ∃ b8, b8 = G6.length := ⟨_, rfl⟩
 rw [← hb8] at g8 ⊢
 have i8 : b8 ∈ [G6.length] ++ S4 := by rw [hb8]; simp
 generalize [G6.length] ++ S4 = S7 at *
 generalize G6 ++ [some ⟨iv .u8 n3, 41, none⟩] = G7 at *
 have gT := (s7 n i0).2.trans gT
 have g5 := (s7 b5 i5).2.trans g5
 have g6 := (s7 b6 i6).2.trans g6
 have g7 := (s7 b7 h7S).2.trans g7
 have i0 := (s7 n i0).1
 have i5 := (s7 b5 i5).1
 have i6 := (s7 b6 i6).1
 have i7 := (s7 b7 h7S).1
 have hS7 : ∀ j ∈ S, j ∈ S7 ∧ hget G7 j = hget H j := fun j hj => ⟨(s7 j (hS5 j hj).1).1, (s7 j (hS5 j hj).1).2.trans (hS5 j hj).2⟩
 clear p5 p6 s6 s7 hS5 hb8 hn5 hn6 ldT ld6
 have ld6 := key_load l1 g6
 have p7' := p7.push (Low.push (Nat.le_refl _) [some ⟨iv .u8 n1, 41, some 32⟩]) (S2 := [G7.length]) (fun j hj => by rw [List.mem_singleton.1 hj]; simp)
 have gr7 : hget (G7 ++ [some ⟨iv .u8 n1, 41, some 32⟩]) G7.length = some ⟨iv .u8 n1, 41, some 32⟩ := by rw [hget_app0]; rfl
 have em : (⟨#[]⟩ : ByteArray) = ByteArray.empty := rfl
 refine aw_seq (aoo fun K hK => ?_)
 simp (disch := first | omega | (simp only [lnS]; try omega)) [-getElem?_pos, -getElem?_neg, a1, a6, -xload, ld6, l1, tN1, rN1]
 refine ⟨by kernel_rfl, AC.mono (pl_make p7' (x := sP) sP_wf (keys1 l1 gr7) (by decide)) ?_⟩
 rintro v8 G8 ⟨_, p8, s8⟩
 rw [sD4] at p8
 try simp (disch := first | omega | (simp only [lnS]; try omega)) [-getElem?_pos, -getElem?_neg]
 refine hK _ _ ?_; clear hK K
 have s8' : ∀ j ∈ S7, hget G8 j = hget G7 j := fun j hj => (s8 j (by simp [hj])).trans (hget_left (p7.sl hj))
 have p8 := p8.less (S2 := S7) (fun j hj => by simp [hj])
 have gT := (s8' n i0).trans gT
 have g5 := (s8' b5 i5).trans g5
 have g6 := (s8' b6 i6).trans g6
 have g7 := (s8' b7 i7).trans g7
 have g8 := (s8' b8 i8).trans g8
 have hS8 : ∀ j ∈ S, j ∈ S7 ∧ hget G8 j = hget H j := fun j hj => ⟨(hS7 j hj).1, (s8' j (hS7 j hj).1).trans (hS7 j hj).2⟩
 clear p7 p7' gr7 s8 s8' hS7 ld6
 have ldT := ld_tb gT
 have ld5 := key_load l0 g5
 have p8' := p8.push (Low.push (Nat.le_refl _) [some ⟨iv .u8 n0, 41, some 32⟩]) (S2 := [G8.length]) (fun j hj => by rw [List.mem_singleton.1 hj]; simp)
 have gr8 : hget (G8 ++ [some ⟨iv .u8 n0, 41, some 32⟩]) G8.length = some ⟨iv .u8 n0, 41, some 32⟩ := by rw [hget_app0]; rfl
 have or8 : OwnF (G8 ++ [some ⟨iv .u8 n0, 41, some 32⟩]) (.slice (some ⟨G8.length, 0, none⟩) 1 1) 41 32 (kr [n0]) [G8.length] := .inr ⟨G8.length, 1, rfl, by rw [kr_one]; exact gr8, by rw [kr_one, iv_length]; rfl, rfl⟩
 refine aw_seq (aoo fun K hK => ?_)
 simp (disch := first | omega | (simp only [lnS]; try omega)) [-getElem?_pos, -getElem?_neg, a2, a5, -xload, ldT, ld5, l0, tN0, rN0, -notTuple]
 refine ⟨by kernel_rfl, AC.mono (pl_hash hpw p8' (s := ⟨#[104]⟩) (ks := [n0]) sH_wf or8 (fun j hj => by simp at hj; simp [hj]) (by decide)) ?_⟩
 rintro v9 G9 ⟨hv9, p9, s9⟩
 rw [show nmV ⟨2, ⟨#[104]⟩, [n0]⟩ sT4 = _ from sV5] at hv9
 rw [show addT ⟨2, ⟨#[104]⟩, [n0]⟩ sT4 = sT5 from sD5] at p9
 subst hv9
 have hn9 : H0.length ≤ G9.length := p9.lw.2
 try simp (disch := first | omega | (simp only [lnS]; try omega)) [-getElem?_pos, -getElem?_neg, l4, tN4, sN4, hn9, -notTuple]
 refine hK _ _ ?_; clear hK K
 have s9' : ∀ j ∈ S7, hget G9 j = hget G8 j := fun j hj => (s9 j (by simp [hj])).trans (hget_left (p8.sl hj))
 have p9 := p9.less (S2 := S7) (fun j hj => by simp [hj])
 have pA := p9.push (Low.push (Nat.le_refl _) [some ⟨iv .u8 n4, 41, none⟩]) (S2 := [G9.length]) (fun j hj => by rw [List.mem_singleton.1 hj]; simp)
 have gA : hget (G9 ++ [some ⟨iv .u8 n4, 41, none⟩]) G9.length = some ⟨iv .u8 n4, 41, none⟩ := by rw [hget_app0]; rfl
 have sA' : ∀ j ∈ S7, j ∈ [G9.length] ++ S7 ∧ hget (G9 ++ [some ⟨iv .u8 n4, 41, none⟩]) j = hget G8 j := fun j hj => ⟨by simp [hj], (hget_left (p9.sl hj)).trans (s9' j hj)⟩
 obtain ⟨bA, hbA⟩ : ∃ bA, bA = G9.length := ⟨_, rfl⟩
 rw [← hbA] at gA ⊢
 have iA : bA ∈ [G9.length] ++ S7 := by rw [hbA]; simp
 generalize [G9.length] ++ S7 = SA at *
 generalize G9 ++ [some ⟨iv .u8 n4, 41, none⟩] = GA at *
 have g5 := (sA' b5 i5).2.trans g5
 have g7 := (sA' b7 i7).2.trans g7
 have g8 := (sA' b8 i8).2.trans g8
 have i5 := (sA' b5 i5).1
 have i7 := (sA' b7 i7).1
 have i8 := (sA' b8 i8).1
 have hSA : ∀ j ∈ S, j ∈ SA ∧ hget GA j = hget H j := fun j hj => ⟨(sA' j (hS8 j hj).1).1, (sA' j (hS8 j hj).1).2.trans (hS8 j hj).2⟩
 clear p8 p8' p9 gr8 or8 s9 s9' sA' hS8 hbA hn9 ldT ld5 gT g6
 have ld5 := key_load l0 g5
 have pA' := pA.push (Low.push (Nat.le_refl _) [some ⟨iv .u8 n0, 41, some 32⟩]) (S2 := [GA.length]) (fun j hj => by rw [List.mem_singleton.1 hj]; simp)
 have grA : hget (GA ++ [some ⟨iv .u8 n0, 41, some 32⟩]) GA.length = some ⟨iv .u8 n0, 41, some 32⟩ := by rw [hget_app0]; rfl
 refine aw_seq (aoo fun K hK => ?_)
 simp (disch := first | omega | (simp only [lnS]; try omega)) [-getElem?_pos, -getElem?_neg, a1, a5, -xload, ld5, l0, tN0, rN0]
 refine ⟨by kernel_rfl, AC.mono (pl_make pA' (x := sH) sH_wf (keys1 l0 grA) (by decide)) ?_⟩
 rintro vB GB ⟨_, pB, sB⟩
 rw [sD5] at pB
 try simp (disch := first | omega | (simp only [lnS]; try omega)) [-getElem?_pos, -getElem?_neg]
 refine hK _ _ ?_; clear hK K
 have sB' : ∀ j ∈ SA, hget GB j = hget GA j := fun j hj => (sB j (by simp [hj])).trans (hget_left (pA.sl hj))
 have pB := pB.less (S2 := SA) (fun j hj => by simp [hj])
 have g7 := (sB' b7 i7).trans g7
 have g8 := (sB' b8 i8).trans g8
 have gA := (sB' bA iA).trans gA
 have hSB : ∀ j ∈ S, j ∈ SA ∧ hget GB j = hget H j := fun j hj => ⟨(hSA j hj).1, (sB' j (hSA j hj).1).trans (hSA j hj).2⟩
 have ld7 := key_load l2 g7
 have ld8 := key_load l3 g8
 have ldA := key_load l4 gA
 have hrow : setR (setR (setR (List.map (fun j => (iv .u8 (zl 32))[j % 32]?.getD undef) (List.range 96)) 0 (iv .u8 n2)) 32 (iv .u8 n3)) 64 (iv .u8 n4) = kr [n2, n3, n4] := rfl
 (refine aw_seq (aoo fun K hK => ?_); simp (disch := first | omega | (simp only [lnS]; try omega)) [-getElem?_pos, -getElem?_neg, a7, -xload, ld7, ld8, ldA, l2, l3, l4, tN2, tN3, tN4, hrow]; refine hK _ _ ?_; clear hK K)
 have fin : SecQ H0 S H tb rb (.slice (some ⟨GB.length, 0, none⟩) 3 3) (GB ++ [some ⟨kr [n2, n3, n4], 41, some 32⟩]) := ⟨GB.length, rfl, by rw [hget_app0]; rfl, (pB.less (S2 := S) (fun j hj => (hSB j hj).1)).push (Low.push (Nat.le_refl _) _) (S2 := [GB.length]) (fun j hj => by rw [List.mem_singleton.1 hj]; simp), fun j hj => (hget_left (pB.sl (hSB j hj).1)).trans (hSB j hj).2⟩
 (refine aw_ret ?_; simp (disch := first | omega | (simp only [lnS]; try omega)) [-getElem?_pos, -getElem?_neg, thenQ_ret, scopeQ_ret, inBlockQ_ret, RQ, resL, resV, -notTuple])
 exact fin
end
section
theorem ck_addr {n b j : Nat} (hj : j < n) : xindexAddr Tryd.prog 22 (.slice (some ⟨b, 0, none⟩) n n) (.int .i64 (j : Nat)) = some (.pointer (some ⟨b, j * 36, none⟩)) := by
 have h1 : und Tryd.prog 22 = .slice 43 := by kernel_rfl
 have h2 : szt Tryd.prog 43 = 36 := by kernel_rfl
 unfold xindexAddr
 simp only [h1, h2]
 rw [if_pos ⟨by omega, by omega, by omega⟩]
 simp
theorem KsP.ld {H : AH} {F : List Nat} {v : Value} {ks : List (List Int)} (h : KsP H F v ks) (hk : ∀ k ∈ ks, k.length = 32) {i : Nat} (hi : i < ks.length) : ∃ p, notTuple p = true ∧ xindexAddr Tryd.prog 34 v (.int .i64 (i : Nat)) = some p ∧ ∀ (G : AH) (F' : List Nat), Fr H G F F' → xload Tryd.prog 41 p G = some (.agg (iv .u8 (ks.getD i [])).toArray) := by
 obtain ⟨p, y, h1, h2, h3, rfl, h4⟩ := (h.now.acc hk).at_ i hi
 refine ⟨p, h1, h2, fun G F' f => ?_⟩
 obtain ⟨p', y, g1, g2, g3, rfl, g4⟩ := ((h.at_ f).acc hk).at_ i hi
 rw [h2] at g2
 cases g2
 exact g4 G (Low.refl (Nat.le_refl _))
def k7L : List Int := 7 :: zl 31
def aC1 : CookD := ⟨1, 0, ⟨#[]⟩, [], zl 32⟩
def aC2 : CookD := ⟨2, 0, ⟨#[110]⟩, [], zl 32⟩
def aC3 : CookD := ⟨3, 0, ⟨#[116]⟩, [0, 1], zl 32⟩
theorem zk32 : Key32 (zl 32) := ⟨rfl, zl_by32⟩
theorem aC_ok : ∀ x ∈ [aC1, aC2, aC3], x.Ok := fun x hx => by
 simp only [List.mem_cons, List.not_mem_nil, or_false] at hx
 rcases hx with rfl | rfl | rfl
 ·exact ⟨⟨by unfold I64; decide, by unfold I64; decide, by decide, fun z hz => (by cases hz), by decide, zk32⟩, by decide, by decide⟩
 ·exact ⟨⟨by unfold I64; decide, by unfold I64; decide, by decide, fun z hz => (by cases hz), by decide, zk32⟩, by decide, by decide⟩
 ·exact ⟨⟨by unfold I64; decide, by unfold I64; decide, by decide, fun z hz => (by simp [aC3] at hz; rcases hz with rfl | rfl <;> (unfold I64; decide)), by decide, zk32⟩, by decide, by decide⟩
@[reducible] def AP (E : AH) (b : Nat) (F : List Nat) (TT : List TermD) (s : Array Bool) (α : Fm) (G : AH) : Prop :=
 ∃ Fc, Fr E G F Fc ∧ Tbl G b Fc TT ∧ (s.getD 31 false = true → s.getD 32 false = false → ∃ r, α 44 = .slice (some ⟨r, 0, none⟩) 2 2 ∧ r ∉ Fc ∧ hget G r = some ⟨iv .u8 k7L ++ iv .u8 n0, 41, some 32⟩)
theorem AP.keep {E : AH} {b : Nat} {F : List Nat} {TT : List TermD} {s : Array Bool} {α : Fm} {G : AH} {i t : Nat} {v : Value} (hi : i ∉ [31, 32]) (ht : t ≠ 44) (h : AP E b F TT s α G) : AP E b F TT (s.setIfInBounds i true) (α.put (some t) v) G := by
 simp only [List.mem_cons, List.not_mem_nil, or_false, not_or] at hi
 obtain ⟨Fc, w1, w2, w3⟩ := h
 refine ⟨Fc, w1, w2, fun a b => ?_⟩
 rw [gs_ne hi.1] at a
 rw [gs_ne hi.2] at b
 obtain ⟨r, x1, x2⟩ := w3 a b
 exact ⟨r, by simpa [put_at, Ne.symm ht] using x1, x2⟩
def aN : TermD := ⟨1, ⟨#[102, 111, 101, 32, 110]⟩, []⟩
def aH : TermD := ⟨2, ⟨#[116]⟩, [k7L, n0]⟩
def aT2 : List TermD := [aN, aH]
theorem k7_by : By k7L := fun x hx => by
 rcases List.mem_cons.1 hx with rfl | h
 ·omega
 ·rw [List.eq_of_mem_replicate h]; omega
theorem aN_wf : aN.Wf := wf_atom (by decide)
theorem aH_wf : TermD.Wf ⟨2, ⟨#[116]⟩, [k7L, n0]⟩ := ⟨by decide, by decide, two32 rfl rfl, twoBy k7_by n0_by, by decide, fun e => (by cases e), fun e => (by cases e), fun e => (by cases e)⟩
theorem aT2_wf : ∀ x ∈ aT2, x.Wf := fun x hx => by
 simp only [aT2, List.mem_cons, List.not_mem_nil, or_false] at hx
 rcases hx with rfl | rfl
 ·exact aN_wf
 ·exact aH_wf
theorem aT2_nd : aT2.Nodup := by
 have h : aN ≠ aH := kne (by decide)
 simp [aT2, h]
theorem aA1 : addT aN [] = [aN] ∧ nameT aN [] = 0 := add_new aN_wf (by simp) (by simp)
theorem aA2 : addT aH [aN] = aT2 ∧ nameT aH [aN] = 1 := add_new aH_wf (fun y hy => by rw [List.mem_singleton.1 hy]; exact aN_wf) (fun h => kne (by decide) (List.mem_singleton.1 h))
theorem aR1 : addT ⟨1, ⟨#[102, 111, 101, 32, 110]⟩, []⟩ aT2 = aT2 ∧ nameT ⟨1, ⟨#[102, 111, 101, 32, 110]⟩, []⟩ aT2 = 0 := add_old aN_wf aT2_wf aT2_nd rfl
theorem aR2 : addT ⟨2, ⟨#[116]⟩, [k7L, n0]⟩ aT2 = aT2 ∧ nameT ⟨2, ⟨#[116]⟩, [k7L, n0]⟩ aT2 = 1 := add_old aH_wf aT2_wf aT2_nd rfl
theorem aMk : makeM [k7L] [aC1, aC2, aC3] ([], []) = (aT2, [k7L, n0, n1]) := by
 show (addT aH (addT aN []), [k7L] ++ [nmL (nameT aN [] : Nat)] ++ [nmL (nameT ⟨2, ⟨#[116]⟩, [k7L, nmL (nameT aN [] : Nat)]⟩ (addT aN []) : Nat)]) = _
 rw [aA1.1, aA1.2, aA2.1]
 show (aT2, [k7L] ++ [n0] ++ [nmL (nameT aH [aN] : Nat)]) = _
 rw [aA2.2]
 rfl
def alAD : List (Option Nat) := [some 13, some 14, some 15, some 16, some 17, some 18, some 19, some 20, some 21, some 22, some 23, some 24, some 25, some 26, some 27, some 28, some 29, some 30, some 31, some 32, some 33, some 34, some 35, some 36, some 37, some 38, some 39, some 40, some 41, some 42, some 43, some 44, some 45, some 46, some 47, some 0]
def alAP : List (List Nat) := [[], [0], [1], [2], [3], [3, 4], [3, 5], [3], [3, 6, 7], [3, 8], [3, 9], [10], [10, 11], [10, 12], [10], [10, 14], [10, 15], [10, 13, 16], [10, 17], [16, 18], [19], [19, 20], [19, 21], [19], [19, 23], [19], [19, 25], [19, 26], [19], [19, 28], [19, 29], [19, 27, 30], [19, 24, 31], [19, 22, 32], [19, 33], [0, 1, 2, 3, 4, 5, 6, 7, 8, 9, 10, 11, 12, 13, 14, 15, 16, 17, 18, 19, 20, 21, 22, 23, 24, 25, 26, 27, 28, 29, 30, 31, 32, 33, 34]]
def alAV (n b : Nat) (lv p0 p1 p2 : Value) (i : Nat) (v : Value) : Prop := match i with
 | 0 => v = lv
 | 1 => v = .int .i64 3
 | 2 => v = .bool true
 | 3 => v = .bool true
 | 4 => v = lv
 | 5 => v = p0
 | 6 => v = .agg (iv .u8 k7L).toArray
 | 7 => v = .agg (iv .u8 k7L).toArray
 | 8 => v = .bool true
 | 9 => v = .bool true
 | 10 => v = .bool true
 | 11 => v = lv
 | 12 => v = p1
 | 13 => v = .agg (iv .u8 n0).toArray
 | 14 => v = .pointer (some ⟨n, 0, none⟩)
 | 15 => v = .pointer (some ⟨b, 0, none⟩)
 | 16 => v = .agg (iv .u8 n0).toArray
 | 17 => v = .bool true
 | 18 => v = .bool true
 | 19 => v = .bool true
 | 20 => v = lv
 | 21 => v = p2
 | 22 => v = .agg (iv .u8 n1).toArray
 | 23 => v = .pointer (some ⟨n, 0, none⟩)
 | 24 => v = .pointer (some ⟨b, 0, none⟩)
 | 25 => v = lv
 | 26 => v = p0
 | 27 => v = .agg (iv .u8 k7L).toArray
 | 28 => v = lv
 | 29 => v = p1
 | 30 => v = .agg (iv .u8 n0).toArray
 | 32 => v = .agg (iv .u8 n1).toArray
 | 33 => v = .bool true
 | 34 => v = .bool true
 | 35 => v = .bool true
 | _ => True
theorem alA_nd : ∀ i j t : Nat, alAD[i]? = some (some t) → alAD[j]? = some (some t) → i = j := by
 have h : ∀ i < 36, ∀ j < 36, ∀ t : Nat, alAD[i]? = some (some t) → alAD[j]? = some (some t) → i = j := by
  intro i hi j hj t h1 h2
  have h3 : alAD[i]? = alAD[j]? := h1.trans h2.symm
  have h4 : (alAD[i]?.bind id).isSome = true := by rw [h1]; rfl
  revert h3 h4
  clear h1 h2
  revert i j
  decide
 intro i j t hi hj
 exact h i (List.getElem?_eq_some_iff.1 hi).1 j (List.getElem?_eq_some_iff.1 hj).1 t hi hj
theorem alive_rc {γ : Nat → Option Nat} {H : AH} (hpw : Pw γ H) : AC Tryd.prog H.length γ 6 #[] H (fun v' _ => v' = .bool true) := by
 have hpl : plain1 (.slice none 0 0) = true := rfl
 have k7e : (iv .u8 (zl 32)).set 0 (.int .u8 7) = iv .u8 k7L := rfl
 have k7l : k7L.length = 32 := rfl
 have k7t : (iv .u8 k7L).take 32 = iv .u8 k7L := rfl
 have k7r : setR (List.map (fun j => (iv .u8 (zl 32))[j % 32]?.getD undef) (List.range 32)) 0 (iv .u8 k7L) = iv .u8 k7L := setR_all _ _ (by simp [k7l])
 refine ac_of_aw Tryd.func6 rfl Tryd.ntmps6 Tryd.results6 (by simp) ?_
 (refine aw_seq (aoo fun K hK => ?_); simp (disch := first | omega | (simp only [lnS]; try omega)) [-getElem?_pos, -getElem?_neg]; refine hK _ _ ?_; clear hK K)
 refine aw_seq (aoo fun K hK => ?_)
 simp (disch := first | omega | (simp only [lnS]; try omega)) [-getElem?_pos, -getElem?_neg]
 refine ⟨by kernel_rfl, AC.mono (newfree_ac (Nat.le_refl _)) ?_⟩
 rintro v1 G ⟨b, F, rfl, lw, t0, hF⟩
 have hnG := lw.2
 have hpp : plain1 (.pointer none) = true := rfl
 try simp (disch := first | omega | (simp only [lnS]; try omega)) [-getElem?_pos, -getElem?_neg, hpp, hnG, -notTuple]
 refine hK _ _ ?_; clear hK K
 obtain ⟨n, hn⟩ : ∃ n, n = G.length := ⟨_, rfl⟩
 obtain ⟨B, hB⟩ : ∃ B : AH, B = G ++ [some ⟨[.pointer (some ⟨b, 0, none⟩)], 27, none⟩] := ⟨_, rfl⟩
 have gT : hget B n = some ⟨[.pointer (some ⟨b, 0, none⟩)], 27, none⟩ := by rw [hB, hn, hget_app0]; rfl
 have lwB : Low G.length G B := by rw [hB]; exact Low.push (Nat.le_refl _) _
 have tB : Tbl B b F [] := t0.low (fun j hj => lwB.1 j (t0.bound j hj)) lwB.2
 have lwHB : Low H.length H B := ⟨fun j hj => (lwB.1 j (by omega)).trans (lw.1 j hj), by have := lwB.2; omega⟩
 have nF : n ∉ F := fun e => by have := t0.bound _ e; omega
 rw [← hn, ← hB]
 have hBl : B.length = n + 1 := by rw [hB, hn]; simp
 clear hB t0 lwB
 have ldF : xload Tryd.prog 27 (.pointer (some ⟨n, 0, none⟩)) B = some (.agg #[.pointer (some ⟨b, 0, none⟩)]) := by simp [xload, gT]
 refine aw_seq ?_
 refine aw_opsA 7 (by kernel_rfl) ?_
 simp only [List.take_succ_cons, List.take_zero, List.drop_succ_cons, List.drop_zero]
 simp (disch := first | omega | (simp only [lnS]; try omega)) [-getElem?_pos, -getElem?_neg, hpl, -xload, ldF, -notTuple, k7e, k7l, k7t, k7r]
 have hr2 : ((List.map (fun j => [Value.int IntKind.i64 0][j % 1]?.getD undef) (List.range 2)).set 0 (Value.int IntKind.i64 0)).set 1 (Value.int IntKind.i64 1) = iv .i64 [0, 1] := rfl
 rw [hr2]
 obtain ⟨C1, hC1⟩ : ∃ C1 : List Value, C1 = .int .i64 1 :: .int .i64 0 :: .string ByteArray.empty :: .slice none 0 0 :: iv .u8 (zl 32) := ⟨_, rfl⟩
 obtain ⟨C2, hC2⟩ : ∃ C2 : List Value, C2 = .int .i64 2 :: .int .i64 0 :: .string ⟨#[110]⟩ :: .slice none 0 0 :: iv .u8 (zl 32) := ⟨_, rfl⟩
 obtain ⟨C3, hC3⟩ : ∃ C3 : List Value, C3 = .int .i64 3 :: .int .i64 0 :: .string ⟨#[116]⟩ :: .slice (some ⟨B.length + 1, 0, none⟩) 2 2 :: iv .u8 (zl 32) := ⟨_, rfl⟩
 obtain ⟨D, hD⟩ : ∃ D : AH, D = B ++ [some ⟨iv .u8 k7L, 41, some 32⟩, some ⟨iv .i64 [0, 1], 3, some 1⟩] := ⟨_, rfl⟩
 rw [← hC1, ← hC2, ← hC3, ← hD]
 have lC1 : C1.length = 36 := by rw [hC1]; rfl
 have lC2 : C2.length = 36 := by rw [hC2]; rfl
 have lC3 : C3.length = 36 := by rw [hC3]; rfl
 have gk : hget D B.length = some ⟨iv .u8 k7L, 41, some 32⟩ := by rw [hD, hget_app0]; rfl
 have gi : hget D (B.length + 1) = some ⟨iv .i64 [0, 1], 3, some 1⟩ := by rw [hD, hget_app]; rfl
 have lwD : Low B.length B D := by rw [hD]; exact Low.push (Nat.le_refl _) _
 have hDl : D.length = B.length + 2 := by rw [hD]; simp
 clear hD hr2 k7e k7r
 have hrow : ∀ Z : List Value, Z.length = 108 → setR (setR (setR Z 0 C1) 36 C2) 72 C3 = C1 ++ (C2 ++ C3) := fun Z hZ => by
  have e1 := setR_app C1 C2 Z 0
  have e2 := setR_app (C1 ++ C2) C3 Z 0
  rw [Nat.zero_add, lC1] at e1
  rw [Nat.zero_add, List.length_append, lC1, lC2] at e2
  rw [← e1, ← e2, List.append_assoc, setR_all _ _ (by simp only [List.length_append]; omega)]
 obtain ⟨R, hR⟩ : ∃ R : Option Blk, R = some ⟨C1 ++ (C2 ++ C3), 43, some 36⟩ := ⟨_, rfl⟩
 refine al_xl (by kernel_rfl) (fun K hK => ?_)
 simp (disch := first | omega | (simp only [lnS]; try omega)) [-getElem?_pos, -getElem?_neg, hpl, lC1, lC2, lC3, -notTuple, hrow, ← hR]
 rw [hrow _ (by simp), ← hR]
 obtain ⟨E, hE⟩ : ∃ E : AH, E = D ++ [R] := ⟨_, rfl⟩
 have gR : hget E D.length = some ⟨C1 ++ (C2 ++ C3), 43, some 36⟩ := by rw [hE, hget_app0, ← hR]; rfl
 have lwE0 : Low D.length D E := by rw [hE]; exact Low.push (Nat.le_refl _) _
 rw [← hE]
 clear hE hR hrow
 have gk := (lwE0.1 _ (by omega)).trans gk
 have gi := (lwE0.1 _ (by omega)).trans gi
 have lwBE : Low B.length B E := ⟨fun j hj => (lwE0.1 j (by omega)).trans (lwD.1 j hj), by have := lwE0.2; omega⟩
 have tE : Tbl E b F [] := tB.low (fun j hj => lwBE.1 j (tB.bound j hj)) lwBE.2
 have lwE : Low H.length H E := ⟨fun j hj => (lwBE.1 j (by have := lwHB.2; omega)).trans (lwHB.1 j hj), by have := lwHB.2; have := lwBE.2; omega⟩
 have hFB : ∀ j ∈ F, j < B.length := fun j hj => tB.bound j hj
 have gT := (lwBE.1 _ (hget_lt gT)).trans gT
 have hsv : KsP E F (.slice (some ⟨B.length, 0, none⟩) 1 1) [k7L] := fun G2 hl hg => keys1 rfl ((hg _ (hget_lt gk) (fun e => by have := hFB _ e; omega)).trans gk)
 have hlv : CkP E F (.slice (some ⟨D.length, 0, none⟩) 3 3) [aC1, aC2, aC3] := by
  refine ⟨rfl, rfl, ?_, fun i x hi => ?_⟩
  ·have hu : und Tryd.prog 22 = .slice 43 := by kernel_rfl
   unfold xlen
   simp only [hu]
   rfl
  ·have hil : i < 3 := (List.getElem?_eq_some_iff.1 hi).1
   have gR2 : ∀ G : AH, E.length ≤ G.length → (∀ j, j < E.length → j ∉ F → hget G j = hget E j) → hget G D.length = some ⟨C1 ++ (C2 ++ C3), 43, some 36⟩ := fun G hl hg => (hg _ (hget_lt gR) (fun e => by have := hFB _ e; omega)).trans gR
   have gi2 : ∀ G : AH, E.length ≤ G.length → (∀ j, j < E.length → j ∉ F → hget G j = hget E j) → InV G (.slice (some ⟨B.length + 1, 0, none⟩) 2 2) [0, 1] := fun G hl hg => own_inv (F := [B.length + 1]) (.inr ⟨B.length + 1, 2, rfl, (hg _ (hget_lt gi) (fun e => by have := hFB _ e; omega)).trans gi, rfl, rfl⟩)
   have nl : ∀ G : AH, InV G (.slice none 0 0) [] := fun G => own_inv (F := []) (e := 3) (.inl ⟨rfl, rfl, rfl⟩)
   have ldc : ∀ (G : AH) (C : List Value) (i : Nat), i < 3 → hget G D.length = some ⟨C1 ++ (C2 ++ C3), 43, some 36⟩ → C = ((C1 ++ (C2 ++ C3)).drop (i * 36)).take 36 → xload Tryd.prog 43 (.pointer (some ⟨D.length, i * 36, none⟩)) G = some (.agg C.toArray) := fun G C i hi hb hC => load_at (sz := 36) hb (by kernel_rfl) (by omega) (by kernel_rfl) hC (by show _ ≤ (C1 ++ (C2 ++ C3)).length; simp only [List.length_append, lC1, lC2, lC3]; omega)
   have c1 : C1 = ((C1 ++ (C2 ++ C3)).drop (0 * 36)).take 36 := by rw [Nat.zero_mul, List.drop_zero, List.take_append_of_le_length (by omega), List.take_of_length_le (by omega)]
   have c2 : C2 = ((C1 ++ (C2 ++ C3)).drop (1 * 36)).take 36 := by rw [show 1 * 36 = C1.length by omega, List.drop_left, List.take_append_of_le_length (by omega), List.take_of_length_le (by omega)]
   have c3 : C3 = ((C1 ++ (C2 ++ C3)).drop (2 * 36)).take 36 := by rw [← List.append_assoc, show 2 * 36 = (C1 ++ C2).length by rw [List.length_append]; omega, List.drop_left, List.take_of_length_le (by omega)]
   match i, hil, hi with
   | 0, _, hi =>
    cases hi
    exact ⟨_, C1, .slice none 0 0, rfl, ck_addr (by omega), fun G hl hg => ⟨ldc G C1 0 (by omega) (gR2 G hl hg) c1, ⟨lC1, by rw [hC1]; rfl, by rw [hC1]; rfl, by rw [hC1]; rfl, by rw [hC1]; rfl, by rw [hC1]; rfl, nl G⟩⟩⟩
   | 1, _, hi =>
    cases hi
    exact ⟨_, C2, .slice none 0 0, rfl, ck_addr (by omega), fun G hl hg => ⟨ldc G C2 1 (by omega) (gR2 G hl hg) c2, ⟨lC2, by rw [hC2]; rfl, by rw [hC2]; rfl, by rw [hC2]; rfl, by rw [hC2]; rfl, by rw [hC2]; rfl, nl G⟩⟩⟩
   | 2, _, hi =>
    cases hi
    exact ⟨_, C3, .slice (some ⟨B.length + 1, 0, none⟩) 2 2, rfl, ck_addr (by omega), fun G hl hg => ⟨ldc G C3 2 (by omega) (gR2 G hl hg) c3, ⟨lC3, by rw [hC3]; rfl, by rw [hC3]; rfl, by rw [hC3]; rfl, by rw [hC3]; rfl, by rw [hC3]; rfl, gi2 G hl hg⟩⟩⟩
 have hmk := make_ac (γ := γ) hpw lwE tE hF hsv (fun k hk => by rw [List.mem_singleton.1 hk]; exact ⟨rfl, k7_by⟩) hlv (fun x hx => aC_ok x hx) (by decide) (by decide) (fun y hy => by cases hy)
 rw [aMk] at hmk
 clear hC1 hC2 hC3 hlv
 refine ⟨by kernel_rfl, AC.mono hmk ?_⟩
 rintro v2 G2 ⟨⟨F2, f2, t2, k2f⟩, _⟩
 have k2 := k2f.ksp
 have lnt := k2.nt
 try simp (disch := first | omega | (simp only [lnS]; try omega)) [-getElem?_pos, -getElem?_neg, -notTuple, lnt.1, lnt.2]
 refine hK _ _ ?_; clear hK K
 have t2 : Tbl G2 b F2 aT2 := t2
 have k2 : KsP G2 F2 v2 [k7L, n0, n1] := k2
 have k32 : ∀ k ∈ [k7L, n0, n1], k.length = 32 := fun k hk => by
  simp only [List.mem_cons, List.not_mem_nil, or_false] at hk
  rcases hk with rfl | rfl | rfl <;> rfl
 have lwE2 : Low H.length H G2 := lowFr lwE hF f2
 have hnF : ∀ j ∈ F2, H.length ≤ j := f2.lo hF lwE.2
 have nF2 : n ∉ F2 := fun e => by
  rcases f2.new n e with e2 | e2
  ·exact nF e2
  ·have := hget_lt gT; omega
 have gT := (f2.out n (hget_lt gT) nF).trans gT
 have lln := (k2.now.acc k32).len
 have lln : xlen Tryd.prog 34 v2 = some (.int .i64 3) := lln
 obtain ⟨p0, d0, i0, q0⟩ := k2.ld k32 (i := 0) (by decide)
 obtain ⟨p1, d1, i1, q1⟩ := k2.ld k32 (i := 1) (by decide)
 obtain ⟨p2, d2, i2, q2⟩ := k2.ld k32 (i := 2) (by decide)
 have i0 : xindexAddr Tryd.prog 34 v2 (.int .i64 0) = some p0 := i0
 have i1 : xindexAddr Tryd.prog 34 v2 (.int .i64 1) = some p1 := i1
 have i2 : xindexAddr Tryd.prog 34 v2 (.int .i64 2) = some p2 := i2
 have q0 : ∀ (G : AH) (F' : List Nat), Fr G2 G F2 F' → xload Tryd.prog 41 p0 G = some (.agg (iv .u8 k7L).toArray) := q0
 have q1 : ∀ (G : AH) (F' : List Nat), Fr G2 G F2 F' → xload Tryd.prog 41 p1 G = some (.agg (iv .u8 n0).toArray) := q1
 have q2 : ∀ (G : AH) (F' : List Nat), Fr G2 G F2 F' → xload Tryd.prog 41 p2 G = some (.agg (iv .u8 n1).toArray) := q2
 have l0 : n0.length = 32 := rfl
 have l1 : n1.length = 32 := rfl
 have t0 : (iv .u8 n0).take 32 = iv .u8 n0 := rfl
 have t1 : (iv .u8 n1).take 32 = iv .u8 n1 := rfl
 have k7b : (k7L == k7L) = true := by simp
 have l0b : (n0 == n0) = true := by simp
 have l1b : (n1 == n1) = true := by simp
 have k7e : (iv .u8 (zl 32)).set 0 (.int .u8 7) = iv .u8 k7L := rfl
 have hrow : setR (setR (List.map (fun j => (iv .u8 (zl 32))[j % 32]?.getD undef) (List.range 64)) 0 (iv .u8 k7L)) 32 (iv .u8 n0) = iv .u8 k7L ++ iv .u8 n0 := row2 (by simp) (by simp [k7l]) (by simp [l0])
 refine aw_seq ?_
 refine name_aw (fun β hβ => ?_)
 have e1 : β 1 = .pointer (some ⟨n, 0, none⟩) := by rw [hβ]; (first | (simp; done) | rfl)
 have e2 : β 2 = v2 := by rw [hβ]; (first | (simp; done) | rfl)
 clear hβ
 obtain ⟨E2, hE2⟩ : ∃ E2, E2 = G2 := ⟨_, rfl⟩
 rw [← hE2] at t2 gT lwE2 q0 q1 q2 ⊢
 clear hE2 tE tB f2 lwE0 lwBE lwD hmk hsv gR gk gi
 have lwE := lwE2
 have nF := nF2
 refine aw_inv alAP (JT alAD (alAV n b v2 p0 p1 p2) β (AP E2 b F2 aT2)) (by kernel_rfl) (by kernel_rfl) (by kernel_rfl) ?_ ?_ ?_
 ·exact ⟨by simp; rfl, fun _ _ => rfl, fun i t' hi h => (by rw [gs_0] at h; cases h), F2, Fr.refl _ _, t2, fun h => (by rw [gs_0] at h; cases h)⟩
 ·intro i s α G k hJ hi0 hsi hd hcc hcont
  obtain ⟨Fc, jf, jt, ja⟩ := hJ.hp
  have j1 := (hJ.lo 1 (by decide)).trans e1
  have j2 := (hJ.lo 2 (by decide)).trans e2
  have gT := (jf.out n (hget_lt gT) nF).trans gT
  have ldT := ld_tb gT
  have ld0 := q0 G Fc jf
  have ld1 := q1 G Fc jf
  have ld2 := q2 G Fc jf
  have hi : i = 0 ∨ i = 1 ∨ i = 2 ∨ i = 3 ∨ i = 4 ∨ i = 5 ∨ i = 6 ∨ i = 7 ∨ i = 8 ∨ i = 9 ∨ i = 10 ∨ i = 11 ∨ i = 12 ∨ i = 13 ∨ i = 14 ∨ i = 15 ∨ i = 16 ∨ i = 17 ∨ i = 18 ∨ i = 19 ∨ i = 20 ∨ i = 21 ∨ i = 22 ∨ i = 23 ∨ i = 24 ∨ i = 25 ∨ i = 26 ∨ i = 27 ∨ i = 28 ∨ i = 29 ∨ i = 30 ∨ i = 31 ∨ i = 32 ∨ i = 33 ∨ i = 34 ∨ i = 35 := by have hi0 : i < 36 := hi0; omega
  rcases hi with rfl | rfl | rfl | rfl | rfl | rfl | rfl | rfl | rfl | rfl | rfl | rfl | rfl | rfl | rfl | rfl | rfl | rfl | rfl | rfl | rfl | rfl | rfl | rfl | rfl | rfl | rfl | rfl | rfl | rfl | rfl | rfl | rfl | rfl | rfl | rfl
  ·simp (disch := first | omega | (simp only [lnS]; try omega)) [-getElem?_pos, -getElem?_neg, -notTuple, lnt, j2]
   exact hcont _ _ (hJ.put alA_nd (t := 13) rfl rfl (hJ.hp.keep (by decide) (by decide)))
  ·have f0 : α 13 = v2 := hJ.val 0 13 rfl (hd 0 (by decide))
   simp (disch := first | omega | (simp only [lnS]; try omega)) [-getElem?_pos, -getElem?_neg, -notTuple, lnt, -xlen, lln, f0]
   exact hcont _ _ (hJ.put alA_nd (t := 14) rfl rfl (hJ.hp.keep (by decide) (by decide)))
  ·have f1 : α 14 = .int .i64 3 := hJ.val 1 14 rfl (hd 1 (by decide))
   simp (disch := first | omega | (simp only [lnS]; try omega)) [-getElem?_pos, -getElem?_neg, -notTuple, lnt, f1]
   exact hcont _ _ (hJ.put alA_nd (t := 15) rfl rfl (hJ.hp.keep (by decide) (by decide)))
  ·have f2 : α 15 = .bool true := hJ.val 2 15 rfl (hd 2 (by decide))
   simp (disch := first | omega | (simp only [lnS]; try omega)) [-getElem?_pos, -getElem?_neg, -notTuple, lnt, f2]
   exact hcont _ _ (hJ.put alA_nd (t := 16) rfl rfl (hJ.hp.keep (by decide) (by decide)))
  ·have f3 : α 16 = .bool true := hJ.val 3 16 rfl (hd 3 (by decide))
   simp (disch := first | omega | (simp only [lnS]; try omega)) [-getElem?_pos, -getElem?_neg, -notTuple, lnt, j2, f3]
   exact hcont _ _ (hJ.put alA_nd (t := 17) rfl rfl (hJ.hp.keep (by decide) (by decide)))
  ·have f3 : α 16 = .bool true := hJ.val 3 16 rfl (hd 3 (by decide))
   have f4 : α 17 = v2 := hJ.val 4 17 rfl (hd 4 (by decide))
   simp (disch := first | omega | (simp only [lnS]; try omega)) [-getElem?_pos, -getElem?_neg, -notTuple, lnt, -xindexAddr, i0, d0, f3, f4]
   exact hcont _ _ (hJ.put alA_nd (t := 18) rfl rfl (hJ.hp.keep (by decide) (by decide)))
  ·have f3 : α 16 = .bool true := hJ.val 3 16 rfl (hd 3 (by decide))
   have f5 : α 18 = p0 := hJ.val 5 18 rfl (hd 5 (by decide))
   simp (disch := first | omega | (simp only [lnS]; try omega)) [-getElem?_pos, -getElem?_neg, -notTuple, lnt, -xload, ld0, f3, f5]
   exact hcont _ _ (hJ.put alA_nd (t := 19) rfl rfl (hJ.hp.keep (by decide) (by decide)))
  ·have f3 : α 16 = .bool true := hJ.val 3 16 rfl (hd 3 (by decide))
   simp (disch := first | omega | (simp only [lnS]; try omega)) [-getElem?_pos, -getElem?_neg, -notTuple, lnt, k7e, f3]
   exact hcont _ _ (hJ.put alA_nd (t := 20) rfl rfl (hJ.hp.keep (by decide) (by decide)))
  ·have f3 : α 16 = .bool true := hJ.val 3 16 rfl (hd 3 (by decide))
   have f6 : α 19 = .agg (iv .u8 k7L).toArray := hJ.val 6 19 rfl (hd 6 (by decide))
   have f7 : α 20 = .agg (iv .u8 k7L).toArray := hJ.val 7 20 rfl (hd 7 (by decide))
   simp (disch := first | omega | (simp only [lnS]; try omega)) [-getElem?_pos, -getElem?_neg, -notTuple, lnt, k7l, k7t, k7b, f3, f6, f7]
   exact hcont _ _ (hJ.put alA_nd (t := 21) rfl rfl (hJ.hp.keep (by decide) (by decide)))
  ·have f3 : α 16 = .bool true := hJ.val 3 16 rfl (hd 3 (by decide))
   have f8 : α 21 = .bool true := hJ.val 8 21 rfl (hd 8 (by decide))
   simp (disch := first | omega | (simp only [lnS]; try omega)) [-getElem?_pos, -getElem?_neg, -notTuple, lnt, f3, f8]
   exact hcont _ _ (hJ.put alA_nd (t := 22) rfl rfl (hJ.hp.keep (by decide) (by decide)))
  ·have f3 : α 16 = .bool true := hJ.val 3 16 rfl (hd 3 (by decide))
   have f9 : α 22 = .bool true := hJ.val 9 22 rfl (hd 9 (by decide))
   simp (disch := first | omega | (simp only [lnS]; try omega)) [-getElem?_pos, -getElem?_neg, -notTuple, lnt, f3, f9]
   exact hcont _ _ (hJ.put alA_nd (t := 23) rfl rfl (hJ.hp.keep (by decide) (by decide)))
  ·have f10 : α 23 = .bool true := hJ.val 10 23 rfl (hd 10 (by decide))
   simp (disch := first | omega | (simp only [lnS]; try omega)) [-getElem?_pos, -getElem?_neg, -notTuple, lnt, j2, f10]
   exact hcont _ _ (hJ.put alA_nd (t := 24) rfl rfl (hJ.hp.keep (by decide) (by decide)))
  ·have f10 : α 23 = .bool true := hJ.val 10 23 rfl (hd 10 (by decide))
   have f11 : α 24 = v2 := hJ.val 11 24 rfl (hd 11 (by decide))
   simp (disch := first | omega | (simp only [lnS]; try omega)) [-getElem?_pos, -getElem?_neg, -notTuple, lnt, -xindexAddr, i1, d1, f10, f11]
   exact hcont _ _ (hJ.put alA_nd (t := 25) rfl rfl (hJ.hp.keep (by decide) (by decide)))
  ·have f10 : α 23 = .bool true := hJ.val 10 23 rfl (hd 10 (by decide))
   have f12 : α 25 = p1 := hJ.val 12 25 rfl (hd 12 (by decide))
   simp (disch := first | omega | (simp only [lnS]; try omega)) [-getElem?_pos, -getElem?_neg, -notTuple, lnt, -xload, ld1, f10, f12]
   exact hcont _ _ (hJ.put alA_nd (t := 26) rfl rfl (hJ.hp.keep (by decide) (by decide)))
  ·have f10 : α 23 = .bool true := hJ.val 10 23 rfl (hd 10 (by decide))
   simp (disch := first | omega | (simp only [lnS]; try omega)) [-getElem?_pos, -getElem?_neg, -notTuple, lnt, j1, f10]
   exact hcont _ _ (hJ.put alA_nd (t := 27) rfl rfl (hJ.hp.keep (by decide) (by decide)))
  ·have f10 : α 23 = .bool true := hJ.val 10 23 rfl (hd 10 (by decide))
   have f14 : α 27 = .pointer (some ⟨n, 0, none⟩) := hJ.val 14 27 rfl (hd 14 (by decide))
   simp (disch := first | omega | (simp only [lnS]; try omega)) [-getElem?_pos, -getElem?_neg, -notTuple, lnt, -xload, ldT, f10, f14]
   exact hcont _ _ (hJ.put alA_nd (t := 28) rfl rfl (hJ.hp.keep (by decide) (by decide)))
  ·have f10 : α 23 = .bool true := hJ.val 10 23 rfl (hd 10 (by decide))
   have f15 : α 28 = .pointer (some ⟨b, 0, none⟩) := hJ.val 15 28 rfl (hd 15 (by decide))
   simp (disch := first | omega | (simp only [lnS]; try omega)) [-getElem?_pos, -getElem?_neg, f10, f15]
   refine ⟨by kernel_rfl, AC.mono (draw_ac (nro := H.length) (γ := γ) (s := ⟨#[102, 111, 101, 32, 110]⟩) (hpw.low (lowFr lwE hnF jf)) jt (jf.lo hnF lwE.2) (by have := jf.len; have := lwE.2; omega) (by decide) (by decide)) ?_⟩
   intro v' G' hq
   obtain ⟨hv, F1, f1, t1⟩ := hq.fr
   rw [aR1.1] at t1
   rw [aR1.2] at hv
   subst hv
   exact hcont _ _ (hJ.put alA_nd (t := 29) rfl rfl ⟨F1, jf.trans f1, t1, fun a b => by
    rw [gs_ne (by decide)] at a b
    obtain ⟨r, w1, w2, w3⟩ := ja a b
    refine ⟨r, by (first | (simp [w1]; done) | rfl), fun e => ?_, (f1.out r (hget_lt w3) w2).trans w3⟩
    rcases f1.new r e with e2 | e2
    ·exact w2 e2
    ·have := hget_lt w3; omega⟩)
  ·have f10 : α 23 = .bool true := hJ.val 10 23 rfl (hd 10 (by decide))
   have f13 : α 26 = .agg (iv .u8 n0).toArray := hJ.val 13 26 rfl (hd 13 (by decide))
   have f16 : α 29 = .agg (iv .u8 n0).toArray := hJ.val 16 29 rfl (hd 16 (by decide))
   simp (disch := first | omega | (simp only [lnS]; try omega)) [-getElem?_pos, -getElem?_neg, -notTuple, lnt, l0, t0, l0b, f10, f13, f16]
   exact hcont _ _ (hJ.put alA_nd (t := 30) rfl rfl (hJ.hp.keep (by decide) (by decide)))
  ·have f10 : α 23 = .bool true := hJ.val 10 23 rfl (hd 10 (by decide))
   have f17 : α 30 = .bool true := hJ.val 17 30 rfl (hd 17 (by decide))
   simp (disch := first | omega | (simp only [lnS]; try omega)) [-getElem?_pos, -getElem?_neg, -notTuple, lnt, f10, f17]
   exact hcont _ _ (hJ.put alA_nd (t := 31) rfl rfl (hJ.hp.keep (by decide) (by decide)))
  ·have f16 : α 29 = .agg (iv .u8 n0).toArray := hJ.val 16 29 rfl (hd 16 (by decide))
   have f18 : α 31 = .bool true := hJ.val 18 31 rfl (hd 18 (by decide))
   simp (disch := first | omega | (simp only [lnS]; try omega)) [-getElem?_pos, -getElem?_neg, -notTuple, lnt, f16, f18]
   exact hcont _ _ (hJ.put alA_nd (t := 32) rfl rfl (hJ.hp.keep (by decide) (by decide)))
  ·have f19 : α 32 = .bool true := hJ.val 19 32 rfl (hd 19 (by decide))
   simp (disch := first | omega | (simp only [lnS]; try omega)) [-getElem?_pos, -getElem?_neg, -notTuple, lnt, j2, f19]
   exact hcont _ _ (hJ.put alA_nd (t := 33) rfl rfl (hJ.hp.keep (by decide) (by decide)))
  ·have f19 : α 32 = .bool true := hJ.val 19 32 rfl (hd 19 (by decide))
   have f20 : α 33 = v2 := hJ.val 20 33 rfl (hd 20 (by decide))
   simp (disch := first | omega | (simp only [lnS]; try omega)) [-getElem?_pos, -getElem?_neg, -notTuple, lnt, -xindexAddr, i2, d2, f19, f20]
   exact hcont _ _ (hJ.put alA_nd (t := 34) rfl rfl (hJ.hp.keep (by decide) (by decide)))
  ·have f19 : α 32 = .bool true := hJ.val 19 32 rfl (hd 19 (by decide))
   have f21 : α 34 = p2 := hJ.val 21 34 rfl (hd 21 (by decide))
   simp (disch := first | omega | (simp only [lnS]; try omega)) [-getElem?_pos, -getElem?_neg, -notTuple, lnt, -xload, ld2, f19, f21]
   exact hcont _ _ (hJ.put alA_nd (t := 35) rfl rfl (hJ.hp.keep (by decide) (by decide)))
  ·have f19 : α 32 = .bool true := hJ.val 19 32 rfl (hd 19 (by decide))
   simp (disch := first | omega | (simp only [lnS]; try omega)) [-getElem?_pos, -getElem?_neg, -notTuple, lnt, j1, f19]
   exact hcont _ _ (hJ.put alA_nd (t := 36) rfl rfl (hJ.hp.keep (by decide) (by decide)))
  ·have f19 : α 32 = .bool true := hJ.val 19 32 rfl (hd 19 (by decide))
   have f23 : α 36 = .pointer (some ⟨n, 0, none⟩) := hJ.val 23 36 rfl (hd 23 (by decide))
   simp (disch := first | omega | (simp only [lnS]; try omega)) [-getElem?_pos, -getElem?_neg, -notTuple, lnt, -xload, ldT, f19, f23]
   exact hcont _ _ (hJ.put alA_nd (t := 37) rfl rfl (hJ.hp.keep (by decide) (by decide)))
  ·have f19 : α 32 = .bool true := hJ.val 19 32 rfl (hd 19 (by decide))
   simp (disch := first | omega | (simp only [lnS]; try omega)) [-getElem?_pos, -getElem?_neg, -notTuple, lnt, j2, f19]
   exact hcont _ _ (hJ.put alA_nd (t := 38) rfl rfl (hJ.hp.keep (by decide) (by decide)))
  ·have f19 : α 32 = .bool true := hJ.val 19 32 rfl (hd 19 (by decide))
   have f25 : α 38 = v2 := hJ.val 25 38 rfl (hd 25 (by decide))
   simp (disch := first | omega | (simp only [lnS]; try omega)) [-getElem?_pos, -getElem?_neg, -notTuple, lnt, -xindexAddr, i0, d0, f19, f25]
   exact hcont _ _ (hJ.put alA_nd (t := 39) rfl rfl (hJ.hp.keep (by decide) (by decide)))
  ·have f19 : α 32 = .bool true := hJ.val 19 32 rfl (hd 19 (by decide))
   have f26 : α 39 = p0 := hJ.val 26 39 rfl (hd 26 (by decide))
   simp (disch := first | omega | (simp only [lnS]; try omega)) [-getElem?_pos, -getElem?_neg, -notTuple, lnt, -xload, ld0, f19, f26]
   exact hcont _ _ (hJ.put alA_nd (t := 40) rfl rfl (hJ.hp.keep (by decide) (by decide)))
  ·have f19 : α 32 = .bool true := hJ.val 19 32 rfl (hd 19 (by decide))
   simp (disch := first | omega | (simp only [lnS]; try omega)) [-getElem?_pos, -getElem?_neg, -notTuple, lnt, j2, f19]
   exact hcont _ _ (hJ.put alA_nd (t := 41) rfl rfl (hJ.hp.keep (by decide) (by decide)))
  ·have f19 : α 32 = .bool true := hJ.val 19 32 rfl (hd 19 (by decide))
   have f28 : α 41 = v2 := hJ.val 28 41 rfl (hd 28 (by decide))
   simp (disch := first | omega | (simp only [lnS]; try omega)) [-getElem?_pos, -getElem?_neg, -notTuple, lnt, -xindexAddr, i1, d1, f19, f28]
   exact hcont _ _ (hJ.put alA_nd (t := 42) rfl rfl (hJ.hp.keep (by decide) (by decide)))
  ·have f19 : α 32 = .bool true := hJ.val 19 32 rfl (hd 19 (by decide))
   have f29 : α 42 = p1 := hJ.val 29 42 rfl (hd 29 (by decide))
   simp (disch := first | omega | (simp only [lnS]; try omega)) [-getElem?_pos, -getElem?_neg, -notTuple, lnt, -xload, ld1, f19, f29]
   exact hcont _ _ (hJ.put alA_nd (t := 43) rfl rfl (hJ.hp.keep (by decide) (by decide)))
  ·have f19 : α 32 = .bool true := hJ.val 19 32 rfl (hd 19 (by decide))
   have f27 : α 40 = .agg (iv .u8 k7L).toArray := hJ.val 27 40 rfl (hd 27 (by decide))
   have f30 : α 43 = .agg (iv .u8 n0).toArray := hJ.val 30 43 rfl (hd 30 (by decide))
   simp (disch := first | omega | (simp only [lnS]; try omega)) [-getElem?_pos, -getElem?_neg, f19, f27, f30, k7l, k7t, l0, t0, hrow]
   exact hcont _ _ (hJ.put alA_nd (t := 44) rfl trivial ⟨Fc, jf.push _, jt.push _, fun _ _ => ⟨G.length, by (first | (simp; done) | rfl), fun e => by have := jt.bound _ e; omega, by rw [hget_app0]; rfl⟩⟩)
  ·have f19 : α 32 = .bool true := hJ.val 19 32 rfl (hd 19 (by decide))
   have f24 : α 37 = .pointer (some ⟨b, 0, none⟩) := hJ.val 24 37 rfl (hd 24 (by decide))
   obtain ⟨r, w1, w2, w3⟩ := ja (hd 31 (by decide)) hsi
   simp (disch := first | omega | (simp only [lnS]; try omega)) [-getElem?_pos, -getElem?_neg, f19, f24, w1]
   refine ⟨by kernel_rfl, AC.mono (hash_ac (nro := H.length) (γ := γ) (s := ⟨#[116]⟩) (ks := [k7L, n0]) (hpw.low (lowFr lwE hnF jf)) jt (jf.lo hnF lwE.2) (by have := jf.len; have := lwE.2; omega) aH_wf (fun D hl hg => keys2 rfl rfl ((hg r (hget_lt w3) w2).trans w3)) (by decide)) ?_⟩
   intro v' G' hq
   obtain ⟨hv, F1, f1, t1⟩ := hq.fr
   rw [aR2.1] at t1
   rw [aR2.2] at hv
   subst hv
   exact hcont _ _ (hJ.put alA_nd (t := 45) rfl rfl ⟨F1, jf.trans f1, t1, fun a b => (by rw [gs_eq (by rw [hJ.sz]; decide)] at b; cases b)⟩)
  ·have f19 : α 32 = .bool true := hJ.val 19 32 rfl (hd 19 (by decide))
   have f22 : α 35 = .agg (iv .u8 n1).toArray := hJ.val 22 35 rfl (hd 22 (by decide))
   have f32 : α 45 = .agg (iv .u8 n1).toArray := hJ.val 32 45 rfl (hd 32 (by decide))
   simp (disch := first | omega | (simp only [lnS]; try omega)) [-getElem?_pos, -getElem?_neg, -notTuple, lnt, l1, t1, l1b, f19, f22, f32]
   exact hcont _ _ (hJ.put alA_nd (t := 46) rfl rfl (hJ.hp.keep (by decide) (by decide)))
  ·have f19 : α 32 = .bool true := hJ.val 19 32 rfl (hd 19 (by decide))
   have f33 : α 46 = .bool true := hJ.val 33 46 rfl (hd 33 (by decide))
   simp (disch := first | omega | (simp only [lnS]; try omega)) [-getElem?_pos, -getElem?_neg, -notTuple, lnt, f19, f33]
   exact hcont _ _ (hJ.put alA_nd (t := 47) rfl rfl (hJ.hp.keep (by decide) (by decide)))
  ·have f0 : α 13 = v2 := hJ.val 0 13 rfl (hd 0 (by decide))
   have f1 : α 14 = .int .i64 3 := hJ.val 1 14 rfl (hd 1 (by decide))
   have f2 : α 15 = .bool true := hJ.val 2 15 rfl (hd 2 (by decide))
   have f3 : α 16 = .bool true := hJ.val 3 16 rfl (hd 3 (by decide))
   have f4 : α 17 = v2 := hJ.val 4 17 rfl (hd 4 (by decide))
   have f5 : α 18 = p0 := hJ.val 5 18 rfl (hd 5 (by decide))
   have f6 : α 19 = .agg (iv .u8 k7L).toArray := hJ.val 6 19 rfl (hd 6 (by decide))
   have f7 : α 20 = .agg (iv .u8 k7L).toArray := hJ.val 7 20 rfl (hd 7 (by decide))
   have f8 : α 21 = .bool true := hJ.val 8 21 rfl (hd 8 (by decide))
   have f9 : α 22 = .bool true := hJ.val 9 22 rfl (hd 9 (by decide))
   have f10 : α 23 = .bool true := hJ.val 10 23 rfl (hd 10 (by decide))
   have f11 : α 24 = v2 := hJ.val 11 24 rfl (hd 11 (by decide))
   have f12 : α 25 = p1 := hJ.val 12 25 rfl (hd 12 (by decide))
   have f13 : α 26 = .agg (iv .u8 n0).toArray := hJ.val 13 26 rfl (hd 13 (by decide))
   have f14 : α 27 = .pointer (some ⟨n, 0, none⟩) := hJ.val 14 27 rfl (hd 14 (by decide))
   have f15 : α 28 = .pointer (some ⟨b, 0, none⟩) := hJ.val 15 28 rfl (hd 15 (by decide))
   have f16 : α 29 = .agg (iv .u8 n0).toArray := hJ.val 16 29 rfl (hd 16 (by decide))
   have f17 : α 30 = .bool true := hJ.val 17 30 rfl (hd 17 (by decide))
   have f18 : α 31 = .bool true := hJ.val 18 31 rfl (hd 18 (by decide))
   have f19 : α 32 = .bool true := hJ.val 19 32 rfl (hd 19 (by decide))
   have f20 : α 33 = v2 := hJ.val 20 33 rfl (hd 20 (by decide))
   have f21 : α 34 = p2 := hJ.val 21 34 rfl (hd 21 (by decide))
   have f22 : α 35 = .agg (iv .u8 n1).toArray := hJ.val 22 35 rfl (hd 22 (by decide))
   have f23 : α 36 = .pointer (some ⟨n, 0, none⟩) := hJ.val 23 36 rfl (hd 23 (by decide))
   have f24 : α 37 = .pointer (some ⟨b, 0, none⟩) := hJ.val 24 37 rfl (hd 24 (by decide))
   have f25 : α 38 = v2 := hJ.val 25 38 rfl (hd 25 (by decide))
   have f26 : α 39 = p0 := hJ.val 26 39 rfl (hd 26 (by decide))
   have f27 : α 40 = .agg (iv .u8 k7L).toArray := hJ.val 27 40 rfl (hd 27 (by decide))
   have f28 : α 41 = v2 := hJ.val 28 41 rfl (hd 28 (by decide))
   have f29 : α 42 = p1 := hJ.val 29 42 rfl (hd 29 (by decide))
   have f30 : α 43 = .agg (iv .u8 n0).toArray := hJ.val 30 43 rfl (hd 30 (by decide))
   have f32 : α 45 = .agg (iv .u8 n1).toArray := hJ.val 32 45 rfl (hd 32 (by decide))
   have f33 : α 46 = .bool true := hJ.val 33 46 rfl (hd 33 (by decide))
   have f34 : α 47 = .bool true := hJ.val 34 47 rfl (hd 34 (by decide))
   simp (disch := first | omega | (simp only [lnS]; try omega)) [-getElem?_pos, -getElem?_neg, -notTuple, lnt, f0, f1, f2, f3, f4, f5, f6, f7, f8, f9, f10, f11, f12, f13, f14, f15, f16, f17, f18, f19, f20, f21, f22, f23, f24, f25, f26, f27, f28, f29, f30, f32, f33, f34]
   exact hcont _ _ (hJ.put alA_nd (t := 0) rfl rfl (hJ.hp.keep (by decide) (by decide)))
 rintro s α G hJ hall
 have a0 : α 0 = .bool true := hJ.val 35 0 rfl (by
  rw [Array.getD_eq_getD_getElem?, Array.getElem?_eq_getElem (by have : s.size = 36 := hJ.sz; omega)]
  exact Array.all_eq_true.1 hall 35 (by have : s.size = 36 := hJ.sz; omega))
 clear hall hJ
 (refine aw_ret ?_; simp (disch := first | omega | (simp only [lnS]; try omega)) [-getElem?_pos, -getElem?_neg, thenQ_ret, scopeQ_ret, inBlockQ_ret, RQ, resL, resV, a0])
end
end
section
structure KO (n : Nat) (k : List Int) : Prop where
 a : k ≠ n0
 b : k ≠ n1
 s : ∀ p, pk k = some p → p < n
theorem KO.up {n m : Nat} {k : List Int} (h : KO n k) (hm : n ≤ m) : KO m k := ⟨h.a, h.b, fun p hp => by have := h.s p hp; omega⟩
structure FT (T : List TermD) : Prop where
 wf : ∀ x ∈ T, x.Wf
 nd : T.Nodup
 two : ∀ x ∈ T, x.kind = 4 → ∃ a b, x.keys = [a, b] ∧ TermD.Wf ⟨3, ⟨#[]⟩, [a]⟩ ∧ TermD.Wf ⟨3, ⟨#[]⟩, [b]⟩
 pub : ∀ x ∈ T, x.kind = 3 → x.text = ⟨#[]⟩
 seal_ : ∀ x ∈ T, x.kind = 6 → x = sX ∨ ∀ k ∈ x.keys.drop 2, KO T.length k
 pre : ∃ r, T = sT5 ++ r
theorem nm32 {i j : Nat} (hi : i < 4294967296) (hj : j < 4294967296) (h : nmL i = nmL j) : i = j := by
 have := nm_inj (a := i) (b := j) (by omega) (by omega) h
 omega
theorem FT.t0 {T : List TermD} (h : FT T) : T[0]? = some sA := by
 obtain ⟨r, rfl⟩ := h.pre; rfl
theorem FT.t1 {T : List TermD} (h : FT T) : T[1]? = some sB := by
 obtain ⟨r, rfl⟩ := h.pre; rfl
theorem FT.len {T : List TermD} (h : FT T) : 5 ≤ T.length := by
 obtain ⟨r, rfl⟩ := h.pre; rw [List.length_append]; exact Nat.le_add_right 5 _
theorem at_name {x : TermD} {T : List TermD} (hx : x.Wf) (hT : ∀ y ∈ T, y.Wf) : (addT x T)[nameT x T]? = some x ∧ ∃ r, addT x T = T ++ r := by
 unfold addT nameT
 cases hp : placeT x T with
 | some i => exact ⟨place_some hx hT hp, [], by simp⟩
 | none => exact ⟨by simp, [x], rfl⟩
theorem preT_get {T U : List TermD} (h : ∃ r, U = T ++ r) {i : Nat} {x : TermD} (hi : T[i]? = some x) : U[i]? = some x := by
 obtain ⟨r, rfl⟩ := h
 rw [List.getElem?_append_left (List.getElem?_eq_some_iff.1 hi).1]
 exact hi
structure XTo (T : List TermD) (x : TermD) : Prop where
 wf : x.Wf
 two : x.kind = 4 → ∃ a b, x.keys = [a, b] ∧ TermD.Wf ⟨3, ⟨#[]⟩, [a]⟩ ∧ TermD.Wf ⟨3, ⟨#[]⟩, [b]⟩
 pub : x.kind = 3 → x.text = ⟨#[]⟩
 seal_ : x.kind = 6 → ∀ k ∈ x.keys.drop 2, KO T.length k
 na : x ≠ sA
 nb : x ≠ sB
theorem FT.add {T : List TermD} (h : FT T) {x : TermD} (hx : XTo T x) (hm : T.length < 4294967295) : FT (addT x T) ∧ KO (addT x T).length (nmL (nameT x T : Nat)) ∧ T.length ≤ (addT x T).length := by
 obtain ⟨h1, r, h2⟩ := at_name hx.wf h.wf
 have hle := addT_le x T
 have hn : nameT x T < (addT x T).length := (List.getElem?_eq_some_iff.1 h1).1
 have hT : FT (addT x T) := by
  by_cases hp : x ∈ T
  ·obtain ⟨i, hi, hxi⟩ := List.mem_iff_getElem.1 hp
   rw [(add_old hx.wf h.wf h.nd (i := i) (by rw [List.getElem?_eq_getElem hi, hxi])).1]
   exact h
  ·rw [(add_new hx.wf h.wf hp).1]
   have up : ∀ y : TermD, y ∈ T ++ [x] → y ∈ T ∨ y = x := fun y hy => by
    rcases List.mem_append.1 hy with e | e
    ·exact .inl e
    ·exact .inr (List.mem_singleton.1 e)
   refine ⟨fun y hy => ?_, ?_, fun y hy => ?_, fun y hy => ?_, fun y hy => ?_, ?_⟩
   ·rcases up y hy with e | rfl
    ·exact h.wf y e
    ·exact hx.wf
   ·exact List.nodup_append.2 ⟨h.nd, by simp, fun a ha b hb e => by rw [List.mem_singleton.1 hb] at e; exact hp (e ▸ ha)⟩
   ·rcases up y hy with e | rfl
    ·exact h.two y e
    ·exact hx.two
   ·rcases up y hy with e | rfl
    ·exact h.pub y e
    ·exact hx.pub
   ·intro h6
    rcases up y hy with e | rfl
    ·rcases h.seal_ y e h6 with e2 | e2
     ·exact .inl e2
     ·exact .inr fun k hk => (e2 k hk).up (by simp)
    ·exact .inr fun k hk => (hx.seal_ h6 k hk).up (by simp)
   ·obtain ⟨r, e⟩ := h.pre
    exact ⟨r ++ [x], by rw [e, List.append_assoc]⟩
 refine ⟨hT, ⟨fun e => ?_, fun e => ?_, fun p hp => ?_⟩, by rw [h2]; simp⟩
 ·have := nm32 (i := nameT x T) (j := 0) (by omega) (by omega) e
  rw [this, hT.t0] at h1
  exact hx.na (Option.some.inj h1).symm
 ·have := nm32 (i := nameT x T) (j := 1) (by omega) (by omega) e
  rw [this, hT.t1] at h1
  exact hx.nb (Option.some.inj h1).symm
 ·rw [pk_nm (by omega)] at hp
  cases hp
  exact hn
theorem findT_pk {T : List TermD} {k : List Int} {x : TermD} (h : findT T k = some x) : ∃ q, pk k = some q ∧ T[q]? = some x := by
 unfold findT at h
 split at h
 ·rename_i hc
  rw [Bool.and_eq_true, decide_eq_true_iff, decide_eq_true_iff] at hc
  exact ⟨(plN k).toNat, by unfold pk; rw [if_pos hc.1], h⟩
 ·cases h
theorem openT_at {T : List TermD} {k y z : List Int} (hz : z.length = 32) (hb : By z) {u : ByteArray} {ks : List (List Int)} (h : openT T k y (strOfNums z) = some (u, ks)) : ∃ q x, pk z = some q ∧ T[q]? = some x ∧ x.kind = 6 ∧ k0 x = k ∧ ks = x.keys.drop 2 := by
 unfold openT at h
 rw [if_pos (by rw [sn_size, hz]), nums_of _ hb] at h
 cases hf : findT T z with
 | none => rw [hf] at h; cases h
 | some x =>
  rw [hf] at h
  obtain ⟨q, h1, h2⟩ := findT_pk hf
  simp only at h
  split at h
  ·rename_i hc
   cases h
   exact ⟨q, x, h1, h2, hc.1, hc.2.1, rfl⟩
  ·cases h
theorem xo_kind {T : List TermD} {x : TermD} (hw : x.Wf) (h1 : x.kind ≠ 1) (h4 : x.kind ≠ 4) (h3 : x.kind = 3 → x.text = ⟨#[]⟩) (h6 : x.kind = 6 → ∀ k ∈ x.keys.drop 2, KO T.length k) : XTo T x :=
 ⟨hw, fun e => absurd e h4, h3, h6, kne h1, kne h1⟩
theorem agree_cases (T : List TermD) (s p : List Int) : (∃ y, findT T p = some y ∧ y.kind = 3 ∧ (agreeT T s p = mK (k0 y) s ∨ agreeT T s p = mK s (k0 y))) ∨ agreeT T s p = ⟨5, ⟨#[]⟩, [s, p]⟩ := by
 unfold agreeT
 cases hf : findT T p with
 | none => exact .inr rfl
 | some y =>
  simp only
  by_cases h3 : y.kind = 3
  ·rw [if_pos h3]
   refine .inl ⟨y, rfl, h3, ?_⟩
   split
   ·exact .inl rfl
   ·exact .inr rfl
  ·rw [if_neg h3]
   exact .inr rfl
structure StepO (T T1 : List TermD) (new : List (List Int)) : Prop where
 t : FT T1
 up : ∃ r, T1 = T ++ r
 k : ∀ k ∈ new, KO T1.length k
structure FolC (T U : List TermD) (C : List Bool) : Prop where
 cl : Cl U C
 up : ∃ r, U = T ++ r
 wf : ∀ x ∈ U, x.Wf
 nd : U.Nodup
 m : U.length < 4294967295
theorem fol_at {C : List Bool} {i : Nat} (hi : i < 4294967296) : fol C (nmL (i : Nat)) = kw C i := folN (pk_nm hi)
theorem FolC.made {T U : List TermD} {C : List Bool} (h : FolC T U C) {i : Nat} {x : TermD} (hi : T[i]? = some x) (hm : mks U C x = true) : kw C i = true := by
 have h1 := preT_get h.up hi
 exact h.cl.made i (List.getElem?_eq_some_iff.1 h1).1 (by rw [trm_of h1]; exact hm)
theorem FolC.less {T T1 U : List TermD} {C : List Bool} (h : FolC T1 U C) (hu : ∃ r, T1 = T ++ r) : FolC T U C := by
 obtain ⟨r, e⟩ := hu
 obtain ⟨r2, e2⟩ := h.up
 exact ⟨h.cl, ⟨r ++ r2, by rw [e2, e, List.append_assoc]⟩, h.wf, h.nd, h.m⟩
theorem mks_all {U : List TermD} {C : List Bool} {x : TermD} (hk : x.kind = 2 ∨ x.kind = 3 ∨ x.kind = 5 ∨ x.kind = 6) (h : ∀ k ∈ x.keys, fol C k = true) : mks U C x = true := by
 unfold mks
 rw [if_pos hk]
 exact List.all_eq_true.2 h
theorem mks_two {U : List TermD} {C : List Bool} (hU : ∀ x ∈ U, x.Wf) (hn : U.Nodup) {s c : List Int} {q : Nat} (hs : fol C s = true) (hq : kw C q = true) (hc : U[q]? = some ⟨3, ⟨#[]⟩, [c]⟩) {x : TermD} (hx : x = mK c s ∨ x = mK s c) : mks U C x = true := by
 have hp : pubK U C c = true := by
  unfold pubK
  rw [place_eq (hU _ (List.mem_of_getElem? hc)) hU hn hc]
  exact hq
 have ha : agrS U C s c = true := by unfold agrS; rw [hs, hp, Bool.or_true]; rfl
 rcases hx with rfl | rfl
 ·show (agrS U C c s || agrS U C s c) = true
  rw [ha, Bool.or_true]
 ·show (agrS U C s c || agrS U C c s) = true
  rw [ha, Bool.true_or]
theorem one_key {x : TermD} (hw : x.Wf) (h3 : x.kind = 3) (ht : x.text = ⟨#[]⟩) : x = ⟨3, ⟨#[]⟩, [k0 x]⟩ := by
 obtain ⟨k, t, l⟩ := x
 obtain rfl : k = 3 := h3
 obtain rfl : t = ⟨#[]⟩ := ht
 have hl := hw.pub rfl
 match l, hl with
 | [a], _ => rfl
theorem cook_step {T : List TermD} {seen ks : List (List Int)} {c : CookD} (hT : FT T) (hm : T.length < 4294967294) (hc : c.Ok) (hks : ∀ k ∈ ks, KO T.length k) (hk32 : ∀ k ∈ ks, k.length = 32 ∧ By k) (hkl : ks.length ≤ 998) (hneed : needN c.kind ≤ ks.length) (hseen : ∀ k ∈ seen, KO T.length k) :
  StepO T (cookM T seen ks c).1 (cookM T seen ks c).2 ∧ ∀ (U : List TermD) (C : List Bool), FolC (cookM T seen ks c).1 U C → (∀ k ∈ ks, fol C k = true) → (∀ k ∈ seen, fol C k = true) → (c.kind = 2 → ∀ p, U[p]? = some ⟨1, foeS ++ c.text, []⟩ → kw C p = true) → ∀ k ∈ (cookM T seen ks c).2, fol C k = true := by
 have same : ∀ new : List (List Int), (∀ k ∈ new, KO T.length k) → StepO T T new := fun new h => ⟨hT, ⟨[], by simp⟩, h⟩
 have hput : ∀ x : TermD, XTo T x → StepO T (addT x T) [nmL (nameT x T : Nat)] := fun x hx => by
  obtain ⟨h1, h2, h3⟩ := hT.add hx (by omega)
  obtain ⟨_, r, h4⟩ := at_name hx.wf hT.wf
  exact ⟨h1, ⟨r, h4⟩, fun k hk => by rw [List.mem_singleton.1 hk]; exact h2⟩
 have hfol : ∀ x : TermD, XTo T x → ∀ (U : List TermD) (C : List Bool), FolC (addT x T) U C → (mks U C x = true ∨ ∀ p, U[p]? = some x → kw C p = true) → ∀ k ∈ [nmL (nameT x T : Nat)], fol C k = true := fun x hx U C hF h k hk => by
  obtain ⟨h1, _⟩ := at_name hx.wf hT.wf
  have hl := (List.getElem?_eq_some_iff.1 h1).1
  have hU := preT_get hF.up h1
  have hlU := (List.getElem?_eq_some_iff.1 hU).1
  have := hF.m
  rw [List.mem_singleton.1 hk, fol_at (by omega)]
  rcases h with h | h
  ·exact hF.made h1 h
  ·exact h _ hU
 have g0 : 0 < ks.length → ks.getD 0 [] ∈ ks := fun h => by
  rw [List.getD_eq_getElem?_getD, List.getElem?_eq_getElem h]; exact List.getElem_mem _
 have g1 : 1 < ks.length → ks.getD 1 [] ∈ ks := fun h => by
  rw [List.getD_eq_getElem?_getD, List.getElem?_eq_getElem h]; exact List.getElem_mem _
 have g2 : 2 < ks.length → ks.getD 2 [] ∈ ks := fun h => by
  rw [List.getD_eq_getElem?_getD, List.getElem?_eq_getElem h]; exact List.getElem_mem _
 have htx := hc.text
 unfold cookM
 by_cases h1 : c.kind = 1
 ·rw [if_pos h1]
  have hin : ∀ k ∈ (if 0 ≤ c.n ∧ c.n < seen.length then [seen.getD c.n.toNat []] else []), k ∈ seen := fun k hk => by
   split at hk
   ·rw [List.mem_singleton.1 hk, List.getD_eq_getElem?_getD, List.getElem?_eq_getElem (by omega : c.n.toNat < seen.length)]
    exact List.getElem_mem _
   ·cases hk
  exact ⟨same _ fun k hk => hseen k (hin k hk), fun U C _ _ hs _ k hk => hs k (hin k hk)⟩
 rw [if_neg h1]
 by_cases h2 : c.kind = 2
 ·rw [if_pos (.inl h2)]
  have ht : ckT T ks c = ⟨1, foeS ++ c.text, []⟩ := by unfold ckT; rw [if_pos h2]
  rw [ht]
  have hw : TermD.Wf ⟨1, foeS ++ c.text, []⟩ := wf_atom (by rw [ByteArray.size_append]; show 4 + _ ≤ _; omega)
  have hne : ∀ t : ByteArray, t.size = 1 → (⟨1, foeS ++ c.text, []⟩ : TermD) ≠ ⟨1, t, []⟩ := fun t ht e => by
   have := congrArg (fun z : TermD => z.text.size) e
   simp only [ByteArray.size_append, ht] at this
   have h4 : foeS.size = 4 := rfl
   omega
  have hx : XTo T ⟨1, foeS ++ c.text, []⟩ := ⟨hw, fun e => (by cases e), fun e => (by cases e), fun e => (by cases e), hne _ rfl, hne _ rfl⟩
  exact ⟨hput _ hx, fun U C hF _ _ hd => hfol _ hx U C hF (.inr (hd h2))⟩
 by_cases h3 : c.kind = 3
 ·rw [if_pos (.inr (.inl h3))]
  have ht : ckT T ks c = ⟨2, c.text, ks⟩ := by unfold ckT; rw [if_neg h2, if_pos h3]
  rw [ht]
  have hw : TermD.Wf ⟨2, c.text, ks⟩ := ⟨by show 2 ≤ 6; omega, by show c.text.size ≤ _; omega, fun k hk => (hk32 k hk).1, fun k hk => (hk32 k hk).2, by show ks.length ≤ _; omega, fun e => (by cases e), fun e => (by cases e), fun e => (by cases e)⟩
  have hx : XTo T ⟨2, c.text, ks⟩ := xo_kind hw (fun e => by cases e) (fun e => by cases e) (fun e => by cases e) (fun e => by cases e)
  exact ⟨hput _ hx, fun U C hF hk _ _ => hfol _ hx U C hF (.inl (mks_all (.inl rfl) hk))⟩
 by_cases h4 : c.kind = 4
 ·rw [if_pos (.inr (.inr (.inl h4)))]
  have ht : ckT T ks c = ⟨3, ⟨#[]⟩, [ks.getD 0 []]⟩ := by unfold ckT; rw [if_neg h2, if_neg h3, if_pos h4]
  rw [ht]
  have hl : 0 < ks.length := by rw [h4] at hneed; exact hneed
  have m0 := g0 hl
  have hx : XTo T ⟨3, ⟨#[]⟩, [ks.getD 0 []]⟩ := xo_kind (wf_pub (hk32 _ m0).1 (hk32 _ m0).2) (fun e => by cases e) (fun e => by cases e) (fun _ => rfl) (fun e => by cases e)
  exact ⟨hput _ hx, fun U C hF hk _ _ => hfol _ hx U C hF (.inl (mks_all (.inr (.inl rfl)) fun k hk2 => by rw [List.mem_singleton.1 hk2]; exact hk _ m0))⟩
 by_cases h6 : c.kind = 6
 ·rw [if_pos (.inr (.inr (.inr h6)))]
  have ht : ckT T ks c = ⟨6, c.text, ks.getD 0 [] :: ks.getD 1 [] :: ks.drop 2⟩ := by unfold ckT; rw [if_neg h2, if_neg h3, if_neg h4, if_neg (by omega)]
  rw [ht]
  have hl : 1 < ks.length := by rw [h6] at hneed; exact hneed
  have m0 := g0 (by omega)
  have m1 := g1 hl
  have hin : ∀ k ∈ ks.getD 0 [] :: ks.getD 1 [] :: ks.drop 2, k ∈ ks := fun k hk => by
   rcases List.mem_cons.1 hk with e | hk
   ·rw [e]; exact m0
   rcases List.mem_cons.1 hk with e | hk
   ·rw [e]; exact m1
   ·exact List.mem_of_mem_drop hk
  have hx : XTo T ⟨6, c.text, ks.getD 0 [] :: ks.getD 1 [] :: ks.drop 2⟩ := xo_kind (wf_seal (by omega) (hk32 _ m0).1 (hk32 _ m0).2 (hk32 _ m1).1 (hk32 _ m1).2 (fun z hz => hk32 z (List.mem_of_mem_drop hz)) (by rw [List.length_drop]; omega)) (fun e => by cases e) (fun e => by cases e) (fun e => by cases e) (fun _ k hk => hks k (List.mem_of_mem_drop (show k ∈ ks.drop 2 from hk)))
  exact ⟨hput _ hx, fun U C hF hk _ _ => hfol _ hx U C hF (.inl (mks_all (.inr (.inr (.inr rfl))) fun k hk2 => hk k (hin k hk2)))⟩
 rw [if_neg (by simp [h2, h3, h4, h6])]
 by_cases h5 : c.kind = 5
 ·rw [if_pos h5]
  have ht : ckT T ks c = agreeT T (ks.getD 0 []) (ks.getD 1 []) := by unfold ckT; rw [if_neg h2, if_neg h3, if_neg h4, if_pos h5]
  rw [ht]
  have hl : 1 < ks.length := by rw [h5] at hneed; exact hneed
  have m0 := g0 (by omega)
  have m1 := g1 hl
  by_cases hz : ks.getD 1 [] = zl 32
  ·rw [if_pos hz]
   exact ⟨same _ (fun k hk => by cases hk), fun U C _ _ _ _ k hk => by cases hk⟩
  ·rw [if_neg hz]
   rcases agree_cases T (ks.getD 0 []) (ks.getD 1 []) with ⟨y, hf, y3, hy⟩ | e
   ·obtain ⟨q, q1, q2⟩ := findT_pk hf
    have ym := List.mem_of_getElem? q2
    have yo := one_key (hT.wf y ym) y3 (hT.pub y ym y3)
    have yw := hT.wf y ym
    rw [yo] at yw q2
    generalize k0 y = z at *
    have z32 := yw.k32 z (by simp)
    have zb := yw.by_ z (by simp)
    have hx : XTo T (agreeT T (ks.getD 0 []) (ks.getD 1 [])) := by
     rcases hy with e | e
     ·rw [e]
      exact ⟨wf_two (.inl rfl) z32 zb (hk32 _ m0).1 (hk32 _ m0).2, fun _ => ⟨_, _, rfl, wf_pub z32 zb, wf_pub (hk32 _ m0).1 (hk32 _ m0).2⟩, fun e => (by cases e), fun e => (by cases e), kne (fun e => by cases e), kne (fun e => by cases e)⟩
     ·rw [e]
      exact ⟨wf_two (.inl rfl) (hk32 _ m0).1 (hk32 _ m0).2 z32 zb, fun _ => ⟨_, _, rfl, wf_pub (hk32 _ m0).1 (hk32 _ m0).2, wf_pub z32 zb⟩, fun e => (by cases e), fun e => (by cases e), kne (fun e => by cases e), kne (fun e => by cases e)⟩
    refine ⟨hput _ hx, fun U C hF hk _ _ => hfol _ hx U C hF (.inl ?_)⟩
    have hu : ∃ r, U = T ++ r := (hF.less (at_name hx.wf hT.wf).2).up
    have hfp := hk _ m1
    unfold fol at hfp
    rw [q1] at hfp
    exact mks_two hF.wf hF.nd (hk _ m0) hfp (preT_get hu q2) hy
   ·have hx : XTo T (agreeT T (ks.getD 0 []) (ks.getD 1 [])) := by
     rw [e]
     exact xo_kind (wf_two (.inr rfl) (hk32 _ m0).1 (hk32 _ m0).2 (hk32 _ m1).1 (hk32 _ m1).2) (fun e => by cases e) (fun e => by cases e) (fun e => by cases e) (fun e => by cases e)
    refine ⟨hput _ hx, fun U C hF hk _ _ => hfol _ hx U C hF (.inl ?_)⟩
    rw [e]
    exact mks_all (.inr (.inr (.inl rfl))) fun k hk2 => by
     rcases List.mem_cons.1 hk2 with e | hk2
     ·rw [e]; exact hk _ m0
     ·rw [List.mem_singleton.1 hk2]; exact hk _ m1
 rw [if_neg h5]
 by_cases h7 : c.kind = 7
 ·rw [if_pos h7]
  have hl : 2 < ks.length := by rw [h7] at hneed; exact hneed
  have m0 := g0 (by omega)
  have m2 := g2 hl
  cases ho : openT T (ks.getD 0 []) (ks.getD 1 []) (strOfNums (ks.getD 2 [])) with
  | none => exact ⟨same _ (fun k hk => by cases hk), fun U C _ _ _ _ k hk => by cases hk⟩
  | some p =>
   obtain ⟨q, x, q1, q2, x6, x0, x2⟩ := openT_at (hk32 _ m2).1 (hk32 _ m2).2 (u := p.1) (ks := p.2) ho
   have hin : openK (some p) = x.keys.drop 2 := x2
   rw [hin]
   have hns : x ≠ sX := fun e => (hks _ m0).a (by rw [← x0, e]; rfl)
   have hko := (hT.seal_ x (List.mem_of_getElem? q2) x6).resolve_left hns
   refine ⟨same _ hko, fun U C hF hk _ _ k hk2 => ?_⟩
   have hU := preT_get hF.up q2
   have hf2 := hk _ m2
   unfold fol at hf2
   rw [q1] at hf2
   have hf0 : fol C (k0 x) = true := by rw [x0]; exact hk _ m0
   unfold fol
   cases hp : pk k with
   | none => rfl
   | some r =>
    have hr := (hko k hk2).s r hp
    have hlu : T.length ≤ U.length := by
     obtain ⟨r2, e2⟩ := hF.up
     rw [e2, List.length_append]
     exact Nat.le_add_right _ _
    exact hF.cl.shown q (List.getElem?_eq_some_iff.1 hU).1 (by rw [trm_of hU]; exact x6) hf2 (by rw [trm_of hU]; exact hf0) k (by rw [trm_of hU]; exact hk2) r hp (by omega)
 rw [if_neg h7]
 by_cases h8 : c.kind = 8
 ·rw [if_pos h8]
  by_cases hr : nmL (plN c.raw) = c.raw
  ·rw [if_pos hr]
   exact ⟨same _ (fun k hk => by cases hk), fun U C _ _ _ _ k hk => by cases hk⟩
  ·rw [if_neg hr]
   have hp : pk c.raw = none := by unfold pk; rw [if_neg hr]
   refine ⟨same _ fun k hk => ?_, fun U C _ _ _ _ k hk => ?_⟩
   ·rw [List.mem_singleton.1 hk]
    exact ⟨fun e => (by rw [e, p0] at hp; cases hp), fun e => (by rw [e, p1_] at hp; cases hp), fun p e => (by rw [e] at hp; cases hp)⟩
   ·rw [List.mem_singleton.1 hk]
    unfold fol
    rw [hp]
 ·rw [if_neg h8]
  exact ⟨same _ (fun k hk => by cases hk), fun U C _ _ _ _ k hk => by cases hk⟩
end
section
def sSeen : List (List Int) := [n2, n3, n4]
abbrev dT (c : CookD) : TermD := ⟨1, foeS ++ c.text, []⟩
theorem sSeen_k : ∀ k ∈ sSeen, k.length = 32 ∧ By k := fun k hk => by
 simp only [sSeen, List.mem_cons, List.not_mem_nil, or_false] at hk
 rcases hk with rfl | rfl | rfl
 ·exact ⟨rfl, n2_by⟩
 ·exact ⟨rfl, n3_by⟩
 ·exact ⟨rfl, n4_by⟩
theorem nm_ko {i n : Nat} (h2 : 2 ≤ i) (hn : i < n) (hm : n < 4294967296) : KO n (nmL (i : Nat)) :=
 ⟨fun e => (by have := nm32 (i := i) (j := 0) (by omega) (by omega) e; omega), fun e => (by have := nm32 (i := i) (j := 1) (by omega) (by omega) e; omega), fun p hp => by rw [pk_nm (by omega)] at hp; cases hp; exact hn⟩
theorem sSeen_ko {n : Nat} (h : 5 ≤ n) (hm : n < 4294967296) : ∀ k ∈ sSeen, KO n k := fun k hk => by
 simp only [sSeen, List.mem_cons, List.not_mem_nil, or_false] at hk
 rcases hk with rfl | rfl | rfl
 ·exact nm_ko (i := 2) (by omega) (by omega) hm
 ·exact nm_ko (i := 3) (by omega) (by omega) hm
 ·exact nm_ko (i := 4) (by omega) (by omega) hm
theorem sT5_ft : FT sT5 := by
 refine ⟨sT5_wf, sT5_nd, fun x hx => ?_, fun x hx => ?_, fun x hx => ?_, [], by simp⟩
 all_goals
  simp only [sT5, List.mem_cons, List.not_mem_nil, or_false] at hx
  rcases hx with rfl | rfl | rfl | rfl | rfl
 all_goals first | (intro e; exact absurd e (by decide)) | (intro _; exact .inl rfl) | (intro _; rfl)
structure MS (done : List CookD) (T : List TermD) (made : List (List Int)) : Prop where
 t : FT T
 k : ∀ k ∈ made, KO T.length k
 f : ∀ (U : List TermD) (C : List Bool), FolC T U C → (∀ k ∈ sSeen, fol C k = true) → (∀ c ∈ done, c.kind = 2 → ∀ p, U[p]? = some (dT c) → kw C p = true) → ∀ k ∈ made, fol C k = true
theorem ms0 : MS [] sT5 [] := ⟨sT5_ft, fun k hk => (by cases hk), fun U C _ _ _ k hk => by cases hk⟩
theorem MS.more {done : List CookD} {T : List TermD} {made : List (List Int)} {n : Nat} (h : MS done T made) (hn : n ≤ 60) (ho : MkOk T made n) {x : CookD} (hx : x.Ok) : MS (done ++ [x]) (moreM T sSeen made x).1 (moreM T sSeen made x).2 := by
 have ht := ho.t
 unfold moreM
 by_cases hgo : inR made.length x.keys = true ∧ needN x.kind ≤ x.keys.length
 ·rw [if_pos hgo]
  obtain ⟨s, f⟩ := cook_step (ks := pickL made x.keys) (c := x) (seen := sSeen) h.t (by omega) hx (fun k hk => h.k k (pickL_mem hgo.1 k hk)) (fun k hk => ho.k k (pickL_mem hgo.1 k hk)) (by rw [pickL_len]; exact hx.keys) (by rw [pickL_len]; exact hgo.2) (sSeen_ko h.t.len (by omega))
  have hle : T.length ≤ (cookM T sSeen (pickL made x.keys) x).1.length := by
   obtain ⟨r, e⟩ := s.up
   rw [e, List.length_append]; omega
  refine ⟨s.t, fun k hk => ?_, fun U C hF hs hd k hk => ?_⟩
  ·rcases List.mem_append.1 hk with e | e
   ·exact (h.k k e).up hle
   ·exact s.k k e
  ·have hmade := h.f U C (hF.less s.up) hs (fun c hc => hd c (by simp [hc]))
   rcases List.mem_append.1 hk with e | e
   ·exact hmade k e
   ·exact f U C hF (fun k hk => hmade k (pickL_mem hgo.1 k hk)) hs (hd x (by simp)) k e
 ·rw [if_neg hgo]
  exact ⟨h.t, h.k, fun U C hF hs hd k hk => h.f U C hF hs (fun c hc => hd c (by simp [hc])) k hk⟩
theorem ms_go : ∀ (l done : List CookD) (T : List TermD) (made : List (List Int)) (n : Nat), MS done T made → MkOk T made n → n + l.length ≤ 60 → (∀ x ∈ l, x.Ok) → MS (done ++ l) (makeM sSeen l (T, made)).1 (makeM sSeen l (T, made)).2
 | [], done, T, made, n, h, _, _, _ => by rw [List.append_nil]; exact h
 | x :: l, done, T, made, n, h, ho, hn, hl => by
  have hx := hl x (by simp)
  simp only [List.length_cons] at hn
  have h1 := h.more (by omega) ho hx
  have h2 := ho.more h.t.wf hx sSeen_k
  have := ms_go l (done ++ [x]) _ _ (n + 1) h1 h2 (by omega) (fun y hy => hl y (by simp [hy]))
  rw [List.append_assoc] at this
  exact this
structure DS (T0 : List TermD) (done : List CookD) (T : List TermD) (all : List (List Int)) (n : Nat) : Prop where
 t : FT T
 up : ∃ r, T = T0 ++ r
 k : ∀ k ∈ all, KO T.length k ∧ k.length = 32 ∧ By k
 s : ∀ k ∈ sSeen, k ∈ all
 d : ∀ c ∈ done, c.kind = 2 → ∃ q, T[q]? = some (dT c) ∧ nmL (q : Nat) ∈ all
 m : T.length ≤ T0.length + n
 l : all.length ≤ 3 + n
theorem dT_xo {T : List TermD} {c : CookD} (hc : c.Ok) : XTo T (dT c) := by
 have htx := hc.text
 have hne : ∀ t : ByteArray, t.size = 1 → dT c ≠ ⟨1, t, []⟩ := fun t ht e => by
  have := congrArg (fun z : TermD => z.text.size) e
  simp only [dT, ByteArray.size_append, ht] at this
  have h4 : foeS.size = 4 := rfl
  omega
 exact ⟨wf_atom (by rw [ByteArray.size_append]; show 4 + _ ≤ _; omega), fun e => (by cases e), fun e => (by cases e), fun e => (by cases e), hne _ rfl, hne _ rfl⟩
theorem ds0 {T0 : List TermD} (h : FT T0) (hm : T0.length < 4294967296) : DS T0 [] T0 sSeen 0 := ⟨h, ⟨[], by simp⟩, fun k hk => ⟨sSeen_ko h.len hm k hk, sSeen_k k hk⟩, fun k hk => hk, fun c hc => (by cases hc), Nat.le_refl _, Nat.le_refl _⟩
end
section
attribute [local simp] wb_bool wb_undef with_lit XL_nil XL_cons XLc_val XLc_call step1_eq stepW_t stepW_f stepC_n stepC_s stepX_s stepX_n stepN_s calleeX xrecv oneV xop_eq xopR_s xopR_n wantedA_eq wantedG_n wantedG_s plain1_int plain1_bool plain1_string bits_i64 bits_u64 bits_u32 bits_u16 bits_u8 xeqA xagg xcmp xarr allK_iv num_iv calleeOf xread xeff xbin xint xnil xun xstr xload xconv xpart xfield xfieldAddr xindexAddr xindex bnd asInt? xslice xlen xmin xmax xbuild xfill xappend xapp2 xappstr xappmk xcap xcopy xcells eval_tmp eval_const put_at put_none fr0_at cells_agg cells_int cells_bool cells_string cells_ptr cells_slice notTuple tab iv_all hget_app hget_app0 hget_cons0 hget_cons set_app set_app0 setR setR_one QL_nil QL_cons QLc_val stepQ_t stepQ_f stepQC_n stepQC_s stepQX_s SL_nil SL_cons SLc_val stepS_t stepS_f ltT ltF leT leF eqT eqF ltTn ltFn leTn leFn eqTn eqFn beqT beqF bneT bneF wi64 wu64 wu32 wu16 wu8 tmodP tdivP hgetL hgetNe hgetEq setL nums_def nums_len Nat.succ_le_of_lt List.getElem?_cons_zero List.getElem?_cons_succ Option.getD_some Int.toNat_add Int.toNat_mul agM okM agB agI agS agP agL agA okB okI okS okP okSl okA nt_strG nt_boolG nt_aggG nt_intG nt_ptrG nt_slG
section
theorem pl0 {H0 G : AH} (lw : Low H0.length H0 G) {tb rb n : Nat} {F : List Nat} (t : Tbl G tb F []) (hF : ∀ j ∈ F, H0.length ≤ j) (hr : hget G rb = some ⟨[.slice none 0 0, .slice none 0 0], 33, none⟩) (hr0 : H0.length ≤ rb) (hrF : rb ∉ F) (hn : n < G.length) (hnF : n ∉ F) (hnr : n ≠ rb) : Pl H0 [n] G tb rb (.slice none 0 0) [] [] [] := by
 refine ⟨F, [], [], [], [], .slice none 0 0, .slice none 0 0, [], lw, t, ⟨hr, .inl ⟨rfl, rfl, rfl⟩, .inl ⟨rfl, rfl, rfl⟩, fun p hp => (by cases hp), fun p hp => (by cases hp), fun j hj => (by cases hj), by simp, by simp, by simp, fun j hj => (by cases hj), fun j hj => (by cases hj), fun j hj => (by cases hj)⟩, rfl, .inl ⟨rfl, rfl, rfl⟩, hF, fun j hj => ?_, fun j hj => (by cases hj), fun j hj e => ?_, fun j hj => by simp, fun j hj => by simp, fun j hj => ?_⟩
 ·simp only [List.append_nil, List.mem_cons, List.not_mem_nil, or_false] at hj
  omega
 ·simp only [List.append_nil, List.mem_cons, List.not_mem_nil, or_false] at e
  exact hrF (e ▸ hj)
 ·rw [List.mem_singleton.1 hj]
  refine ⟨hn, hnF, fun e => ?_, by simp⟩
  simp only [List.append_nil, List.mem_cons, List.not_mem_nil, or_false] at e
  exact hnr e
theorem ok_of {L : List CookD} (hL : ∀ x ∈ L, x.Wf) (hg : L.any greatC = false) : ∀ x ∈ L, x.Ok := fun x hx => by
 have h := List.any_eq_false.1 hg x hx
 unfold greatC at h
 simp only [Bool.or_eq_true, decide_eq_true_eq, not_or, Nat.not_lt] at h
 exact ⟨hL x hx, by omega, by omega⟩
theorem sT5_few : ∀ y ∈ sT5, y.keys.length ≤ 1000 := by decide
end
section
theorem rsealP_ac {nro : Nat} {γ : Nat → Option Nat} {H : AH} {b : Nat} {tv sv : Value} {Ft Fs F : List Nat} {L : List (Value × TermD)} (h : RTblF H b tv sv Ft Fs F L) (hnH : nro ≤ H.length) (hnro : ∀ j ∈ b :: (Ft ++ Fs), nro ≤ j) {k y : List Int} (hk : k.length = 32) (hy : y.length = 32) {s : ByteArray} {ks : List (List Int)} (hx : TermD.Wf ⟨6, s, k :: y :: ks⟩) {v : Value} (hP : PartK H H.length v ks) (hL : L.length ≤ 900000) :
  AC Tryd.prog nro γ 28 #[.pointer (some ⟨b, 0, none⟩), .agg (iv .u8 k).toArray, .agg (iv .u8 y).toArray, .string s, v] H (RSealQ H b Ft Fs F L ⟨6, s, k :: y :: ks⟩) := by
 unfold RSealQ
 obtain ⟨hnt, hvc⟩ : notTuple v = true ∧ v.cells = #[v] := by
  obtain ⟨⟨a, c, rfl⟩, _⟩ := hP
  exact ⟨rfl, rfl⟩
 have hFb := h.bound
 have hlb := hget_lt h.hb
 have hks : ∀ z ∈ ks, z.length = 32 := fun z hz => hx.k32 z (by simp [hz])
 have hmany := hx.many
 have hmk : ks.length + 2 ≤ 1000000 := hmany
 have hstr : ∀ s, v ≠ .string s := fun s e => by
  obtain ⟨⟨a, c, e2⟩, _⟩ := hP
  rw [e] at e2
  cases e2
 have htk : (iv .u8 k).take 32 = iv .u8 k := List.take_of_length_le (by simp [hk])
 have hty : (iv .u8 y).take 32 = iv .u8 y := List.take_of_length_le (by simp [hy])
 have hrow2 : setR (setR (List.map (fun j => (iv .u8 (zl 32))[j % 32]?.getD undef) (List.range 64)) 0 (iv .u8 k)) 32 (iv .u8 y) = iv .u8 k ++ iv .u8 y := row2 (by simp) (by simp [hk]) (by simp [hy])
 obtain ⟨G0, hG0⟩ : ∃ G0 : AH, G0 = H ++ [some ⟨iv .u8 k, 41, none⟩, some ⟨iv .u8 y, 41, none⟩] := ⟨_, rfl⟩
 have gk : hget G0 H.length = some ⟨iv .u8 k, 41, none⟩ := by rw [hG0, hget_app0]; rfl
 have gy : hget G0 (H.length + 1) = some ⟨iv .u8 y, 41, none⟩ := by rw [hG0, hget_app]; rfl
 have hG0l : G0.length = H.length + 2 := by rw [hG0]; simp
 have hG0j : ∀ j, j < H.length → hget G0 j = hget H j := fun j hj => by rw [hG0]; exact hget_left hj
 have lk := hget_lt gk
 have ly := hget_lt gy
 obtain ⟨R, hR⟩ : ∃ R : Option Blk, R = some ⟨iv .u8 k ++ iv .u8 y, 41, some 32⟩ := ⟨_, rfl⟩
 have hxc : xcells 32 (.slice (some ⟨G0.length, 0, none⟩) 2 2) (G0 ++ [R]) = some (iv .u8 k ++ iv .u8 y) := by
  have ht : (iv .u8 k ++ iv .u8 y).take 64 = iv .u8 k ++ iv .u8 y := List.take_of_length_le (by simp [hk, hy])
  rw [hR]
  simp [xcells, hget_app0, hk, hy, ht]
 obtain ⟨v1, G1, F1, hap, ho1, hl1, hk1, hF1⟩ := ownF_appQ (P := Tryd.prog) (nro := nro) (t := 34) (e := 41) (H := G0 ++ [R]) (v := .slice none 0 0) (x := .slice (some ⟨G0.length, 0, none⟩) 2 2) (sz := 32) (cells := []) (news := iv .u8 k ++ iv .u8 y) (F := []) (by kernel_rfl) (by kernel_rfl) (by omega) (by kernel_rfl)
  (.inl ⟨rfl, rfl, rfl⟩) (fun j hj => by cases hj) (fun s e => by cases e) hxc (by simp [hk, hy]) (by show (0 + (iv .u8 k ++ iv .u8 y).length) * byt Tryd.prog 41 ≤ _; rw [show byt Tryd.prog 41 = 32 by kernel_rfl]; simp [hk, hy]) (by simp [hk, hy, maxLen])
 have hRl : (G0 ++ [R]).length = G0.length + 1 := by simp
 rw [hRl] at hl1 hk1 hF1
 have hG1j : ∀ j, j < H.length → hget G1 j = hget H j := fun j hj => (hk1 j (by omega) (by simp)).trans ((hget_left (by omega)).trans (hG0j j hj))
 have hxc2 : xcells 32 v G1 = some (ksC ks) := by rw [ksC_kr]; exact hP.2 G1 (fun j hj => hG1j j hj)
 have hkl := ksC_len hks
 have hF1l := ho1.lt
 obtain ⟨v2, G2, F2, hap2, ho2, hl2, hk2, hF2⟩ := ownF_appQ (P := Tryd.prog) (nro := nro) (t := 34) (e := 41) (H := G1) (v := v1) (x := v) (sz := 32) (cells := [] ++ (iv .u8 k ++ iv .u8 y)) (news := ksC ks) (F := F1) (by kernel_rfl) (by kernel_rfl) (by omega) (by kernel_rfl)
  ho1 (fun j hj => by have := hF1 j hj; omega) hstr hxc2 (by rw [hkl]; omega) (by rw [hkl]; simp only [List.nil_append, List.length_append, iv_length, hk, hy]; rw [show byt Tryd.prog 41 = 32 by kernel_rfl]; omega) (by rw [hkl]; simp only [List.nil_append, List.length_append, iv_length, hk, hy, maxLen]; omega)
 have hG2j : ∀ j, j < H.length → hget G2 j = hget H j := fun j hj => (hk2 j (by omega) (fun e => by have := hF1 j e; omega)).trans (hG1j j hj)
 have lw2 : Low H.length H G2 := ⟨hG2j, by omega⟩
 have hv2 : KsV G2 v2 (k :: y :: ks) := kr_ksv (F := F2) (by rw [show kr (k :: y :: ks) = [] ++ (iv .u8 k ++ iv .u8 y) ++ ksC ks by rw [ksC_kr]; simp [kr]]; exact ho2) hx.k32
 have hmk := rmake_ac (nro := nro) (γ := γ) (h.low (fun j hj => hG2j j (hFb j hj)) (by omega)) (by omega) hnro hx hv2 hL
 obtain ⟨n1, n2⟩ := ownF_nt ho1
 obtain ⟨n3, n4⟩ := ownF_nt ho2
 subst hR
 clear hxc hxc2
 refine ac_of_aw Tryd.func28 rfl Tryd.ntmps28 Tryd.results28 (by simp) ?_
 (refine aw_seq (aoo fun K hK => ?_); simp (disch := first | omega | (simp only [lnS]; try omega)) [-getElem?_pos, -getElem?_neg, htk, hty]; refine hK _ _ ?_; clear hK K)
 rw [← hG0]
 clear hG0
 (refine aw_seq (aoo fun K hK => ?_); simp (disch := first | omega | (simp only [lnS]; try omega)) [-getElem?_pos, -getElem?_neg]; refine hK _ _ ?_; clear hK K)
 (refine aw_seq (aoo fun K hK => ?_); simp (disch := first | omega | (simp only [lnS]; try omega)) [-getElem?_pos, -getElem?_neg, gk, gy, lk, ly, htk, hty, hrow2, -notTuple, n1, n2, -xappend, hap]; refine hK _ _ ?_; clear hK K)
 (refine aw_seq (aoo fun K hK => ?_); simp (disch := first | omega | (simp only [lnS]; try omega)) [-getElem?_pos, -getElem?_neg, -notTuple, hnt, hvc, n1, n2, n3, n4, -xappend, hap2]; refine hK _ _ ?_; clear hK K)
 refine aw_seq (aoo fun K hK => ?_)
 simp (disch := first | omega | (simp only [lnS]; try omega)) [-getElem?_pos, -getElem?_neg, -notTuple, n3, n4]
 refine ⟨by kernel_rfl, AC.mono hmk ?_⟩
 intro v3 G3 hQ
 have hv3 := hQ.1
 have hn3 : nro ≤ G3.length := by have := hQ.2.1; omega
 have fin := fun (N : AH) => hQ.up lw2 (A' := G3 ++ N) (Low.push (Nat.le_refl _) N)
 subst hv3
 have lN : (nmL (nameT ⟨6, s, k :: y :: ks⟩ (L.map (·.2)) : Nat)).length = 32 := rfl
 generalize nmL (nameT ⟨6, s, k :: y :: ks⟩ (L.map (·.2)) : Nat) = N at *
 have htN : (iv .u8 N).take 32 = iv .u8 N := List.take_of_length_le (by simp [lN])
 have hsN : setR (iv .u8 (zl 32)) 0 (iv .u8 N) = iv .u8 N := setR_all _ _ (by simp [lN])
 try simp (disch := first | omega | (simp only [lnS]; try omega)) [-getElem?_pos, -getElem?_neg, hn3, lN, htN, hsN]
 refine hK _ _ ?_; clear hK K
 refine aw_seq ?_
 have hbl := byteList_iv N
 (refine aoo fun K hK => ?_; simp (disch := first | omega | (simp only [lnS]; try omega)) [-getElem?_pos, -getElem?_neg, lN, htN, hbl]; refine hK _ _ ?_; clear hK K)
 (refine aw_ret ?_; simp (disch := first | omega | (simp only [lnS]; try omega)) [-getElem?_pos, -getElem?_neg, thenQ_ret, scopeQ_ret, inBlockQ_ret, RQ, resL, resV])
 exact fin _
theorem RTbl.bound {H : AH} {b : Nat} {F : List Nat} {T : List TermD} (h : RTbl H b F T) : ∀ j ∈ F, j < H.length := by
 obtain ⟨tv, sv, Ft, Fs, Fk, L, rfl, h, rfl⟩ := h
 exact h.bound
theorem RTbl.low {H G : AH} {b : Nat} {F : List Nat} {T : List TermD} (h : RTbl H b F T) (hl : ∀ j ∈ F, hget G j = hget H j) (hG : H.length ≤ G.length) : RTbl G b F T := by
 obtain ⟨tv, sv, Ft, Fs, Fk, L, rfl, h, rfl⟩ := h
 exact ⟨tv, sv, Ft, Fs, Fk, L, rfl, h.low hl hG, rfl⟩
theorem RTbl.push {H : AH} {b : Nat} {F : List Nat} {T : List TermD} (h : RTbl H b F T) (N : AH) : RTbl (H ++ N) b F T := h.low (fun j hj => hget_left (h.bound j hj)) (by simp)
theorem RTbl.wf {H : AH} {b : Nat} {F : List Nat} {T : List TermD} (h : RTbl H b F T) : ∀ x ∈ T, x.Wf := by
 obtain ⟨tv, sv, Ft, Fs, Fk, L, rfl, h, rfl⟩ := h
 intro x hx
 obtain ⟨p, hp, rfl⟩ := List.mem_map.1 hx
 exact h.wf p hp
def RFQ (H : AH) (b : Nat) (F : List Nat) (T' : List TermD) (w v' : Value) (H' : AH) : Prop := v' = w ∧ ∃ F', Fr H H' F F' ∧ RTbl H' b F' T'
theorem RMkQ.fr {H H' : AH} {b : Nat} {Ft Fs F : List Nat} {L : List (Value × TermD)} {x : TermD} {v' : Value} (h : RMkQ H b Ft Fs F L x v' H') (hlb : b < H.length) : RFQ H b (b :: (Ft ++ Fs ++ F)) (addT x (L.map (·.2))) (nmV x (L.map (·.2))) v' H' := by
 obtain ⟨h0, h1, h2, tv, sv, Ft', Fs', F', L', h3, h4, h5⟩ := h
 refine ⟨h0, b :: (Ft' ++ Fs' ++ F'), ⟨h1, fun j hj hn => ?_, fun j hj => ?_⟩, tv, sv, Ft', Fs', F', L', h4.symm, h3, rfl⟩
 ·simp only [List.mem_cons, List.mem_append, not_or] at hn
  exact h2 j hj hn.1 hn.2.1.1 hn.2.1.2
 ·rcases List.mem_cons.1 hj with e | e
  ·exact .inl (by rw [e]; simp)
  ·rcases h5 j e with e2 | e2
   ·exact .inl (List.mem_cons.2 (.inr e2))
   ·exact .inr e2
section
variable {nro : Nat} {γ : Nat → Option Nat} {H : AH} {b : Nat} {F : List Nat} {T : List TermD}
theorem rmakeT (h : RTbl H b F T) (hn : ∀ j ∈ F, nro ≤ j) (hnH : nro ≤ H.length) {x : TermD} (hx : x.Wf) {v : Value} (hv : KsV H v x.keys) (hT : T.length ≤ 900000) : AC Tryd.prog nro γ 25 #[.pointer (some ⟨b, 0, none⟩), .int .i64 (x.kind : Nat), .string x.text, v] H (RFQ H b F (addT x T) (nmV x T)) := by
 obtain ⟨tv, sv, Ft, Fs, Fk, L, rfl, h, rfl⟩ := h
 rw [List.length_map] at hT
 exact (rmake_ac h hnH (fun j hj => hn j (by simp only [List.mem_cons, List.mem_append] at hj ⊢; rcases hj with e | e | e <;> simp [e])) hx hv hT).mono fun v' H' hq => hq.fr (hget_lt h.hb)
theorem rsealT (h : RTbl H b F T) (hn : ∀ j ∈ F, nro ≤ j) (hnH : nro ≤ H.length) {k y : List Int} (hk : k.length = 32) (hy : y.length = 32) {s : ByteArray} {ks : List (List Int)} (hx : TermD.Wf ⟨6, s, k :: y :: ks⟩) {v : Value} (hP : PartK H H.length v ks) (hT : T.length ≤ 900000) : AC Tryd.prog nro γ 28 #[.pointer (some ⟨b, 0, none⟩), .agg (iv .u8 k).toArray, .agg (iv .u8 y).toArray, .string s, v] H (RFQ H b F (addT ⟨6, s, k :: y :: ks⟩ T) (.string (strOfNums (nmL (nameT ⟨6, s, k :: y :: ks⟩ T : Nat))))) := by
 obtain ⟨tv, sv, Ft, Fs, Fk, L, rfl, h, rfl⟩ := h
 rw [List.length_map] at hT
 exact (rsealP_ac h hnH (fun j hj => hn j (by simp only [List.mem_cons, List.mem_append] at hj ⊢; rcases hj with e | e | e <;> simp [e])) hk hy hx hP hT).mono fun v' H' hq => ⟨hq.1, (hq.2.fr (hget_lt h.hb)).2⟩
theorem ragreeT (h : RTbl H b F T) (hn : ∀ j ∈ F, nro ≤ j) (hnH : nro ≤ H.length) {s p : List Int} (hs : s.length = 32) (hbs : By s) (hp : p.length = 32) (hbp : By p) (hT : T.length ≤ 900000) : AC Tryd.prog nro γ 50 #[.pointer (some ⟨b, 0, none⟩), .agg (iv .u8 s).toArray, .agg (iv .u8 p).toArray] H (RFQ H b F (agrT2 T s p) (.tuple #[.agg (iv .u8 (agrK T s p)).toArray, .bool (agrB p)])) := by
 have h0 := h
 obtain ⟨tv, sv, Ft, Fs, Fk, L, rfl, h, rfl⟩ := h
 rw [List.length_map] at hT
 refine (ragree_ac h hnH (fun j hj => hn j (by simp only [List.mem_cons, List.mem_append] at hj ⊢; rcases hj with e | e | e <;> simp [e])) hs hbs hp hbp hT).mono fun v' H' hq => ?_
 unfold agrT2 agrK agrB
 rcases hq with ⟨h1, h2, h3⟩ | ⟨h1, v1, h2, h3⟩
 ·rw [if_pos h1, if_pos h1, decide_eq_true h1]
  exact ⟨h2, _, low_fr _ h3, h0.low (fun j hj => h3.1 j (h0.bound j hj)) h3.2⟩
 ·rw [if_neg h1, if_neg h1, decide_eq_false h1]
  have q := h3.fr (hget_lt h.hb)
  exact ⟨by rw [h2, q.1]; rfl, q.2⟩
theorem rmarkT (h : RTbl H b F T) (hnH : nro ≤ H.length) {s : ByteArray} (h32 : s.size = 32) : AC Tryd.prog nro γ 35 #[.pointer (some ⟨b, 0, none⟩), .string s] H (RFQ H b F T (.agg (iv .u8 (nums s)).toArray)) :=
 (rmark0_ac hnH h32 rfl).mono fun v' H' hq => ⟨hq.1, F, low_fr F hq.2, h.low (fun j hj => hq.2.1 j (h.bound j hj)) hq.2.2⟩
end
theorem ksv_cells {G : AH} {v : Value} {ks : List (List Int)} (h : KsV G v ks) (hk : ∀ k ∈ ks, k.length = 32) : xcells 32 v G = some (kr ks) := (h.part hk).2 G (fun _ _ => rfl)
theorem suf_ksv2 {H : AH} {kv : Value} {ks : List (List Int)} (h : KsV H kv ks) (hk : K32 ks) (h2 : 2 ≤ ks.length) :
  ∃ sv, (∀ G : AH, xslice Tryd.prog 34 kv (some (.int .i64 2)) none G = some sv) ∧ ∀ G : AH, KsV G kv ks → AccK G sv (ks.drop 2) ∧ xcells 32 sv G = some (kr (ks.drop 2)) := by
 obtain ⟨sv, h1, h3⟩ := suf_ksv h hk h2
 refine ⟨sv, h1, fun G hG => ⟨h3 G hG, ?_⟩⟩
 have hu : und Tryd.prog 34 = .slice 41 := by kernel_rfl
 have hs : szt Tryd.prog 41 = 32 := by kernel_rfl
 have hc := ksv_cells hG hk
 rcases val_shape hG with ⟨rfl, e⟩ | ⟨a, e⟩
 ·have : ks = [] := by simpa using e
  rw [this] at h2
  simp at h2
 ·rw [List.length_map] at e
  have hG' : CD.Val G (.sl (ks.map kd)) kv := hG
  obtain ⟨j, b, us, hv, hb, hle, _⟩ := val_at (P := Tryd.prog) (t := 34) (e := 41) (sz := 32) hG' hu hs (by omega) (fun row hr => by
   obtain ⟨y, hy, rfl⟩ := List.mem_map.1 hr
   unfold kd
   rw [List.length_map]
   exact hk y hy) (i := 0) (row := kd (ks.getD 0 [])) (by
   rw [List.getElem?_map, List.getD_eq_getElem?_getD, List.getElem?_eq_getElem (by omega : 0 < ks.length)]; rfl)
  rw [List.length_map] at hv hle
  subst hv
  have h4 := h1 G
  unfold xslice at h4
  simp only [hu, bnd, hs] at h4
  rw [show asInt? (Value.int .i64 2) = some 2 from rfl] at h4
  dsimp only at h4
  rw [if_pos ⟨by omega, by omega, by omega, by omega⟩] at h4
  have hrow : b.cells.take (ks.length * 32) = kr ks := by
   unfold xcells at hc
   cases hn : ks.length with
   | zero => omega
   | succ m =>
    rw [hn] at hc
    simp only [hb] at hc
    rw [if_pos (by omega)] at hc
    simpa using hc
  by_cases e2 : ks.length = 2
  ·rw [if_pos ⟨by omega, by omega⟩] at h4
   cases h4
   have : ks.drop 2 = [] := List.drop_of_length_le (by omega)
   rw [this]
   rfl
  ·rw [if_neg (by omega)] at h4
   cases h4
   have e5 : ((2 : Int)).toNat = 2 := rfl
   have e6 : ((ks.length : Int)).toNat = ks.length := by omega
   rw [e5, e6]
   have hd : kr (ks.drop 2) = (b.cells.drop 64).take ((ks.length - 2) * 32) := by
    rw [← kr_dropV hk (k := 2) h2, ← hrow, List.drop_take]
    congr 1
    omega
   unfold xcells
   cases hn : ks.length - 2 with
   | zero => omega
   | succ m =>
    simp only [hb]
    rw [if_pos (by omega), hd, hn]
def ROpenP (H : AH) (F : List Nat) (T : List TermD) (k y : List Int) (box : ByteArray) (v' : Value) (H' : AH) : Prop :=
 Low H.length H H' ∧ match openT T k y box with
  | none => v' = .tuple #[.string ⟨#[]⟩, .slice none 0 0, .bool false]
  | some (s, ks) => ∃ kv, v' = .tuple #[.string s, kv, .bool true] ∧ notTuple kv = true ∧ kv.cells = #[kv] ∧ ∀ G : AH, (∀ j ∈ F, hget G j = hget H j) → AccK G kv ks ∧ xcells 32 kv G = some (kr ks)
attribute [local simp] wb_bool wb_undef with_lit XL_nil XL_cons XLc_val XLc_call step1_eq stepW_t stepW_f stepC_n stepC_s stepX_s stepX_n stepN_s calleeX xrecv oneV xop_eq xopR_s xopR_n wantedA_eq wantedG_n wantedG_s plain1_int plain1_bool plain1_string bits_i64 bits_u64 bits_u32 bits_u16 bits_u8 xeqA xagg xcmp xarr allK_iv num_iv calleeOf xread xeff xbin xint xnil xun xstr xload xconv xpart xfield xfieldAddr xindexAddr xindex bnd asInt? xslice xlen xmin xmax xbuild xfill xappend xapp2 xappstr xappmk xcap xcopy xcells eval_tmp eval_const put_at put_none fr0_at cells_agg cells_int cells_bool cells_string cells_ptr cells_slice notTuple tab iv_all hget_app hget_app0 hget_cons0 hget_cons set_app set_app0 setR setR_one QL_nil QL_cons QLc_val stepQ_t stepQ_f stepQC_n stepQC_s stepQX_s SL_nil SL_cons SLc_val stepS_t stepS_f ltT ltF leT leF eqT eqF ltTn ltFn leTn leFn eqTn eqFn beqT beqF bneT bneF wi64 wu64 wu32 wu16 wu8 tmodP tdivP hgetL hgetNe hgetEq setL nums_def nums_len Nat.succ_le_of_lt List.getElem?_cons_zero List.getElem?_cons_succ Option.getD_some Int.toNat_add Int.toNat_mul agM okM agB agI agS agP agL agA okB okI okS okP okSl okA nt_strG nt_boolG nt_aggG nt_intG nt_ptrG nt_slG
theorem ropenP_ac {nro : Nat} {γ : Nat → Option Nat} {H : AH} {b : Nat} {tv sv : Value} {Ft Fs F : List Nat} {L : List (Value × TermD)} (h : RTblF H b tv sv Ft Fs F L) (hnH : nro ≤ H.length) {k y : List Int} (hk : k.length = 32) (hy : y.length = 32) {s : ByteArray} (hs1 : s.size ≤ 10000000) :
  AC Tryd.prog nro γ 51 #[.pointer (some ⟨b, 0, none⟩), .agg (iv .u8 k).toArray, .agg (iv .u8 y).toArray, .string s] H (ROpenP H F (L.map (·.2)) k y s) := by
 have hop := openT_look (L.map (·.2)) k y s
 have htk : (iv .u8 k).take 32 = iv .u8 k := List.take_of_length_le (by simp [hk])
 have hty : (iv .u8 y).take 32 = iv .u8 y := List.take_of_length_le (by simp [hy])
 have hs9 : s.size ≤ 9223372036854775807 := by omega
 have hFb := h.bound
 by_cases h32 : s.size = 32
 case neg =>
  have hb32 : ((s.size : Int) == 32) = false := by rw [beq_eq_false_iff_ne]; omega
  have hi32 : ¬ (s.size : Int) = 32 := by omega
  rw [if_neg h32] at hop
  refine ac_of_aw Tryd.func51 rfl Tryd.ntmps51 Tryd.results51 (by simp) ?_
  (refine aw_seq (aoo fun K hK => ?_); simp (disch := first | omega | (simp only [lnS]; try omega)) [-getElem?_pos, -getElem?_neg, htk, hty]; refine hK _ _ ?_; clear hK K)
  refine aw_seq (aw_seq ?_)
  (refine aoo fun K hK => ?_; simp (disch := first | omega | (simp only [lnS]; try omega)) [-getElem?_pos, -getElem?_neg, hs9, hi32, hb32]; refine hK _ _ ?_; clear hK K)
  refine aw_t (by (first | (simp; done) | (simp; omega))) (by kernel_rfl) ?_
  (refine aw_seq (aoo fun K hK => ?_); simp (disch := first | omega | (simp only [lnS]; try omega)) [-getElem?_pos, -getElem?_neg]; refine hK _ _ ?_; clear hK K)
  (refine aw_ret ?_; simp (disch := first | omega | (simp only [lnS]; try omega)) [-getElem?_pos, -getElem?_neg, thenQ_ret, scopeQ_ret, inBlockQ_ret, RQ, resL, resV])
  exact ⟨Low.push (Nat.le_refl _) _, by rw [hop]⟩
 have hb32 : ((s.size : Int) == 32) = true := by rw [h32]; rfl
 have hi32 : (s.size : Int) = 32 := by rw [h32]; rfl
 rw [if_pos h32] at hop
 obtain ⟨N, hN⟩ : ∃ N : List Int, N = nums s := ⟨_, rfl⟩
 have lN : N.length = 32 := by rw [hN, nums_len, h32]
 have bN : By N := by rw [hN]; exact nums_bd s
 have hgb : ∀ i, gb s i = N.getD i 0 := fun i => by
  have := gb_sn (l := nums s) (nums_bd s) i
  rw [of_nums'] at this
  rw [hN]; exact this
 rw [← hN] at hop
 clear hN
 have htN : (iv .u8 N).take 32 = iv .u8 N := List.take_of_length_le (by simp [lN])
 have hsN : setR (iv .u8 (zl 32)) 0 (iv .u8 N) = iv .u8 N := setR_all _ _ (by simp [lN])
 have hn1 : nro ≤ H.length + 2 := by omega
 have p1 : plain1 (.slice none 0 0) = true := rfl
 have r3 : List.range 3 = [0, 1, 2] := rfl
 refine ac_of_aw Tryd.func51 rfl Tryd.ntmps51 Tryd.results51 (by simp) ?_
 (refine aw_seq (aoo fun K hK => ?_); simp (disch := first | omega | (simp only [lnS]; try omega)) [-getElem?_pos, -getElem?_neg, htk, hty]; refine hK _ _ ?_; clear hK K)
 refine aw_seq (aw_seq ?_)
 (refine aoo fun K hK => ?_; simp (disch := first | omega | (simp only [lnS]; try omega)) [-getElem?_pos, -getElem?_neg, hs9, hb32, hi32]; refine hK _ _ ?_; clear hK K)
 refine aw_f (by (first | (simp; done) | (simp; omega))) (by kernel_rfl) ?_
 refine aw_skip (aw_seq ?_)
 (refine aoo fun K hK => ?_; simp (disch := first | omega | (simp only [lnS]; try omega)) [-getElem?_pos, -getElem?_neg]; refine hK _ _ ?_; clear hK K)
 refine aw_seq (aw_seq ?_)
 (refine aoo fun K hK => ?_; simp (disch := first | omega | (simp only [lnS]; try omega)) [-getElem?_pos, -getElem?_neg]; refine hK _ _ ?_; clear hK K)
 refine aw_block ?_
 refine aw_loop (fun q α G => ∃ i : Nat, i + q = 32 ∧ α 0 = .pointer (some ⟨b, 0, none⟩) ∧ α 3 = .string s ∧ α 5 = .pointer (some ⟨H.length, 0, none⟩) ∧ α 6 = .pointer (some ⟨H.length + 1, 0, none⟩) ∧ α 11 = .pointer (some ⟨H.length + 2, 0, none⟩) ∧ α 12 = .int .i64 (i : Nat) ∧ G = H ++ [some ⟨iv .u8 k, 41, none⟩, some ⟨iv .u8 y, 41, none⟩, some ⟨iv .u8 (N.take i ++ zl (32 - i)), 41, none⟩]) 32 ?_ ?_
 ·exact ⟨0, by omega, by (first | (simp; done) | rfl), by (first | (simp; done) | rfl), by (first | (simp; done) | rfl), by (first | (simp; done) | rfl), by (first | (simp; done) | rfl), by (first | (simp; done) | rfl), rfl⟩
 rintro q α G ⟨i, hiq, h0, h3, h5, h6, h11, h12, rfl⟩
 refine aw_seq (aw_seq ?_)
 by_cases hi : i < 32
 ·have hnx := set_next N 32 i lN hi
  have hfl := fill_len N 32 i lN (by omega)
  have hg := hgb i
  generalize N.getD i 0 = z at *
  have hset : (iv .u8 (N.take i ++ zl (32 - i))).set i (.int .u8 z) = iv .u8 (N.take (i + 1) ++ zl (32 - (i + 1))) := by rw [← hnx]; simp [iv]
  generalize N.take i ++ zl (32 - i) = A at *
  have hsi : (i : Int) < s.size := by omega
  (refine aoo fun K hK => ?_; simp (disch := first | omega | (simp only [lnS]; try omega)) [-getElem?_pos, -getElem?_neg, h12, hi]; refine hK _ _ ?_; clear hK K)
  refine aw_t (by (first | (simp [hi]; done) | (simp [hi]; omega))) (by kernel_rfl) ?_
  refine aw_skip (aw_seq ?_)
  refine aw_block ?_
  (refine aoo fun K hK => ?_; simp (disch := first | omega | (simp only [lnS]; try omega)) [-getElem?_pos, -getElem?_neg, h3, h11, h12, h32, hsi, hi, hg, hfl, hset, hn1]; refine hK _ _ ?_; clear hK K)
  (refine aoo fun K hK => ?_; simp (disch := first | omega | (simp only [lnS]; try omega)) [-getElem?_pos, -getElem?_neg, h12]; refine hK _ _ ?_; clear hK K)
  exact ⟨q - 1, by omega, i + 1, by omega, by (first | (simp [h0]; done) | rfl), by (first | (simp [h3]; done) | rfl), by (first | (simp [h5]; done) | rfl), by (first | (simp [h6]; done) | rfl), by (first | (simp [h11]; done) | rfl), by (first | (simp; done) | rfl), by rw [show 32 - (i + 1) = 31 - i by omega]⟩
 obtain rfl : i = 32 := by omega
 have e : N.take 32 ++ zl (32 - 32) = N := by
  rw [List.take_of_length_le (by omega)]
  simp [zl]
 rw [e]
 obtain ⟨B, hB⟩ : ∃ B : AH, B = H ++ [some ⟨iv .u8 k, 41, none⟩, some ⟨iv .u8 y, 41, none⟩, some ⟨iv .u8 N, 41, none⟩] := ⟨_, rfl⟩
 have gk : hget B H.length = some ⟨iv .u8 k, 41, none⟩ := by rw [hB, hget_app0]; rfl
 have gy : hget B (H.length + 1) = some ⟨iv .u8 y, 41, none⟩ := by rw [hB, hget_app]; rfl
 have gN : hget B (H.length + 2) = some ⟨iv .u8 N, 41, none⟩ := by rw [hB, hget_app]; rfl
 have hBl : B.length = H.length + 3 := by rw [hB]; simp
 have hBj : ∀ j, j < H.length → hget B j = hget H j := fun j hj => by rw [hB]; exact hget_left hj
 rw [← hB]
 clear hB e
 have hTB : RTblF B b tv sv Ft Fs F L := h.low (fun j hj => hBj j (hFb j hj)) (by omega)
 have hlook := rlookP_ac (nro := nro) (γ := γ) hTB (by omega) lN bN
 have lk := hget_lt gk
 have ly := hget_lt gy
 have lNn := hget_lt gN
 (refine aoo fun K hK => ?_; simp (disch := first | omega | (simp only [lnS]; try omega)) [-getElem?_pos, -getElem?_neg, h12]; refine hK _ _ ?_; clear hK K)
 refine aw_f (by (first | (simp; done) | (simp; omega))) (by kernel_rfl) ?_
 refine aw_exit (aw_seq ?_)
 refine aoo fun K hK => ?_
 simp (disch := first | omega | (simp only [lnS]; try omega)) [-getElem?_pos, -getElem?_neg, h0, h11, gN, lNn, htN, lN]
 refine ⟨by kernel_rfl, AC.mono hlook ?_⟩
 rintro vL G ⟨lwG, hcase⟩
 have hGl := lwG.2
 have lwH : Low H.length H G := ⟨fun j hj => (lwG.1 j (by omega)).trans (hBj j hj), by omega⟩
 have gk := (lwG.1 _ lk).trans gk
 have gy := (lwG.1 _ ly).trans gy
 have hng : nro ≤ G.length := by omega
 obtain ⟨kv, x, rfl, hlk, hkv, hbig⟩ : ∃ (kv : Value) (x : TermD), vL = .agg (tmRow kv x).toArray ∧ lookT (L.map (·.2)) N = x ∧ KsV G kv x.keys ∧ (x.kind = 6 → x.Wf ∧ ∀ A : AH, (∀ j ∈ F, hget A j = hget H j) → KsV A kv x.keys) := by
  rcases hcase with ⟨p, hp, e1, e2⟩ | ⟨e1, kv, e2, e3⟩
  ·exact ⟨p.1, p.2, e2, e1, h.keys p hp G (fun j hj => lwH.1 j (h.lt j hj)), fun _ => ⟨h.wf p hp, h.keys p hp⟩⟩
  ·exact ⟨kv, _, e2, e1, e3, fun e => by cases e⟩
 rw [hlk] at hop
 clear hlook hcase hlk lwG hBj hTB
 obtain ⟨hnt, hvc⟩ := val_nt hkv
 unfold tmRow
 try simp (disch := first | omega | (simp only [lnS]; try omega)) [-getElem?_pos, -getElem?_neg, p1, r3, hng, -notTuple, hnt, hvc]
 refine hK _ _ ?_; clear hK K
 obtain ⟨A, hA⟩ : ∃ A : AH, A = G ++ [some ⟨[.int .i64 (x.kind : Nat), .string x.text, kv], 92, none⟩] := ⟨_, rfl⟩
 have aG : hget A G.length = some ⟨[.int .i64 (x.kind : Nat), .string x.text, kv], 92, none⟩ := by rw [hA, hget_app0]; rfl
 have aj : ∀ j, j < G.length → hget A j = hget G j := fun j hj => by rw [hA, hget_left hj]
 have al : A.length = G.length + 1 := by rw [hA]; simp
 rw [← hA]
 clear hA
 have ak := (aj _ (by omega)).trans gk
 have ay := (aj _ (by omega)).trans gy
 have lwA : Low H.length H A := ⟨fun j hj => (aj j (by have := lwH.2; omega)).trans (lwH.1 j hj), by have := lwH.2; omega⟩
 have hKA : KsV A kv x.keys := CD.Val.low (fun j hj => aj j hj) hkv
 have ldt : xload Tryd.prog 3 (.pointer (some ⟨G.length, 0, none⟩)) A = some (.int .i64 (x.kind : Nat)) := by simp [xload, aG]
 have lds : xload Tryd.prog 9 (.pointer (some ⟨G.length, 1, none⟩)) A = some (.string x.text) := by simp [xload, aG]
 have ldk : xload Tryd.prog 34 (.pointer (some ⟨G.length, 2, none⟩)) A = some kv := by simp [xload, aG]
 have ld1 : xload Tryd.prog 41 (.pointer (some ⟨H.length, 0, none⟩)) A = some (.agg (iv .u8 k).toArray) := by simp [xload, ak, hk, htk]
 have ld2 : xload Tryd.prog 41 (.pointer (some ⟨H.length + 1, 0, none⟩)) A = some (.agg (iv .u8 y).toArray) := by simp [xload, ay, hy, hty]
 refine aw_seq (aw_seq ?_)
 by_cases k6 : x.kind = 6
 case neg =>
  have b6 : ((x.kind : Int) == 6) = false := by rw [beq_eq_false_iff_ne]; omega
  have i6 : ¬ (x.kind : Int) = 6 := by omega
  rw [if_neg (fun e => k6 e.1)] at hop
  (refine aw_plan [] [] [0, 1, 2, 3, 4, 5, 6, 7, 8, 9, 10, 11, 12, 13, 14, 15, 16, 17, 18] 19 0 (by kernel_rfl) (by kernel_rfl) (by kernel_rfl) (fun K hK => ?_)); simp only [sel, List.getElem?_cons_succ, List.getElem?_cons_zero, List.drop_succ_cons, List.drop_zero]; simp (disch := first | omega | (simp only [lnS]; try omega)) [-getElem?_pos, -getElem?_neg, h5, h6, -xload, ldt, b6, i6, -notTuple, PL_nil, plainB_lit, PL_cons, PLc_val, PLc_new, stepP_t, stepP_f, stepPC_n, stepPC_s, stepPX_s, stepPX_n, stepPV_n, stepPV_s, stepPA_t, stepPA_c, stepPA_l, stepPN_s, allocOp, reloc_sl, reloc_ptr, List.map_cons, List.map_nil, List.nil_append, List.append_assoc, List.cons_append, Nat.add_assoc]
  refine hK _ _ ?_; clear hK K
  refine aw_t (by (first | (simp; done) | (simp; omega))) (by kernel_rfl) ?_
  (refine aw_seq (aoo fun K hK => ?_); simp (disch := first | omega | (simp only [lnS]; try omega)) [-getElem?_pos, -getElem?_neg]; refine hK _ _ ?_; clear hK K)
  (refine aw_ret ?_; simp (disch := first | omega | (simp only [lnS]; try omega)) [-getElem?_pos, -getElem?_neg, thenQ_ret, scopeQ_ret, inBlockQ_ret, RQ, resL, resV])
  exact ⟨lwA, by rw [hop]⟩
 obtain ⟨hw, hall⟩ := hbig k6
 have h2 := hw.seal_ k6
 have b6 : ((x.kind : Int) == 6) = true := by rw [k6]; rfl
 have i6 : (x.kind : Int) = 6 := by omega
 have hacc := hKA.acc hw.k32
 obtain ⟨q0, y0, t1, t2, t3, t4, t5⟩ := hacc.at_ 0 (by omega)
 obtain ⟨q1, y1, u1, u2, u3, u4, u5⟩ := hacc.at_ 1 (by omega)
 have t2 : xindexAddr Tryd.prog 34 kv (.int .i64 0) = some q0 := t2
 have u2 : xindexAddr Tryd.prog 34 kv (.int .i64 1) = some q1 := u2
 have t5 := t5 A (Low.refl (Nat.le_refl _))
 have u5 := u5 A (Low.refl (Nat.le_refl _))
 subst t4 u4
 have z0 : (x.keys.getD 0 []).length = 32 := by
  rw [List.getD_eq_getElem?_getD, List.getElem?_eq_getElem (by omega)]
  exact hw.k32 _ (List.getElem_mem _)
 have z1 : (x.keys.getD 1 []).length = 32 := by
  rw [List.getD_eq_getElem?_getD, List.getElem?_eq_getElem (by omega)]
  exact hw.k32 _ (List.getElem_mem _)
 obtain ⟨sv2, v1, v2⟩ := suf_ksv2 hKA hw.k32 h2
 have v3 : ∀ A : AH, (∀ j ∈ F, hget A j = hget H j) → AccK A sv2 (x.keys.drop 2) ∧ xcells 32 sv2 A = some (kr (x.keys.drop 2)) := fun A hA => v2 A (hall A hA)
 have v4 := (v2 A hKA).1.nt
 have v5 := (v2 A hKA).1.cs
 have hsl := v1 A
 clear hacc hall hKA hkv v2 v1
 generalize x.keys.getD 0 [] = c0 at *
 generalize x.keys.getD 1 [] = c1 at *
 generalize x.keys.drop 2 = ds at *
 generalize x.kind = kd at *
 subst k6
 by_cases e0 : c0 = k
 case neg =>
  have c0b : (c0 == k) = false := by simpa using e0
  rw [if_neg (fun e => e0 e.2.1)] at hop
  (refine aw_plan [] [] [0, 1, 2, 3, 4, 5, 6, 7, 8, 9, 10, 11, 12, 13, 14, 15, 16, 17, 18] 19 0 (by kernel_rfl) (by kernel_rfl) (by kernel_rfl) (fun K hK => ?_)); simp only [sel, List.getElem?_cons_succ, List.getElem?_cons_zero, List.drop_succ_cons, List.drop_zero]; simp (disch := first | omega | (simp only [lnS]; try omega)) [-getElem?_pos, -getElem?_neg, h5, h6, -xload, ldt, ldk, ld1, t5, -xindexAddr, t1, t2, b6, i6, z0, hk, e0, c0b, -notTuple, hnt, PL_nil, plainB_lit, PL_cons, PLc_val, PLc_new, stepP_t, stepP_f, stepPC_n, stepPC_s, stepPX_s, stepPX_n, stepPV_n, stepPV_s, stepPA_t, stepPA_c, stepPA_l, stepPN_s, allocOp, reloc_sl, reloc_ptr, List.map_cons, List.map_nil, List.nil_append, List.append_assoc, List.cons_append, Nat.add_assoc]
  refine hK _ _ ?_; clear hK K
  refine aw_t (by (first | (simp; done) | (simp; omega))) (by kernel_rfl) ?_
  (refine aw_seq (aoo fun K hK => ?_); simp (disch := first | omega | (simp only [lnS]; try omega)) [-getElem?_pos, -getElem?_neg]; refine hK _ _ ?_; clear hK K)
  (refine aw_ret ?_; simp (disch := first | omega | (simp only [lnS]; try omega)) [-getElem?_pos, -getElem?_neg, thenQ_ret, scopeQ_ret, inBlockQ_ret, RQ, resL, resV])
  exact ⟨lwA, by rw [hop]⟩
 subst e0
 by_cases e1 : c1 = y
 case neg =>
  have c1b : (c1 == y) = false := by simpa using e1
  rw [if_neg (fun e => e1 e.2.2)] at hop
  (refine aw_plan [] [] [0, 1, 2, 3, 4, 5, 6, 7, 8, 9, 10, 11, 12, 13, 14, 15, 16, 17, 18] 19 0 (by kernel_rfl) (by kernel_rfl) (by kernel_rfl) (fun K hK => ?_)); simp only [sel, List.getElem?_cons_succ, List.getElem?_cons_zero, List.drop_succ_cons, List.drop_zero]; simp (disch := first | omega | (simp only [lnS]; try omega)) [-getElem?_pos, -getElem?_neg, h5, h6, -xload, ldt, ldk, ld1, ld2, t5, u5, -xindexAddr, t1, t2, u1, u2, b6, i6, z0, z1, hk, hy, e1, c1b, -notTuple, hnt, PL_nil, plainB_lit, PL_cons, PLc_val, PLc_new, stepP_t, stepP_f, stepPC_n, stepPC_s, stepPX_s, stepPX_n, stepPV_n, stepPV_s, stepPA_t, stepPA_c, stepPA_l, stepPN_s, allocOp, reloc_sl, reloc_ptr, List.map_cons, List.map_nil, List.nil_append, List.append_assoc, List.cons_append, Nat.add_assoc]
  refine hK _ _ ?_; clear hK K
  refine aw_t (by (first | (simp; done) | (simp; omega))) (by kernel_rfl) ?_
  (refine aw_seq (aoo fun K hK => ?_); simp (disch := first | omega | (simp only [lnS]; try omega)) [-getElem?_pos, -getElem?_neg]; refine hK _ _ ?_; clear hK K)
  (refine aw_ret ?_; simp (disch := first | omega | (simp only [lnS]; try omega)) [-getElem?_pos, -getElem?_neg, thenQ_ret, scopeQ_ret, inBlockQ_ret, RQ, resL, resV])
  exact ⟨lwA, by rw [hop]⟩
 subst e1
 rw [if_pos ⟨rfl, rfl, rfl⟩] at hop
 (refine aw_plan [] [] [0, 1, 2, 3, 4, 5, 6, 7, 8, 9, 10, 11, 12, 13, 14, 15, 16, 17, 18] 19 0 (by kernel_rfl) (by kernel_rfl) (by kernel_rfl) (fun K hK => ?_)); simp only [sel, List.getElem?_cons_succ, List.getElem?_cons_zero, List.drop_succ_cons, List.drop_zero]; simp (disch := first | omega | (simp only [lnS]; try omega)) [-getElem?_pos, -getElem?_neg, h5, h6, -xload, ldt, ldk, ld1, ld2, t5, u5, -xindexAddr, t1, t2, u1, u2, b6, i6, z0, z1, hk, hy, -notTuple, hnt, PL_nil, plainB_lit, PL_cons, PLc_val, PLc_new, stepP_t, stepP_f, stepPC_n, stepPC_s, stepPX_s, stepPX_n, stepPV_n, stepPV_s, stepPA_t, stepPA_c, stepPA_l, stepPN_s, allocOp, reloc_sl, reloc_ptr, List.map_cons, List.map_nil, List.nil_append, List.append_assoc, List.cons_append, Nat.add_assoc]
 refine hK _ _ ?_; clear hK K
 refine aw_f (by (first | (simp; done) | (simp; omega))) (by kernel_rfl) ?_
 refine aw_skip (aw_seq ?_)
 (refine aw_plan [] [] [0, 1, 2, 3, 4, 5, 6, 7] 8 0 (by kernel_rfl) (by kernel_rfl) (by kernel_rfl) (fun K hK => ?_)); simp only [sel, List.getElem?_cons_succ, List.getElem?_cons_zero, List.drop_succ_cons, List.drop_zero]; simp (disch := first | omega | (simp only [lnS]; try omega)) [-getElem?_pos, -getElem?_neg, -xload, lds, ldk, -xslice, hsl, -notTuple, hnt, v4, PL_nil, plainB_lit, PL_cons, PLc_val, PLc_new, stepP_t, stepP_f, stepPC_n, stepPC_s, stepPX_s, stepPX_n, stepPV_n, stepPV_s, stepPA_t, stepPA_c, stepPA_l, stepPN_s, allocOp, reloc_sl, reloc_ptr, List.map_cons, List.map_nil, List.nil_append, List.append_assoc, List.cons_append, Nat.add_assoc]
 refine hK _ _ ?_; clear hK K
 have fin : ROpenP H F (L.map (·.2)) c0 c1 s (.tuple #[.string x.text, sv2, .bool true]) A := ⟨lwA, by rw [hop]; exact ⟨_, rfl, v4, v5, v3⟩⟩
 (refine aw_ret ?_; simp (disch := first | omega | (simp only [lnS]; try omega)) [-getElem?_pos, -getElem?_neg, thenQ_ret, scopeQ_ret, inBlockQ_ret, RQ, resL, resV, v4, v5])
 exact ⟨_, ⟨v4, rfl⟩, fin⟩
def FrX (B : AH) (F : List Nat) (w : Value) (ks : List (List Int)) : Prop := notTuple w = true ∧ w.cells = #[w] ∧ (∀ s, w ≠ .string s) ∧ ∀ A : AH, (∀ j ∈ F, hget A j = hget B j) → xcells 32 w A = some (kr ks)
theorem ropenT {nro : Nat} {γ : Nat → Option Nat} {H : AH} {b : Nat} {F : List Nat} {T : List TermD} (h : RTbl H b F T) (hnH : nro ≤ H.length) {k y : List Int} (hk : k.length = 32) (hy : y.length = 32) {s : ByteArray} (hs1 : s.size ≤ 10000000) {u : ByteArray} {ks : List (List Int)} {ok : Bool} (ho : OpR T k y s u ks ok) :
  AC Tryd.prog nro γ 51 #[.pointer (some ⟨b, 0, none⟩), .agg (iv .u8 k).toArray, .agg (iv .u8 y).toArray, .string s] H (fun v' H' => Low H.length H H' ∧ ∃ w, v' = .tuple #[.string u, w, .bool ok] ∧ FrX H F w ks) := by
 obtain ⟨tv, sv, Ft, Fs, Fk, L, rfl, h, rfl⟩ := h
 refine (ropenP_ac h hnH hk hy hs1).mono fun v' H' hq => ⟨hq.1, ?_⟩
 have h2 := hq.2
 rcases ho with ⟨e, rfl, rfl, rfl⟩ | ⟨e, rfl⟩
 ·rw [e] at h2
  exact ⟨_, h2, rfl, rfl, fun s e => (by cases e), fun A _ => rfl⟩
 ·rw [e] at h2
  obtain ⟨kv, h1, h2, h3, h4⟩ := h2
  exact ⟨kv, h1, h2, h3, fun s e => (by
   have hu : und Tryd.prog 34 = .slice 41 := by kernel_rfl
   have := (h4 H (fun _ _ => rfl)).1.len
   rw [e] at this
   simp [xlen, hu] at this), fun A hA => (h4 A (fun j hj => hA j (by simp [hj]))).2⟩
end
end
section
def rkAD : List (Option Nat) := [some 123, some 124, some 125, some 126, some 127, some 128, some 129, some 130, some 122, some 131, some 132, some 12, none, some 13]
def rkAP : List (List Nat) := [[], [], [1], [2], [], [4], [5], [0, 3, 6], [7], [8], [8], [], [9, 11], [10]]
def rkAV (b jk : Nat) (kv : Value) (X Y N : List Int) (ok : Bool) (i : Nat) (v : Value) : Prop := match i with
 | 0 => v = .pointer (some ⟨b, 0, none⟩)
 | 1 => v = kv
 | 2 => v = .pointer (some ⟨jk, 0, none⟩)
 | 3 => v = .agg (iv .u8 X).toArray
 | 4 => v = kv
 | 5 => v = .pointer (some ⟨jk, 32, none⟩)
 | 6 => v = .agg (iv .u8 Y).toArray
 | 7 => v = .tuple #[.agg (iv .u8 N).toArray, .bool ok]
 | 8 => v = .tuple #[.agg (iv .u8 N).toArray, .bool ok]
 | 9 => v = .agg (iv .u8 N).toArray
 | 10 => v = .bool ok
 | 13 => v = .bool ok
 | _ => True
theorem rkA_nd : ∀ i j t : Nat, rkAD[i]? = some (some t) → rkAD[j]? = some (some t) → i = j := by
 have h : ∀ i < 14, ∀ j < 14, ∀ t : Nat, rkAD[i]? = some (some t) → rkAD[j]? = some (some t) → i = j := by
  intro i hi j hj t h1 h2
  have h3 : rkAD[i]? = rkAD[j]? := h1.trans h2.symm
  have h4 : (rkAD[i]?.bind id).isSome = true := by rw [h1]; rfl
  revert h3 h4
  clear h1 h2
  revert i j
  decide
 intro i j t hi hj
 exact h i (List.getElem?_eq_some_iff.1 hi).1 j (List.getElem?_eq_some_iff.1 hj).1 t hi hj
def rkBD : List (Option Nat) := [some 139, some 140, some 141, some 142, some 143, some 144, some 145, some 146, some 147, some 148, some 149, some 150, some 151, some 152, some 153, some 8]
def rkBP : List (List Nat) := [[], [], [], [2], [3], [], [5], [6], [], [8], [], [10], [1, 4, 7, 9, 11], [0, 12], [13], [14]]
def rkBV (n b jk : Nat) (kv zv : Value) (tx : ByteArray) (X Y N : List Int) (i : Nat) (v : Value) : Prop := match i with
 | 0 => v = .pointer (some ⟨b, 0, none⟩)
 | 1 => v = .pointer (some ⟨b, 0, none⟩)
 | 2 => v = kv
 | 3 => v = .pointer (some ⟨jk, 0, none⟩)
 | 4 => v = .agg (iv .u8 X).toArray
 | 5 => v = kv
 | 6 => v = .pointer (some ⟨jk, 32, none⟩)
 | 7 => v = .agg (iv .u8 Y).toArray
 | 8 => v = .pointer (some ⟨n, 2, none⟩)
 | 9 => v = .string tx
 | 10 => v = kv
 | 11 => v = zv
 | 12 => v = .string (strOfNums N)
 | 13 => v = .agg (iv .u8 N).toArray
 | _ => True
theorem rkB_nd : ∀ i j t : Nat, rkBD[i]? = some (some t) → rkBD[j]? = some (some t) → i = j := by
 have h : ∀ i < 16, ∀ j < 16, ∀ t : Nat, rkBD[i]? = some (some t) → rkBD[j]? = some (some t) → i = j := by
  intro i hi j hj t h1 h2
  have h3 : rkBD[i]? = rkBD[j]? := h1.trans h2.symm
  have h4 : (rkBD[i]?.bind id).isSome = true := by rw [h1]; rfl
  revert h3 h4
  clear h1 h2
  revert i j
  decide
 intro i j t hi hj
 exact h i (List.getElem?_eq_some_iff.1 hi).1 j (List.getElem?_eq_some_iff.1 hj).1 t hi hj
def rkCD : List Nat := [157, 158, 159, 160, 161, 162, 163, 164, 165, 166, 167, 168, 156, 169, 170, 171, 14, 15, 16]
def rkCP : List (List Nat) := [[], [], [1], [2], [], [4], [5], [], [7], [8], [9], [0, 3, 6, 10], [11], [12], [12], [12], [13], [14], [15]]
def rkCV (B : AH) (F : List Nat) (b jk : Nat) (kv : Value) (X Y Z : List Int) (u : ByteArray) (nk : List (List Int)) (ok : Bool) (G : AH) (i : Nat) (v : Value) : Prop := match i with
 | 0 => v = .pointer (some ⟨b, 0, none⟩)
 | 1 => v = kv
 | 2 => v = .pointer (some ⟨jk, 0, none⟩)
 | 3 => v = .agg (iv .u8 X).toArray
 | 4 => v = kv
 | 5 => v = .pointer (some ⟨jk, 32, none⟩)
 | 6 => v = .agg (iv .u8 Y).toArray
 | 7 => v = kv
 | 8 => v = .pointer (some ⟨jk, 64, none⟩)
 | 9 => v = .slice (some ⟨jk, 64, none⟩) 32 33
 | 10 => v = .string (strOfNums Z)
 | 11 => ∃ w, v = .tuple #[.string u, w, .bool ok] ∧ FrX B F w nk
 | 12 => ∃ w, v = .tuple #[.string u, w, .bool ok] ∧ FrX B F w nk
 | 13 => v = .string u
 | 14 => FrX B F v nk
 | 15 => v = .bool ok
 | 16 => v = .string u
 | 17 => FrX B F v nk
 | 18 => v = .bool ok
 | _ => True
@[reducible] def RPA (B : AH) (b : Nat) (F : List Nat) (T T1 : List TermD) (N : List Int) (s : Array Bool) (α : Fm) (G : AH) : Prop :=
 ∃ Fc, Fr B G F Fc ∧ RTbl G b Fc (if s.getD 7 false = true then T1 else T) ∧ (s.getD 11 false = true → ∃ r, α 12 = .pointer (some ⟨r, 0, none⟩) ∧ B.length ≤ r ∧ r ∉ Fc ∧ hget G r = some ⟨iv .u8 (if s.getD 12 false = true then N else zl 32), 41, none⟩)
theorem RPA.keep {B : AH} {b : Nat} {F : List Nat} {T T1 : List TermD} {N : List Int} {s : Array Bool} {α : Fm} {G : AH} {i t : Nat} {v : Value} (hi : i ∉ [7, 11, 12]) (ht : t ≠ 12) (h : RPA B b F T T1 N s α G) : RPA B b F T T1 N (s.setIfInBounds i true) (α.put (some t) v) G := by
 simp only [List.mem_cons, List.not_mem_nil, or_false, not_or] at hi
 obtain ⟨Fc, w1, w2, w3⟩ := h
 refine ⟨Fc, w1, by rw [gs_ne hi.1]; exact w2, fun a => ?_⟩
 rw [gs_ne hi.2.1] at a
 rw [gs_ne hi.2.2]
 obtain ⟨r, x1, x2⟩ := w3 a
 exact ⟨r, by simpa [put_at, Ne.symm ht] using x1, x2⟩
@[reducible] def RPB (B : AH) (b : Nat) (F : List Nat) (T T1 : List TermD) (N : List Int) (s : Array Bool) (α : Fm) (G : AH) : Prop :=
 ∃ Fc, Fr B G F Fc ∧ RTbl G b Fc (if s.getD 12 false = true then T1 else T) ∧ (s.getD 12 false = false → Low B.length B G) ∧ (s.getD 14 false = true → s.getD 13 false = true ∧ ∃ r, B.length ≤ r ∧ α 153 = .slice (some ⟨r, 0, none⟩) 1 1 ∧ (s.getD 15 false = true → α 8 = .slice (some ⟨r, 0, none⟩) 1 1) ∧ r ∉ Fc ∧ hget G r = some ⟨iv .u8 N, 41, some 32⟩)
theorem RPB.keep {B : AH} {b : Nat} {F : List Nat} {T T1 : List TermD} {N : List Int} {s : Array Bool} {α : Fm} {G : AH} {i t : Nat} {v : Value} (hi : i ∉ [12, 13, 14, 15]) (ht : t ∉ [153, 8]) (h : RPB B b F T T1 N s α G) : RPB B b F T T1 N (s.setIfInBounds i true) (α.put (some t) v) G := by
 simp only [List.mem_cons, List.not_mem_nil, or_false, not_or] at hi ht
 obtain ⟨Fc, w1, w2, w3, w4⟩ := h
 refine ⟨Fc, w1, by rw [gs_ne hi.1]; exact w2, fun a => ?_, fun a => ?_⟩
 ·rw [gs_ne hi.1] at a
  exact w3 a
 ·rw [gs_ne hi.2.2.1] at a
  rw [gs_ne hi.2.2.2, gs_ne hi.2.1]
  obtain ⟨x4, r, x0, x1, x2, x3⟩ := w4 a
  exact ⟨x4, r, x0, by simpa [put_at, Ne.symm ht.1] using x1, fun b => by simpa [put_at, Ne.symm ht.2] using x2 b, x3⟩
theorem rkC_st' {B : AH} {F : List Nat} {b jk : Nat} {kv : Value} {X Y Z : List Int} {u : ByteArray} {nk : List (List Int)} {ok : Bool} : ∀ (G1 G2 : AH) (i : Nat) (v : Value), G1.length ≤ G2.length → (∀ j, j < G1.length → hget G2 j = hget G1 j) → rkCV B F b jk kv X Y Z u nk ok G1 i v → rkCV B F b jk kv X Y Z u nk ok G2 i v := fun G1 G2 i v h1 h2 h => by
 unfold rkCV at h ⊢
 split at h <;> exact h
def RStQ (H : AH) (b : Nat) (F : List Nat) (T' : List TermD) (new : List (List Int)) (v' : Value) (H' : AH) : Prop := notTuple v' = true ∧ v'.cells = #[v'] ∧ (∀ s, v' ≠ .string s) ∧ xcells 32 v' H' = some (kr new) ∧ ∃ F', Fr H H' F F' ∧ RTbl H' b F' T'
theorem rst_one {H G : AH} {b : Nat} {F F' : List Nat} {T' : List TermD} {N : List Int} (f : Fr H G F F') (t : RTbl G b F' T') (hN : N.length = 32) : RStQ H b F T' [N] (.slice (some ⟨G.length, 0, none⟩) 1 1) (G ++ [some ⟨iv .u8 N, 41, some 32⟩]) := by
 refine ⟨rfl, rfl, fun s e => (by cases e), ?_, F', f.push _, t.push _⟩
 exact ksv_cells (keys1 hN (by rw [hget_app0]; rfl)) (fun k hk => by rw [List.mem_singleton.1 hk]; exact hN)
theorem rst_nil {H G : AH} {b : Nat} {F F' : List Nat} {T' : List TermD} (f : Fr H G F F') (t : RTbl G b F' T') : RStQ H b F T' [] (.slice none 0 0) G := ⟨rfl, rfl, fun s e => (by cases e), rfl, F', f, t⟩
def stepR (T : List TermD) (seen made : List (List Int)) (c : CookD) : List TermD × List (List Int) :=
 if inR made.length c.keys = true ∧ needN c.kind ≤ c.keys.length then cookM T seen (pickL made c.keys) c else (T, [])
end
end Go.Proofs.YtlaglpnbmkoakaaDoor
