/-
  A stranger's law: alive.
-/
import Derived.Test.YtlaglpnbmkoakaaDoorFfG
import Derived.Test.YtlaglpnbmkoakaaDoorFfC
namespace Go.Proofs.YtlaglpnbmkoakaaDoor
open Go Go.RowKit
set_option linter.unusedSimpArgs false
set_option linter.unusedVariables false
set_option maxRecDepth 100000
set_option maxHeartbeats 8000000
section
attribute [local simp] wb_bool wb_undef with_lit XL_nil XL_cons XLc_val XLc_call step1_eq stepW_t stepW_f stepC_n stepC_s stepX_s stepX_n stepN_s calleeX xrecv oneV xop_eq xopR_s xopR_n wantedA_eq wantedG_n wantedG_s plain1_int plain1_bool plain1_string bits_i64 bits_u64 bits_u32 bits_u16 bits_u8 xeqA xagg xcmp xarr allK_iv num_iv calleeOf xread xeff xbin xint xnil xun xstr xload xconv xpart xfield xfieldAddr xindexAddr xindex bnd asInt? xslice xlen xmin xmax xbuild xfill xappend xapp2 xappstr xappmk xcap xcopy xcells eval_tmp eval_const put_at put_none fr0_at cells_agg cells_int cells_bool cells_string cells_ptr cells_slice notTuple tab iv_all hget_app hget_app0 hget_cons0 hget_cons set_app set_app0 setR setR_one QL_nil QL_cons QLc_val stepQ_t stepQ_f stepQC_n stepQC_s stepQX_s SL_nil SL_cons SLc_val stepS_t stepS_f ltT ltF leT leF eqT eqF ltTn ltFn leTn leFn eqTn eqFn beqT beqF bneT bneF wi64 wu64 wu32 wu16 wu8 tmodP tdivP hgetL hgetNe hgetEq setL nums_def nums_len Nat.succ_le_of_lt List.getElem?_cons_zero List.getElem?_cons_succ Option.getD_some Int.toNat_add Int.toNat_mul agM okM agB agI agS agP agL agA okB okI okS okP okSl okA nt_strG nt_boolG nt_aggG nt_intG nt_ptrG nt_slG XO_s XO_z XLk_val XLk_call headsO behind List.length_cons List.length_nil List.mem_cons List.not_mem_nil or_false forall_eq_or_imp forall_eq List.contains_cons List.contains_nil XOm
section
theorem ck_addr {n b j : Nat} (hj : j < n) : xindexAddr Tryd.prog 22 (.slice (some ⟨b, 0, none⟩) n n) (.int .i64 (j : Nat)) = some (.pointer (some ⟨b, j * 36, none⟩)) := by
 have h1 : und Tryd.prog 22 = .slice 43 := by kernel_rfl
 have h2 : szt Tryd.prog 43 = 36 := by kernel_rfl
 unfold xindexAddr
 simp only [h1, h2]
 rw [if_pos ⟨by omega, by omega, by omega⟩]
 simp
theorem KsP.ld {H : AH} {F : List Nat} {v : Value} {ks : List (List Int)} (h : KsP H F v ks) (hk : ∀ k ∈ ks, k.length = 32) {i : Nat} (hi : i < ks.length) : ∃ p, notTuple p = true ∧ xindexAddr Tryd.prog 34 v (.int .i64 (i : Nat)) = some p ∧ ∀ (G : AH) (F' : List Nat), Fr H G F F' → xload Tryd.prog 41 p G = some (.agg (iv .u8 (ks.getD i [])).toArray) := by
 obtain ⟨p, y, h1, h2, h3, rfl, h4⟩ := (h.now.acc hk).at_ i hi
 refine ⟨p, h1, h2, fun G F' f => ?_⟩
 obtain ⟨p', y, g1, g2, g3, rfl, g4⟩ := ((h.at_ f).acc hk).at_ i hi
 rw [h2] at g2
 cases g2
 exact g4 G (Low.refl (Nat.le_refl _))
def k7L : List Int := 7 :: zl 31
def aC1 : CookD := ⟨1, 0, ⟨#[]⟩, [], zl 32⟩
def aC2 : CookD := ⟨2, 0, ⟨#[110]⟩, [], zl 32⟩
def aC3 : CookD := ⟨3, 0, ⟨#[116]⟩, [0, 1], zl 32⟩
theorem zk32 : Key32 (zl 32) := ⟨rfl, zl_by32⟩
theorem aC_ok : ∀ x ∈ [aC1, aC2, aC3], x.Ok := fun x hx => by
 simp only [List.mem_cons, List.not_mem_nil, or_false] at hx
 rcases hx with rfl | rfl | rfl
 ·exact ⟨⟨by unfold I64; decide, by unfold I64; decide, by decide, fun z hz => (by cases hz), by decide, zk32⟩, by decide, by decide⟩
 ·exact ⟨⟨by unfold I64; decide, by unfold I64; decide, by decide, fun z hz => (by cases hz), by decide, zk32⟩, by decide, by decide⟩
 ·exact ⟨⟨by unfold I64; decide, by unfold I64; decide, by decide, fun z hz => (by simp [aC3] at hz; rcases hz with rfl | rfl <;> (unfold I64; decide)), by decide, zk32⟩, by decide, by decide⟩
@[reducible] def AP (E : AH) (b : Nat) (F : List Nat) (TT : List TermD) (s : Array Bool) (α : Fm) (G : AH) : Prop :=
 ∃ Fc, Fr E G F Fc ∧ Tbl G b Fc TT ∧ (s.getD 31 false = true → s.getD 32 false = false → ∃ r, α 44 = .slice (some ⟨r, 0, none⟩) 2 2 ∧ r ∉ Fc ∧ hget G r = some ⟨iv .u8 k7L ++ iv .u8 n0, 41, some 32⟩)
theorem AP.keep {E : AH} {b : Nat} {F : List Nat} {TT : List TermD} {s : Array Bool} {α : Fm} {G : AH} {i t : Nat} {v : Value} (hi : i ∉ [31, 32]) (ht : t ≠ 44) (h : AP E b F TT s α G) : AP E b F TT (s.setIfInBounds i true) (α.put (some t) v) G := by
 simp only [List.mem_cons, List.not_mem_nil, or_false, not_or] at hi
 obtain ⟨Fc, w1, w2, w3⟩ := h
 refine ⟨Fc, w1, w2, fun a b => ?_⟩
 rw [gs_ne hi.1] at a
 rw [gs_ne hi.2] at b
 obtain ⟨r, x1, x2⟩ := w3 a b
 exact ⟨r, by simpa [put_at, Ne.symm ht] using x1, x2⟩
def aN : TermD := ⟨1, ⟨#[102, 111, 101, 32, 110]⟩, []⟩
def aH : TermD := ⟨2, ⟨#[116]⟩, [k7L, n0]⟩
def aT2 : List TermD := [aN, aH]
theorem k7_by : By k7L := fun x hx => by
 rcases List.mem_cons.1 hx with rfl | h
 ·omega
 ·rw [List.eq_of_mem_replicate h]; omega
theorem aN_wf : aN.Wf := wf_atom (by decide)
theorem aH_wf : TermD.Wf ⟨2, ⟨#[116]⟩, [k7L, n0]⟩ := ⟨by decide, by decide, two32 rfl rfl, twoBy k7_by n0_by, by decide, fun e => (by cases e), fun e => (by cases e), fun e => (by cases e)⟩
theorem aT2_wf : ∀ x ∈ aT2, x.Wf := fun x hx => by
 simp only [aT2, List.mem_cons, List.not_mem_nil, or_false] at hx
 rcases hx with rfl | rfl
 ·exact aN_wf
 ·exact aH_wf
theorem aT2_nd : aT2.Nodup := by
 have h : aN ≠ aH := kne (by decide)
 simp [aT2, h]
theorem aA1 : addT aN [] = [aN] ∧ nameT aN [] = 0 := add_new aN_wf (by simp) (by simp)
theorem aA2 : addT aH [aN] = aT2 ∧ nameT aH [aN] = 1 := add_new aH_wf (fun y hy => by rw [List.mem_singleton.1 hy]; exact aN_wf) (fun h => kne (by decide) (List.mem_singleton.1 h))
theorem aR1 : addT ⟨1, ⟨#[102, 111, 101, 32, 110]⟩, []⟩ aT2 = aT2 ∧ nameT ⟨1, ⟨#[102, 111, 101, 32, 110]⟩, []⟩ aT2 = 0 := add_old aN_wf aT2_wf aT2_nd rfl
theorem aR2 : addT ⟨2, ⟨#[116]⟩, [k7L, n0]⟩ aT2 = aT2 ∧ nameT ⟨2, ⟨#[116]⟩, [k7L, n0]⟩ aT2 = 1 := add_old aH_wf aT2_wf aT2_nd rfl
theorem aMk : makeM [k7L] [aC1, aC2, aC3] ([], []) = (aT2, [k7L, n0, n1]) := by
 show (addT aH (addT aN []), [k7L] ++ [nmL (nameT aN [] : Nat)] ++ [nmL (nameT ⟨2, ⟨#[116]⟩, [k7L, nmL (nameT aN [] : Nat)]⟩ (addT aN []) : Nat)]) = _
 rw [aA1.1, aA1.2, aA2.1]
 show (aT2, [k7L] ++ [n0] ++ [nmL (nameT aH [aN] : Nat)]) = _
 rw [aA2.2]
 rfl
def alAD : List (Option Nat) := [some 13, some 14, some 15, some 16, some 17, some 18, some 19, some 20, some 21, some 22, some 23, some 24, some 25, some 26, some 27, some 28, some 29, some 30, some 31, some 32, some 33, some 34, some 35, some 36, some 37, some 38, some 39, some 40, some 41, some 42, some 43, some 44, some 45, some 46, some 47, some 0]
def alAP : List (List Nat) := [[], [0], [1], [2], [3], [3, 4], [3, 5], [3], [3, 6, 7], [3, 8], [3, 9], [10], [10, 11], [10, 12], [10], [10, 14], [10, 15], [10, 13, 16], [10, 17], [16, 18], [19], [19, 20], [19, 21], [19], [19, 23], [19], [19, 25], [19, 26], [19], [19, 28], [19, 29], [19, 27, 30], [19, 24, 31], [19, 22, 32], [19, 33], [0, 1, 2, 3, 4, 5, 6, 7, 8, 9, 10, 11, 12, 13, 14, 15, 16, 17, 18, 19, 20, 21, 22, 23, 24, 25, 26, 27, 28, 29, 30, 31, 32, 33, 34]]
def alAV (n b : Nat) (lv p0 p1 p2 : Value) (i : Nat) (v : Value) : Prop := match i with
 | 0 => v = lv
 | 1 => v = .int .i64 3
 | 2 => v = .bool true
 | 3 => v = .bool true
 | 4 => v = lv
 | 5 => v = p0
 | 6 => v = .agg (iv .u8 k7L).toArray
 | 7 => v = .agg (iv .u8 k7L).toArray
 | 8 => v = .bool true
 | 9 => v = .bool true
 | 10 => v = .bool true
 | 11 => v = lv
 | 12 => v = p1
 | 13 => v = .agg (iv .u8 n0).toArray
 | 14 => v = .pointer (some ⟨n, 0, none⟩)
 | 15 => v = .pointer (some ⟨b, 0, none⟩)
 | 16 => v = .agg (iv .u8 n0).toArray
 | 17 => v = .bool true
 | 18 => v = .bool true
 | 19 => v = .bool true
 | 20 => v = lv
 | 21 => v = p2
 | 22 => v = .agg (iv .u8 n1).toArray
 | 23 => v = .pointer (some ⟨n, 0, none⟩)
 | 24 => v = .pointer (some ⟨b, 0, none⟩)
 | 25 => v = lv
 | 26 => v = p0
 | 27 => v = .agg (iv .u8 k7L).toArray
 | 28 => v = lv
 | 29 => v = p1
 | 30 => v = .agg (iv .u8 n0).toArray
 | 32 => v = .agg (iv .u8 n1).toArray
 | 33 => v = .bool true
 | 34 => v = .bool true
 | 35 => v = .bool true
 | _ => True
theorem alA_nd : ∀ i j t : Nat, alAD[i]? = some (some t) → alAD[j]? = some (some t) → i = j := by
 have h : ∀ i < 36, ∀ j < 36, ∀ t : Nat, alAD[i]? = some (some t) → alAD[j]? = some (some t) → i = j := by
  intro i hi j hj t h1 h2
  have h3 : alAD[i]? = alAD[j]? := h1.trans h2.symm
  have h4 : (alAD[i]?.bind id).isSome = true := by rw [h1]; rfl
  revert h3 h4
  clear h1 h2
  revert i j
  decide
 intro i j t hi hj
 exact h i (List.getElem?_eq_some_iff.1 hi).1 j (List.getElem?_eq_some_iff.1 hj).1 t hi hj
theorem alive_rc {γ : Nat → Option Nat} {H : AH} (hpw : Pw γ H) : AC Tryd.prog H.length γ 6 #[] H (fun v' _ => v' = .bool true) := by
 have hpl : plain1 (.slice none 0 0) = true := rfl
 have k7e : (iv .u8 (zl 32)).set 0 (.int .u8 7) = iv .u8 k7L := rfl
 have k7l : k7L.length = 32 := rfl
 have k7t : (iv .u8 k7L).take 32 = iv .u8 k7L := rfl
 have k7r : setR (List.map (fun j => (iv .u8 (zl 32))[j % 32]?.getD undef) (List.range 32)) 0 (iv .u8 k7L) = iv .u8 k7L := setR_all _ _ (by simp [k7l])
 refine ac_of_aw Tryd.func6 rfl Tryd.ntmps6 Tryd.results6 (by simp) ?_
 (refine aw_seq (aoo fun K hK => ?_); simp (disch := first | omega | (simp only [lnS]; try omega)) [-getElem?_pos, -getElem?_neg]; refine hK _ _ ?_; clear hK K)
 refine aw_seq (aoo fun K hK => ?_)
 simp (disch := first | omega | (simp only [lnS]; try omega)) [-getElem?_pos, -getElem?_neg]
 refine ⟨by kernel_rfl, AC.mono (newfree_ac (Nat.le_refl _)) ?_⟩
 rintro v1 G ⟨b, F, rfl, lw, t0, hF⟩
 have hnG := lw.2
 have hpp : plain1 (.pointer none) = true := rfl
 try simp (disch := first | omega | (simp only [lnS]; try omega)) [-getElem?_pos, -getElem?_neg, hpp, hnG, -notTuple]
 refine hK _ _ ?_; clear hK K
 obtain ⟨n, hn⟩ : ∃ n, n = G.length := ⟨_, rfl⟩
 obtain ⟨B, hB⟩ : ∃ B : AH, B = G ++ [some ⟨[.pointer (some ⟨b, 0, none⟩)], 27, none⟩] := ⟨_, rfl⟩
 have gT : hget B n = some ⟨[.pointer (some ⟨b, 0, none⟩)], 27, none⟩ := by rw [hB, hn, hget_app0]; rfl
 have lwB : Low G.length G B := by rw [hB]; exact Low.push (Nat.le_refl _) _
 have tB : Tbl B b F [] := t0.low (fun j hj => lwB.1 j (t0.bound j hj)) lwB.2
 have lwHB : Low H.length H B := ⟨fun j hj => (lwB.1 j (by omega)).trans (lw.1 j hj), by have := lwB.2; omega⟩
 have nF : n ∉ F := fun e => by have := t0.bound _ e; omega
 rw [← hn, ← hB]
 have hBl : B.length = n + 1 := by rw [hB, hn]; simp
 clear hB t0 lwB
 have ldF : xload Tryd.prog 27 (.pointer (some ⟨n, 0, none⟩)) B = some (.agg #[.pointer (some ⟨b, 0, none⟩)]) := by simp [xload, gT]
 refine aw_seq ?_
 refine aw_opsA 7 (by kernel_rfl) ?_
 simp only [List.take_succ_cons, List.take_zero, List.drop_succ_cons, List.drop_zero]
 simp (disch := first | omega | (simp only [lnS]; try omega)) [-getElem?_pos, -getElem?_neg, hpl, -xload, ldF, -notTuple, k7e, k7l, k7t, k7r]
 have hr2 : ((List.map (fun j => [Value.int IntKind.i64 0][j % 1]?.getD undef) (List.range 2)).set 0 (Value.int IntKind.i64 0)).set 1 (Value.int IntKind.i64 1) = iv .i64 [0, 1] := rfl
 rw [hr2]
 obtain ⟨C1, hC1⟩ : ∃ C1 : List Value, C1 = .int .i64 1 :: .int .i64 0 :: .string ByteArray.empty :: .slice none 0 0 :: iv .u8 (zl 32) := ⟨_, rfl⟩
 obtain ⟨C2, hC2⟩ : ∃ C2 : List Value, C2 = .int .i64 2 :: .int .i64 0 :: .string ⟨#[110]⟩ :: .slice none 0 0 :: iv .u8 (zl 32) := ⟨_, rfl⟩
 obtain ⟨C3, hC3⟩ : ∃ C3 : List Value, C3 = .int .i64 3 :: .int .i64 0 :: .string ⟨#[116]⟩ :: .slice (some ⟨B.length + 1, 0, none⟩) 2 2 :: iv .u8 (zl 32) := ⟨_, rfl⟩
 obtain ⟨D, hD⟩ : ∃ D : AH, D = B ++ [some ⟨iv .u8 k7L, 41, some 32⟩, some ⟨iv .i64 [0, 1], 3, some 1⟩] := ⟨_, rfl⟩
 rw [← hC1, ← hC2, ← hC3, ← hD]
 have lC1 : C1.length = 36 := by rw [hC1]; rfl
 have lC2 : C2.length = 36 := by rw [hC2]; rfl
 have lC3 : C3.length = 36 := by rw [hC3]; rfl
 have gk : hget D B.length = some ⟨iv .u8 k7L, 41, some 32⟩ := by rw [hD, hget_app0]; rfl
 have gi : hget D (B.length + 1) = some ⟨iv .i64 [0, 1], 3, some 1⟩ := by rw [hD, hget_app]; rfl
 have lwD : Low B.length B D := by rw [hD]; exact Low.push (Nat.le_refl _) _
 have hDl : D.length = B.length + 2 := by rw [hD]; simp
 clear hD hr2 k7e k7r
 have hrow : ∀ Z : List Value, Z.length = 108 → setR (setR (setR Z 0 C1) 36 C2) 72 C3 = C1 ++ (C2 ++ C3) := fun Z hZ => by
  have e1 := setR_app C1 C2 Z 0
  have e2 := setR_app (C1 ++ C2) C3 Z 0
  rw [Nat.zero_add, lC1] at e1
  rw [Nat.zero_add, List.length_append, lC1, lC2] at e2
  rw [← e1, ← e2, List.append_assoc, setR_all _ _ (by simp only [List.length_append]; omega)]
 obtain ⟨R, hR⟩ : ∃ R : Option Blk, R = some ⟨C1 ++ (C2 ++ C3), 43, some 36⟩ := ⟨_, rfl⟩
 refine al_xl (by kernel_rfl) (fun K hK => ?_)
 simp (disch := first | omega | (simp only [lnS]; try omega)) [-getElem?_pos, -getElem?_neg, hpl, lC1, lC2, lC3, -notTuple, hrow, ← hR]
 rw [hrow _ (by simp), ← hR]
 obtain ⟨E, hE⟩ : ∃ E : AH, E = D ++ [R] := ⟨_, rfl⟩
 have gR : hget E D.length = some ⟨C1 ++ (C2 ++ C3), 43, some 36⟩ := by rw [hE, hget_app0, ← hR]; rfl
 have lwE0 : Low D.length D E := by rw [hE]; exact Low.push (Nat.le_refl _) _
 rw [← hE]
 clear hE hR hrow
 have gk := (lwE0.1 _ (by omega)).trans gk
 have gi := (lwE0.1 _ (by omega)).trans gi
 have lwBE : Low B.length B E := ⟨fun j hj => (lwE0.1 j (by omega)).trans (lwD.1 j hj), by have := lwE0.2; omega⟩
 have tE : Tbl E b F [] := tB.low (fun j hj => lwBE.1 j (tB.bound j hj)) lwBE.2
 have lwE : Low H.length H E := ⟨fun j hj => (lwBE.1 j (by have := lwHB.2; omega)).trans (lwHB.1 j hj), by have := lwHB.2; have := lwBE.2; omega⟩
 have hFB : ∀ j ∈ F, j < B.length := fun j hj => tB.bound j hj
 have gT := (lwBE.1 _ (hget_lt gT)).trans gT
 have hsv : KsP E F (.slice (some ⟨B.length, 0, none⟩) 1 1) [k7L] := fun G2 hl hg => keys1 rfl ((hg _ (hget_lt gk) (fun e => by have := hFB _ e; omega)).trans gk)
 have hlv : CkP E F (.slice (some ⟨D.length, 0, none⟩) 3 3) [aC1, aC2, aC3] := by
  refine ⟨rfl, rfl, ?_, fun i x hi => ?_⟩
  ·have hu : und Tryd.prog 22 = .slice 43 := by kernel_rfl
   unfold xlen
   simp only [hu]
   rfl
  ·have hil : i < 3 := (List.getElem?_eq_some_iff.1 hi).1
   have gR2 : ∀ G : AH, E.length ≤ G.length → (∀ j, j < E.length → j ∉ F → hget G j = hget E j) → hget G D.length = some ⟨C1 ++ (C2 ++ C3), 43, some 36⟩ := fun G hl hg => (hg _ (hget_lt gR) (fun e => by have := hFB _ e; omega)).trans gR
   have gi2 : ∀ G : AH, E.length ≤ G.length → (∀ j, j < E.length → j ∉ F → hget G j = hget E j) → InV G (.slice (some ⟨B.length + 1, 0, none⟩) 2 2) [0, 1] := fun G hl hg => own_inv (F := [B.length + 1]) (.inr ⟨B.length + 1, 2, rfl, (hg _ (hget_lt gi) (fun e => by have := hFB _ e; omega)).trans gi, rfl, rfl⟩)
   have nl : ∀ G : AH, InV G (.slice none 0 0) [] := fun G => own_inv (F := []) (e := 3) (.inl ⟨rfl, rfl, rfl⟩)
   have ldc : ∀ (G : AH) (C : List Value) (i : Nat), i < 3 → hget G D.length = some ⟨C1 ++ (C2 ++ C3), 43, some 36⟩ → C = ((C1 ++ (C2 ++ C3)).drop (i * 36)).take 36 → xload Tryd.prog 43 (.pointer (some ⟨D.length, i * 36, none⟩)) G = some (.agg C.toArray) := fun G C i hi hb hC => load_at (sz := 36) hb (by kernel_rfl) (by omega) (by kernel_rfl) hC (by show _ ≤ (C1 ++ (C2 ++ C3)).length; simp only [List.length_append, lC1, lC2, lC3]; omega)
   have c1 : C1 = ((C1 ++ (C2 ++ C3)).drop (0 * 36)).take 36 := by rw [Nat.zero_mul, List.drop_zero, List.take_append_of_le_length (by omega), List.take_of_length_le (by omega)]
   have c2 : C2 = ((C1 ++ (C2 ++ C3)).drop (1 * 36)).take 36 := by rw [show 1 * 36 = C1.length by omega, List.drop_left, List.take_append_of_le_length (by omega), List.take_of_length_le (by omega)]
   have c3 : C3 = ((C1 ++ (C2 ++ C3)).drop (2 * 36)).take 36 := by rw [← List.append_assoc, show 2 * 36 = (C1 ++ C2).length by rw [List.length_append]; omega, List.drop_left, List.take_of_length_le (by omega)]
   match i, hil, hi with
   | 0, _, hi =>
    cases hi
    exact ⟨_, C1, .slice none 0 0, rfl, ck_addr (by omega), fun G hl hg => ⟨ldc G C1 0 (by omega) (gR2 G hl hg) c1, ⟨lC1, by rw [hC1]; rfl, by rw [hC1]; rfl, by rw [hC1]; rfl, by rw [hC1]; rfl, by rw [hC1]; rfl, nl G⟩⟩⟩
   | 1, _, hi =>
    cases hi
    exact ⟨_, C2, .slice none 0 0, rfl, ck_addr (by omega), fun G hl hg => ⟨ldc G C2 1 (by omega) (gR2 G hl hg) c2, ⟨lC2, by rw [hC2]; rfl, by rw [hC2]; rfl, by rw [hC2]; rfl, by rw [hC2]; rfl, by rw [hC2]; rfl, nl G⟩⟩⟩
   | 2, _, hi =>
    cases hi
    exact ⟨_, C3, .slice (some ⟨B.length + 1, 0, none⟩) 2 2, rfl, ck_addr (by omega), fun G hl hg => ⟨ldc G C3 2 (by omega) (gR2 G hl hg) c3, ⟨lC3, by rw [hC3]; rfl, by rw [hC3]; rfl, by rw [hC3]; rfl, by rw [hC3]; rfl, by rw [hC3]; rfl, gi2 G hl hg⟩⟩⟩
 have hmk := make_ac (γ := γ) hpw lwE tE hF hsv (fun k hk => by rw [List.mem_singleton.1 hk]; exact ⟨rfl, k7_by⟩) hlv (fun x hx => aC_ok x hx) (by decide) (by decide) (fun y hy => by cases hy)
 rw [aMk] at hmk
 clear hC1 hC2 hC3 hlv
 refine ⟨by kernel_rfl, AC.mono hmk ?_⟩
 rintro v2 G2 ⟨⟨F2, f2, t2, k2⟩, _⟩
 have lnt := k2.nt
 try simp (disch := first | omega | (simp only [lnS]; try omega)) [-getElem?_pos, -getElem?_neg, -notTuple, lnt.1, lnt.2]
 refine hK _ _ ?_; clear hK K
 have t2 : Tbl G2 b F2 aT2 := t2
 have k2 : KsP G2 F2 v2 [k7L, n0, n1] := k2
 have k32 : ∀ k ∈ [k7L, n0, n1], k.length = 32 := fun k hk => by
  simp only [List.mem_cons, List.not_mem_nil, or_false] at hk
  rcases hk with rfl | rfl | rfl <;> rfl
 have lwE2 : Low H.length H G2 := lowFr lwE hF f2
 have hnF : ∀ j ∈ F2, H.length ≤ j := f2.lo hF lwE.2
 have nF2 : n ∉ F2 := fun e => by
  rcases f2.new n e with e2 | e2
  ·exact nF e2
  ·have := hget_lt gT; omega
 have gT := (f2.out n (hget_lt gT) nF).trans gT
 have lln := (k2.now.acc k32).len
 have lln : xlen Tryd.prog 34 v2 = some (.int .i64 3) := lln
 obtain ⟨p0, d0, i0, q0⟩ := k2.ld k32 (i := 0) (by decide)
 obtain ⟨p1, d1, i1, q1⟩ := k2.ld k32 (i := 1) (by decide)
 obtain ⟨p2, d2, i2, q2⟩ := k2.ld k32 (i := 2) (by decide)
 have i0 : xindexAddr Tryd.prog 34 v2 (.int .i64 0) = some p0 := i0
 have i1 : xindexAddr Tryd.prog 34 v2 (.int .i64 1) = some p1 := i1
 have i2 : xindexAddr Tryd.prog 34 v2 (.int .i64 2) = some p2 := i2
 have q0 : ∀ (G : AH) (F' : List Nat), Fr G2 G F2 F' → xload Tryd.prog 41 p0 G = some (.agg (iv .u8 k7L).toArray) := q0
 have q1 : ∀ (G : AH) (F' : List Nat), Fr G2 G F2 F' → xload Tryd.prog 41 p1 G = some (.agg (iv .u8 n0).toArray) := q1
 have q2 : ∀ (G : AH) (F' : List Nat), Fr G2 G F2 F' → xload Tryd.prog 41 p2 G = some (.agg (iv .u8 n1).toArray) := q2
 have l0 : n0.length = 32 := rfl
 have l1 : n1.length = 32 := rfl
 have t0 : (iv .u8 n0).take 32 = iv .u8 n0 := rfl
 have t1 : (iv .u8 n1).take 32 = iv .u8 n1 := rfl
 have k7b : (k7L == k7L) = true := by simp
 have l0b : (n0 == n0) = true := by simp
 have l1b : (n1 == n1) = true := by simp
 have k7e : (iv .u8 (zl 32)).set 0 (.int .u8 7) = iv .u8 k7L := rfl
 have hrow : setR (setR (List.map (fun j => (iv .u8 (zl 32))[j % 32]?.getD undef) (List.range 64)) 0 (iv .u8 k7L)) 32 (iv .u8 n0) = iv .u8 k7L ++ iv .u8 n0 := row2 (by simp) (by simp [k7l]) (by simp [l0])
 refine aw_seq ?_
 refine name_aw (fun β hβ => ?_)
 have e1 : β 1 = .pointer (some ⟨n, 0, none⟩) := by rw [hβ]; (first | (simp; done) | rfl)
 have e2 : β 2 = v2 := by rw [hβ]; (first | (simp; done) | rfl)
 clear hβ
 obtain ⟨E2, hE2⟩ : ∃ E2, E2 = G2 := ⟨_, rfl⟩
 rw [← hE2] at t2 gT lwE2 q0 q1 q2 ⊢
 clear hE2 tE tB f2 lwE0 lwBE lwD hmk hsv gR gk gi
 have lwE := lwE2
 have nF := nF2
 refine aw_inv alAP (JT alAD (alAV n b v2 p0 p1 p2) β (AP E2 b F2 aT2)) (by kernel_rfl) (by kernel_rfl) (by kernel_rfl) ?_ ?_ ?_
 ·exact ⟨by simp; rfl, fun _ _ => rfl, fun i t' hi h => (by rw [gs_0] at h; cases h), F2, Fr.refl _ _, t2, fun h => (by rw [gs_0] at h; cases h)⟩
 ·intro i s α G k hJ hi0 hsi hd hcc hcont
  obtain ⟨Fc, jf, jt, ja⟩ := hJ.hp
  have j1 := (hJ.lo 1 (by decide)).trans e1
  have j2 := (hJ.lo 2 (by decide)).trans e2
  have gT := (jf.out n (hget_lt gT) nF).trans gT
  have ldT := ld_tb gT
  have ld0 := q0 G Fc jf
  have ld1 := q1 G Fc jf
  have ld2 := q2 G Fc jf
  have hi : i = 0 ∨ i = 1 ∨ i = 2 ∨ i = 3 ∨ i = 4 ∨ i = 5 ∨ i = 6 ∨ i = 7 ∨ i = 8 ∨ i = 9 ∨ i = 10 ∨ i = 11 ∨ i = 12 ∨ i = 13 ∨ i = 14 ∨ i = 15 ∨ i = 16 ∨ i = 17 ∨ i = 18 ∨ i = 19 ∨ i = 20 ∨ i = 21 ∨ i = 22 ∨ i = 23 ∨ i = 24 ∨ i = 25 ∨ i = 26 ∨ i = 27 ∨ i = 28 ∨ i = 29 ∨ i = 30 ∨ i = 31 ∨ i = 32 ∨ i = 33 ∨ i = 34 ∨ i = 35 := by have hi0 : i < 36 := hi0; omega
  rcases hi with rfl | rfl | rfl | rfl | rfl | rfl | rfl | rfl | rfl | rfl | rfl | rfl | rfl | rfl | rfl | rfl | rfl | rfl | rfl | rfl | rfl | rfl | rfl | rfl | rfl | rfl | rfl | rfl | rfl | rfl | rfl | rfl | rfl | rfl | rfl | rfl
  ·simp (disch := first | omega | (simp only [lnS]; try omega)) [-getElem?_pos, -getElem?_neg, -notTuple, lnt, j2]
   exact hcont _ _ (hJ.put alA_nd (t := 13) rfl rfl (hJ.hp.keep (by decide) (by decide)))
  ·have f0 : α 13 = v2 := hJ.val 0 13 rfl (hd 0 (by decide))
   simp (disch := first | omega | (simp only [lnS]; try omega)) [-getElem?_pos, -getElem?_neg, -notTuple, lnt, -xlen, lln, f0]
   exact hcont _ _ (hJ.put alA_nd (t := 14) rfl rfl (hJ.hp.keep (by decide) (by decide)))
  ·have f1 : α 14 = .int .i64 3 := hJ.val 1 14 rfl (hd 1 (by decide))
   simp (disch := first | omega | (simp only [lnS]; try omega)) [-getElem?_pos, -getElem?_neg, -notTuple, lnt, f1]
   exact hcont _ _ (hJ.put alA_nd (t := 15) rfl rfl (hJ.hp.keep (by decide) (by decide)))
  ·have f2 : α 15 = .bool true := hJ.val 2 15 rfl (hd 2 (by decide))
   simp (disch := first | omega | (simp only [lnS]; try omega)) [-getElem?_pos, -getElem?_neg, -notTuple, lnt, f2]
   exact hcont _ _ (hJ.put alA_nd (t := 16) rfl rfl (hJ.hp.keep (by decide) (by decide)))
  ·have f3 : α 16 = .bool true := hJ.val 3 16 rfl (hd 3 (by decide))
   simp (disch := first | omega | (simp only [lnS]; try omega)) [-getElem?_pos, -getElem?_neg, -notTuple, lnt, j2, f3]
   exact hcont _ _ (hJ.put alA_nd (t := 17) rfl rfl (hJ.hp.keep (by decide) (by decide)))
  ·have f3 : α 16 = .bool true := hJ.val 3 16 rfl (hd 3 (by decide))
   have f4 : α 17 = v2 := hJ.val 4 17 rfl (hd 4 (by decide))
   simp (disch := first | omega | (simp only [lnS]; try omega)) [-getElem?_pos, -getElem?_neg, -notTuple, lnt, -xindexAddr, i0, d0, f3, f4]
   exact hcont _ _ (hJ.put alA_nd (t := 18) rfl rfl (hJ.hp.keep (by decide) (by decide)))
  ·have f3 : α 16 = .bool true := hJ.val 3 16 rfl (hd 3 (by decide))
   have f5 : α 18 = p0 := hJ.val 5 18 rfl (hd 5 (by decide))
   simp (disch := first | omega | (simp only [lnS]; try omega)) [-getElem?_pos, -getElem?_neg, -notTuple, lnt, -xload, ld0, f3, f5]
   exact hcont _ _ (hJ.put alA_nd (t := 19) rfl rfl (hJ.hp.keep (by decide) (by decide)))
  ·have f3 : α 16 = .bool true := hJ.val 3 16 rfl (hd 3 (by decide))
   simp (disch := first | omega | (simp only [lnS]; try omega)) [-getElem?_pos, -getElem?_neg, -notTuple, lnt, k7e, f3]
   exact hcont _ _ (hJ.put alA_nd (t := 20) rfl rfl (hJ.hp.keep (by decide) (by decide)))
  ·have f3 : α 16 = .bool true := hJ.val 3 16 rfl (hd 3 (by decide))
   have f6 : α 19 = .agg (iv .u8 k7L).toArray := hJ.val 6 19 rfl (hd 6 (by decide))
   have f7 : α 20 = .agg (iv .u8 k7L).toArray := hJ.val 7 20 rfl (hd 7 (by decide))
   simp (disch := first | omega | (simp only [lnS]; try omega)) [-getElem?_pos, -getElem?_neg, -notTuple, lnt, k7l, k7t, k7b, f3, f6, f7]
   exact hcont _ _ (hJ.put alA_nd (t := 21) rfl rfl (hJ.hp.keep (by decide) (by decide)))
  ·have f3 : α 16 = .bool true := hJ.val 3 16 rfl (hd 3 (by decide))
   have f8 : α 21 = .bool true := hJ.val 8 21 rfl (hd 8 (by decide))
   simp (disch := first | omega | (simp only [lnS]; try omega)) [-getElem?_pos, -getElem?_neg, -notTuple, lnt, f3, f8]
   exact hcont _ _ (hJ.put alA_nd (t := 22) rfl rfl (hJ.hp.keep (by decide) (by decide)))
  ·have f3 : α 16 = .bool true := hJ.val 3 16 rfl (hd 3 (by decide))
   have f9 : α 22 = .bool true := hJ.val 9 22 rfl (hd 9 (by decide))
   simp (disch := first | omega | (simp only [lnS]; try omega)) [-getElem?_pos, -getElem?_neg, -notTuple, lnt, f3, f9]
   exact hcont _ _ (hJ.put alA_nd (t := 23) rfl rfl (hJ.hp.keep (by decide) (by decide)))
  ·have f10 : α 23 = .bool true := hJ.val 10 23 rfl (hd 10 (by decide))
   simp (disch := first | omega | (simp only [lnS]; try omega)) [-getElem?_pos, -getElem?_neg, -notTuple, lnt, j2, f10]
   exact hcont _ _ (hJ.put alA_nd (t := 24) rfl rfl (hJ.hp.keep (by decide) (by decide)))
  ·have f10 : α 23 = .bool true := hJ.val 10 23 rfl (hd 10 (by decide))
   have f11 : α 24 = v2 := hJ.val 11 24 rfl (hd 11 (by decide))
   simp (disch := first | omega | (simp only [lnS]; try omega)) [-getElem?_pos, -getElem?_neg, -notTuple, lnt, -xindexAddr, i1, d1, f10, f11]
   exact hcont _ _ (hJ.put alA_nd (t := 25) rfl rfl (hJ.hp.keep (by decide) (by decide)))
  ·have f10 : α 23 = .bool true := hJ.val 10 23 rfl (hd 10 (by decide))
   have f12 : α 25 = p1 := hJ.val 12 25 rfl (hd 12 (by decide))
   simp (disch := first | omega | (simp only [lnS]; try omega)) [-getElem?_pos, -getElem?_neg, -notTuple, lnt, -xload, ld1, f10, f12]
   exact hcont _ _ (hJ.put alA_nd (t := 26) rfl rfl (hJ.hp.keep (by decide) (by decide)))
  ·have f10 : α 23 = .bool true := hJ.val 10 23 rfl (hd 10 (by decide))
   simp (disch := first | omega | (simp only [lnS]; try omega)) [-getElem?_pos, -getElem?_neg, -notTuple, lnt, j1, f10]
   exact hcont _ _ (hJ.put alA_nd (t := 27) rfl rfl (hJ.hp.keep (by decide) (by decide)))
  ·have f10 : α 23 = .bool true := hJ.val 10 23 rfl (hd 10 (by decide))
   have f14 : α 27 = .pointer (some ⟨n, 0, none⟩) := hJ.val 14 27 rfl (hd 14 (by decide))
   simp (disch := first | omega | (simp only [lnS]; try omega)) [-getElem?_pos, -getElem?_neg, -notTuple, lnt, -xload, ldT, f10, f14]
   exact hcont _ _ (hJ.put alA_nd (t := 28) rfl rfl (hJ.hp.keep (by decide) (by decide)))
  ·have f10 : α 23 = .bool true := hJ.val 10 23 rfl (hd 10 (by decide))
   have f15 : α 28 = .pointer (some ⟨b, 0, none⟩) := hJ.val 15 28 rfl (hd 15 (by decide))
   simp (disch := first | omega | (simp only [lnS]; try omega)) [-getElem?_pos, -getElem?_neg, f10, f15]
   refine ⟨by kernel_rfl, AC.mono (draw_ac (nro := H.length) (γ := γ) (s := ⟨#[102, 111, 101, 32, 110]⟩) (hpw.low (lowFr lwE hnF jf)) jt (jf.lo hnF lwE.2) (by have := jf.len; have := lwE.2; omega) (by decide) (by decide)) ?_⟩
   intro v' G' hq
   obtain ⟨hv, F1, f1, t1⟩ := hq.fr
   rw [aR1.1] at t1
   rw [aR1.2] at hv
   subst hv
   exact hcont _ _ (hJ.put alA_nd (t := 29) rfl rfl ⟨F1, jf.trans f1, t1, fun a b => by
    rw [gs_ne (by decide)] at a b
    obtain ⟨r, w1, w2, w3⟩ := ja a b
    refine ⟨r, by (first | (simp [w1]; done) | rfl), fun e => ?_, (f1.out r (hget_lt w3) w2).trans w3⟩
    rcases f1.new r e with e2 | e2
    ·exact w2 e2
    ·have := hget_lt w3; omega⟩)
  ·have f10 : α 23 = .bool true := hJ.val 10 23 rfl (hd 10 (by decide))
   have f13 : α 26 = .agg (iv .u8 n0).toArray := hJ.val 13 26 rfl (hd 13 (by decide))
   have f16 : α 29 = .agg (iv .u8 n0).toArray := hJ.val 16 29 rfl (hd 16 (by decide))
   simp (disch := first | omega | (simp only [lnS]; try omega)) [-getElem?_pos, -getElem?_neg, -notTuple, lnt, l0, t0, l0b, f10, f13, f16]
   exact hcont _ _ (hJ.put alA_nd (t := 30) rfl rfl (hJ.hp.keep (by decide) (by decide)))
  ·have f10 : α 23 = .bool true := hJ.val 10 23 rfl (hd 10 (by decide))
   have f17 : α 30 = .bool true := hJ.val 17 30 rfl (hd 17 (by decide))
   simp (disch := first | omega | (simp only [lnS]; try omega)) [-getElem?_pos, -getElem?_neg, -notTuple, lnt, f10, f17]
   exact hcont _ _ (hJ.put alA_nd (t := 31) rfl rfl (hJ.hp.keep (by decide) (by decide)))
  ·have f16 : α 29 = .agg (iv .u8 n0).toArray := hJ.val 16 29 rfl (hd 16 (by decide))
   have f18 : α 31 = .bool true := hJ.val 18 31 rfl (hd 18 (by decide))
   simp (disch := first | omega | (simp only [lnS]; try omega)) [-getElem?_pos, -getElem?_neg, -notTuple, lnt, f16, f18]
   exact hcont _ _ (hJ.put alA_nd (t := 32) rfl rfl (hJ.hp.keep (by decide) (by decide)))
  ·have f19 : α 32 = .bool true := hJ.val 19 32 rfl (hd 19 (by decide))
   simp (disch := first | omega | (simp only [lnS]; try omega)) [-getElem?_pos, -getElem?_neg, -notTuple, lnt, j2, f19]
   exact hcont _ _ (hJ.put alA_nd (t := 33) rfl rfl (hJ.hp.keep (by decide) (by decide)))
  ·have f19 : α 32 = .bool true := hJ.val 19 32 rfl (hd 19 (by decide))
   have f20 : α 33 = v2 := hJ.val 20 33 rfl (hd 20 (by decide))
   simp (disch := first | omega | (simp only [lnS]; try omega)) [-getElem?_pos, -getElem?_neg, -notTuple, lnt, -xindexAddr, i2, d2, f19, f20]
   exact hcont _ _ (hJ.put alA_nd (t := 34) rfl rfl (hJ.hp.keep (by decide) (by decide)))
  ·have f19 : α 32 = .bool true := hJ.val 19 32 rfl (hd 19 (by decide))
   have f21 : α 34 = p2 := hJ.val 21 34 rfl (hd 21 (by decide))
   simp (disch := first | omega | (simp only [lnS]; try omega)) [-getElem?_pos, -getElem?_neg, -notTuple, lnt, -xload, ld2, f19, f21]
   exact hcont _ _ (hJ.put alA_nd (t := 35) rfl rfl (hJ.hp.keep (by decide) (by decide)))
  ·have f19 : α 32 = .bool true := hJ.val 19 32 rfl (hd 19 (by decide))
   simp (disch := first | omega | (simp only [lnS]; try omega)) [-getElem?_pos, -getElem?_neg, -notTuple, lnt, j1, f19]
   exact hcont _ _ (hJ.put alA_nd (t := 36) rfl rfl (hJ.hp.keep (by decide) (by decide)))
  ·have f19 : α 32 = .bool true := hJ.val 19 32 rfl (hd 19 (by decide))
   have f23 : α 36 = .pointer (some ⟨n, 0, none⟩) := hJ.val 23 36 rfl (hd 23 (by decide))
   simp (disch := first | omega | (simp only [lnS]; try omega)) [-getElem?_pos, -getElem?_neg, -notTuple, lnt, -xload, ldT, f19, f23]
   exact hcont _ _ (hJ.put alA_nd (t := 37) rfl rfl (hJ.hp.keep (by decide) (by decide)))
  ·have f19 : α 32 = .bool true := hJ.val 19 32 rfl (hd 19 (by decide))
   simp (disch := first | omega | (simp only [lnS]; try omega)) [-getElem?_pos, -getElem?_neg, -notTuple, lnt, j2, f19]
   exact hcont _ _ (hJ.put alA_nd (t := 38) rfl rfl (hJ.hp.keep (by decide) (by decide)))
  ·have f19 : α 32 = .bool true := hJ.val 19 32 rfl (hd 19 (by decide))
   have f25 : α 38 = v2 := hJ.val 25 38 rfl (hd 25 (by decide))
   simp (disch := first | omega | (simp only [lnS]; try omega)) [-getElem?_pos, -getElem?_neg, -notTuple, lnt, -xindexAddr, i0, d0, f19, f25]
   exact hcont _ _ (hJ.put alA_nd (t := 39) rfl rfl (hJ.hp.keep (by decide) (by decide)))
  ·have f19 : α 32 = .bool true := hJ.val 19 32 rfl (hd 19 (by decide))
   have f26 : α 39 = p0 := hJ.val 26 39 rfl (hd 26 (by decide))
   simp (disch := first | omega | (simp only [lnS]; try omega)) [-getElem?_pos, -getElem?_neg, -notTuple, lnt, -xload, ld0, f19, f26]
   exact hcont _ _ (hJ.put alA_nd (t := 40) rfl rfl (hJ.hp.keep (by decide) (by decide)))
  ·have f19 : α 32 = .bool true := hJ.val 19 32 rfl (hd 19 (by decide))
   simp (disch := first | omega | (simp only [lnS]; try omega)) [-getElem?_pos, -getElem?_neg, -notTuple, lnt, j2, f19]
   exact hcont _ _ (hJ.put alA_nd (t := 41) rfl rfl (hJ.hp.keep (by decide) (by decide)))
  ·have f19 : α 32 = .bool true := hJ.val 19 32 rfl (hd 19 (by decide))
   have f28 : α 41 = v2 := hJ.val 28 41 rfl (hd 28 (by decide))
   simp (disch := first | omega | (simp only [lnS]; try omega)) [-getElem?_pos, -getElem?_neg, -notTuple, lnt, -xindexAddr, i1, d1, f19, f28]
   exact hcont _ _ (hJ.put alA_nd (t := 42) rfl rfl (hJ.hp.keep (by decide) (by decide)))
  ·have f19 : α 32 = .bool true := hJ.val 19 32 rfl (hd 19 (by decide))
   have f29 : α 42 = p1 := hJ.val 29 42 rfl (hd 29 (by decide))
   simp (disch := first | omega | (simp only [lnS]; try omega)) [-getElem?_pos, -getElem?_neg, -notTuple, lnt, -xload, ld1, f19, f29]
   exact hcont _ _ (hJ.put alA_nd (t := 43) rfl rfl (hJ.hp.keep (by decide) (by decide)))
  ·have f19 : α 32 = .bool true := hJ.val 19 32 rfl (hd 19 (by decide))
   have f27 : α 40 = .agg (iv .u8 k7L).toArray := hJ.val 27 40 rfl (hd 27 (by decide))
   have f30 : α 43 = .agg (iv .u8 n0).toArray := hJ.val 30 43 rfl (hd 30 (by decide))
   simp (disch := first | omega | (simp only [lnS]; try omega)) [-getElem?_pos, -getElem?_neg, f19, f27, f30, k7l, k7t, l0, t0, hrow]
   exact hcont _ _ (hJ.put alA_nd (t := 44) rfl trivial ⟨Fc, jf.push _, jt.push _, fun _ _ => ⟨G.length, by (first | (simp; done) | rfl), fun e => by have := jt.bound _ e; omega, by rw [hget_app0]; rfl⟩⟩)
  ·have f19 : α 32 = .bool true := hJ.val 19 32 rfl (hd 19 (by decide))
   have f24 : α 37 = .pointer (some ⟨b, 0, none⟩) := hJ.val 24 37 rfl (hd 24 (by decide))
   obtain ⟨r, w1, w2, w3⟩ := ja (hd 31 (by decide)) hsi
   simp (disch := first | omega | (simp only [lnS]; try omega)) [-getElem?_pos, -getElem?_neg, f19, f24, w1]
   refine ⟨by kernel_rfl, AC.mono (hash_ac (nro := H.length) (γ := γ) (s := ⟨#[116]⟩) (ks := [k7L, n0]) (hpw.low (lowFr lwE hnF jf)) jt (jf.lo hnF lwE.2) (by have := jf.len; have := lwE.2; omega) aH_wf (fun D hl hg => keys2 rfl rfl ((hg r (hget_lt w3) w2).trans w3)) (by decide)) ?_⟩
   intro v' G' hq
   obtain ⟨hv, F1, f1, t1⟩ := hq.fr
   rw [aR2.1] at t1
   rw [aR2.2] at hv
   subst hv
   exact hcont _ _ (hJ.put alA_nd (t := 45) rfl rfl ⟨F1, jf.trans f1, t1, fun a b => (by rw [gs_eq (by rw [hJ.sz]; decide)] at b; cases b)⟩)
  ·have f19 : α 32 = .bool true := hJ.val 19 32 rfl (hd 19 (by decide))
   have f22 : α 35 = .agg (iv .u8 n1).toArray := hJ.val 22 35 rfl (hd 22 (by decide))
   have f32 : α 45 = .agg (iv .u8 n1).toArray := hJ.val 32 45 rfl (hd 32 (by decide))
   simp (disch := first | omega | (simp only [lnS]; try omega)) [-getElem?_pos, -getElem?_neg, -notTuple, lnt, l1, t1, l1b, f19, f22, f32]
   exact hcont _ _ (hJ.put alA_nd (t := 46) rfl rfl (hJ.hp.keep (by decide) (by decide)))
  ·have f19 : α 32 = .bool true := hJ.val 19 32 rfl (hd 19 (by decide))
   have f33 : α 46 = .bool true := hJ.val 33 46 rfl (hd 33 (by decide))
   simp (disch := first | omega | (simp only [lnS]; try omega)) [-getElem?_pos, -getElem?_neg, -notTuple, lnt, f19, f33]
   exact hcont _ _ (hJ.put alA_nd (t := 47) rfl rfl (hJ.hp.keep (by decide) (by decide)))
  ·have f0 : α 13 = v2 := hJ.val 0 13 rfl (hd 0 (by decide))
   have f1 : α 14 = .int .i64 3 := hJ.val 1 14 rfl (hd 1 (by decide))
   have f2 : α 15 = .bool true := hJ.val 2 15 rfl (hd 2 (by decide))
   have f3 : α 16 = .bool true := hJ.val 3 16 rfl (hd 3 (by decide))
   have f4 : α 17 = v2 := hJ.val 4 17 rfl (hd 4 (by decide))
   have f5 : α 18 = p0 := hJ.val 5 18 rfl (hd 5 (by decide))
   have f6 : α 19 = .agg (iv .u8 k7L).toArray := hJ.val 6 19 rfl (hd 6 (by decide))
   have f7 : α 20 = .agg (iv .u8 k7L).toArray := hJ.val 7 20 rfl (hd 7 (by decide))
   have f8 : α 21 = .bool true := hJ.val 8 21 rfl (hd 8 (by decide))
   have f9 : α 22 = .bool true := hJ.val 9 22 rfl (hd 9 (by decide))
   have f10 : α 23 = .bool true := hJ.val 10 23 rfl (hd 10 (by decide))
   have f11 : α 24 = v2 := hJ.val 11 24 rfl (hd 11 (by decide))
   have f12 : α 25 = p1 := hJ.val 12 25 rfl (hd 12 (by decide))
   have f13 : α 26 = .agg (iv .u8 n0).toArray := hJ.val 13 26 rfl (hd 13 (by decide))
   have f14 : α 27 = .pointer (some ⟨n, 0, none⟩) := hJ.val 14 27 rfl (hd 14 (by decide))
   have f15 : α 28 = .pointer (some ⟨b, 0, none⟩) := hJ.val 15 28 rfl (hd 15 (by decide))
   have f16 : α 29 = .agg (iv .u8 n0).toArray := hJ.val 16 29 rfl (hd 16 (by decide))
   have f17 : α 30 = .bool true := hJ.val 17 30 rfl (hd 17 (by decide))
   have f18 : α 31 = .bool true := hJ.val 18 31 rfl (hd 18 (by decide))
   have f19 : α 32 = .bool true := hJ.val 19 32 rfl (hd 19 (by decide))
   have f20 : α 33 = v2 := hJ.val 20 33 rfl (hd 20 (by decide))
   have f21 : α 34 = p2 := hJ.val 21 34 rfl (hd 21 (by decide))
   have f22 : α 35 = .agg (iv .u8 n1).toArray := hJ.val 22 35 rfl (hd 22 (by decide))
   have f23 : α 36 = .pointer (some ⟨n, 0, none⟩) := hJ.val 23 36 rfl (hd 23 (by decide))
   have f24 : α 37 = .pointer (some ⟨b, 0, none⟩) := hJ.val 24 37 rfl (hd 24 (by decide))
   have f25 : α 38 = v2 := hJ.val 25 38 rfl (hd 25 (by decide))
   have f26 : α 39 = p0 := hJ.val 26 39 rfl (hd 26 (by decide))
   have f27 : α 40 = .agg (iv .u8 k7L).toArray := hJ.val 27 40 rfl (hd 27 (by decide))
   have f28 : α 41 = v2 := hJ.val 28 41 rfl (hd 28 (by decide))
   have f29 : α 42 = p1 := hJ.val 29 42 rfl (hd 29 (by decide))
   have f30 : α 43 = .agg (iv .u8 n0).toArray := hJ.val 30 43 rfl (hd 30 (by decide))
   have f32 : α 45 = .agg (iv .u8 n1).toArray := hJ.val 32 45 rfl (hd 32 (by decide))
   have f33 : α 46 = .bool true := hJ.val 33 46 rfl (hd 33 (by decide))
   have f34 : α 47 = .bool true := hJ.val 34 47 rfl (hd 34 (by decide))
   simp (disch := first | omega | (simp only [lnS]; try omega)) [-getElem?_pos, -getElem?_neg, -notTuple, lnt, f0, f1, f2, f3, f4, f5, f6, f7, f8, f9, f10, f11, f12, f13, f14, f15, f16, f17, f18, f19, f20, f21, f22, f23, f24, f25, f26, f27, f28, f29, f30, f32, f33, f34]
   exact hcont _ _ (hJ.put alA_nd (t := 0) rfl rfl (hJ.hp.keep (by decide) (by decide)))
 rintro s α G hJ hall
 have a0 : α 0 = .bool true := hJ.val 35 0 rfl (by
  rw [Array.getD_eq_getD_getElem?, Array.getElem?_eq_getElem (by have : s.size = 36 := hJ.sz; omega)]
  exact Array.all_eq_true.1 hall 35 (by have : s.size = 36 := hJ.sz; omega))
 clear hall hJ
 (refine aw_ret ?_; simp (disch := first | omega | (simp only [lnS]; try omega)) [-getElem?_pos, -getElem?_neg, thenQ_ret, scopeQ_ret, inBlockQ_ret, RQ, resL, resV, a0])
end
end
section
structure KO (n : Nat) (k : List Int) : Prop where
 a : k ≠ n0
 b : k ≠ n1
 s : ∀ p, pk k = some p → p < n
theorem KO.up {n m : Nat} {k : List Int} (h : KO n k) (hm : n ≤ m) : KO m k := ⟨h.a, h.b, fun p hp => by have := h.s p hp; omega⟩
structure FT (T : List TermD) : Prop where
 wf : ∀ x ∈ T, x.Wf
 nd : T.Nodup
 two : ∀ x ∈ T, x.kind = 4 → ∃ a b, x.keys = [a, b] ∧ TermD.Wf ⟨3, ⟨#[]⟩, [a]⟩ ∧ TermD.Wf ⟨3, ⟨#[]⟩, [b]⟩
 pub : ∀ x ∈ T, x.kind = 3 → x.text = ⟨#[]⟩
 seal_ : ∀ x ∈ T, x.kind = 6 → x = sX ∨ ∀ k ∈ x.keys.drop 2, KO T.length k
 pre : ∃ r, T = sT5 ++ r
theorem nm32 {i j : Nat} (hi : i < 4294967296) (hj : j < 4294967296) (h : nmL i = nmL j) : i = j := by
 have := nm_inj (a := i) (b := j) (by omega) (by omega) h
 omega
theorem FT.t0 {T : List TermD} (h : FT T) : T[0]? = some sA := by
 obtain ⟨r, rfl⟩ := h.pre; rfl
theorem FT.t1 {T : List TermD} (h : FT T) : T[1]? = some sB := by
 obtain ⟨r, rfl⟩ := h.pre; rfl
theorem FT.len {T : List TermD} (h : FT T) : 5 ≤ T.length := by
 obtain ⟨r, rfl⟩ := h.pre; rw [List.length_append]; exact Nat.le_add_right 5 _
theorem at_name {x : TermD} {T : List TermD} (hx : x.Wf) (hT : ∀ y ∈ T, y.Wf) : (addT x T)[nameT x T]? = some x ∧ ∃ r, addT x T = T ++ r := by
 unfold addT nameT
 cases hp : placeT x T with
 | some i => exact ⟨place_some hx hT hp, [], by simp⟩
 | none => exact ⟨by simp, [x], rfl⟩
theorem preT_get {T U : List TermD} (h : ∃ r, U = T ++ r) {i : Nat} {x : TermD} (hi : T[i]? = some x) : U[i]? = some x := by
 obtain ⟨r, rfl⟩ := h
 rw [List.getElem?_append_left (List.getElem?_eq_some_iff.1 hi).1]
 exact hi
structure XTo (T : List TermD) (x : TermD) : Prop where
 wf : x.Wf
 two : x.kind = 4 → ∃ a b, x.keys = [a, b] ∧ TermD.Wf ⟨3, ⟨#[]⟩, [a]⟩ ∧ TermD.Wf ⟨3, ⟨#[]⟩, [b]⟩
 pub : x.kind = 3 → x.text = ⟨#[]⟩
 seal_ : x.kind = 6 → ∀ k ∈ x.keys.drop 2, KO T.length k
 na : x ≠ sA
 nb : x ≠ sB
theorem FT.add {T : List TermD} (h : FT T) {x : TermD} (hx : XTo T x) (hm : T.length < 4294967295) : FT (addT x T) ∧ KO (addT x T).length (nmL (nameT x T : Nat)) ∧ T.length ≤ (addT x T).length := by
 obtain ⟨h1, r, h2⟩ := at_name hx.wf h.wf
 have hle := addT_le x T
 have hn : nameT x T < (addT x T).length := (List.getElem?_eq_some_iff.1 h1).1
 have hT : FT (addT x T) := by
  by_cases hp : x ∈ T
  ·obtain ⟨i, hi, hxi⟩ := List.mem_iff_getElem.1 hp
   rw [(add_old hx.wf h.wf h.nd (i := i) (by rw [List.getElem?_eq_getElem hi, hxi])).1]
   exact h
  ·rw [(add_new hx.wf h.wf hp).1]
   have up : ∀ y : TermD, y ∈ T ++ [x] → y ∈ T ∨ y = x := fun y hy => by
    rcases List.mem_append.1 hy with e | e
    ·exact .inl e
    ·exact .inr (List.mem_singleton.1 e)
   refine ⟨fun y hy => ?_, ?_, fun y hy => ?_, fun y hy => ?_, fun y hy => ?_, ?_⟩
   ·rcases up y hy with e | rfl
    ·exact h.wf y e
    ·exact hx.wf
   ·exact List.nodup_append.2 ⟨h.nd, by simp, fun a ha b hb e => by rw [List.mem_singleton.1 hb] at e; exact hp (e ▸ ha)⟩
   ·rcases up y hy with e | rfl
    ·exact h.two y e
    ·exact hx.two
   ·rcases up y hy with e | rfl
    ·exact h.pub y e
    ·exact hx.pub
   ·intro h6
    rcases up y hy with e | rfl
    ·rcases h.seal_ y e h6 with e2 | e2
     ·exact .inl e2
     ·exact .inr fun k hk => (e2 k hk).up (by simp)
    ·exact .inr fun k hk => (hx.seal_ h6 k hk).up (by simp)
   ·obtain ⟨r, e⟩ := h.pre
    exact ⟨r ++ [x], by rw [e, List.append_assoc]⟩
 refine ⟨hT, ⟨fun e => ?_, fun e => ?_, fun p hp => ?_⟩, by rw [h2]; simp⟩
 ·have := nm32 (i := nameT x T) (j := 0) (by omega) (by omega) e
  rw [this, hT.t0] at h1
  exact hx.na (Option.some.inj h1).symm
 ·have := nm32 (i := nameT x T) (j := 1) (by omega) (by omega) e
  rw [this, hT.t1] at h1
  exact hx.nb (Option.some.inj h1).symm
 ·rw [pk_nm (by omega)] at hp
  cases hp
  exact hn
theorem findT_pk {T : List TermD} {k : List Int} {x : TermD} (h : findT T k = some x) : ∃ q, pk k = some q ∧ T[q]? = some x := by
 unfold findT at h
 split at h
 ·rename_i hc
  rw [Bool.and_eq_true, decide_eq_true_iff, decide_eq_true_iff] at hc
  exact ⟨(plN k).toNat, by unfold pk; rw [if_pos hc.1], h⟩
 ·cases h
theorem openT_at {T : List TermD} {k y z : List Int} (hz : z.length = 32) (hb : By z) {u : ByteArray} {ks : List (List Int)} (h : openT T k y (strOfNums z) = some (u, ks)) : ∃ q x, pk z = some q ∧ T[q]? = some x ∧ x.kind = 6 ∧ k0 x = k ∧ ks = x.keys.drop 2 := by
 unfold openT at h
 rw [if_pos (by rw [sn_size, hz]), nums_of _ hb] at h
 cases hf : findT T z with
 | none => rw [hf] at h; cases h
 | some x =>
  rw [hf] at h
  obtain ⟨q, h1, h2⟩ := findT_pk hf
  simp only at h
  split at h
  ·rename_i hc
   cases h
   exact ⟨q, x, h1, h2, hc.1, hc.2.1, rfl⟩
  ·cases h
theorem xo_kind {T : List TermD} {x : TermD} (hw : x.Wf) (h1 : x.kind ≠ 1) (h4 : x.kind ≠ 4) (h3 : x.kind = 3 → x.text = ⟨#[]⟩) (h6 : x.kind = 6 → ∀ k ∈ x.keys.drop 2, KO T.length k) : XTo T x :=
 ⟨hw, fun e => absurd e h4, h3, h6, kne h1, kne h1⟩
theorem agree_cases (T : List TermD) (s p : List Int) : (∃ y, findT T p = some y ∧ y.kind = 3 ∧ (agreeT T s p = mK (k0 y) s ∨ agreeT T s p = mK s (k0 y))) ∨ agreeT T s p = ⟨5, ⟨#[]⟩, [s, p]⟩ := by
 unfold agreeT
 cases hf : findT T p with
 | none => exact .inr rfl
 | some y =>
  simp only
  by_cases h3 : y.kind = 3
  ·rw [if_pos h3]
   refine .inl ⟨y, rfl, h3, ?_⟩
   split
   ·exact .inl rfl
   ·exact .inr rfl
  ·rw [if_neg h3]
   exact .inr rfl
structure StepO (T T1 : List TermD) (new : List (List Int)) : Prop where
 t : FT T1
 up : ∃ r, T1 = T ++ r
 k : ∀ k ∈ new, KO T1.length k
structure FolC (T U : List TermD) (C : List Bool) : Prop where
 cl : Cl U C
 up : ∃ r, U = T ++ r
 wf : ∀ x ∈ U, x.Wf
 nd : U.Nodup
 m : U.length < 4294967295
theorem fol_at {C : List Bool} {i : Nat} (hi : i < 4294967296) : fol C (nmL (i : Nat)) = kw C i := folN (pk_nm hi)
theorem FolC.made {T U : List TermD} {C : List Bool} (h : FolC T U C) {i : Nat} {x : TermD} (hi : T[i]? = some x) (hm : mks U C x = true) : kw C i = true := by
 have h1 := preT_get h.up hi
 exact h.cl.made i (List.getElem?_eq_some_iff.1 h1).1 (by rw [trm_of h1]; exact hm)
theorem FolC.less {T T1 U : List TermD} {C : List Bool} (h : FolC T1 U C) (hu : ∃ r, T1 = T ++ r) : FolC T U C := by
 obtain ⟨r, e⟩ := hu
 obtain ⟨r2, e2⟩ := h.up
 exact ⟨h.cl, ⟨r ++ r2, by rw [e2, e, List.append_assoc]⟩, h.wf, h.nd, h.m⟩
theorem mks_all {U : List TermD} {C : List Bool} {x : TermD} (hk : x.kind = 2 ∨ x.kind = 3 ∨ x.kind = 5 ∨ x.kind = 6) (h : ∀ k ∈ x.keys, fol C k = true) : mks U C x = true := by
 unfold mks
 rw [if_pos hk]
 exact List.all_eq_true.2 h
theorem mks_two {U : List TermD} {C : List Bool} (hU : ∀ x ∈ U, x.Wf) (hn : U.Nodup) {s c : List Int} {q : Nat} (hs : fol C s = true) (hq : kw C q = true) (hc : U[q]? = some ⟨3, ⟨#[]⟩, [c]⟩) {x : TermD} (hx : x = mK c s ∨ x = mK s c) : mks U C x = true := by
 have hp : pubK U C c = true := by
  unfold pubK
  rw [place_eq (hU _ (List.mem_of_getElem? hc)) hU hn hc]
  exact hq
 have ha : agrS U C s c = true := by unfold agrS; rw [hs, hp, Bool.or_true]; rfl
 rcases hx with rfl | rfl
 ·show (agrS U C c s || agrS U C s c) = true
  rw [ha, Bool.or_true]
 ·show (agrS U C s c || agrS U C c s) = true
  rw [ha, Bool.true_or]
theorem one_key {x : TermD} (hw : x.Wf) (h3 : x.kind = 3) (ht : x.text = ⟨#[]⟩) : x = ⟨3, ⟨#[]⟩, [k0 x]⟩ := by
 obtain ⟨k, t, l⟩ := x
 obtain rfl : k = 3 := h3
 obtain rfl : t = ⟨#[]⟩ := ht
 have hl := hw.pub rfl
 match l, hl with
 | [a], _ => rfl
theorem cook_step {T : List TermD} {seen ks : List (List Int)} {c : CookD} (hT : FT T) (hm : T.length < 4294967294) (hc : c.Ok) (hks : ∀ k ∈ ks, KO T.length k) (hk32 : ∀ k ∈ ks, k.length = 32 ∧ By k) (hkl : ks.length ≤ 998) (hneed : needN c.kind ≤ ks.length) (hseen : ∀ k ∈ seen, KO T.length k) :
  StepO T (cookM T seen ks c).1 (cookM T seen ks c).2 ∧ ∀ (U : List TermD) (C : List Bool), FolC (cookM T seen ks c).1 U C → (∀ k ∈ ks, fol C k = true) → (∀ k ∈ seen, fol C k = true) → (c.kind = 2 → ∀ p, U[p]? = some ⟨1, foeS ++ c.text, []⟩ → kw C p = true) → ∀ k ∈ (cookM T seen ks c).2, fol C k = true := by
 have same : ∀ new : List (List Int), (∀ k ∈ new, KO T.length k) → StepO T T new := fun new h => ⟨hT, ⟨[], by simp⟩, h⟩
 have hput : ∀ x : TermD, XTo T x → StepO T (addT x T) [nmL (nameT x T : Nat)] := fun x hx => by
  obtain ⟨h1, h2, h3⟩ := hT.add hx (by omega)
  obtain ⟨_, r, h4⟩ := at_name hx.wf hT.wf
  exact ⟨h1, ⟨r, h4⟩, fun k hk => by rw [List.mem_singleton.1 hk]; exact h2⟩
 have hfol : ∀ x : TermD, XTo T x → ∀ (U : List TermD) (C : List Bool), FolC (addT x T) U C → (mks U C x = true ∨ ∀ p, U[p]? = some x → kw C p = true) → ∀ k ∈ [nmL (nameT x T : Nat)], fol C k = true := fun x hx U C hF h k hk => by
  obtain ⟨h1, _⟩ := at_name hx.wf hT.wf
  have hl := (List.getElem?_eq_some_iff.1 h1).1
  have hU := preT_get hF.up h1
  have hlU := (List.getElem?_eq_some_iff.1 hU).1
  have := hF.m
  rw [List.mem_singleton.1 hk, fol_at (by omega)]
  rcases h with h | h
  ·exact hF.made h1 h
  ·exact h _ hU
 have g0 : 0 < ks.length → ks.getD 0 [] ∈ ks := fun h => by
  rw [List.getD_eq_getElem?_getD, List.getElem?_eq_getElem h]; exact List.getElem_mem _
 have g1 : 1 < ks.length → ks.getD 1 [] ∈ ks := fun h => by
  rw [List.getD_eq_getElem?_getD, List.getElem?_eq_getElem h]; exact List.getElem_mem _
 have g2 : 2 < ks.length → ks.getD 2 [] ∈ ks := fun h => by
  rw [List.getD_eq_getElem?_getD, List.getElem?_eq_getElem h]; exact List.getElem_mem _
 have htx := hc.text
 unfold cookM
 by_cases h1 : c.kind = 1
 ·rw [if_pos h1]
  have hin : ∀ k ∈ (if 0 ≤ c.n ∧ c.n < seen.length then [seen.getD c.n.toNat []] else []), k ∈ seen := fun k hk => by
   split at hk
   ·rw [List.mem_singleton.1 hk, List.getD_eq_getElem?_getD, List.getElem?_eq_getElem (by omega : c.n.toNat < seen.length)]
    exact List.getElem_mem _
   ·cases hk
  exact ⟨same _ fun k hk => hseen k (hin k hk), fun U C _ _ hs _ k hk => hs k (hin k hk)⟩
 rw [if_neg h1]
 by_cases h2 : c.kind = 2
 ·rw [if_pos (.inl h2)]
  have ht : ckT T ks c = ⟨1, foeS ++ c.text, []⟩ := by unfold ckT; rw [if_pos h2]
  rw [ht]
  have hw : TermD.Wf ⟨1, foeS ++ c.text, []⟩ := wf_atom (by rw [ByteArray.size_append]; show 4 + _ ≤ _; omega)
  have hne : ∀ t : ByteArray, t.size = 1 → (⟨1, foeS ++ c.text, []⟩ : TermD) ≠ ⟨1, t, []⟩ := fun t ht e => by
   have := congrArg (fun z : TermD => z.text.size) e
   simp only [ByteArray.size_append, ht] at this
   have h4 : foeS.size = 4 := rfl
   omega
  have hx : XTo T ⟨1, foeS ++ c.text, []⟩ := ⟨hw, fun e => (by cases e), fun e => (by cases e), fun e => (by cases e), hne _ rfl, hne _ rfl⟩
  exact ⟨hput _ hx, fun U C hF _ _ hd => hfol _ hx U C hF (.inr (hd h2))⟩
 by_cases h3 : c.kind = 3
 ·rw [if_pos (.inr (.inl h3))]
  have ht : ckT T ks c = ⟨2, c.text, ks⟩ := by unfold ckT; rw [if_neg h2, if_pos h3]
  rw [ht]
  have hw : TermD.Wf ⟨2, c.text, ks⟩ := ⟨by show 2 ≤ 6; omega, by show c.text.size ≤ _; omega, fun k hk => (hk32 k hk).1, fun k hk => (hk32 k hk).2, by show ks.length ≤ _; omega, fun e => (by cases e), fun e => (by cases e), fun e => (by cases e)⟩
  have hx : XTo T ⟨2, c.text, ks⟩ := xo_kind hw (fun e => by cases e) (fun e => by cases e) (fun e => by cases e) (fun e => by cases e)
  exact ⟨hput _ hx, fun U C hF hk _ _ => hfol _ hx U C hF (.inl (mks_all (.inl rfl) hk))⟩
 by_cases h4 : c.kind = 4
 ·rw [if_pos (.inr (.inr (.inl h4)))]
  have ht : ckT T ks c = ⟨3, ⟨#[]⟩, [ks.getD 0 []]⟩ := by unfold ckT; rw [if_neg h2, if_neg h3, if_pos h4]
  rw [ht]
  have hl : 0 < ks.length := by rw [h4] at hneed; exact hneed
  have m0 := g0 hl
  have hx : XTo T ⟨3, ⟨#[]⟩, [ks.getD 0 []]⟩ := xo_kind (wf_pub (hk32 _ m0).1 (hk32 _ m0).2) (fun e => by cases e) (fun e => by cases e) (fun _ => rfl) (fun e => by cases e)
  exact ⟨hput _ hx, fun U C hF hk _ _ => hfol _ hx U C hF (.inl (mks_all (.inr (.inl rfl)) fun k hk2 => by rw [List.mem_singleton.1 hk2]; exact hk _ m0))⟩
 by_cases h6 : c.kind = 6
 ·rw [if_pos (.inr (.inr (.inr h6)))]
  have ht : ckT T ks c = ⟨6, c.text, ks.getD 0 [] :: ks.getD 1 [] :: ks.drop 2⟩ := by unfold ckT; rw [if_neg h2, if_neg h3, if_neg h4, if_neg (by omega)]
  rw [ht]
  have hl : 1 < ks.length := by rw [h6] at hneed; exact hneed
  have m0 := g0 (by omega)
  have m1 := g1 hl
  have hin : ∀ k ∈ ks.getD 0 [] :: ks.getD 1 [] :: ks.drop 2, k ∈ ks := fun k hk => by
   rcases List.mem_cons.1 hk with e | hk
   ·rw [e]; exact m0
   rcases List.mem_cons.1 hk with e | hk
   ·rw [e]; exact m1
   ·exact List.mem_of_mem_drop hk
  have hx : XTo T ⟨6, c.text, ks.getD 0 [] :: ks.getD 1 [] :: ks.drop 2⟩ := xo_kind (wf_seal (by omega) (hk32 _ m0).1 (hk32 _ m0).2 (hk32 _ m1).1 (hk32 _ m1).2 (fun z hz => hk32 z (List.mem_of_mem_drop hz)) (by rw [List.length_drop]; omega)) (fun e => by cases e) (fun e => by cases e) (fun e => by cases e) (fun _ k hk => hks k (List.mem_of_mem_drop (show k ∈ ks.drop 2 from hk)))
  exact ⟨hput _ hx, fun U C hF hk _ _ => hfol _ hx U C hF (.inl (mks_all (.inr (.inr (.inr rfl))) fun k hk2 => hk k (hin k hk2)))⟩
 rw [if_neg (by simp [h2, h3, h4, h6])]
 by_cases h5 : c.kind = 5
 ·rw [if_pos h5]
  have ht : ckT T ks c = agreeT T (ks.getD 0 []) (ks.getD 1 []) := by unfold ckT; rw [if_neg h2, if_neg h3, if_neg h4, if_pos h5]
  rw [ht]
  have hl : 1 < ks.length := by rw [h5] at hneed; exact hneed
  have m0 := g0 (by omega)
  have m1 := g1 hl
  by_cases hz : ks.getD 1 [] = zl 32
  ·rw [if_pos hz]
   exact ⟨same _ (fun k hk => by cases hk), fun U C _ _ _ _ k hk => by cases hk⟩
  ·rw [if_neg hz]
   rcases agree_cases T (ks.getD 0 []) (ks.getD 1 []) with ⟨y, hf, y3, hy⟩ | e
   ·obtain ⟨q, q1, q2⟩ := findT_pk hf
    have ym := List.mem_of_getElem? q2
    have yo := one_key (hT.wf y ym) y3 (hT.pub y ym y3)
    have yw := hT.wf y ym
    rw [yo] at yw q2
    generalize k0 y = z at *
    have z32 := yw.k32 z (by simp)
    have zb := yw.by_ z (by simp)
    have hx : XTo T (agreeT T (ks.getD 0 []) (ks.getD 1 [])) := by
     rcases hy with e | e
     ·rw [e]
      exact ⟨wf_two (.inl rfl) z32 zb (hk32 _ m0).1 (hk32 _ m0).2, fun _ => ⟨_, _, rfl, wf_pub z32 zb, wf_pub (hk32 _ m0).1 (hk32 _ m0).2⟩, fun e => (by cases e), fun e => (by cases e), kne (fun e => by cases e), kne (fun e => by cases e)⟩
     ·rw [e]
      exact ⟨wf_two (.inl rfl) (hk32 _ m0).1 (hk32 _ m0).2 z32 zb, fun _ => ⟨_, _, rfl, wf_pub (hk32 _ m0).1 (hk32 _ m0).2, wf_pub z32 zb⟩, fun e => (by cases e), fun e => (by cases e), kne (fun e => by cases e), kne (fun e => by cases e)⟩
    refine ⟨hput _ hx, fun U C hF hk _ _ => hfol _ hx U C hF (.inl ?_)⟩
    have hu : ∃ r, U = T ++ r := (hF.less (at_name hx.wf hT.wf).2).up
    have hfp := hk _ m1
    unfold fol at hfp
    rw [q1] at hfp
    exact mks_two hF.wf hF.nd (hk _ m0) hfp (preT_get hu q2) hy
   ·have hx : XTo T (agreeT T (ks.getD 0 []) (ks.getD 1 [])) := by
     rw [e]
     exact xo_kind (wf_two (.inr rfl) (hk32 _ m0).1 (hk32 _ m0).2 (hk32 _ m1).1 (hk32 _ m1).2) (fun e => by cases e) (fun e => by cases e) (fun e => by cases e) (fun e => by cases e)
    refine ⟨hput _ hx, fun U C hF hk _ _ => hfol _ hx U C hF (.inl ?_)⟩
    rw [e]
    exact mks_all (.inr (.inr (.inl rfl))) fun k hk2 => by
     rcases List.mem_cons.1 hk2 with e | hk2
     ·rw [e]; exact hk _ m0
     ·rw [List.mem_singleton.1 hk2]; exact hk _ m1
 rw [if_neg h5]
 by_cases h7 : c.kind = 7
 ·rw [if_pos h7]
  have hl : 2 < ks.length := by rw [h7] at hneed; exact hneed
  have m0 := g0 (by omega)
  have m2 := g2 hl
  cases ho : openT T (ks.getD 0 []) (ks.getD 1 []) (strOfNums (ks.getD 2 [])) with
  | none => exact ⟨same _ (fun k hk => by cases hk), fun U C _ _ _ _ k hk => by cases hk⟩
  | some p =>
   obtain ⟨q, x, q1, q2, x6, x0, x2⟩ := openT_at (hk32 _ m2).1 (hk32 _ m2).2 (u := p.1) (ks := p.2) ho
   have hin : openK (some p) = x.keys.drop 2 := x2
   rw [hin]
   have hns : x ≠ sX := fun e => (hks _ m0).a (by rw [← x0, e]; rfl)
   have hko := (hT.seal_ x (List.mem_of_getElem? q2) x6).resolve_left hns
   refine ⟨same _ hko, fun U C hF hk _ _ k hk2 => ?_⟩
   have hU := preT_get hF.up q2
   have hf2 := hk _ m2
   unfold fol at hf2
   rw [q1] at hf2
   have hf0 : fol C (k0 x) = true := by rw [x0]; exact hk _ m0
   unfold fol
   cases hp : pk k with
   | none => rfl
   | some r =>
    have hr := (hko k hk2).s r hp
    have hlu : T.length ≤ U.length := by
     obtain ⟨r2, e2⟩ := hF.up
     rw [e2, List.length_append]
     exact Nat.le_add_right _ _
    exact hF.cl.shown q (List.getElem?_eq_some_iff.1 hU).1 (by rw [trm_of hU]; exact x6) hf2 (by rw [trm_of hU]; exact hf0) k (by rw [trm_of hU]; exact hk2) r hp (by omega)
 rw [if_neg h7]
 by_cases h8 : c.kind = 8
 ·rw [if_pos h8]
  by_cases hr : nmL (plN c.raw) = c.raw
  ·rw [if_pos hr]
   exact ⟨same _ (fun k hk => by cases hk), fun U C _ _ _ _ k hk => by cases hk⟩
  ·rw [if_neg hr]
   have hp : pk c.raw = none := by unfold pk; rw [if_neg hr]
   refine ⟨same _ fun k hk => ?_, fun U C _ _ _ _ k hk => ?_⟩
   ·rw [List.mem_singleton.1 hk]
    exact ⟨fun e => (by rw [e, p0] at hp; cases hp), fun e => (by rw [e, p1_] at hp; cases hp), fun p e => (by rw [e] at hp; cases hp)⟩
   ·rw [List.mem_singleton.1 hk]
    unfold fol
    rw [hp]
 ·rw [if_neg h8]
  exact ⟨same _ (fun k hk => by cases hk), fun U C _ _ _ _ k hk => by cases hk⟩
end
section
def sSeen : List (List Int) := [n2, n3, n4]
abbrev dT (c : CookD) : TermD := ⟨1, foeS ++ c.text, []⟩
theorem sSeen_k : ∀ k ∈ sSeen, k.length = 32 ∧ By k := fun k hk => by
 simp only [sSeen, List.mem_cons, List.not_mem_nil, or_false] at hk
 rcases hk with rfl | rfl | rfl
 ·exact ⟨rfl, n2_by⟩
 ·exact ⟨rfl, n3_by⟩
 ·exact ⟨rfl, n4_by⟩
theorem nm_ko {i n : Nat} (h2 : 2 ≤ i) (hn : i < n) (hm : n < 4294967296) : KO n (nmL (i : Nat)) :=
 ⟨fun e => (by have := nm32 (i := i) (j := 0) (by omega) (by omega) e; omega), fun e => (by have := nm32 (i := i) (j := 1) (by omega) (by omega) e; omega), fun p hp => by rw [pk_nm (by omega)] at hp; cases hp; exact hn⟩
theorem sSeen_ko {n : Nat} (h : 5 ≤ n) (hm : n < 4294967296) : ∀ k ∈ sSeen, KO n k := fun k hk => by
 simp only [sSeen, List.mem_cons, List.not_mem_nil, or_false] at hk
 rcases hk with rfl | rfl | rfl
 ·exact nm_ko (i := 2) (by omega) (by omega) hm
 ·exact nm_ko (i := 3) (by omega) (by omega) hm
 ·exact nm_ko (i := 4) (by omega) (by omega) hm
theorem sT5_ft : FT sT5 := by
 refine ⟨sT5_wf, sT5_nd, fun x hx => ?_, fun x hx => ?_, fun x hx => ?_, [], by simp⟩
 all_goals
  simp only [sT5, List.mem_cons, List.not_mem_nil, or_false] at hx
  rcases hx with rfl | rfl | rfl | rfl | rfl
 all_goals first | (intro e; exact absurd e (by decide)) | (intro _; exact .inl rfl) | (intro _; rfl)
structure MS (done : List CookD) (T : List TermD) (made : List (List Int)) : Prop where
 t : FT T
 k : ∀ k ∈ made, KO T.length k
 f : ∀ (U : List TermD) (C : List Bool), FolC T U C → (∀ k ∈ sSeen, fol C k = true) → (∀ c ∈ done, c.kind = 2 → ∀ p, U[p]? = some (dT c) → kw C p = true) → ∀ k ∈ made, fol C k = true
theorem ms0 : MS [] sT5 [] := ⟨sT5_ft, fun k hk => (by cases hk), fun U C _ _ _ k hk => by cases hk⟩
theorem MS.more {done : List CookD} {T : List TermD} {made : List (List Int)} {n : Nat} (h : MS done T made) (hn : n ≤ 60) (ho : MkOk T made n) {x : CookD} (hx : x.Ok) : MS (done ++ [x]) (moreM T sSeen made x).1 (moreM T sSeen made x).2 := by
 have ht := ho.t
 unfold moreM
 by_cases hgo : inR made.length x.keys = true ∧ needN x.kind ≤ x.keys.length
 ·rw [if_pos hgo]
  obtain ⟨s, f⟩ := cook_step (ks := pickL made x.keys) (c := x) (seen := sSeen) h.t (by omega) hx (fun k hk => h.k k (pickL_mem hgo.1 k hk)) (fun k hk => ho.k k (pickL_mem hgo.1 k hk)) (by rw [pickL_len]; exact hx.keys) (by rw [pickL_len]; exact hgo.2) (sSeen_ko h.t.len (by omega))
  have hle : T.length ≤ (cookM T sSeen (pickL made x.keys) x).1.length := by
   obtain ⟨r, e⟩ := s.up
   rw [e, List.length_append]; omega
  refine ⟨s.t, fun k hk => ?_, fun U C hF hs hd k hk => ?_⟩
  ·rcases List.mem_append.1 hk with e | e
   ·exact (h.k k e).up hle
   ·exact s.k k e
  ·have hmade := h.f U C (hF.less s.up) hs (fun c hc => hd c (by simp [hc]))
   rcases List.mem_append.1 hk with e | e
   ·exact hmade k e
   ·exact f U C hF (fun k hk => hmade k (pickL_mem hgo.1 k hk)) hs (hd x (by simp)) k e
 ·rw [if_neg hgo]
  exact ⟨h.t, h.k, fun U C hF hs hd k hk => h.f U C hF hs (fun c hc => hd c (by simp [hc])) k hk⟩
theorem ms_go : ∀ (l done : List CookD) (T : List TermD) (made : List (List Int)) (n : Nat), MS done T made → MkOk T made n → n + l.length ≤ 60 → (∀ x ∈ l, x.Ok) → MS (done ++ l) (makeM sSeen l (T, made)).1 (makeM sSeen l (T, made)).2
 | [], done, T, made, n, h, _, _, _ => by rw [List.append_nil]; exact h
 | x :: l, done, T, made, n, h, ho, hn, hl => by
  have hx := hl x (by simp)
  simp only [List.length_cons] at hn
  have h1 := h.more (by omega) ho hx
  have h2 := ho.more h.t.wf hx sSeen_k
  have := ms_go l (done ++ [x]) _ _ (n + 1) h1 h2 (by omega) (fun y hy => hl y (by simp [hy]))
  rw [List.append_assoc] at this
  exact this
def drawM : List CookD → List TermD × List (List Int) → List TermD × List (List Int)
 | [], s => s
 | c :: l, s => drawM l (if c.kind = 2 then (addT (dT c) s.1, s.2 ++ [nmL (nameT (dT c) s.1 : Nat)]) else s)
theorem drawM_snoc (c : CookD) : ∀ (l : List CookD) (s : List TermD × List (List Int)), drawM (l ++ [c]) s = if c.kind = 2 then (addT (dT c) (drawM l s).1, (drawM l s).2 ++ [nmL (nameT (dT c) (drawM l s).1 : Nat)]) else drawM l s
 | [], s => rfl
 | d :: l, s => drawM_snoc c l _
theorem drawM_take {c : CookD} {l : List CookD} {i : Nat} (h : l[i]? = some c) (s : List TermD × List (List Int)) : drawM (l.take (i + 1)) s = if c.kind = 2 then (addT (dT c) (drawM (l.take i) s).1, (drawM (l.take i) s).2 ++ [nmL (nameT (dT c) (drawM (l.take i) s).1 : Nat)]) else drawM (l.take i) s := by
 rw [List.take_add_one, h]
 exact drawM_snoc c _ s
structure DS (T0 : List TermD) (done : List CookD) (T : List TermD) (all : List (List Int)) (n : Nat) : Prop where
 t : FT T
 up : ∃ r, T = T0 ++ r
 k : ∀ k ∈ all, KO T.length k ∧ k.length = 32 ∧ By k
 s : ∀ k ∈ sSeen, k ∈ all
 d : ∀ c ∈ done, c.kind = 2 → ∃ q, T[q]? = some (dT c) ∧ nmL (q : Nat) ∈ all
 m : T.length ≤ T0.length + n
 l : all.length ≤ 3 + n
theorem dT_xo {T : List TermD} {c : CookD} (hc : c.Ok) : XTo T (dT c) := by
 have htx := hc.text
 have hne : ∀ t : ByteArray, t.size = 1 → dT c ≠ ⟨1, t, []⟩ := fun t ht e => by
  have := congrArg (fun z : TermD => z.text.size) e
  simp only [dT, ByteArray.size_append, ht] at this
  have h4 : foeS.size = 4 := rfl
  omega
 exact ⟨wf_atom (by rw [ByteArray.size_append]; show 4 + _ ≤ _; omega), fun e => (by cases e), fun e => (by cases e), fun e => (by cases e), hne _ rfl, hne _ rfl⟩
theorem ds0 {T0 : List TermD} (h : FT T0) (hm : T0.length < 4294967296) : DS T0 [] T0 sSeen 0 := ⟨h, ⟨[], by simp⟩, fun k hk => ⟨sSeen_ko h.len hm k hk, sSeen_k k hk⟩, fun k hk => hk, fun c hc => (by cases hc), Nat.le_refl _, Nat.le_refl _⟩
theorem DS.more {T0 T : List TermD} {done : List CookD} {all : List (List Int)} {n : Nat} (h : DS T0 done T all n) (h0 : T0.length ≤ 100) (hn : n ≤ 60) {c : CookD} (hc : c.Ok) : DS T0 (done ++ [c]) (if c.kind = 2 then (addT (dT c) T, all ++ [nmL (nameT (dT c) T : Nat)]) else (T, all)).1 (if c.kind = 2 then (addT (dT c) T, all ++ [nmL (nameT (dT c) T : Nat)]) else (T, all)).2 (n + 1) := by
 have hm := h.m
 have hl := h.l
 by_cases h2 : c.kind = 2
 ·rw [if_pos h2]
  have hx := dT_xo (T := T) hc
  obtain ⟨t1, k1, le1⟩ := h.t.add hx (by omega)
  obtain ⟨a1, r, a2⟩ := at_name hx.wf h.t.wf
  have hle := addT_le (dT c) T
  obtain ⟨r0, e0⟩ := h.up
  refine ⟨t1, ⟨r0 ++ r, by show addT (dT c) T = _; rw [a2, e0, List.append_assoc]⟩, fun k hk => ?_, fun k hk => List.mem_append.2 (.inl (h.s k hk)), fun d hd d2 => ?_, by show (addT (dT c) T).length ≤ _; omega, by show (all ++ [_]).length ≤ _; rw [List.length_append, List.length_singleton]; omega⟩
  ·rcases List.mem_append.1 hk with e | e
   ·exact ⟨(h.k k e).1.up le1, (h.k k e).2⟩
   ·rw [List.mem_singleton.1 e]
    exact ⟨k1, rfl, nmL_by _⟩
  ·rcases List.mem_append.1 hd with e | e
   ·obtain ⟨q, q1, q2⟩ := h.d d e d2
    exact ⟨q, preT_get ⟨r, a2⟩ q1, List.mem_append.2 (.inl q2)⟩
   ·rw [List.mem_singleton.1 e]
    exact ⟨_, a1, List.mem_append.2 (.inr (List.mem_singleton.2 rfl))⟩
 ·rw [if_neg h2]
  exact ⟨h.t, h.up, h.k, h.s, fun d hd d2 => by
   rcases List.mem_append.1 hd with e | e
   ·exact h.d d e d2
   ·rw [List.mem_singleton.1 e] at d2
    exact absurd d2 h2, by show T.length ≤ _; omega, by show all.length ≤ _; omega⟩
def restC (n : Nat) : List Bool := (List.range n).map fun i => decide (2 ≤ i)
theorem kw_rest {n i : Nat} : kw (restC n) i = (decide (i < n) && decide (2 ≤ i)) := by
 unfold kw restC
 rw [List.getD_eq_getElem?_getD, List.getElem?_map]
 by_cases h : i < n
 ·rw [List.getElem?_range h]; simp [h]
 ·rw [List.getElem?_eq_none (by rw [List.length_range]; omega)]; simp [h]
theorem rest_cl {U : List TermD} (h : FT U) (hm : U.length ≤ 1000000) : Cl U (restC U.length) := by
 refine ⟨fun i hi hk => ?_, fun i hi h6 hk hf k hk2 p hp hl => ?_⟩
 ·rw [kw_rest, decide_eq_true hi, Bool.true_and, decide_eq_true_iff]
  by_cases h0 : i = 0
  ·subst h0
   rw [trm_of h.t0] at hk
   cases (show false = true from hk)
  by_cases h1 : i = 1
  ·subst h1
   rw [trm_of h.t1] at hk
   cases (show false = true from hk)
  omega
 ·have hm2 := List.mem_of_getElem? (trm_get hi)
  rcases h.seal_ _ hm2 h6 with e | e
  ·rw [e] at hf
   have : fol (restC U.length) n0 = true := hf
   rw [folN p0, kw_rest] at this
   simp at this
  ·have hko := e k hk2
   rw [kw_rest, decide_eq_true hl, Bool.true_and, decide_eq_true_iff]
   have hpk := pk_some hp
   by_cases h0 : p = 0
   ·subst h0
    exact absurd hpk.symm hko.a
   by_cases h1 : p = 1
   ·subst h1
    exact absurd hpk.symm hko.b
   omega
theorem follows_all {L : List CookD} (hL : ∀ x ∈ L, x.Ok) (hm : L.length ≤ 60) {T : List TermD} {made : List (List Int)} (hM : MS L T made) {U : List TermD} {all : List (List Int)} {n : Nat} (hD : DS T L U all n) (hu : U.length ≤ 1000000) :
  TWf U ∧ (∀ k ∈ made, fol (folL U all) k = true) ∧ fol (folL U all) n0 = false ∧ fol (folL U all) n1 = false := by
 have tw : TWf U := ⟨hD.t.wf, hu, hD.t.two⟩
 have cl := fol_closed tw all
 have hF : FolC T U (folL U all) := ⟨cl, hD.up, hD.t.wf, hD.t.nd, by omega⟩
 have hseen : ∀ k ∈ all, fol (folL U all) k = true := fun k hk => by
  unfold fol
  cases hp : pk k with
  | none => rfl
  | some p => exact fol_seen hk hp ((hD.k k hk).1.s p hp)
 have hmade := hM.f U _ hF (fun k hk => hseen k (hD.s k hk)) (fun c hc h2 p hp => by
  obtain ⟨q, q1, q2⟩ := hD.d c hc h2
  have hpq : q = p := (List.getElem?_inj (List.getElem?_eq_some_iff.1 q1).1 hD.t.nd).1 (q1.trans hp.symm)
  subst hpq
  have hq := (List.getElem?_eq_some_iff.1 q1).1
  have := hseen _ q2
  rw [fol_at (by omega)] at this
  exact this)
 have hle := fol_sound hu (rest_cl hD.t hu) (seen := all) (fun k hk p hp hl => by
  have hko := (hD.k k hk).1
  have hpk := pk_some hp
  rw [kw_rest, decide_eq_true hl, Bool.true_and, decide_eq_true_iff]
  by_cases h0 : p = 0
  ·subst h0
   exact absurd hpk.symm hko.a
  by_cases h1 : p = 1
  ·subst h1
   exact absurd hpk.symm hko.b
  omega)
 refine ⟨tw, hmade, ?_, ?_⟩
 ·rw [folN p0, Bool.eq_false_iff]
  intro e
  have := hle 0 e
  rw [kw_rest] at this
  simp at this
 ·rw [folN p1_, Bool.eq_false_iff]
  intro e
  have := hle 1 e
  rw [kw_rest] at this
  simp at this
end
section
attribute [local simp] wb_bool wb_undef with_lit XL_nil XL_cons XLc_val XLc_call step1_eq stepW_t stepW_f stepC_n stepC_s stepX_s stepX_n stepN_s calleeX xrecv oneV xop_eq xopR_s xopR_n wantedA_eq wantedG_n wantedG_s plain1_int plain1_bool plain1_string bits_i64 bits_u64 bits_u32 bits_u16 bits_u8 xeqA xagg xcmp xarr allK_iv num_iv calleeOf xread xeff xbin xint xnil xun xstr xload xconv xpart xfield xfieldAddr xindexAddr xindex bnd asInt? xslice xlen xmin xmax xbuild xfill xappend xapp2 xappstr xappmk xcap xcopy xcells eval_tmp eval_const put_at put_none fr0_at cells_agg cells_int cells_bool cells_string cells_ptr cells_slice notTuple tab iv_all hget_app hget_app0 hget_cons0 hget_cons set_app set_app0 setR setR_one QL_nil QL_cons QLc_val stepQ_t stepQ_f stepQC_n stepQC_s stepQX_s SL_nil SL_cons SLc_val stepS_t stepS_f ltT ltF leT leF eqT eqF ltTn ltFn leTn leFn eqTn eqFn beqT beqF bneT bneF wi64 wu64 wu32 wu16 wu8 tmodP tdivP hgetL hgetNe hgetEq setL nums_def nums_len Nat.succ_le_of_lt List.getElem?_cons_zero List.getElem?_cons_succ Option.getD_some Int.toNat_add Int.toNat_mul agM okM agB agI agS agP agL agA okB okI okS okP okSl okA nt_strG nt_boolG nt_aggG nt_intG nt_ptrG nt_slG
section
theorem pl0 {H0 G : AH} (lw : Low H0.length H0 G) {tb rb n : Nat} {F : List Nat} (t : Tbl G tb F []) (hF : ∀ j ∈ F, H0.length ≤ j) (hr : hget G rb = some ⟨[.slice none 0 0, .slice none 0 0], 33, none⟩) (hr0 : H0.length ≤ rb) (hrF : rb ∉ F) (hn : n < G.length) (hnF : n ∉ F) (hnr : n ≠ rb) : Pl H0 [n] G tb rb (.slice none 0 0) [] [] [] := by
 refine ⟨F, [], [], [], [], .slice none 0 0, .slice none 0 0, [], lw, t, ⟨hr, .inl ⟨rfl, rfl, rfl⟩, .inl ⟨rfl, rfl, rfl⟩, fun p hp => (by cases hp), fun p hp => (by cases hp), fun j hj => (by cases hj), by simp, by simp, by simp, fun j hj => (by cases hj), fun j hj => (by cases hj), fun j hj => (by cases hj)⟩, rfl, .inl ⟨rfl, rfl, rfl⟩, hF, fun j hj => ?_, fun j hj => (by cases hj), fun j hj e => ?_, fun j hj => by simp, fun j hj => by simp, fun j hj => ?_⟩
 ·simp only [List.append_nil, List.mem_cons, List.not_mem_nil, or_false] at hj
  omega
 ·simp only [List.append_nil, List.mem_cons, List.not_mem_nil, or_false] at e
  exact hrF (e ▸ hj)
 ·rw [List.mem_singleton.1 hj]
  refine ⟨hn, hnF, fun e => ?_, by simp⟩
  simp only [List.append_nil, List.mem_cons, List.not_mem_nil, or_false] at e
  exact hnr e
theorem ok_of {L : List CookD} (hL : ∀ x ∈ L, x.Wf) (hg : L.any greatC = false) : ∀ x ∈ L, x.Ok := fun x hx => by
 have h := List.any_eq_false.1 hg x hx
 unfold greatC at h
 simp only [Bool.or_eq_true, decide_eq_true_eq, not_or, Nat.not_lt] at h
 exact ⟨hL x hx, by omega, by omega⟩
theorem sT5_few : ∀ y ∈ sT5, y.keys.length ≤ 1000 := by decide
theorem follows_law {γ : Nat → Option Nat} {H : AH} (hpw : Pw γ H) {va : Value} {L : List CookD} (hv : CkV H va L) (hL : ∀ x ∈ L, x.Wf) (hm : L.length ≤ maxLen) : AC Tryd.prog H.length γ 5 #[va] H (fun v' _ => v' = .bool true) := by
 have hal := fun (G : AH) (hP : Pw γ G) => alive_rc (γ := γ) (H := G) hP
 obtain ⟨vnt, vcs, vln, _⟩ := hv.acc hL
 have hgr := great_rc (γ := γ) hv hL hm
 have hpl : plain1 (.slice none 0 0) = true := rfl
 have hpp : plain1 (.pointer none) = true := rfl
 refine ac_of_aw Tryd.func5 rfl Tryd.ntmps5 Tryd.results5 (by simp) ?_
 (refine aw_seq (aoo fun K hK => ?_); simp (disch := first | omega | (simp only [lnS]; try omega)) [-getElem?_pos, -getElem?_neg]; refine hK _ _ ?_; clear hK K)
 refine aw_seq (aw_seq ?_)
 refine aoo fun K hK => ?_
 simp (disch := first | omega | (simp only [lnS]; try omega)) [-getElem?_pos, -getElem?_neg]
 refine ⟨by kernel_rfl, ac_of_rc (hal _ hpw) (by simp [pv_iv, pv_int, pv_bool, pv_string, pv_tup2, pv_tup3, iv_plain, p2_int, p2_bool, p2_string]) ?_⟩
 try simp (disch := first | omega | (simp only [lnS]; try omega)) [-getElem?_pos, -getElem?_neg]
 refine hK _ _ ?_; clear hK K
 refine aw_f (by (first | (simp; done) | (simp; omega))) (by kernel_rfl) ?_
 refine aw_skip ?_
 refine aw_seq (aw_seq ?_)
 refine aoo fun K hK => ?_
 simp (disch := first | omega | (simp only [lnS]; try omega)) [-getElem?_pos, -getElem?_neg, -notTuple, vnt, vcs]
 refine ⟨by kernel_rfl, ac_of_rc hgr (by simp [pv_iv, pv_int, pv_bool, pv_string, pv_tup2, pv_tup3, iv_plain, p2_int, p2_bool, p2_string]) ?_⟩
 try simp (disch := first | omega | (simp only [lnS]; try omega)) [-getElem?_pos, -getElem?_neg]
 refine hK _ _ ?_; clear hK K
 cases hgd : (decide (60 < L.length) || L.any greatC) with
 | true =>
  refine aw_t (by (first | (simp; done) | (simp; omega))) (by kernel_rfl) ?_
  refine aw_seq (aoo fun K hK => ?_)
  simp (disch := first | omega | (simp only [lnS]; try omega)) [-getElem?_pos, -getElem?_neg]
  refine ⟨by kernel_rfl, ac_of_rc (hal _ hpw) (by simp [pv_iv, pv_int, pv_bool, pv_string, pv_tup2, pv_tup3, iv_plain, p2_int, p2_bool, p2_string]) ?_⟩
  try simp (disch := first | omega | (simp only [lnS]; try omega)) [-getElem?_pos, -getElem?_neg]
  refine hK _ _ ?_; clear hK K
  (refine aw_ret ?_; simp (disch := first | omega | (simp only [lnS]; try omega)) [-getElem?_pos, -getElem?_neg, thenQ_ret, scopeQ_ret, inBlockQ_ret, RQ, resL, resV])
 | false =>
 rw [Bool.or_eq_false_iff] at hgd
 have h60 : L.length ≤ 60 := by have := of_decide_eq_false hgd.1; omega
 have hLo := ok_of hL hgd.2
 clear hgr hgd
 refine aw_f (by (first | (simp; done) | (simp; omega))) (by kernel_rfl) ?_
 refine aw_skip (aw_seq ?_)
 refine aoo fun K hK => ?_
 simp (disch := first | omega | (simp only [lnS]; try omega)) [-getElem?_pos, -getElem?_neg]
 refine ⟨by kernel_rfl, AC.mono (newfree_ac (Nat.le_refl _)) ?_⟩
 rintro v1 G ⟨tb, F, rfl, lw, t0, hF⟩
 have hnG := lw.2
 try simp (disch := first | omega | (simp only [lnS]; try omega)) [-getElem?_pos, -getElem?_neg, hpp, hnG, -notTuple]
 refine hK _ _ ?_; clear hK K
 obtain ⟨n, hn⟩ : ∃ n, n = G.length := ⟨_, rfl⟩
 obtain ⟨B, hB⟩ : ∃ B : AH, B = G ++ [some ⟨[.pointer (some ⟨tb, 0, none⟩)], 27, none⟩] := ⟨_, rfl⟩
 have gT : hget B n = some ⟨[.pointer (some ⟨tb, 0, none⟩)], 27, none⟩ := by rw [hB, hn, hget_app0]; rfl
 have lwB : Low G.length G B := by rw [hB]; exact Low.push (Nat.le_refl _) _
 have tB : Tbl B tb F [] := t0.low (fun j hj => lwB.1 j (t0.bound j hj)) lwB.2
 have lwHB : Low H.length H B := ⟨fun j hj => (lwB.1 j (by omega)).trans (lw.1 j hj), by have := lwB.2; omega⟩
 have nF : n ∉ F := fun e => by have := t0.bound _ e; omega
 have hBl : B.length = n + 1 := by rw [hB, hn]; simp
 rw [← hn, ← hB]
 clear hB t0 lwB
 obtain ⟨rb, hrb⟩ : ∃ rb, rb = B.length := ⟨_, rfl⟩
 obtain ⟨E, hE⟩ : ∃ E : AH, E = B ++ [some ⟨[.slice none 0 0, .slice none 0 0], 33, none⟩] := ⟨_, rfl⟩
 have gR : hget E rb = some ⟨[.slice none 0 0, .slice none 0 0], 33, none⟩ := by rw [hE, hrb, hget_app0]; rfl
 have lwE : Low B.length B E := by rw [hE]; exact Low.push (Nat.le_refl _) _
 have lwHE : Low H.length H E := ⟨fun j hj => (lwE.1 j (by have := lwHB.2; omega)).trans (lwHB.1 j hj), by have := lwE.2; have := lwHB.2; omega⟩
 have gT := (lwE.1 _ (hget_lt gT)).trans gT
 have tE : Tbl E tb F [] := tB.low (fun j hj => lwE.1 j (tB.bound j hj)) lwE.2
 have pE : Pl H [n] E tb rb (.slice none 0 0) [] [] [] := pl0 lwHE tE hF gR (by rw [hrb]; exact lwHB.2) (fun e => by have := tB.bound _ e; omega) (hget_lt gT) nF (by omega)
 have ldF : xload Tryd.prog 27 (.pointer (some ⟨n, 0, none⟩)) B = some (.agg #[.pointer (some ⟨tb, 0, none⟩)]) := by
  have : hget B n = some ⟨[.pointer (some ⟨tb, 0, none⟩)], 27, none⟩ := (lwE.1 n (by omega)).symm.trans gT
  simp [xload, this]
 refine aw_seq (aoo fun K hK => ?_)
 simp (disch := first | omega | (simp only [lnS]; try omega)) [-getElem?_pos, -getElem?_neg, hpl, -xload, ldF, -notTuple]
 rw [← hrb, ← hE]
 refine ⟨by kernel_rfl, AC.mono (secret_ac hpw pE) ?_⟩
 rintro v2 G2 ⟨r, rfl, gr, p2, s2⟩
 try simp (disch := first | omega | (simp only [lnS]; try omega)) [-getElem?_pos, -getElem?_neg, -notTuple]
 refine hK _ _ ?_; clear hK K
 have gT := (s2 n (by simp)).trans gT
 obtain ⟨F2, Ft, Fs, Fr2, Fk, tv, sv, LL, w⟩ := p2
 have t2 := w.a
 have hF2 := w.ra
 have lw2 := w.lw
 have rF2 := (w.s r (by simp)).2.1
 have nF2 := (w.s n (by simp)).2.1
 clear w s2 pE tE tB lwE lwHE lwHB gR hE ldF
 have ldF : xload Tryd.prog 27 (.pointer (some ⟨n, 0, none⟩)) G2 = some (.agg #[.pointer (some ⟨tb, 0, none⟩)]) := by simp [xload, gT]
 have hsv : KsP G2 F2 (.slice (some ⟨r, 0, none⟩) 3 3) sSeen := fun D hl hg => kr_ksv (F := [r]) (.inr ⟨r, 3, rfl, (hg r (hget_lt gr) rF2).trans gr, rfl, rfl⟩) (fun k hk => (sSeen_k k hk).1)
 have hmk := make_ac (γ := γ) hpw lw2 t2 hF2 hsv sSeen_k (hv.ckp hL lw2 hF2) hLo h60 (by decide) sT5_few
 have hms := ms_go L [] sT5 [] 0 ms0 ⟨fun k hk => (by cases hk), Nat.zero_le _, by decide, sT5_few⟩ (by omega) hLo
 rw [List.nil_append] at hms
 refine aw_seq (aoo fun K hK => ?_)
 simp (disch := first | omega | (simp only [lnS]; try omega)) [-getElem?_pos, -getElem?_neg, -xload, ldF, -notTuple, vnt, vcs]
 refine ⟨by kernel_rfl, AC.mono hmk ?_⟩
 rintro mv G3 ⟨⟨F3, f3, t3, k3⟩, mo⟩
 generalize makeM sSeen L (sT5, []) = M at *
 obtain ⟨T, made⟩ := M
 simp only at t3 k3 mo hms
 have mnt := k3.nt
 try simp (disch := first | omega | (simp only [lnS]; try omega)) [-getElem?_pos, -getElem?_neg, -notTuple, mnt.1, mnt.2]
 refine hK _ _ ?_; clear hK K
 have lw3 : Low H.length H G3 := lowFr lw2 hF2 f3
 have hF3 : ∀ j ∈ F3, H.length ≤ j := f3.lo hF2 lw2.2
 have gT := (f3.out n (hget_lt gT) nF2).trans gT
 have gr := (f3.out r (hget_lt gr) rF2).trans gr
 have nF3 : n ∉ F3 := fun e => by
  rcases f3.new n e with e2 | e2
  ·exact nF2 e2
  ·have : hget G2 n = some ⟨[.pointer (some ⟨tb, 0, none⟩)], 27, none⟩ := (f3.out n (by
    by_cases h : n < G2.length
    ·exact h
    ·simp only [xload, hget] at ldF
     rw [List.getElem?_eq_none (by omega)] at ldF
     simp at ldF) nF2).symm.trans gT
   have := hget_lt this; omega
 clear hmk hsv ldF f3 t2 hF2 lw2 rF2 nF2
 (refine aw_seq (aoo fun K hK => ?_); simp (disch := first | omega | (simp only [lnS]; try omega)) [-getElem?_pos, -getElem?_neg]; refine hK _ _ ?_; clear hK K)
 have hxc : xcells 32 (.slice (some ⟨r, 0, none⟩) 3 3) G3 = some (kr [n2, n3, n4]) := by
  unfold xcells
  simp only [gr]
  rfl
 obtain ⟨av, G4, Fa, hap, ho4, hl4, hk4, hFa⟩ := ownF_appQ (P := Tryd.prog) (nro := H.length) (t := 34) (e := 41) (H := G3) (v := .slice none 0 0) (x := .slice (some ⟨r, 0, none⟩) 3 3) (sz := 32) (cells := []) (news := kr [n2, n3, n4]) (F := []) (by kernel_rfl) (by kernel_rfl) (by omega) (by kernel_rfl) (.inl ⟨rfl, rfl, rfl⟩) (fun j hj => by cases hj) (fun s e => by cases e) hxc rfl (by rw [show byt Tryd.prog 41 = 32 by kernel_rfl]; decide) (by decide)
 have ho4 : OwnF G4 av 41 32 (kr sSeen) Fa := ho4
 have ant := ownF_nt ho4
 have f4 : Fr G3 G4 F3 (F3 ++ Fa) := ⟨hl4, fun j hj hn => hk4 j hj (by simp), fun j hj => by
  rcases List.mem_append.1 hj with e | e
  ·exact .inl e
  ·exact .inr (hFa j e)⟩
 have t4 : Tbl G4 tb F3 T := t3.low (fun j hj => hk4 j (t3.bound j hj) (by simp)) hl4
 have hd4 : ∀ j ∈ Fa, j ∉ F3 := fun j hj e => by have := hFa j hj; have := t3.bound j e; omega
 have hT70 : T.length ≤ 70 := by have := mo.t; omega
 have ds4 : DS T [] T sSeen 0 := ds0 hms.t (by omega)
 (refine aw_seq (aoo fun K hK => ?_); simp (disch := first | omega | (simp only [lnS]; try omega)) [-getElem?_pos, -getElem?_neg, -notTuple, ant.1, ant.2, -xappend, hap]; refine hK _ _ ?_; clear hK K)
 refine aw_seq (aw_seq ?_)
 (refine aoo fun K hK => ?_; simp (disch := first | omega | (simp only [lnS]; try omega)) [-getElem?_pos, -getElem?_neg]; refine hK _ _ ?_; clear hK K)
 refine aw_block ?_
 refine aw_loop (fun q α G => ∃ (i : Nat) (F5 Fb : List Nat) (av : Value), i + q = L.length ∧ α 0 = va ∧ α 3 = .pointer (some ⟨n, 0, none⟩) ∧ α 5 = mv ∧ α 6 = av ∧ α 7 = .int .i64 (i : Nat) ∧ Fr G3 G F3 (F5 ++ Fb) ∧ Tbl G tb F5 (drawM (L.take i) (T, sSeen)).1 ∧ OwnF G av 41 32 (kr (drawM (L.take i) (T, sSeen)).2) Fb ∧ (∀ j ∈ Fb, j ∉ F5) ∧ DS T (L.take i) (drawM (L.take i) (T, sSeen)).1 (drawM (L.take i) (T, sSeen)).2 i) L.length ?_ ?_
 ·exact ⟨0, F3, Fa, av, by omega, by (first | (simp; done) | rfl), by (first | (simp; done) | rfl), by (first | (simp; done) | rfl), by (first | (simp; done) | rfl), by (first | (simp; done) | rfl), f4, t4, ho4, hd4, ds4⟩
 clear ho4 hap hk4 hl4 hFa f4 t4 hd4 ds4 ant hxc
 rintro q α G ⟨i, F5, Fb, av, hiq, a0, a3, a5, a6, a7, f5, t5, ho5, hd5, ds5⟩
 have gT5 := (f5.out n (hget_lt gT) nF3).trans gT
 have nF5 : n ∉ F5 ++ Fb := fun e => by
  rcases f5.new n e with e2 | e2
  ·exact nF3 e2
  ·have := hget_lt gT; omega
 have lw5 : Low H.length H G := lowFr lw3 hF3 f5
 have hF5 : ∀ j ∈ F5 ++ Fb, H.length ≤ j := f5.lo hF3 lw3.2
 have ant := ownF_nt ho5
 have ldT := ld_tb gT5
 refine aw_seq (aw_seq ?_)
 by_cases hi : i < L.length
 ·have hi' : (i : Int) < L.length := by omega
  obtain ⟨x, hx⟩ : ∃ x, L[i]? = some x := ⟨_, List.getElem?_eq_getElem hi⟩
  have hxm := List.mem_of_getElem? hx
  have hxo := hLo x hxm
  obtain ⟨j0, kv, p1, _, p2⟩ := hv.fld hL hx
  obtain ⟨p3, p4, _⟩ := p2 G lw5
  have htk := drawM_take hx (T, sSeen)
  have htl : L.take (i + 1) = L.take i ++ [x] := by rw [List.take_add_one, hx]; rfl
  have ds6 := ds5.more (by omega) (by omega) hxo
  have hdm := ds5.m
  have hdl := ds5.l
  rw [← htl] at ds6
  (refine aoo fun K hK => ?_; simp (disch := first | omega | (simp only [lnS]; try omega)) [-getElem?_pos, -getElem?_neg, a0, a7, -notTuple, vnt, vcs, -xlen, vln, hi']; refine hK _ _ ?_; clear hK K)
  refine aw_t (by (first | (simp; done) | (simp; omega))) (by kernel_rfl) ?_
  refine aw_skip (aw_seq ?_)
  refine aw_block ?_
  refine aw_seq ?_
  by_cases h2 : x.kind = 2
  ·rw [if_pos h2] at htk ds6
   generalize drawM (L.take i) (T, sSeen) = D at *
   obtain ⟨U, all⟩ := D
   simp only at t5 ho5 ds5 ds6 htk hdm hdl
   have hba : (⟨#[102, 111, 101, 32]⟩ : ByteArray).size + x.text.size ≤ 9223372036854775807 := by have := hxo.text; show 4 + x.text.size ≤ _; omega
   have hfs : (⟨#[102, 111, 101, 32]⟩ : ByteArray) ++ x.text = foeS ++ x.text := rfl
   have hdr := draw_ac (nro := H.length) (γ := γ) (s := foeS ++ x.text) (hpw.low lw5) t5 (fun j hj => hF5 j (by simp [hj])) lw5.2 (by have := hxo.text; rw [ByteArray.size_append]; show 4 + _ ≤ _; omega) (by omega)
   rw [h2] at p3
   (refine aoo fun K hK => ?_; simp (disch := first | omega | (simp only [lnS]; try omega)) [-getElem?_pos, -getElem?_neg, a0, a7, -xload, p3, -notTuple, vnt, -xindexAddr, p1]; refine hK _ _ ?_; clear hK K)
   refine aw_t (by (first | (simp; done) | (simp; omega))) (by kernel_rfl) ?_
   (refine aw_plan [] [0] [1, 2, 3, 4, 5, 6, 7, 8] 9 4 (by kernel_rfl) (by kernel_rfl) (by kernel_rfl) (fun K hK => ?_)); simp only [sel, List.getElem?_cons_succ, List.getElem?_cons_zero, List.drop_succ_cons, List.drop_zero]; simp (disch := first | omega | (simp only [lnS]; try omega)) [-getElem?_pos, -getElem?_neg, a0, a3, a6, a7, -xload, p4, ldT, -notTuple, vnt, ant.1, -xindexAddr, p1, hba, hfs, PL_nil, plainB_lit, PL_cons, PLc_val, PLc_new, stepP_t, stepP_f, stepPC_n, stepPC_s, stepPX_s, stepPX_n, stepPV_n, stepPV_s, stepPA_t, stepPA_c, stepPA_l, stepPN_s, allocOp, reloc_sl, reloc_ptr, List.map_cons, List.map_nil, List.nil_append, List.append_assoc, List.cons_append, Nat.add_assoc]
   refine ⟨by kernel_rfl, AC.mono hdr ?_⟩
   intro v6 G6 hQ
   obtain ⟨rfl, F6, f6, t6⟩ := hQ.fr
   have lN : (nmL (nameT ⟨1, foeS ++ x.text, []⟩ U)).length = 32 := rfl
   generalize hNd : nmL (nameT ⟨1, foeS ++ x.text, []⟩ U) = N at *
   have htN : (iv .u8 N).take 32 = iv .u8 N := List.take_of_length_le (by simp [lN])
   have hrow1 : setR (List.map (fun j => (iv .u8 (zl 32))[j % 32]?.getD undef) (List.range 32)) 0 (iv .u8 N) = iv .u8 N := setR_all _ _ (by simp [lN])
   have hbF : ∀ j ∈ Fb, j < G.length := ho5.lt
   have ho6 : OwnF G6 av 41 32 (kr all) Fb := ho5.low (fun j hj => f6.out j (hbF j hj) (hd5 j hj))
   have hK32 : K32 all := fun k hk => (ds5.k k hk).2.1
   have hkr := kr_len hK32
   have hxc : xcells 32 (.slice (some ⟨G6.length, 0, none⟩) 1 1) (G6 ++ [some ⟨iv .u8 N, 41, some 32⟩]) = some (iv .u8 N) := by
    simp [xcells, hget_app0, lN, htN]
   obtain ⟨v1, G7, Fc, hap, ho7, hl7, hk7, hFc⟩ := ownF_appQ (P := Tryd.prog) (nro := H.length) (t := 34) (e := 41) (H := G6 ++ [some ⟨iv .u8 N, 41, some 32⟩]) (v := av) (x := .slice (some ⟨G6.length, 0, none⟩) 1 1) (sz := 32) (cells := kr all) (news := iv .u8 N) (F := Fb) (by kernel_rfl) (by kernel_rfl) (by omega) (by kernel_rfl)
    (ho6.low (fun j hj => hget_left (ho6.lt j hj))) (fun j hj => hF5 j (by simp [hj])) (fun s e => by cases e) hxc (by simp [lN]) (by rw [hkr, show byt Tryd.prog 41 = 32 by kernel_rfl]; simp [lN]; omega) (by rw [hkr]; simp [lN, maxLen]; omega)
   have n1 := ownF_nt ho7
   have hl7' : G6.length + 1 ≤ G7.length := by simpa using hl7
   try simp (disch := first | omega | (simp only [lnS]; try omega)) [-getElem?_pos, -getElem?_neg, lN, htN, hrow1, hpl, -notTuple, ant.1, n1.1, n1.2, -xappend, hap]
   refine hK _ _ ?_; clear hK K
   (refine aoo fun K hK => ?_; simp (disch := first | omega | (simp only [lnS]; try omega)) [-getElem?_pos, -getElem?_neg, a7]; refine hK _ _ ?_; clear hK K)
   have hbd : ∀ j ∈ Fb, j ∉ F6 := fun j hj e => by
    rcases f6.new j e with e2 | e2
    ·exact hd5 j hj e2
    ·have := hbF j hj; omega
   have out7 : ∀ j, j < G6.length → j ∉ Fb → hget G7 j = hget G6 j := fun j hj hn => (hk7 j (by simp; omega) hn).trans (hget_left hj)
   refine ⟨q - 1, by omega, i + 1, F6, Fc, v1, by omega, by (first | (simp [a0]; done) | rfl), by (first | (simp [a3]; done) | rfl), by (first | (simp [a5]; done) | rfl), by (first | (simp; done) | rfl), by (first | (simp; done) | rfl), ⟨by have := f5.len; have := f6.len; omega, fun j hj hn => ?_, fun j hj => ?_⟩, ?_, ?_, fun j hj e => ?_, ?_⟩
   ·have hj5 : j ∉ F5 ++ Fb := fun e => by
     rcases f5.new j e with e2 | e2
     ·exact hn e2
     ·omega
    have hjG : j < G.length := by have := f5.len; omega
    have a1 : j ∉ F5 := fun e => hj5 (by simp [e])
    have a2 : j ∉ Fb := fun e => hj5 (by simp [e])
    rw [out7 j (by have := f6.len; omega) a2, f6.out j hjG a1]
    exact f5.out j hj hn
   ·rcases List.mem_append.1 hj with e | e
    ·rcases f6.new j e with e2 | e2
     ·exact f5.new j (by simp [e2])
     ·have := f5.len; exact .inr (by omega)
    ·have := hFc j e
     simp at this
     have := f5.len; have := f6.len
     exact .inr (by omega)
   ·rw [htk]
    exact t6.low (fun j hj => out7 j (t6.bound j hj) (fun e => hbd j e hj)) (by omega)
   ·rw [htk]
    show OwnF G7 v1 _ 32 (kr (all ++ [N])) Fc
    rw [kr_app, kr_one]
    exact ho7
   ·have := hFc j hj
    have := t6.bound j e
    simp at *
    omega
   ·rw [htk]
    exact ds6
  ·rw [if_neg h2] at htk ds6
   (refine aoo fun K hK => ?_; simp (disch := first | omega | (simp only [lnS]; try omega)) [-getElem?_pos, -getElem?_neg, a0, a7, -xload, p3, -notTuple, vnt, -xindexAddr, p1, h2]; refine hK _ _ ?_; clear hK K)
   refine aw_f (by (first | (simp; done) | (simp; omega))) (by kernel_rfl) ?_
   refine aw_skip ?_
   (refine aoo fun K hK => ?_; simp (disch := first | omega | (simp only [lnS]; try omega)) [-getElem?_pos, -getElem?_neg, a7]; refine hK _ _ ?_; clear hK K)
   exact ⟨q - 1, by omega, i + 1, F5, Fb, av, by omega, by (first | (simp [a0]; done) | rfl), by (first | (simp [a3]; done) | rfl), by (first | (simp [a5]; done) | rfl), by (first | (simp [a6]; done) | rfl), by (first | (simp; done) | rfl), f5, by rw [htk]; exact t5, by rw [htk]; exact ho5, hd5, by rw [htk]; exact ds6⟩
 ·obtain rfl : i = L.length := by omega
  rw [List.take_of_length_le (Nat.le_refl _)] at t5 ho5 ds5
  have hdm := ds5.m
  have hdl := ds5.l
  generalize drawM L (T, sSeen) = D at *
  obtain ⟨U, all⟩ := D
  simp only at t5 ho5 ds5 hdm hdl
  obtain ⟨tw, fmade, fa, fb⟩ := follows_all hLo h60 hms ds5 (by omega)
  have hfo := follow_ac (nro := H.length) (γ := γ) (hpw.low lw5) t5 lw5.2 tw (kr_ksv ho5 (fun k hk => (ds5.k k hk).2.1)) (fun k hk => (ds5.k k hk).2.1) (fun k hk => (ds5.k k hk).2.2) (by omega)
  (refine aoo fun K hK => ?_; simp (disch := first | omega | (simp only [lnS]; try omega)) [-getElem?_pos, -getElem?_neg, a0, a7, -notTuple, vnt, vcs, -xlen, vln]; refine hK _ _ ?_; clear hK K)
  refine aw_f (by (first | (simp; done) | (simp; omega))) (by kernel_rfl) ?_
  refine aw_exit (aw_seq ?_)
  refine aoo fun K hK => ?_
  simp (disch := first | omega | (simp only [lnS]; try omega)) [-getElem?_pos, -getElem?_neg, a3, a6, -xload, ldT, -notTuple, ant.1]
  refine ⟨by kernel_rfl, AC.mono hfo ?_⟩
  rintro v8 G8 ⟨kx, kb, rfl, lw8, g1, g2, hkx, hkb⟩
  have xF5 : kx ∉ F5 := fun e => by have := t5.bound _ e; omega
  have bF5 : kb ∉ F5 := fun e => by have := t5.bound _ e; omega
  try simp (disch := first | omega | (simp only [lnS]; try omega)) [-getElem?_pos, -getElem?_neg]
  refine hK _ _ ?_; clear hK K
  have lU := fol_len U all
  generalize folL U all = C at *
  have lw8H : Low H.length H G8 := ⟨fun j hj => (lw8.1 j (by have := lw5.2; omega)).trans (lw5.1 j hj), by have := lw5.2; have := lw8.2; omega⟩
  have f8 : Fr G3 G8 F3 (F5 ++ Fb) := f5.trans (low_fr _ lw8)
  have t8 : Tbl G8 tb F5 U := t5.low (fun j hj => lw8.1 j (t5.bound j hj)) lw8.2
  have hmv := (k3.fr f8).now
  obtain ⟨mnt', mcs', mln, mat⟩ := hmv.acc (fun k hk => (mo.k k hk).1)
  have hmm := mo.m
  have gT8 := (lw8.1 n (hget_lt gT5)).trans gT5
  have ldT8 := ld_tb gT8
  have lw3' := lw8H
  have e0 := a3
  refine aw_seq (aw_seq ?_)
  (refine aoo fun K hK => ?_; simp (disch := first | omega | (simp only [lnS]; try omega)) [-getElem?_pos, -getElem?_neg]; refine hK _ _ ?_; clear hK K)
  refine aw_block ?_
  refine aw_loop (fun q α G => ∃ i : Nat, i + q = made.length ∧ α 3 = .pointer (some ⟨n, 0, none⟩) ∧ α 5 = mv ∧ α 8 = .func (.func 44) #[] #[.pointer (some ⟨kx, 0, none⟩)] ∧ α 9 = .int .i64 (i : Nat) ∧ G = G8) made.length ?_ ?_
  ·exact ⟨0, by omega, by (first | (simp [a3]; done) | rfl), by (first | (simp [a5]; done) | rfl), by (first | (simp; done) | rfl), by (first | (simp; done) | rfl), rfl⟩
  clear a0 a3 a5 a6 a7 e0
  rintro q α G9 ⟨j, hjq, a3, a5, a8, a9, rfl⟩
  refine aw_seq (aw_seq ?_)
  by_cases hj : j < made.length
  ·have hj' : (j : Int) < made.length := by omega
   obtain ⟨p, y, p1, p2, p3, rfl, p4⟩ := mat j hj
   have p5 := p4 G9 (Low.refl (Nat.le_refl _))
   have hmem : made.getD j [] ∈ made := by rw [List.getD_eq_getElem?_getD, List.getElem?_eq_getElem hj]; exact List.getElem_mem _
   have hk32 := mo.k _ hmem
   have hf1 := fol1_rc (γ := γ) g1 g2 lU (by omega) hk32.1 hk32.2
   rw [fmade _ hmem] at hf1
   generalize made.getD j [] = Y at *
   (refine aoo fun K hK => ?_; simp (disch := first | omega | (simp only [lnS]; try omega)) [-getElem?_pos, -getElem?_neg, a5, a9, -notTuple, mnt.1, -xlen, mln, hj']; refine hK _ _ ?_; clear hK K)
   refine aw_t (by (first | (simp; done) | (simp; omega))) (by kernel_rfl) ?_
   refine aw_skip (aw_seq ?_)
   refine aw_block ?_
   refine aw_seq (aoo fun K hK => ?_)
   simp (disch := first | omega | (simp only [lnS]; try omega)) [-getElem?_pos, -getElem?_neg, a5, a8, a9, -xload, p5, -notTuple, mnt.1, p1, p3, -xindexAddr, p2]
   refine ⟨by kernel_rfl, ac_of_rc hf1 (by simp [pv_iv, pv_int, pv_bool, pv_string, pv_tup2, pv_tup3, iv_plain, p2_int, p2_bool, p2_string]) ?_⟩
   try simp (disch := first | omega | (simp only [lnS]; try omega)) [-getElem?_pos, -getElem?_neg]
   refine hK _ _ ?_; clear hK K
   refine aw_f (by (first | (simp; done) | (simp; omega))) (by kernel_rfl) ?_
   refine aw_skip ?_
   (refine aoo fun K hK => ?_; simp (disch := first | omega | (simp only [lnS]; try omega)) [-getElem?_pos, -getElem?_neg, a9]; refine hK _ _ ?_; clear hK K)
   exact ⟨q - 1, by omega, j + 1, by omega, by (first | (simp [a3]; done) | rfl), by (first | (simp [a5]; done) | rfl), by (first | (simp [a8]; done) | rfl), by (first | (simp; done) | rfl), rfl⟩
  ·(refine aoo fun K hK => ?_; simp (disch := first | omega | (simp only [lnS]; try omega)) [-getElem?_pos, -getElem?_neg, a5, a9, -notTuple, mnt.1, -xlen, mln, hj]; refine hK _ _ ?_; clear hK K)
   refine aw_f (by (first | (simp; done) | (simp; omega))) (by kernel_rfl) ?_
   refine aw_exit ?_
   have oA := add_old sA_wf ds5.t.wf ds5.t.nd ds5.t.t0
   have oB := add_old sB'_wf ds5.t.wf ds5.t.nd ds5.t.t1
   have hdA := draw_ac (nro := H.length) (γ := γ) (s := ⟨#[97]⟩) (hpw.low lw8H) t8 (fun j hj => hF5 j (by simp [hj])) lw8H.2 (by decide) (by omega)
   refine aw_seq (aoo fun K hK => ?_)
   simp (disch := first | omega | (simp only [lnS]; try omega)) [-getElem?_pos, -getElem?_neg]
   refine ⟨by kernel_rfl, ac_of_rc (hal _ (hpw.low lw8H)) (by simp [pv_iv, pv_int, pv_bool, pv_string, pv_tup2, pv_tup3, iv_plain, p2_int, p2_bool, p2_string]) ?_⟩
   try simp (disch := first | omega | (simp only [lnS]; try omega)) [-getElem?_pos, -getElem?_neg, a3, a8, -xload, ldT8, -notTuple]
   refine ⟨by kernel_rfl, AC.mono hdA ?_⟩
   intro vA GA hQ
   obtain ⟨rfl, F9, f9, t9⟩ := hQ.fr
   rw [show addT ⟨1, ⟨#[97]⟩, []⟩ U = U from oA.1] at t9
   have hn0 : nmL (nameT ⟨1, ⟨#[97]⟩, []⟩ U : Nat) = n0 := by rw [show nameT ⟨1, ⟨#[97]⟩, []⟩ U = 0 from oA.2]; rfl
   rw [hn0]
   have g1A := (f9.out kx (hget_lt g1) xF5).trans g1
   have g2A := (f9.out kb (hget_lt g2) bF5).trans g2
   have gTA := (f9.out n (hget_lt gT8) (fun e => nF5 (by simp [e]))).trans gT8
   have ldTA := ld_tb gTA
   have hF5' : ∀ j ∈ F5, H.length ≤ j := fun j hj => hF5 j (by simp [hj])
   have lwA : Low H.length H GA := lowFr lw8H hF5' f9
   have hF9 : ∀ j ∈ F9, H.length ≤ j := f9.lo hF5' lw8H.2
   have xF9 : kx ∉ F9 := fun e => by
    rcases f9.new kx e with e2 | e2
    ·exact xF5 e2
    ·have := hget_lt g1; omega
   have bF9 : kb ∉ F9 := fun e => by
    rcases f9.new kb e with e2 | e2
    ·exact bF5 e2
    ·have := hget_lt g2; omega
   have hfA := fol1_rc (γ := γ) g1A g2A lU (by omega) (k := n0) rfl n0_by
   rw [fa] at hfA
   refine ⟨by kernel_rfl, ac_of_rc hfA (by simp [pv_iv, pv_int, pv_bool, pv_string, pv_tup2, pv_tup3, iv_plain, p2_int, p2_bool, p2_string]) ?_⟩
   have hdB := draw_ac (nro := H.length) (γ := γ) (s := ⟨#[98]⟩) (hpw.low lwA) t9 hF9 lwA.2 (by decide) (by omega)
   try simp (disch := first | omega | (simp only [lnS]; try omega)) [-getElem?_pos, -getElem?_neg, a3, a8, -xload, ldTA, -notTuple]
   refine ⟨by kernel_rfl, AC.mono hdB ?_⟩
   intro vB GB hQB
   obtain ⟨rfl, FB, fB, tB⟩ := hQB.fr
   have hn1 : nmL (nameT ⟨1, ⟨#[98]⟩, []⟩ U : Nat) = n1 := by rw [show nameT ⟨1, ⟨#[98]⟩, []⟩ U = 1 from oB.2]; rfl
   rw [hn1]
   have g1B := (fB.out kx (hget_lt g1A) xF9).trans g1A
   have g2B := (fB.out kb (hget_lt g2A) bF9).trans g2A
   have hfB := fol1_rc (γ := γ) g1B g2B lU (by omega) (k := n1) rfl n1_by
   rw [fb] at hfB
   refine ⟨by kernel_rfl, ac_of_rc hfB (by simp [pv_iv, pv_int, pv_bool, pv_string, pv_tup2, pv_tup3, iv_plain, p2_int, p2_bool, p2_string]) ?_⟩
   try simp (disch := first | omega | (simp only [lnS]; try omega)) [-getElem?_pos, -getElem?_neg, -notTuple]
   refine hK _ _ ?_; clear hK K
   (refine aw_ret ?_; simp (disch := first | omega | (simp only [lnS]; try omega)) [-getElem?_pos, -getElem?_neg, thenQ_ret, scopeQ_ret, inBlockQ_ret, RQ, resL, resV])
theorem follows_in {γ : Nat → Option Nat} {H : AH} (hpw : Pw γ H) {ds : List CD} {u : Value} (ok : OkL [CK.sl cookK] ds) (vl : ValL H ds [u]) : AC Tryd.prog H.length γ 5 #[u] H (fun v' _ => v' = .bool true) := by
 obtain ⟨d, r, rfl, o1, o2⟩ := ok.cons
 obtain rfl := o2.nil
 obtain ⟨L, rfl, hL, hm⟩ := cooks_of o1
 obtain ⟨u0, r0, e, v0, n0'⟩ := vl.cons
 obtain rfl := n0'.nil
 cases e
 exact follows_law hpw v0 hL hm
end
end
end Go.Proofs.YtlaglpnbmkoakaaDoor
