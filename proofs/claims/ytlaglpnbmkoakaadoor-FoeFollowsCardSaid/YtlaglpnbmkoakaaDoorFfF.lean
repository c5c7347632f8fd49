/-
  A search's beginning: the users' map.
-/
import Derived.Test.YtlaglpnbmkoakaaDoorFfE
import Derived.Test.YtlaglpnbmkoakaaDoorFfD
import Derived.Test.YtlaglpnbmkoakaaDoorFfC
namespace Go.Proofs.YtlaglpnbmkoakaaDoor
open Go Go.RowKit
set_option linter.unusedSimpArgs false
set_option linter.unusedVariables false
set_option maxRecDepth 100000
set_option maxHeartbeats 8000000
section
theorem usersF_snoc (k : List Int) (x : TermD) : ∀ (T : List TermD) (n : Nat), usersF k n (T ++ [x]) = usersF k n T ++ (x.keys.filter (· = k)).map (fun _ => n + T.length)
 | [], n => by simp [usersF]
 | y :: T, n => by
  show _ ++ usersF k (n + 1) (T ++ [x]) = (_ ++ usersF k (n + 1) T) ++ _
  rw [usersF_snoc k x T (n + 1), List.append_assoc, List.length_cons, show n + 1 + T.length = n + (T.length + 1) by omega]
def usP (T : List TermD) (i : Nat) (ks : List (List Int)) (j : Nat) (k : List Int) : List Nat := usersF k 0 (T.take i) ++ ((ks.take j).filter (· = k)).map (fun _ => i)
theorem usP_zero (T : List TermD) (i : Nat) (ks : List (List Int)) (k : List Int) : usP T i ks 0 k = usersF k 0 (T.take i) := by simp [usP]
theorem usP_all {T : List TermD} {i : Nat} {x : TermD} (h : T[i]? = some x) (k : List Int) : usP T i x.keys x.keys.length k = usersF k 0 (T.take (i + 1)) := by
 have hl := (List.getElem?_eq_some_iff.1 h).1
 unfold usP
 rw [List.take_length, List.take_add_one, h, Option.toList, usersF_snoc, List.length_take, Nat.min_eq_left (by omega), Nat.zero_add]
theorem usP_succ {T : List TermD} {i j : Nat} {ks : List (List Int)} (hj : j < ks.length) (k : List Int) : usP T i ks (j + 1) k = if k = ks.getD j [] then usP T i ks j k ++ [i] else usP T i ks j k := by
 unfold usP
 rw [List.take_add_one, List.filter_append, List.map_append, ← List.append_assoc, List.getElem?_eq_getElem hj, List.getD_eq_getElem?_getD, List.getElem?_eq_getElem hj, Option.toList, Option.getD_some]
 by_cases e : k = ks[j]
 ·rw [if_pos e]
  simp [e]
 ·rw [if_neg e]
  simp [Ne.symm e]
theorem usP_len {T : List TermD} (hT : T.length ≤ 1000000) (hw : ∀ x ∈ T, x.Wf) {i : Nat} {x : TermD} (h : T[i]? = some x) {j : Nat} (k : List Int) : (usP T i x.keys j k).length ≤ 1000001000000 := by
 have h1 := users_len (k := k) (n := 0) (M := 1000000) (T := T.take i) (fun y hy => (hw y (List.mem_of_mem_take hy)).many)
 have h2 : (T.take i).length * 1000000 ≤ 1000000 * 1000000 := Nat.mul_le_mul_right _ (by rw [List.length_take]; omega)
 have h3 : ((x.keys.take j).filter (· = k)).length ≤ x.keys.length := Nat.le_trans (List.length_filter_le _ _) (by rw [List.length_take]; omega)
 have h4 := (hw x (List.mem_of_getElem? h)).many
 unfold usP
 rw [List.length_append, List.length_map]
 omega
def UsI (m : Nat) (G : AH) (U : List (List Int × Value)) (P : List Int → List Nat) : Prop :=
 (∀ p ∈ U, p.1.length = 32) ∧ ∃ fu : List Int → List Nat, (∀ k, k.length = 32 → Tdo G (ul k U) (P k) (fu k) ∧ ∀ j ∈ fu k, m ≤ j) ∧ ∀ k k' : List Int, k.length = 32 → k'.length = 32 → k ≠ k' → ∀ j ∈ fu k, j ∉ fu k'
theorem UsI.low {m : Nat} {G G' : AH} {U : List (List Int × Value)} {P : List Int → List Nat} (h : UsI m G U P) (hl : ∀ j, m ≤ j → j < G.length → hget G' j = hget G j) : UsI m G' U P := by
 obtain ⟨h1, fu, h2, h3⟩ := h
 exact ⟨h1, fu, fun k hk => ⟨(h2 k hk).1.low (fun j hj => hl j ((h2 k hk).2 j hj) ((h2 k hk).1.nt.2.2.1 j hj)), (h2 k hk).2⟩, h3⟩
theorem UsI.eq {m : Nat} {G : AH} {U : List (List Int × Value)} {P P' : List Int → List Nat} (h : UsI m G U P) (e : ∀ k, P k = P' k) : UsI m G U P' := by
 have : P = P' := funext e
 exact this ▸ h
theorem UsI.push {nro m ub i : Nat} {G1 : AH} {U : List (List Int × Value)} {P : List Int → List Nat} {k0 : List Int} (h : UsI m G1 U P) (hk0 : k0.length = 32) (hub : ub < m) (hm : m ≤ G1.length) (hn : nro ≤ ub) (hu : hget G1 ub = some (mblk 86 (uE U))) (hP : (P k0).length ≤ 1000001000000) :
  ∃ (uv v' : Value) (idx : Nat) (G2 : AH) (E1 : List (Value × Value)), uv = ul k0 U ∧ notTuple uv = true ∧
   xmapEnt Tryd.prog nro 86 (.map (some ub)) (.agg (iv .u8 k0).toArray) (G1 ++ [some ⟨[.int .i64 (i : Nat)], 3, some 1⟩]) = some (.tuple #[uv, .int .i64 (idx : Nat)], List.set G1 ub (some (mblk 86 E1)) ++ [some ⟨[.int .i64 (i : Nat)], 3, some 1⟩]) ∧
   xappend Tryd.prog nro 39 uv (.slice (some ⟨G1.length, 0, none⟩) 1 1) (List.set G1 ub (some (mblk 86 E1)) ++ [some ⟨[.int .i64 (i : Nat)], 3, some 1⟩]) = some (v', G2) ∧ notTuple v' = true ∧ v'.cells = #[v'] ∧
   xentSt nro (.map (some ub)) (.int .i64 (idx : Nat)) v' G2 = some (undef, G2.set ub (some (mblk 86 (uE (uput k0 v' U))))) ∧
   G2.length = G1.length + 2 ∧ UsI m (G2.set ub (some (mblk 86 (uE (uput k0 v' U))))) (uput k0 v' U) (fun k => if k = k0 then P k ++ [i] else P k) ∧
   (∀ j, j < m → j ≠ ub → hget (G2.set ub (some (mblk 86 (uE (uput k0 v' U))))) j = hget G1 j) := by
 obtain ⟨hU, fu, hf, hd⟩ := h
 obtain ⟨ht, htm⟩ := hf k0 hk0
 have hul := hget_lt hu
 obtain ⟨R, hR⟩ : ∃ R : Option Blk, R = some ⟨[.int .i64 (i : Nat)], 3, some 1⟩ := ⟨_, rfl⟩
 obtain ⟨idx, E1, he, hs⟩ := us_entry (nro := nro) (H := G1 ++ [R]) ((hget_left hul).trans hu) hn hU hk0
 have hset : (G1 ++ [R]).set ub (some (mblk 86 E1)) = List.set G1 ub (some (mblk 86 E1)) ++ [R] := List.set_append_left _ _ hul
 rw [hset] at he
 obtain ⟨A, hA⟩ : ∃ A : AH, A = List.set G1 ub (some (mblk 86 E1)) := ⟨_, rfl⟩
 have hAl : A.length = G1.length := by rw [hA]; simp
 have hAj : ∀ j, j ≠ ub → hget A j = hget G1 j := fun j hj => by rw [hA, hget_set_ne (Ne.symm hj)]
 have hAu : hget A ub = some (mblk 86 E1) := by rw [hA, hget_set_eq hul]
 have ht2 : Tdo A (ul k0 U) (P k0) (fu k0) := ht.low (fun j hj => hAj j (by have := htm j hj; omega))
 obtain ⟨v', G2, hap, ht3, hn2, hc2, hl2, hk2⟩ := tdo_push (nro := nro) ht2 (fun j hj => by have := htm j hj; omega) i (by omega)
 rw [hAl, ← hR] at hap
 rw [hAl] at ht3 hl2 hk2
 have h2u : hget G2 ub = some (mblk 86 E1) := (hk2 ub (by omega) (fun e => by have := htm ub e; omega)).trans hAu
 have l2u := hget_lt h2u
 have hst := hs G2 v' h2u hn2
 rw [← hA] at he
 refine ⟨ul k0 U, v', idx, G2, E1, rfl, ht.nt.1, by rw [← hR, ← hA]; exact he, by rw [← hR, ← hA]; exact hap, hn2, hc2, hst, hl2, ⟨uput_len hk0 hU, fun k => if k = k0 then [G1.length + 1] else fu k, fun k hk => ?_, fun k k' hk hk' hne j hj hj' => ?_⟩, fun j hj hne => ?_⟩
 ·rw [ul_uput]
  by_cases e : k = k0
  ·subst e
   simp only [if_pos]
   refine ⟨ht3.low (fun j hj => hget_set_ne (by rw [List.mem_singleton.1 hj]; omega)), fun j hj => by rw [List.mem_singleton.1 hj]; omega⟩
  ·simp only [if_neg e]
   obtain ⟨g1, g2⟩ := hf k hk
   refine ⟨g1.low (fun j hj => ?_), g2⟩
   have hjl := g1.nt.2.2.1 j hj
   have hjm := g2 j hj
   rw [hget_set_ne (by omega), hk2 j hjl (fun e2 => hd k k0 hk hk0 e j hj e2), hAj j (by omega)]
 ·simp only at hj hj'
  by_cases e : k = k0
  ·rw [if_pos e] at hj
   rw [if_neg (fun e2 => hne (e.trans e2.symm))] at hj'
   have := (hf k' hk').1.nt.2.2.1 j hj'
   have := List.mem_singleton.1 hj
   omega
  ·rw [if_neg e] at hj
   by_cases e2 : k' = k0
   ·rw [if_pos e2] at hj'
    have := (hf k hk).1.nt.2.2.1 j hj
    have := List.mem_singleton.1 hj'
    omega
   ·rw [if_neg e2] at hj'
    exact hd k k' hk hk' hne j hj hj'
 ·rw [hget_set_ne (Ne.symm hne), hk2 j (by omega) (fun e => by have := htm j e; omega), hAj j hne]
end
section
attribute [local simp] wb_bool wb_undef with_lit XL_nil XL_cons XLc_val XLc_call step1_eq stepW_t stepW_f stepC_n stepC_s stepX_s stepX_n stepN_s calleeX xrecv oneV xop_eq xopR_s xopR_n wantedA_eq wantedG_n wantedG_s plain1_int plain1_bool plain1_string bits_i64 bits_u64 bits_u32 bits_u16 bits_u8 xeqA xagg xcmp xarr allK_iv num_iv calleeOf xread xeff xbin xint xnil xun xstr xload xconv xpart xfield xfieldAddr xindexAddr xindex bnd asInt? xslice xlen xmin xmax xbuild xfill xappend xapp2 xappstr xappmk xcap xcopy xcells eval_tmp eval_const put_at put_none fr0_at cells_agg cells_int cells_bool cells_string cells_ptr cells_slice notTuple tab iv_all hget_app hget_app0 hget_cons0 hget_cons set_app set_app0 setR setR_one QL_nil QL_cons QLc_val stepQ_t stepQ_f stepQC_n stepQC_s stepQX_s SL_nil SL_cons SLc_val stepS_t stepS_f ltT ltF leT leF eqT eqF ltTn ltFn leTn leFn eqTn eqFn beqT beqF bneT bneF wi64 wu64 wu32 wu16 wu8 tmodP tdivP hgetL hgetNe hgetEq setL nums_def nums_len Nat.succ_le_of_lt List.getElem?_cons_zero List.getElem?_cons_succ Option.getD_some Int.toNat_add Int.toNat_mul agM okM agB agI agS agP agL agA okB okI okS okP okSl okA nt_strG nt_boolG nt_aggG nt_intG nt_ptrG nt_slG XO_s XO_z XLk_val XLk_call headsO behind List.length_cons List.length_nil List.mem_cons List.not_mem_nil or_false forall_eq_or_imp forall_eq List.contains_cons List.contains_nil XOm
section
theorem zero_bools (n : Nat) : ((List.range n).map fun j => [Value.bool false][j % 1]?.getD undef) = bsC (List.replicate n false) := by
 have e : (fun j : Nat => [Value.bool false][j % 1]?.getD undef) = fun _ => Value.bool false := by
  funext j
  rw [Nat.mod_one]; rfl
 rw [e, List.map_const', List.length_range]
 simp [bsC]
theorem headsO_ex {i : Nat} : ∀ {os : List (List Nat)}, i ∈ headsO os → ∃ o, (i :: o) ∈ os
 | [] :: os, h => by
  unfold headsO at h
  obtain ⟨o, ho⟩ := headsO_ex (os := os) h
  exact ⟨o, by simp [ho]⟩
 | (j :: l) :: os, h => by
  unfold headsO at h
  split at h
  ·obtain ⟨o, ho⟩ := headsO_ex (os := os) h
   exact ⟨o, by simp [ho]⟩
  ·rcases List.mem_cons.1 h with rfl | h
   ·exact ⟨l, by simp⟩
   ·obtain ⟨o, ho⟩ := headsO_ex (os := os) h
    exact ⟨o, by simp [ho]⟩
theorem behind_of {i : Nat} {o : List Nat} : ∀ {os : List (List Nat)}, (i :: o) ∈ os → o ∈ behind i os
 | [] :: os, h => by
  rcases List.mem_cons.1 h with h | h
  ·cases h
  ·simp only [behind]
   exact behind_of h
 | (j :: l) :: os, h => by
  simp only [behind]
  rcases List.mem_cons.1 h with h | h
  ·cases h
   simp
  ·split
   ·exact List.mem_cons_of_mem _ (behind_of h)
   ·exact behind_of h
theorem name_fm {K : Fm → Prop} {α : Fm} (h : ∀ β, β = α → K β) : K α := h α rfl
def XOk (P : Program) (nro n : Nat) (γ : Nat → Option Nat) (ops : Array Oper) (l : List Oper) (i : Nat) (α : Fm) (G : AH) (k : Fm → AH → Prop) : Prop := match l[i]? with
 | none => False
 | some o => XLk P nro γ (step1 P nro n γ ops o α G) o.dst α G k
theorem xo_run {P : Program} {nro n : Nat} {γ : Nat → Option Nat} {ops : Array Oper} {K : Fm → AH → Prop} {l : List Oper} {okI : List Nat → Nat → Bool} {ALL : List Nat} {J : List Nat → Fm → AH → Prop}
  (hs : ∀ (i : Nat) (D : List Nat) (α : Fm) (G : AH) (k : Fm → AH → Prop), J D α G → okI D i = true → (∀ α' G', J (i :: D) α' G' → k α' G') → XOk P nro n γ ops l i α G k)
  (hK : ∀ (E : List Nat) (α : Fm) (G : AH), J E α G → (∀ k ∈ ALL, k ∈ E) → K α G) :
  ∀ (F : Nat) (os : List (List Nat)) (D : List Nat) (α : Fm) (G : AH), os ≠ [] → (∀ o ∈ os, o.length = F ∧ okAll okI D o = true ∧ ∀ k ∈ ALL, k ∈ D ∨ k ∈ o) → J D α G → XO P nro n γ ops K l F os α G
 | 0, os, D, α, G, hne, ho, h => by
  obtain ⟨o, hm⟩ := List.exists_mem_of_ne_nil os hne
  obtain ⟨h1, _, h3⟩ := ho o hm
  have : o = [] := List.eq_nil_of_length_eq_zero h1
  subst this
  exact hK D α G h (fun k hk => (h3 k hk).elim id (fun e => by cases e))
 | F + 1, os, D, α, G, hne, ho, h => by
  rw [XO_s]
  intro i hi
  obtain ⟨o, hm⟩ := headsO_ex hi
  have hoi := (ho _ hm).2.1
  simp only [okAll, Bool.and_eq_true] at hoi
  have := hs i D α G (XO P nro n γ ops K l F (behind i os)) h hoi.1 fun α' G' h' => xo_run hs hK F (behind i os) (i :: D) α' G' (fun e => ?_) (fun r hr => ?_) h'
  ·exact this
  ·have := behind_of hm
   rw [e] at this
   cases this
  ·obtain ⟨g1, g2, g3⟩ := ho _ (behind_mem hr)
   simp only [okAll, Bool.and_eq_true] at g2
   refine ⟨by simpa using g1, g2.2, fun k hk => ?_⟩
   rcases g3 k hk with e | e
   ·exact .inl (by simp [e])
   ·rcases List.mem_cons.1 e with e | e
    ·exact .inl (by simp [e])
    ·exact .inr e
theorem SL_hide {P : Program} {n : Nat} {γ : Nat → Option Nat} {ops : Array Oper} {H : AH} {rest : List Oper} {α : Fm} {K0 : Fm → Prop} (h : ∀ KK : Fm → Prop, (∀ α', K0 α' → KK α') → SL P n γ ops KK H rest α) : SL P n γ ops K0 H rest α := h K0 (fun _ h => h)
def okE (D : List Nat) (i : Nat) : Bool := match i with
 | 3 => !(D.contains 7) && !(D.contains 9) && !(D.contains 11)
 | 4 => !(D.contains 7) && !(D.contains 9) && !(D.contains 11)
 | 6 => !(D.contains 6) && !(D.contains 7) && !(D.contains 9) && !(D.contains 11)
 | 7 => D.contains 3 && D.contains 4 && D.contains 6 && !(D.contains 7) && !(D.contains 9) && !(D.contains 11)
 | 8 => D.contains 7
 | 9 => D.contains 6 && D.contains 7 && D.contains 8 && !(D.contains 9) && !(D.contains 11)
 | 10 => D.contains 7
 | 11 => D.contains 3 && D.contains 9 && D.contains 10 && !(D.contains 11)
 | _ => false
structure JE (β : Fm) (A1 Ar Am A2 Af : AH) (sb ub r : Nat) (z : List Int) (i idx : Nat) (uv v' : Value) (D : List Nat) (α : Fm) (G : AH) : Prop where
 lo : ∀ t, t < 48 → α t = β t
 h50 : α 50 = .pointer (some ⟨sb, 2, none⟩)
 h54 : α 54 = .int .i64 (i : Nat)
 h51 : 3 ∈ D → α 51 = .map (some ub)
 h52 : 4 ∈ D → α 52 = .agg (iv .u8 z).toArray
 h55 : 6 ∈ D → α 55 = .slice (some ⟨r, 0, none⟩) 1 1
 h56 : 7 ∈ D → α 56 = .tuple #[uv, .int .i64 (idx : Nat)]
 h53 : 8 ∈ D → α 53 = uv
 h57 : 9 ∈ D → α 57 = v'
 h58 : 10 ∈ D → α 58 = .int .i64 (idx : Nat)
 hG : G = if 11 ∈ D then Af else if 9 ∈ D then A2 else if 7 ∈ D then Am else if 6 ∈ D then Ar else A1
def BegQ (γ : Nat → Option Nat) (nro : Nat) (H : AH) (T : List TermD) (v' : Value) (H' : AH) : Prop :=
 ∃ (c : SrC) (F : List Nat), c.T = T ∧ v' = .pointer (some ⟨c.sb, 0, none⟩) ∧ Low H.length H H' ∧ SR γ nro H' c F (List.replicate T.length false, []) ∧ ∀ j ∈ F, H.length ≤ j
theorem begin_ac {nro : Nat} {γ : Nat → Option Nat} {H : AH} (hp : Pw γ H) {b : Nat} {F : List Nat} {T : List TermD} (h : Tbl H b F T) (hnH : nro ≤ H.length) (hT : T.length ≤ 1000000) :
  AC Tryd.prog nro γ 40 #[.pointer (some ⟨b, 0, none⟩)] H (BegQ γ nro H T) := by
 obtain ⟨mb, tv, Ft, Fk, L, rfl, hL, rfl, hFl⟩ := h
 obtain ⟨hl, hnt, hcs⟩ := hL.tvlen
 have hgb := hL.hb
 have hbl := hget_lt hgb
 rw [List.length_map] at hT
 have hwT : ∀ x ∈ L.map (·.2), x.Wf := fun x hx => by
  obtain ⟨p, hp, rfl⟩ := List.mem_map.1 hx
  exact hL.wf p hp
 have hlen := fun (N : AH) => tlen_rc (γ := γ) (H := H ++ N) ((hget_left hbl).trans hgb) hl hnt hcs
 have hmk : ∀ G : AH, xmakeMap Tryd.prog 86 none G = some (.map (some G.length), G ++ [some (mblk 86 (uE []))]) := fun G => by
  have h1 : und Tryd.prog 86 = .map 41 39 := by kernel_rfl
  unfold xmakeMap
  simp only [h1]
  rfl
 have hmkH := hmk H
 have hzb := zero_bools L.length
 have hnl : (L.length : Int) ≤ maxLen := by simp only [maxLen]; omega
 obtain ⟨G0, hG0⟩ : ∃ G0 : AH, G0 = H ++ [some (mblk 86 (uE [])), some ⟨bsC (List.replicate L.length false), 4, some 1⟩, some ⟨[tv, .map (some mb), .map (some H.length), .slice (some ⟨H.length + 1, 0, none⟩) L.length L.length, .slice none 0 0], 88, none⟩] := ⟨_, rfl⟩
 have g0 : hget G0 H.length = some (mblk 86 (uE [])) := by rw [hG0, hget_app0]; rfl
 have g1 : hget G0 (H.length + 1) = some ⟨bsC (List.replicate L.length false), 4, some 1⟩ := by rw [hG0, hget_app]; rfl
 have g2 : hget G0 (H.length + 2) = some ⟨[tv, .map (some mb), .map (some H.length), .slice (some ⟨H.length + 1, 0, none⟩) L.length L.length, .slice none 0 0], 88, none⟩ := by rw [hG0, hget_app]; rfl
 have gl : G0.length = H.length + 3 := by rw [hG0]; simp
 have lw0 : Low H.length H G0 := ⟨fun j hj => by rw [hG0]; exact hget_left hj, by omega⟩
 have hu0 : UsI (H.length + 3) G0 [] (usersF · 0 []) := ⟨by simp, fun _ => [], fun k hk => ⟨.inl ⟨rfl, rfl, rfl⟩, by simp⟩, fun k k' _ _ _ j hj => by cases hj⟩
 refine ac_of_aw Tryd.func40 rfl Tryd.ntmps40 Tryd.results40 (by simp) ?_
 (refine aw_seq (aoo fun K hK => ?_); simp (disch := first | omega | (simp only [lnS]; try omega)) [-getElem?_pos, -getElem?_neg]; refine hK _ _ ?_; clear hK K)
 refine aw_seq (aoo fun K hK => ?_)
 simp (disch := first | omega | (simp only [lnS]; try omega)) [-getElem?_pos, -getElem?_neg, hmkH]
 refine ⟨by kernel_rfl, ac_of_rc (hlen _) (by simp [pv_iv, pv_int, pv_bool, pv_string, pv_tup2, pv_tup3, iv_plain, p2_int, p2_bool, p2_string]) ?_⟩
 have p1 : plain1 (.slice none 0 0) = true := rfl
 have pm : plain1 (.map none) = true := rfl
 have mc : ∀ n : Option Nat, (Value.map n).cells = #[.map n] := fun _ => rfl
 try simp (disch := first | omega | (simp only [lnS]; try omega)) [-getElem?_pos, -getElem?_neg, hzb, hnl, p1, pm, mc, nt_mapG]
 refine hK _ _ ?_; clear hK K
 refine aw_seq (aw_seq ?_)
 (refine aoo fun K hK => ?_; simp (disch := first | omega | (simp only [lnS]; try omega)) [-getElem?_pos, -getElem?_neg]; refine hK _ _ ?_; clear hK K)
 refine aw_f (by (first | (simp; done) | (simp; omega))) (by kernel_rfl) ?_
 refine aw_skip (aw_seq ?_)
 obtain ⟨Ga, hGa⟩ : ∃ Ga : AH, Ga = H ++ [some (mblk 86 (uE [])), some ⟨bsC (List.replicate L.length false), 4, some 1⟩, some ⟨[.slice none 0 0, .map none, .map (some H.length), .slice (some ⟨H.length + 1, 0, none⟩) L.length L.length, .slice none 0 0], 88, none⟩] := ⟨_, rfl⟩
 have ga2 : hget Ga (H.length + 2) = some ⟨[.slice none 0 0, .map none, .map (some H.length), .slice (some ⟨H.length + 1, 0, none⟩) L.length L.length, .slice none 0 0], 88, none⟩ := by rw [hGa, hget_app]; rfl
 have gab : hget Ga b = some ⟨[tv, .map (some mb)], 76, none⟩ := by rw [hGa, hget_left hbl]; exact hgb
 have la2 := hget_lt ga2
 have hn2 : nro ≤ H.length + 2 := by omega
 have lab := hget_lt gab
 have hset : (Ga.set (H.length + 2) (some ⟨[tv, .map (some mb), .map (some H.length), .slice (some ⟨H.length + 1, 0, none⟩) L.length L.length, .slice none 0 0], 88, none⟩)) = G0 := by
  rw [hGa, hG0, List.set_append_right _ _ (by omega), Nat.add_sub_cancel_left]
  rfl
 rw [← hGa]
 clear hGa
 (refine aw_plan [] [1] [0, 2, 3, 4, 5, 6, 7, 8, 9, 10, 11] 12 4 (by kernel_rfl) (by kernel_rfl) (by kernel_rfl) (fun K hK => ?_)); simp only [sel, List.getElem?_cons_succ, List.getElem?_cons_zero, List.drop_succ_cons, List.drop_zero]; simp (disch := first | omega | (simp only [lnS]; try omega)) [-getElem?_pos, -getElem?_neg, ga2, gab, la2, lab, hn2, -notTuple, hnt, hcs, p1, pm, mc, nt_mapG, PL_nil, plainB_lit, PL_cons, PLc_val, PLc_new, stepP_t, stepP_f, stepPC_n, stepPC_s, stepPX_s, stepPX_n, stepPV_n, stepPV_s, stepPA_t, stepPA_c, stepPA_l, stepPN_s, allocOp, reloc_sl, reloc_ptr, List.map_cons, List.map_nil, List.nil_append, List.append_assoc, List.cons_append, Nat.add_assoc]
 rw [hset]
 refine hK _ _ ?_; clear hK K hset
 clear hG0
 refine aw_seq (aw_seq ?_)
 have lg2 := hget_lt g2
 (refine aoo fun K hK => ?_; simp (disch := first | omega | (simp only [lnS]; try omega)) [-getElem?_pos, -getElem?_neg, g2, lg2, -notTuple, hnt, -xlen, hl]; refine hK _ _ ?_; clear hK K)
 refine aw_block ?_
 refine aw_loop (fun q α G => ∃ (i : Nat) (U : List (List Int × Value)), i + q = L.length ∧ α 3 = .pointer (some ⟨H.length + 2, 0, none⟩) ∧ α 34 = tv ∧ α 35 = .int .i64 (L.length : Nat) ∧ α 36 = .int .i64 (i : Nat) ∧ H.length + 3 ≤ G.length ∧ (∀ j, j < H.length + 3 → j ≠ H.length → hget G j = hget G0 j) ∧ hget G H.length = some (mblk 86 (uE U)) ∧ UsI (H.length + 3) G U (usersF · 0 ((L.map (·.2)).take i))) L.length ?_ ?_
 ·exact ⟨0, [], by omega, by (first | (simp; done) | rfl), by (first | (simp; done) | rfl), by (first | (simp; done) | rfl), by (first | (simp; done) | rfl), by omega, fun j _ _ => rfl, g0, hu0⟩
 rintro q α G ⟨i, U, hiq, h3, h34, h35, h36, hGl, hGj, hGu, hUs⟩
 refine aw_seq ?_
 by_cases hi : i < L.length
 case neg =>
  (refine aoo fun K hK => ?_; simp (disch := first | omega | (simp only [lnS]; try omega)) [-getElem?_pos, -getElem?_neg, h35, h36, hi]; refine hK _ _ ?_; clear hK K)
  refine aw_seq ?_
  refine aw_f (by (first | (simp [hi]; done) | (simp [hi]; omega))) (by kernel_rfl) ?_
  refine aw_exit (aw_seq ?_)
  (refine aoo fun K hK => ?_; simp (disch := first | omega | (simp only [lnS]; try omega)) [-getElem?_pos, -getElem?_neg, h3]; refine hK _ _ ?_; clear hK K)
  (refine aw_ret ?_; simp (disch := first | omega | (simp only [lnS]; try omega)) [-getElem?_pos, -getElem?_neg, thenQ_ret, scopeQ_ret, inBlockQ_ret, RQ, resL, resV])
  obtain rfl : i = L.length := by omega
  have hlw : Low H.length H G := ⟨fun j hj => (hGj j (by omega) (by omega)).trans (lw0.1 j hj), by omega⟩
  rw [List.take_of_length_le (by simp)] at hUs
  obtain ⟨hU, fu, hf, hd⟩ := hUs
  have hS : ∀ j, j < G.length → j ≠ H.length + 2 → j ≠ H.length + 1 → j ∈ (List.range G.length).filter (fun j => decide (j ≠ H.length + 2 ∧ j ≠ H.length + 1)) := fun j h1 h2 h3 => by simp [h1, h2, h3]
  have hll := hlw.2
  have hSub := hS H.length (by omega) (by omega) (by omega)
  have hs2 := (hGj (H.length + 2) (by omega) (by omega)).trans g2
  have hs1 := (hGj (H.length + 1) (by omega) (by omega)).trans g1
  refine ⟨⟨H.length + 2, H.length + 1, mb, H.length, b, tv, (List.range G.length).filter (fun j => decide (j ≠ H.length + 2 ∧ j ≠ H.length + 1)), Ft, Fk, L, U⟩, [H.length + 2, H.length + 1], rfl, rfl, hlw, ⟨fun A hA => ?_, ⟨hL.low (fun j hj => hlw.1 j (hFl j hj)), fun j hj => ?_, hSub, hGu, hU, fun k hk => ⟨fu k, (hf k hk).1, fun j hj => ?_⟩⟩, ⟨.slice none 0 0, [], rfl, hs2, ?_, by simp, .inl ⟨rfl, rfl, rfl⟩, by show H.length + 2 ≠ H.length + 1; omega, by simp, by simp, ?_⟩, fun j hj => ?_, fun j hj => ?_, by omega, hT⟩, fun j hj => ?_⟩
  ·obtain ⟨i0, ty, e1, e2⟩ := hp
   have := hget_lt e2
   exact ⟨i0, ty, e1, (hA i0 (hS _ (by omega) (by omega) (by omega))).trans ((hlw.1 i0 this).trans e2)⟩
  ·have := hFl j hj
   exact hS j (by omega) (by omega) (by omega)
  ·have e1 := (hf k hk).2 j hj
   have e2 := (hf k hk).1.nt.2.2.1 j hj
   exact hS j e2 (by omega) (by omega)
  ·rw [List.length_map]
   exact hs1
  ·unfold muF
   simp
   exact hT
  ·have := List.mem_filter.1 hj
   have h1 := List.mem_range.1 this.1
   have h2 := of_decide_eq_true this.2
   exact ⟨by simp [h2.1, h2.2], h1⟩
  ·simp only [List.mem_cons, List.not_mem_nil, or_false] at hj
   omega
  ·simp only [List.mem_cons, List.not_mem_nil, or_false] at hj
   omega
 obtain ⟨⟨kv, x⟩, hpx⟩ : ∃ p, L[i]? = some p := ⟨_, List.getElem?_eq_getElem hi⟩
 have hmem := List.mem_of_getElem? hpx
 have hkn := hL.key_nt hmem
 have hw : x.Wf := hL.wf _ hmem
 obtain ⟨Fx, hox, hFx⟩ := hL.keys _ hmem
 have hKs : KsV H kv x.keys := kr_ksv hox hw.k32
 have hacc := hKs.acc hw.k32
 have hmk := hw.many
 have hlG : Low H.length H G := ⟨fun j hj => (hGj j (by omega) (by omega)).trans (lw0.1 j hj), by omega⟩
 obtain ⟨q1, a1, a2, a3⟩ := (hL.low (G := G) (fun j hj => hlG.1 j (hFl j hj))).at_ hpx
 have a3 : xload Tryd.prog 92 q1 G = some (.agg (tmRow kv x).toArray) := by simpa using a3 []
 have hpT : (L.map (·.2))[i]? = some x := by rw [List.getElem?_map, hpx]; rfl
 have r3 : List.range 3 = [0, 1, 2] := rfl
 have htm : tmRow kv x = [.int .i64 (x.kind : Nat), .string x.text, kv] := rfl
 rw [htm] at a3
 have hng : nro ≤ G.length := by omega
 (refine aoo fun K hK => ?_; simp (disch := first | omega | (simp only [lnS]; try omega)) [-getElem?_pos, -getElem?_neg, h35, h36, hi]; refine hK _ _ ?_; clear hK K)
 refine aw_seq ?_
 refine aw_t (by (first | (simp [hi]; done) | (simp [hi]; omega))) (by kernel_rfl) ?_
 refine aw_skip (aw_seq ?_)
 refine aw_block ?_
 (refine aw_seq (aoo fun K hK => ?_); simp (disch := first | omega | (simp only [lnS]; try omega)) [-getElem?_pos, -getElem?_neg, h34, h36, -xindexAddr, a1, a2, -xload, a3, -notTuple, hnt, hkn.1, hkn.2, p1, r3, hng]; refine hK _ _ ?_; clear hK K)
 obtain ⟨G1, hG1⟩ : ∃ G1 : AH, G1 = G ++ [some ⟨[.int .i64 (x.kind : Nat), .string x.text, kv], 92, none⟩] := ⟨_, rfl⟩
 have g1j : ∀ j, j < G.length → hget G1 j = hget G j := fun j hj => by rw [hG1]; exact hget_left hj
 have g1n : hget G1 G.length = some ⟨[.int .i64 (x.kind : Nat), .string x.text, kv], 92, none⟩ := by rw [hG1, hget_app0]; rfl
 have g1l : G1.length = G.length + 1 := by rw [hG1]; simp
 have l1n := hget_lt g1n
 rw [← hG1]
 clear hG1
 have hUs1 : UsI (H.length + 3) G1 U (usP (L.map (·.2)) i x.keys 0) := (hUs.low (fun j h1 h2 => g1j j h2)).eq (fun k => (usP_zero _ _ _ k).symm)
 (refine aw_seq (aoo fun K hK => ?_); simp (disch := first | omega | (simp only [lnS]; try omega)) [-getElem?_pos, -getElem?_neg, g1n, l1n, -notTuple, hkn.1, hkn.2, -xlen, hacc.len]; refine hK _ _ ?_; clear hK K)
 refine aw_block ?_
 refine aw_loop (fun q2 α A => ∃ (j : Nat) (U : List (List Int × Value)), j + q2 = x.keys.length ∧ α 3 = .pointer (some ⟨H.length + 2, 0, none⟩) ∧ α 34 = tv ∧ α 35 = .int .i64 (L.length : Nat) ∧ α 36 = .int .i64 (i : Nat) ∧ α 4 = .int .i64 (i : Nat) ∧ α 42 = kv ∧ α 43 = .int .i64 (x.keys.length : Nat) ∧ α 44 = .int .i64 (j : Nat) ∧ H.length + 3 ≤ A.length ∧ (∀ j, j < H.length + 3 → j ≠ H.length → hget A j = hget G0 j) ∧ hget A H.length = some (mblk 86 (uE U)) ∧ UsI (H.length + 3) A U (usP (L.map (·.2)) i x.keys j)) x.keys.length ?_ ?_
 ·exact ⟨0, U, by omega, by (first | (simp [h3]; done) | rfl), by (first | (simp [h34]; done) | rfl), by (first | (simp [h35]; done) | rfl), by (first | (simp [h36]; done) | rfl), by (first | (simp; done) | rfl), by (first | (simp; done) | rfl), by (first | (simp; done) | rfl), by (first | (simp; done) | rfl), by omega, fun j h1 h2 => (g1j j (by omega)).trans (hGj j h1 h2), (g1j _ (by omega)).trans hGu, hUs1⟩
 clear h3 h34 h35 h36 hGl hGj hGu hUs hlG a1 a2 a3 hUs1 g1j g1n g1l l1n hng
 rintro q2 α A ⟨j, U, hjq, h3, h34, h35, h36, h4, h42, h43, h44, hAl, hAj, hAu, hUs⟩
 refine aw_seq ?_
 by_cases hj : j < x.keys.length
 case neg =>
  (refine aoo fun K hK => ?_; simp (disch := first | omega | (simp only [lnS]; try omega)) [-getElem?_pos, -getElem?_neg, h43, h44, hj]; refine hK _ _ ?_; clear hK K)
  refine aw_seq ?_
  refine aw_f (by (first | (simp [hj]; done) | (simp [hj]; omega))) (by kernel_rfl) ?_
  refine aw_exit ?_
  obtain rfl : j = x.keys.length := by omega
  (refine aoo fun K hK => ?_; simp (disch := first | omega | (simp only [lnS]; try omega)) [-getElem?_pos, -getElem?_neg, h36]; refine hK _ _ ?_; clear hK K)
  exact ⟨q - 1, by omega, i + 1, U, by omega, by (first | (simp [h3]; done) | rfl), by (first | (simp [h34]; done) | rfl), by (first | (simp [h35]; done) | rfl), by (first | (simp; done) | rfl), hAl, hAj, hAu, hUs.eq (fun k => usP_all hpT k)⟩
 have hlA : Low H.length H A := ⟨fun j hj => (hAj j (by omega) (by omega)).trans (lw0.1 j hj), by omega⟩
 obtain ⟨q1, y, r1, r2, r3', r4, r5⟩ := hacc.at_ j hj
 have r5 := r5 A hlA
 subst r4
 have hsx := usP_succ (T := L.map (·.2)) (i := i) hj
 have hpl := fun k => usP_len (T := L.map (·.2)) (by simpa using hT) hwT hpT (j := j) k
 obtain ⟨k32, kby⟩ : (x.keys.getD j []).length = 32 ∧ By (x.keys.getD j []) := by
  rw [List.getD_eq_getElem?_getD, List.getElem?_eq_getElem hj]
  exact ⟨hw.k32 _ (List.getElem_mem hj), hw.by_ _ (List.getElem_mem hj)⟩
 have hz : ∀ k, usP (L.map (·.2)) i x.keys (j + 1) k = if k = x.keys.getD j [] then usP (L.map (·.2)) i x.keys j k ++ [i] else usP (L.map (·.2)) i x.keys j k := hsx
 generalize x.keys.getD j [] = z at *
 have htz : (iv .u8 z).take 32 = iv .u8 z := List.take_of_length_le (by simp [k32])
 have hsz : setR (iv .u8 (zl 32)) 0 (iv .u8 z) = iv .u8 z := setR_all _ _ (by simp [k32])
 have hng : nro ≤ A.length := by omega
 (refine aoo fun K hK => ?_; simp (disch := first | omega | (simp only [lnS]; try omega)) [-getElem?_pos, -getElem?_neg, h43, h44, hj]; refine hK _ _ ?_; clear hK K)
 refine aw_seq ?_
 refine aw_t (by (first | (simp [hj]; done) | (simp [hj]; omega))) (by kernel_rfl) ?_
 refine aw_skip (aw_seq ?_)
 refine aw_block ?_
 (refine aw_seq (aoo fun K hK => ?_); simp (disch := first | omega | (simp only [lnS]; try omega)) [-getElem?_pos, -getElem?_neg, h42, h44, -xindexAddr, r1, r2, -xload, r5, -notTuple, hkn.1, htz, hsz, k32, hng]; refine hK _ _ ?_; clear hK K)
 obtain ⟨A1, hA1⟩ : ∃ A1 : AH, A1 = A ++ [some ⟨iv .u8 z, 41, none⟩] := ⟨_, rfl⟩
 have b1j : ∀ j, j < A.length → hget A1 j = hget A j := fun j hj => by rw [hA1]; exact hget_left hj
 have b1n : hget A1 A.length = some ⟨iv .u8 z, 41, none⟩ := by rw [hA1, hget_app0]; rfl
 have b1l : A1.length = A.length + 1 := by rw [hA1]; simp
 rw [← hA1]
 clear hA1
 have b1s : hget A1 (H.length + 2) = some ⟨[tv, .map (some mb), .map (some H.length), .slice (some ⟨H.length + 1, 0, none⟩) L.length L.length, .slice none 0 0], 88, none⟩ := (b1j _ (by omega)).trans ((hAj _ (by omega) (by omega)).trans g2)
 obtain ⟨uv, v', idx, A2, E1, _, hnuv, he, hap, hnv, hcv, hst, hl2, hUs2, hk2⟩ := (hUs.low (G' := A1) (fun j h1 h2 => b1j j h2)).push (nro := nro) (i := i) k32 (ub := H.length) (by omega) (by omega) (by omega) ((b1j _ (by omega)).trans hAu) (by have := hpl z; omega)
 have lb1 := hget_lt b1s
 have lb2 := hget_lt b1n
 have r1' : List.range 1 = [0] := rfl
 refine aw_ptree [0, 1, 2, 5] 8 [[3, 4, 6, 7, 8, 9, 10, 11], [3, 4, 6, 7, 8, 10, 9, 11], [3, 4, 6, 7, 10, 8, 9, 11], [3, 6, 4, 7, 8, 9, 10, 11], [3, 6, 4, 7, 8, 10, 9, 11], [3, 6, 4, 7, 10, 8, 9, 11], [4, 3, 6, 7, 8, 9, 10, 11], [4, 3, 6, 7, 8, 10, 9, 11], [4, 3, 6, 7, 10, 8, 9, 11], [4, 6, 3, 7, 8, 9, 10, 11], [4, 6, 3, 7, 8, 10, 9, 11], [4, 6, 3, 7, 10, 8, 9, 11], [6, 3, 4, 7, 8, 9, 10, 11], [6, 3, 4, 7, 8, 10, 9, 11], [6, 3, 4, 7, 10, 8, 9, 11], [6, 4, 3, 7, 8, 9, 10, 11], [6, 4, 3, 7, 8, 10, 9, 11], [6, 4, 3, 7, 10, 8, 9, 11]] (by kernel_rfl) (by kernel_rfl) (by kernel_rfl) (fun K hK => ?_)
 refine SL_hide (fun KK hKK => ?_)
 simp only [sel, List.getElem?_cons_succ, List.getElem?_cons_zero]
 simp (disch := first | omega | (simp only [lnS]; try omega)) [-getElem?_pos, -getElem?_neg, h3, h4]
 refine name_fm (K := KK) (fun β hβ => ?_)
 refine hKK β ?_
 clear hKK
 have e3 : β 3 = .pointer (some ⟨H.length + 2, 0, none⟩) := by rw [hβ]; (first | (simp [h3]; done) | rfl)
 have e34 : β 34 = tv := by rw [hβ]; (first | (simp [h34]; done) | rfl)
 have e35 : β 35 = .int .i64 (L.length : Nat) := by rw [hβ]; (first | (simp [h35]; done) | rfl)
 have e36 : β 36 = .int .i64 (i : Nat) := by rw [hβ]; (first | (simp [h36]; done) | rfl)
 have e4 : β 4 = .int .i64 (i : Nat) := by rw [hβ]; (first | (simp [h4]; done) | rfl)
 have e42 : β 42 = kv := by rw [hβ]; (first | (simp [h42]; done) | rfl)
 have e43 : β 43 = .int .i64 (x.keys.length : Nat) := by rw [hβ]; (first | (simp [h43]; done) | rfl)
 have e44 : β 44 = .int .i64 (j : Nat) := by rw [hβ]; (first | (simp [h44]; done) | rfl)
 have e7 : β 7 = .pointer (some ⟨A.length, 0, none⟩) := by rw [hβ]; (first | (simp; done) | rfl)
 have e50 : β 50 = .pointer (some ⟨H.length + 2, 2, none⟩) := by rw [hβ]; (first | (simp; done) | rfl)
 have e54 : β 54 = .int .i64 (i : Nat) := by rw [hβ]; (first | (simp; done) | rfl)
 clear hβ
 refine xo_run (okI := okE) (ALL := [3, 4, 6, 7, 8, 9, 10, 11]) (J := JE β A1 (A1 ++ [some ⟨[.int .i64 (i : Nat)], 3, some 1⟩]) (List.set A1 H.length (some (mblk 86 E1)) ++ [some ⟨[.int .i64 (i : Nat)], 3, some 1⟩]) A2 (A2.set H.length (some (mblk 86 (uE (uput z v' U))))) (H.length + 2) H.length A1.length z i idx uv v') ?_ ?_ 8 _ [0, 1, 2, 5] _ _ (by simp) (by decide) ⟨fun t ht => rfl, e50, e54, fun h => (by simp at h), fun h => (by simp at h), fun h => (by simp at h), fun h => (by simp at h), fun h => (by simp at h), fun h => (by simp at h), fun h => (by simp at h), by simp⟩
 ·intro k D α G kk hJ hk hcont
  obtain ⟨jl, j50, j54, j51, j52, j55, j56, j53, j57, j58, jG⟩ := hJ
  have j7 := (jl 7 (by omega)).trans e7
  unfold okE at hk
  split at hk
  ·simp only [Bool.and_eq_true, Bool.not_eq_true', List.contains_eq_mem, decide_eq_false_iff_not, decide_eq_true_eq] at hk
   obtain ⟨⟨n7, n9⟩, n11⟩ := hk
   rw [if_neg n11, if_neg n9, if_neg n7] at jG
   by_cases h6 : 6 ∈ D
   ·rw [if_pos h6] at jG
    subst jG
    unfold XOk
    simp only [List.getElem?_cons_succ, List.getElem?_cons_zero]
    simp (disch := first | omega | (simp only [lnS]; try omega)) [-getElem?_pos, -getElem?_neg, -notTuple, hnt, hnuv, hnv, hcv, nt_mapG, b1s, lb1, j50]
    exact hcont _ _ ⟨fun t ht => by
    have : t ≠ 51 := by omega
    simp [put_at, put_none, this, jl t ht], by (first | (simp [j50]; done) | rfl), by (first | (simp [j54]; done) | rfl), fun _ => by (first | (simp; done) | rfl), fun h => by (first | (simp [j52 (by simpa using h)]; done) | rfl), fun h => by (first | (simp [j55 (by simpa using h)]; done) | rfl), fun h => by (first | (simp [j56 (by simpa using h)]; done) | rfl), fun h => by (first | (simp [j53 (by simpa using h)]; done) | rfl), fun h => by (first | (simp [j57 (by simpa using h)]; done) | rfl), fun h => by (first | (simp [j58 (by simpa using h)]; done) | rfl), by simp [n7, n9, n11, h6]⟩
   ·rw [if_neg h6] at jG
    subst jG
    unfold XOk
    simp only [List.getElem?_cons_succ, List.getElem?_cons_zero]
    simp (disch := first | omega | (simp only [lnS]; try omega)) [-getElem?_pos, -getElem?_neg, -notTuple, hnt, hnuv, hnv, hcv, nt_mapG, b1s, lb1, j50]
    exact hcont _ _ ⟨fun t ht => by
    have : t ≠ 51 := by omega
    simp [put_at, put_none, this, jl t ht], by (first | (simp [j50]; done) | rfl), by (first | (simp [j54]; done) | rfl), fun _ => by (first | (simp; done) | rfl), fun h => by (first | (simp [j52 (by simpa using h)]; done) | rfl), fun h => by (first | (simp [j55 (by simpa using h)]; done) | rfl), fun h => by (first | (simp [j56 (by simpa using h)]; done) | rfl), fun h => by (first | (simp [j53 (by simpa using h)]; done) | rfl), fun h => by (first | (simp [j57 (by simpa using h)]; done) | rfl), fun h => by (first | (simp [j58 (by simpa using h)]; done) | rfl), by simp [n7, n9, n11, h6]⟩
  ·simp only [Bool.and_eq_true, Bool.not_eq_true', List.contains_eq_mem, decide_eq_false_iff_not, decide_eq_true_eq] at hk
   obtain ⟨⟨n7, n9⟩, n11⟩ := hk
   rw [if_neg n11, if_neg n9, if_neg n7] at jG
   by_cases h6 : 6 ∈ D
   ·rw [if_pos h6] at jG
    subst jG
    unfold XOk
    simp only [List.getElem?_cons_succ, List.getElem?_cons_zero]
    simp (disch := first | omega | (simp only [lnS]; try omega)) [-getElem?_pos, -getElem?_neg, -notTuple, hnt, hnuv, hnv, hcv, nt_mapG, b1n, lb2, htz, k32, j7]
    exact hcont _ _ ⟨fun t ht => by
    have : t ≠ 52 := by omega
    simp [put_at, put_none, this, jl t ht], by (first | (simp [j50]; done) | rfl), by (first | (simp [j54]; done) | rfl), fun h => by (first | (simp [j51 (by simpa using h)]; done) | rfl), fun _ => by (first | (simp; done) | rfl), fun h => by (first | (simp [j55 (by simpa using h)]; done) | rfl), fun h => by (first | (simp [j56 (by simpa using h)]; done) | rfl), fun h => by (first | (simp [j53 (by simpa using h)]; done) | rfl), fun h => by (first | (simp [j57 (by simpa using h)]; done) | rfl), fun h => by (first | (simp [j58 (by simpa using h)]; done) | rfl), by simp [n7, n9, n11, h6]⟩
   ·rw [if_neg h6] at jG
    subst jG
    unfold XOk
    simp only [List.getElem?_cons_succ, List.getElem?_cons_zero]
    simp (disch := first | omega | (simp only [lnS]; try omega)) [-getElem?_pos, -getElem?_neg, -notTuple, hnt, hnuv, hnv, hcv, nt_mapG, b1n, lb2, htz, k32, j7]
    exact hcont _ _ ⟨fun t ht => by
    have : t ≠ 52 := by omega
    simp [put_at, put_none, this, jl t ht], by (first | (simp [j50]; done) | rfl), by (first | (simp [j54]; done) | rfl), fun h => by (first | (simp [j51 (by simpa using h)]; done) | rfl), fun _ => by (first | (simp; done) | rfl), fun h => by (first | (simp [j55 (by simpa using h)]; done) | rfl), fun h => by (first | (simp [j56 (by simpa using h)]; done) | rfl), fun h => by (first | (simp [j53 (by simpa using h)]; done) | rfl), fun h => by (first | (simp [j57 (by simpa using h)]; done) | rfl), fun h => by (first | (simp [j58 (by simpa using h)]; done) | rfl), by simp [n7, n9, n11, h6]⟩
  ·simp only [Bool.and_eq_true, Bool.not_eq_true', List.contains_eq_mem, decide_eq_false_iff_not, decide_eq_true_eq] at hk
   obtain ⟨⟨⟨n6, n7⟩, n9⟩, n11⟩ := hk
   rw [if_neg n11, if_neg n9, if_neg n7, if_neg n6] at jG
   subst jG
   unfold XOk
   simp only [List.getElem?_cons_succ, List.getElem?_cons_zero]
   simp (disch := first | omega | (simp only [lnS]; try omega)) [-getElem?_pos, -getElem?_neg, -notTuple, hnt, hnuv, hnv, hcv, nt_mapG, j54, r1']
   exact hcont _ _ ⟨fun t ht => by
    have : t ≠ 55 := by omega
    simp [put_at, put_none, this, jl t ht], by (first | (simp [j50]; done) | rfl), by (first | (simp [j54]; done) | rfl), fun h => by (first | (simp [j51 (by simpa using h)]; done) | rfl), fun h => by (first | (simp [j52 (by simpa using h)]; done) | rfl), fun _ => by (first | (simp; done) | rfl), fun h => by (first | (simp [j56 (by simpa using h)]; done) | rfl), fun h => by (first | (simp [j53 (by simpa using h)]; done) | rfl), fun h => by (first | (simp [j57 (by simpa using h)]; done) | rfl), fun h => by (first | (simp [j58 (by simpa using h)]; done) | rfl), by simp [n7, n9, n11]⟩
  ·simp only [Bool.and_eq_true, Bool.not_eq_true', List.contains_eq_mem, decide_eq_false_iff_not, decide_eq_true_eq] at hk
   obtain ⟨⟨⟨⟨⟨m3, m4⟩, m6⟩, n7⟩, n9⟩, n11⟩ := hk
   rw [if_neg n11, if_neg n9, if_neg n7, if_pos m6] at jG
   subst jG
   unfold XOk
   simp only [List.getElem?_cons_succ, List.getElem?_cons_zero]
   simp (disch := first | omega | (simp only [lnS]; try omega)) [-getElem?_pos, -getElem?_neg, -notTuple, hnt, hnuv, hnv, hcv, nt_mapG, j51 m3, j52 m4, he]
   exact hcont _ _ ⟨fun t ht => by
    have : t ≠ 56 := by omega
    simp [put_at, put_none, this, jl t ht], by (first | (simp [j50]; done) | rfl), by (first | (simp [j54]; done) | rfl), fun h => by (first | (simp [j51 (by simpa using h)]; done) | rfl), fun h => by (first | (simp [j52 (by simpa using h)]; done) | rfl), fun h => by (first | (simp [j55 (by simpa using h)]; done) | rfl), fun _ => by (first | (simp; done) | rfl), fun h => by (first | (simp [j53 (by simpa using h)]; done) | rfl), fun h => by (first | (simp [j57 (by simpa using h)]; done) | rfl), fun h => by (first | (simp [j58 (by simpa using h)]; done) | rfl), by simp [n9, n11]⟩
  ·have hk : 7 ∈ D := by simpa using hk
   unfold XOk
   simp only [List.getElem?_cons_succ, List.getElem?_cons_zero]
   simp (disch := first | omega | (simp only [lnS]; try omega)) [-getElem?_pos, -getElem?_neg, -notTuple, hnt, hnuv, hnv, hcv, nt_mapG, j56 hk]
   exact hcont _ _ ⟨fun t ht => by
    have : t ≠ 53 := by omega
    simp [put_at, put_none, this, jl t ht], by (first | (simp [j50]; done) | rfl), by (first | (simp [j54]; done) | rfl), fun h => by (first | (simp [j51 (by simpa using h)]; done) | rfl), fun h => by (first | (simp [j52 (by simpa using h)]; done) | rfl), fun h => by (first | (simp [j55 (by simpa using h)]; done) | rfl), fun h => by (first | (simp [j56 (by simpa using h)]; done) | rfl), fun _ => by (first | (simp; done) | rfl), fun h => by (first | (simp [j57 (by simpa using h)]; done) | rfl), fun h => by (first | (simp [j58 (by simpa using h)]; done) | rfl), by simpa using jG⟩
  ·simp only [Bool.and_eq_true, Bool.not_eq_true', List.contains_eq_mem, decide_eq_false_iff_not, decide_eq_true_eq] at hk
   obtain ⟨⟨⟨⟨m6, m7⟩, m8⟩, n9⟩, n11⟩ := hk
   rw [if_neg n11, if_neg n9, if_pos m7] at jG
   subst jG
   unfold XOk
   simp only [List.getElem?_cons_succ, List.getElem?_cons_zero]
   simp (disch := first | omega | (simp only [lnS]; try omega)) [-getElem?_pos, -getElem?_neg, -notTuple, hnt, hnuv, hnv, hcv, nt_mapG, j53 m8, j55 m6, -xappend, hap]
   exact hcont _ _ ⟨fun t ht => by
    have : t ≠ 57 := by omega
    simp [put_at, put_none, this, jl t ht], by (first | (simp [j50]; done) | rfl), by (first | (simp [j54]; done) | rfl), fun h => by (first | (simp [j51 (by simpa using h)]; done) | rfl), fun h => by (first | (simp [j52 (by simpa using h)]; done) | rfl), fun h => by (first | (simp [j55 (by simpa using h)]; done) | rfl), fun h => by (first | (simp [j56 (by simpa using h)]; done) | rfl), fun h => by (first | (simp [j53 (by simpa using h)]; done) | rfl), fun _ => by (first | (simp; done) | rfl), fun h => by (first | (simp [j58 (by simpa using h)]; done) | rfl), by simp [n11]⟩
  ·have hk : 7 ∈ D := by simpa using hk
   unfold XOk
   simp only [List.getElem?_cons_succ, List.getElem?_cons_zero]
   simp (disch := first | omega | (simp only [lnS]; try omega)) [-getElem?_pos, -getElem?_neg, -notTuple, hnt, hnuv, hnv, hcv, nt_mapG, j56 hk]
   exact hcont _ _ ⟨fun t ht => by
    have : t ≠ 58 := by omega
    simp [put_at, put_none, this, jl t ht], by (first | (simp [j50]; done) | rfl), by (first | (simp [j54]; done) | rfl), fun h => by (first | (simp [j51 (by simpa using h)]; done) | rfl), fun h => by (first | (simp [j52 (by simpa using h)]; done) | rfl), fun h => by (first | (simp [j55 (by simpa using h)]; done) | rfl), fun h => by (first | (simp [j56 (by simpa using h)]; done) | rfl), fun h => by (first | (simp [j53 (by simpa using h)]; done) | rfl), fun h => by (first | (simp [j57 (by simpa using h)]; done) | rfl), fun _ => by (first | (simp; done) | rfl), by simpa using jG⟩
  ·simp only [Bool.and_eq_true, Bool.not_eq_true', List.contains_eq_mem, decide_eq_false_iff_not, decide_eq_true_eq] at hk
   obtain ⟨⟨⟨m3, m9⟩, m10⟩, n11⟩ := hk
   rw [if_neg n11, if_pos m9] at jG
   subst jG
   unfold XOk
   simp only [List.getElem?_cons_succ, List.getElem?_cons_zero]
   simp (disch := first | omega | (simp only [lnS]; try omega)) [-getElem?_pos, -getElem?_neg, -notTuple, hnt, hnuv, hnv, hcv, nt_mapG, j51 m3, j57 m9, j58 m10, hst]
   exact hcont _ _ ⟨fun t ht => by simp [put_none, jl t ht], by (first | (simp [j50]; done) | rfl), by (first | (simp [j54]; done) | rfl), fun h => by (first | (simp [j51 (by simpa using h)]; done) | rfl), fun h => by (first | (simp [j52 (by simpa using h)]; done) | rfl), fun h => by (first | (simp [j55 (by simpa using h)]; done) | rfl), fun h => by (first | (simp [j56 (by simpa using h)]; done) | rfl), fun h => by (first | (simp [j53 (by simpa using h)]; done) | rfl), fun h => by (first | (simp [j57 (by simpa using h)]; done) | rfl), fun h => by (first | (simp [j58 (by simpa using h)]; done) | rfl), by simp⟩
  ·cases hk
 ·rintro E α' G' ⟨jl, j50, j54, j51, j52, j55, j56, j53, j57, j58, jG⟩ hE
  rw [if_pos (hE 11 (by simp))] at jG
  subst jG
  refine hK _ _ ?_; clear hK K
  have f3 := (jl 3 (by omega)).trans e3
  have f34 := (jl 34 (by omega)).trans e34
  have f35 := (jl 35 (by omega)).trans e35
  have f36 := (jl 36 (by omega)).trans e36
  have f4 := (jl 4 (by omega)).trans e4
  have f42 := (jl 42 (by omega)).trans e42
  have f43 := (jl 43 (by omega)).trans e43
  have f44 := (jl 44 (by omega)).trans e44
  (refine aoo fun K hK => ?_; simp (disch := first | omega | (simp only [lnS]; try omega)) [-getElem?_pos, -getElem?_neg, f44]; refine hK _ _ ?_; clear hK K)
  refine ⟨q2 - 1, by omega, j + 1, uput z v' U, by omega, by (first | (simp [f3]; done) | rfl), by (first | (simp [f34]; done) | rfl), by (first | (simp [f35]; done) | rfl), by (first | (simp [f36]; done) | rfl), by (first | (simp [f4]; done) | rfl), by (first | (simp [f42]; done) | rfl), by (first | (simp [f43]; done) | rfl), by (first | (simp; done) | rfl), by simp; omega, fun t h1 h2 => ?_, hget_set_eq (by omega), hUs2.eq (fun k => (hz k).symm)⟩
  rw [hk2 t h1 h2, b1j t (by omega)]
  exact hAj t h1 h2
end
section
theorem SR.pop {γ : Nat → Option Nat} {nro : Nat} {H : AH} {c : SrC} {F : List Nat} {s : FSt} (h : SR γ nro H c F s) {i : Nat} (hi : s.2.getLast? = some i) :
  ∃ tdv tv2 q, hget H c.sb = some ⟨[c.tv, .map (some c.mb), .map (some c.ub), .slice (some ⟨c.kb, 0, none⟩) c.L.length c.L.length, tdv], 88, none⟩ ∧ notTuple tdv = true ∧ xlen Tryd.prog 39 tdv = some (.int .i64 (s.2.length : Nat)) ∧ 0 < s.2.length ∧
   xindexAddr Tryd.prog 39 tdv (.int .i64 ((s.2.length - 1 : Nat) : Int)) = some q ∧ notTuple q = true ∧ xload Tryd.prog 3 q H = some (.int .i64 (i : Nat)) ∧
   (∀ G : AH, xslice Tryd.prog 39 tdv none (some (.int .i64 ((s.2.length - 1 : Nat) : Int))) G = some tv2) ∧ notTuple tv2 = true ∧ tv2.cells = #[tv2] ∧
   SRQ γ nro H c F (s.1, s.2.dropLast) (.tuple #[]) (H.set c.sb (some ⟨[c.tv, .map (some c.mb), .map (some c.ub), .slice (some ⟨c.kb, 0, none⟩) c.L.length c.L.length, tv2], 88, none⟩)) := by
 have e2 := last_split hi
 have hu : und Tryd.prog 39 = .slice 3 := by kernel_rfl
 have hs : szt Tryd.prog 3 = 1 := by kernel_rfl
 have hlen : s.2.length = s.2.dropLast.length + 1 := by
  have := congrArg List.length e2
  simpa using this
 obtain ⟨tdv, Fd, hF, hsb, hkb, hsl, htd, hne, hsF, hkF, hm⟩ := h.dy
 have hl := hget_lt hsb
 have hTn := htd.nt
 have hgd : s.2.getD (s.2.length - 1) 0 = i := by
  rw [List.getD_eq_getElem?_getD]
  rw [List.getLast?_eq_getElem?] at hi
  rw [hi]; rfl
 obtain ⟨q, q1, q2, q3⟩ := htd.at_ (i := s.2.length - 1) (by omega)
 have q4 := q3 H (fun _ _ => rfl)
 rw [hgd] at q4
 rcases htd with ⟨_, e0, _⟩ | ⟨j, cs, rfl, rfl, h3, h4⟩
 ·rw [e0] at hlen
  simp at hlen
 ·have hdl : s.2.length - 1 = s.2.dropLast.length := by omega
  refine ⟨_, .slice (some ⟨j, 0, none⟩) s.2.dropLast.length s.2.dropLast.length, q, hsb, rfl, hTn.2.2.2, by omega, q1, q2, q4, fun G => ?_, rfl, rfl, h.step ⟨rfl, by simp, fun t ht hn => hget_set_ne (fun e => hn (by rw [hF]; simp [e])), F, ⟨.slice (some ⟨j, 0, none⟩) s.2.dropLast.length s.2.dropLast.length, [j], hF, hget_set_eq hl, (hget_set_ne hne).trans hkb, hsl, .inr ⟨j, cs, rfl, rfl, (hget_set_ne (by intro e; exact hsF (by simp [e]))).trans h3, ?_⟩, hne, hsF, hkF, ?_⟩, fun t ht => .inl ht⟩⟩
  ·unfold xslice
   simp only [hu, bnd, hs]
   rw [show asInt? (Value.int .i64 ((s.2.length - 1 : Nat) : Int)) = some ((s.2.length - 1 : Nat) : Int) from rfl]
   dsimp only
   rw [if_pos ⟨by omega, by omega, by omega, by omega⟩, if_neg (by omega), if_pos trivial]
   simp only [Int.toNat_natCast, Int.toNat_zero, Nat.sub_zero, Nat.zero_mul, Nat.add_zero, hdl]
  ·refine List.IsPrefix.trans ?_ h4
   conv => rhs; rw [e2]
   unfold tdC
   rw [List.map_append]
   exact List.prefix_append _ _
  ·unfold muF at hm ⊢
   simp only at hm ⊢
   omega
def FolQ (H : AH) (T : List TermD) (ks : List (List Int)) (v' : Value) (H' : AH) : Prop :=
 ∃ kx kb, v' = .func (.func 44) #[] #[.pointer (some ⟨kx, 0, none⟩)] ∧ Low H.length H H' ∧ hget H' kx = some ⟨[.slice (some ⟨kb, 0, none⟩) T.length T.length], 55, none⟩ ∧ hget H' kb = some ⟨bsC (folL T ks), 4, some 1⟩ ∧ H.length ≤ kx ∧ H.length ≤ kb
theorem fol1_rc {γ : Nat → Option Nat} {H : AH} {kx kb n : Nat} {kn : List Bool} (hx : hget H kx = some ⟨[.slice (some ⟨kb, 0, none⟩) n n], 55, none⟩) (hg : hget H kb = some ⟨bsC kn, 4, some 1⟩) (hl : kn.length = n) (hn : n ≤ 1000000) {k : List Int} (hk : k.length = 32) (hb : By k) :
  AC Tryd.prog H.length γ 44 #[.agg (iv .u8 k).toArray, .pointer (some ⟨kx, 0, none⟩)] H (fun v' _ => v' = .bool (fol kn k)) := by
 have htk : (iv .u8 k).take 32 = iv .u8 k := List.take_of_length_le (by simp [hk])
 have lx := hget_lt hx
 have lg := hget_lt hg
 have hc := fun (N : AH) => follows_rc (γ := γ) (H := H ++ N) ((hget_left lg).trans hg) hl hn hk hb
 refine ac_of_aw Tryd.func44 rfl Tryd.ntmps44 Tryd.results44 (by simp) ?_
 (refine aw_seq (aoo fun K hK => ?_); simp (disch := first | omega | (simp only [lnS]; try omega)) [htk]; refine hK _ _ ?_; clear hK K)
 refine aw_seq (aoo fun K hK => ?_)
 simp (disch := first | omega | (simp only [lnS]; try omega)) [hx, lx, htk]
 refine ⟨by kernel_rfl, ac_of_rc (hc _) (by simp [pv_iv, pv_int, pv_bool, pv_string, pv_tup2, pv_tup3, iv_plain, p2_int, p2_bool, p2_string]) ?_⟩
 try simp (disch := first | omega | (simp only [lnS]; try omega)) []
 refine hK _ _ ?_; clear hK K
 (refine aw_ret ?_; simp (disch := first | omega | (simp only [lnS]; try omega)) [thenQ_ret, scopeQ_ret, inBlockQ_ret, RQ, resL, resV])
theorem follow_ac {nro : Nat} {γ : Nat → Option Nat} {H : AH} (hp : Pw γ H) {b : Nat} {F : List Nat} {T : List TermD} (h : Tbl H b F T) (hnH : nro ≤ H.length) (hW : TWf T) {v : Value} {ks : List (List Int)} (hK : KsV H v ks) (hk : ∀ k ∈ ks, k.length = 32) (hkb : ∀ k ∈ ks, By k) (hkm : ks.length ≤ 1000000) :
  AC Tryd.prog nro γ 21 #[.pointer (some ⟨b, 0, none⟩), v] H (FolQ H T ks) := by
 have hbeg := begin_ac (nro := nro) hp h hnH hW.len
 have hacc := hK.acc hk
 have hnt := hacc.nt
 have hcs := hacc.cs
 refine ac_of_aw Tryd.func21 rfl Tryd.ntmps21 Tryd.results21 (by simp) ?_
 (refine aw_seq (aoo fun K hK => ?_); simp (disch := first | omega | (simp only [lnS]; try omega)) []; refine hK _ _ ?_; clear hK K)
 refine aw_seq (aoo fun K hK => ?_)
 simp (disch := first | omega | (simp only [lnS]; try omega)) []
 refine ⟨by kernel_rfl, AC.mono hbeg ?_⟩
 rintro v1 G0 ⟨c, F0, hcT, rfl, lw0, hS0, hF0⟩
 have hn : c.L.length = T.length := by rw [← hcT]; simp [SrC.T]
 have hTm := hW.len
 try simp (disch := first | omega | (simp only [lnS]; try omega)) []
 refine hK _ _ ?_; clear hK K
 have hq0 : SRQ γ nro G0 c F0 (List.replicate T.length false, []) (.tuple #[]) G0 := hS0.same (Low.refl (Nat.le_refl _))
 have hlow : ∀ (t : FSt) (G : AH), SRQ γ nro G0 c F0 t (.tuple #[]) G → Low H.length H G := fun t G q => ⟨fun j hj => (q.2.2.1 j (by have := lw0.2; omega) (fun e => by have := hF0 j e; omega)).trans (lw0.1 j hj), by have := lw0.2; have := q.2.1; omega⟩
 refine aw_seq (aw_seq ?_)
 (refine aoo fun K hK => ?_; simp (disch := first | omega | (simp only [lnS]; try omega)) [-notTuple, hnt, -xlen, hacc.len]; refine hK _ _ ?_; clear hK K)
 refine aw_block ?_
 refine aw_loop (fun q α G => ∃ j : Nat, j + q = ks.length ∧ α 5 = .pointer (some ⟨c.sb, 0, none⟩) ∧ α 13 = v ∧ α 14 = .int .i64 (ks.length : Nat) ∧ α 15 = .int .i64 (j : Nat) ∧ SRQ γ nro G0 c F0 ((ks.take j).foldl lrn (List.replicate T.length false, [])) (.tuple #[]) G) ks.length ?_ ?_
 ·exact ⟨0, by omega, by (first | (simp; done) | rfl), by (first | (simp; done) | rfl), by (first | (simp; done) | rfl), by (first | (simp; done) | rfl), hq0⟩
 rintro q α G ⟨j, hjq, h5, h13, h14, h15, hq⟩
 refine aw_seq ?_
 by_cases hj : j < ks.length
 ·have lwG := hlow _ _ hq
  obtain ⟨_, hGl, hGk, F1, hS, hF1⟩ := hq
  obtain ⟨q1, y, r1, r2, r3', r4, r5⟩ := hacc.at_ j hj
  have r5 := r5 G lwG
  subst r4
  have hfd := fold_take (f := lrn) (b := (List.replicate T.length false, ([] : List Nat))) (d := []) hj
  obtain ⟨k32, kby⟩ : (ks.getD j []).length = 32 ∧ By (ks.getD j []) := by
   rw [List.getD_eq_getElem?_getD, List.getElem?_eq_getElem hj]
   exact ⟨hk _ (List.getElem_mem hj), hkb _ (List.getElem_mem hj)⟩
  generalize ks.getD j [] = z at *
  have htz : (iv .u8 z).take 32 = iv .u8 z := List.take_of_length_le (by simp [k32])
  have hsz : setR (iv .u8 (zl 32)) 0 (iv .u8 z) = iv .u8 z := setR_all _ _ (by simp [k32])
  have hng : nro ≤ G.length := by have := lwG.2; omega
  (refine aoo fun K hK => ?_; simp (disch := first | omega | (simp only [lnS]; try omega)) [h14, h15, hj]; refine hK _ _ ?_; clear hK K)
  refine aw_seq ?_
  refine aw_t (by (first | (simp [hj]; done) | (simp [hj]; omega))) (by kernel_rfl) ?_
  refine aw_skip (aw_seq ?_)
  refine aw_block ?_
  (refine aw_seq (aoo fun K hK => ?_); simp (disch := first | omega | (simp only [lnS]; try omega)) [h13, h15, -xindexAddr, r1, r2, -xload, r5, -notTuple, hnt, htz, hsz, k32, hng]; refine hK _ _ ?_; clear hK K)
  have hz := learnS_ac (hS.push [some ⟨iv .u8 z, 41, none⟩]) k32 kby
  refine aoo fun K hK => ?_
  simp (disch := first | omega | (simp only [lnS]; try omega)) [h5, htz, k32]
  refine ⟨by kernel_rfl, AC.mono hz ?_⟩
  intro v' A q2
  obtain rfl := q2.1
  try simp (disch := first | omega | (simp only [lnS]; try omega)) []
  refine hK _ _ ?_; clear hK K
  (refine aoo fun K hK => ?_; simp (disch := first | omega | (simp only [lnS]; try omega)) [h15]; refine hK _ _ ?_; clear hK K)
  refine ⟨q - 1, by omega, j + 1, by omega, by (first | (simp [h5]; done) | rfl), by (first | (simp [h13]; done) | rfl), by (first | (simp [h14]; done) | rfl), by (first | (simp; done) | rfl), ?_⟩
  rw [hfd]
  exact (q2.up ⟨fun j hj => hget_left hj, by simp⟩ hS.bound).then_ hGl hGk hF1
 (refine aoo fun K hK => ?_; simp (disch := first | omega | (simp only [lnS]; try omega)) [h14, h15, hj]; refine hK _ _ ?_; clear hK K)
 refine aw_seq ?_
 refine aw_f (by (first | (simp [hj]; done) | (simp [hj]; omega))) (by kernel_rfl) ?_
 refine aw_exit ?_
 obtain rfl : j = ks.length := by omega
 rw [List.take_length] at hq
 have hseed : ks.foldl lrn (List.replicate T.length false, []) = seedS T.length ks := rfl
 rw [hseed] at hq
 clear h13 h14 h15
 have hq1 := hq
 have hseedw : ∀ t : FSt, FExt (seedS T.length ks) t → ∀ p ∈ t.2, p < T.length := fun t ht => by
  have hx : FExt (List.replicate T.length false, []) t := FExt.trans (foldl_ext lrn_ext ks _) ht
  obtain ⟨M, e1, _, e3⟩ := hx.new
  intro p hp
  rw [e1] at hp
  simpa using (e3 p (by simpa using hp)).2
 obtain ⟨tdv1, s1b, s1n, _, _, _, hnt2, hcs2⟩ := hq1.2.2.2.elim fun F1 h => h.1.blocks
 have hxl := hS0.st.tb.tvlen.1
 have l1b := hget_lt s1b
 refine aw_seq (aw_seq ?_)
 (refine aoo fun K hK => ?_; simp (disch := first | omega | (simp only [lnS]; try omega)) [h5, s1b, l1b, -notTuple, hnt2, s1n, -xlen, hxl, nt_mapG]; refine hK _ _ ?_; clear hK K)
 refine aw_block ?_
 refine aw_loop (fun q α G => ∃ j : Nat, j + q = c.L.length ∧ α 5 = .pointer (some ⟨c.sb, 0, none⟩) ∧ α 27 = .int .i64 (c.L.length : Nat) ∧ α 28 = .int .i64 (j : Nat) ∧ SRQ γ nro G0 c F0 (((List.range c.L.length).take j).foldl (tryS c.T) (seedS T.length ks)) (.tuple #[]) G) c.L.length ?_ ?_
 ·exact ⟨0, by omega, by (first | (simp [h5]; done) | rfl), by (first | (simp; done) | rfl), by (first | (simp; done) | rfl), hq⟩
 clear h5 s1b l1b
 rintro q α G ⟨j, hjq, h5, h27, h28, hq⟩
 refine aw_seq ?_
 by_cases hj : j < c.L.length
 ·obtain ⟨_, hGl, hGk, F1, hS, hF1⟩ := hq
  have hfd := fold_take (f := tryS c.T) (b := seedS T.length ks) (d := 0) (l := List.range c.L.length) (i := j) (by simpa using hj)
  have hgd : (List.range c.L.length).getD j 0 = j := by
   rw [List.getD_eq_getElem?_getD, List.getElem?_range hj]; rfl
  rw [hgd] at hfd
  (refine aoo fun K hK => ?_; simp (disch := first | omega | (simp only [lnS]; try omega)) [h27, h28, hj]; refine hK _ _ ?_; clear hK K)
  refine aw_seq ?_
  refine aw_t (by (first | (simp [hj]; done) | (simp [hj]; omega))) (by kernel_rfl) ?_
  refine aw_skip (aw_seq ?_)
  refine aw_block ?_
  (refine aw_seq (aoo fun K hK => ?_); simp (disch := first | omega | (simp only [lnS]; try omega)) [h28]; refine hK _ _ ?_; clear hK K)
  refine aoo fun K hK => ?_
  simp (disch := first | omega | (simp only [lnS]; try omega)) [h5]
  refine ⟨by kernel_rfl, AC.mono (try_ac hS hj) ?_⟩
  intro v' A q2
  obtain rfl := q2.1
  try simp (disch := first | omega | (simp only [lnS]; try omega)) []
  refine hK _ _ ?_; clear hK K
  (refine aoo fun K hK => ?_; simp (disch := first | omega | (simp only [lnS]; try omega)) [h28]; refine hK _ _ ?_; clear hK K)
  refine ⟨q - 1, by omega, j + 1, by omega, by (first | (simp [h5]; done) | rfl), by (first | (simp [h27]; done) | rfl), by (first | (simp; done) | rfl), ?_⟩
  rw [hfd]
  exact q2.then_ hGl hGk hF1
 (refine aoo fun K hK => ?_; simp (disch := first | omega | (simp only [lnS]; try omega)) [h27, h28, hj]; refine hK _ _ ?_; clear hK K)
 refine aw_seq ?_
 refine aw_f (by (first | (simp [hj]; done) | (simp [hj]; omega))) (by kernel_rfl) ?_
 refine aw_exit ?_
 obtain rfl : j = c.L.length := by omega
 rw [List.take_of_length_le (by simp), hn, hcT] at hq
 have hpass : (List.range T.length).foldl (tryS T) (seedS T.length ks) = passS T ks := rfl
 rw [hpass] at hq
 obtain ⟨hip, hmp⟩ := inv_pass hW ks
 have hwp : ∀ p ∈ (passS T ks).2, p < T.length := hseedw _ (foldl_ext (tryS_ext T) _ _)
 refine aw_seq ?_
 refine aw_block ?_
 refine aw_loop (fun q α G => ∃ t : FSt, α 5 = .pointer (some ⟨c.sb, 0, none⟩) ∧ SRQ γ nro G0 c F0 t (.tuple #[]) G ∧ runS T q t = runS T T.length (passS T ks) ∧ muF t ≤ q ∧ ∀ p ∈ t.2, p < T.length) T.length ?_ ?_
 ·exact ⟨passS T ks, by (first | (simp [h5]; done) | rfl), hq, rfl, by omega, hwp⟩
 clear h5 h27 h28 hq
 rintro q α G ⟨t, h5, hq, hrun, hmu, hwt⟩
 have lwG := hlow _ _ hq
 obtain ⟨_, hGl, hGk, F1, hS, hF1⟩ := hq
 obtain ⟨tdv, Fd, hF, hsb, hkb, hsl, htd, hne, hsF, hkF, hm9⟩ := hS.dy
 have hTn := htd.nt
 have lsb := hget_lt hsb
 refine aw_seq (aw_seq ?_)
 by_cases h0 : 0 < t.2.length
 ·obtain ⟨i, hi⟩ : ∃ i, t.2.getLast? = some i := by
   cases hg : t.2.getLast? with
   | some i => exact ⟨i, rfl⟩
   | none => rw [List.getLast?_eq_none_iff.1 hg] at h0; simp at h0
  obtain ⟨tdv', tv2, q1, b1, b2, b3, _, b4, b5, b6, b7, b8, b9, b10⟩ := hS.pop hi
  have e0 : tdv' = tdv := by
   rw [hsb] at b1
   simp at b1
   exact b1.symm
  subst e0
  have hin : i < T.length := hwt i (by rw [last_split hi]; simp)
  obtain ⟨q', rfl⟩ : ∃ q', q = q' + 1 := ⟨q - 1, by unfold muF at hmu; omega⟩
  have hrun2 : runS T (q' + 1) t = runS T q' (useS T (t.1, t.2.dropLast) i) := by
   conv => lhs; unfold runS
   rw [hi]
  have hlen1 : t.2.length = t.2.dropLast.length + 1 := by
   have := congrArg List.length (last_split hi)
   simpa using this
  have hsub : ((t.2.length : Int) - 1) = ((t.2.length - 1 : Nat) : Int) := by omega
  have hmt : t.2.length ≤ 1000000 := by unfold muF at hm9; omega
  have ld4 : xload Tryd.prog 39 (.pointer (some ⟨c.sb, 4, none⟩)) G = some tdv' := by simp [xload, hsb]
  have hi0 : (0 : Int) < (t.2.length : Int) := by omega
  have hwx : ∀ p ∈ (useS T (t.1, t.2.dropLast) i).2, p < T.length := by
   obtain ⟨M, e1, _, e3⟩ := (useS_ext T (t.1, t.2.dropLast) i).new
   intro p hp
   rw [e1] at hp
   rcases List.mem_append.1 hp with hp | hp
   ·exact hwt p ((List.dropLast_sublist _).subset hp)
   ·have := (e3 p hp).2
    simp only at this
    omega
  have hmx : muF (useS T (t.1, t.2.dropLast) i) ≤ q' := by
   rw [(useS_ext T _ i).mu]
   unfold muF at hmu ⊢
   simp only
   omega
  have hsn : nro ≤ c.sb := hS.nr _ (by rw [hF]; simp)
  generalize hNn : t.2.length = N at *
  generalize N - 1 = N1 at *
  (refine aoo fun K hK => ?_; simp (disch := first | omega | (simp only [lnS]; try omega)) [h5, hsb, lsb, -notTuple, hnt2, hTn.1, -xlen, hTn.2.2.2, nt_mapG, h0, hi0]; refine hK _ _ ?_; clear hK K)
  refine aw_t (by (first | (simp [h0]; done) | (simp [h0]; omega))) (by kernel_rfl) ?_
  refine aw_skip ?_
  refine aw_block ?_
  refine aw_seq ?_
  (refine aw_plan [] [] [0, 1, 2, 3, 4, 5, 6, 7, 8, 9, 10, 11, 12] 13 0 (by kernel_rfl) (by kernel_rfl) (by kernel_rfl) (fun K hK => ?_)); simp only [sel, List.getElem?_cons_succ, List.getElem?_cons_zero, List.drop_succ_cons, List.drop_zero]; simp (disch := first | omega | (simp only [lnS]; try omega)) [h5, -xload, ld4, b6, -xlen, b3, -xindexAddr, b4, b5, b2, hsub, -notTuple, PL_nil, plainB_lit, PL_cons, PLc_val, PLc_new, stepP_t, stepP_f, stepPC_n, stepPC_s, stepPX_s, stepPX_n, stepPV_n, stepPV_s, stepPA_t, stepPA_c, stepPA_l, stepPN_s, allocOp, reloc_sl, reloc_ptr, List.map_cons, List.map_nil, List.nil_append, List.append_assoc, List.cons_append, Nat.add_assoc]
  refine hK _ _ ?_; clear hK K
  refine aw_seq ?_
  (refine aw_plan [] [] [0, 1, 2, 3, 4, 5, 6, 7, 8, 9, 10, 11, 12, 13] 14 1 (by kernel_rfl) (by kernel_rfl) (by kernel_rfl) (fun K hK => ?_)); simp only [sel, List.getElem?_cons_succ, List.getElem?_cons_zero, List.drop_succ_cons, List.drop_zero]; simp (disch := first | omega | (simp only [lnS]; try omega)) [h5, -xload, ld4, -xlen, b3, -xslice, b7, b8, b9, hsb, lsb, hsub, b2, hsn, -notTuple, hnt2, nt_mapG, PL_nil, plainB_lit, PL_cons, PLc_val, PLc_new, stepP_t, stepP_f, stepPC_n, stepPC_s, stepPX_s, stepPX_n, stepPV_n, stepPV_s, stepPA_t, stepPA_c, stepPA_l, stepPN_s, allocOp, reloc_sl, reloc_ptr, List.map_cons, List.map_nil, List.nil_append, List.append_assoc, List.cons_append, Nat.add_assoc]
  refine hK _ _ ?_; clear hK K
  obtain ⟨_, hDl, hDk, F2, hS2, hF2⟩ := b10
  have huse := use_ac hS2 (i := i) (by omega)
  rw [hcT] at huse
  generalize G.set c.sb (some ⟨[c.tv, .map (some c.mb), .map (some c.ub), .slice (some ⟨c.kb, 0, none⟩) c.L.length c.L.length, tv2], 88, none⟩) = D at *
  refine aoo fun K hK => ?_
  simp (disch := first | omega | (simp only [lnS]; try omega)) [h5]
  refine ⟨by kernel_rfl, AC.mono huse ?_⟩
  intro v' A q2
  obtain rfl := q2.1
  try simp (disch := first | omega | (simp only [lnS]; try omega)) []
  refine hK _ _ ?_; clear hK K
  exact ⟨q', by omega, _, by (first | (simp [h5]; done) | rfl), (q2.then_ hDl hDk hF2).then_ hGl hGk hF1, hrun2.symm.trans hrun, hmx, hwx⟩
 ·have ht0 : t.2 = [] := List.eq_nil_of_length_eq_zero (by omega)
  have hfin : t.1 = folL T ks := by
   have : runS T q t = t := by
    cases q with
    | zero => rfl
    | succ q => unfold runS; rw [ht0]; rfl
   rw [this] at hrun
   unfold folL
   rw [hrun]
  have hi0 : ¬ ((0 : Int) < (t.2.length : Int)) := by omega
  (refine aoo fun K hK => ?_; simp (disch := first | omega | (simp only [lnS]; try omega)) [h5, hsb, lsb, -notTuple, hnt2, hTn.1, -xlen, hTn.2.2.2, nt_mapG, h0, hi0]; refine hK _ _ ?_; clear hK K)
  refine aw_f (by (first | (simp [h0]; done) | (simp [h0]; omega))) (by kernel_rfl) ?_
  refine aw_exit (aw_seq ?_)
  have hng : nro ≤ G.length := by have := lwG.2; have := hnH; omega
  have p1 : plain1 (.slice none 0 0) = true := rfl
  (refine aoo fun K hK => ?_; simp (disch := first | omega | (simp only [lnS]; try omega)) [h5, hsb, lsb, -notTuple, hnt2, hTn.1, nt_mapG, hng, p1]; refine hK _ _ ?_; clear hK K)
  (refine aw_seq (aoo fun K hK => ?_); simp (disch := first | omega | (simp only [lnS]; try omega)) []; refine hK _ _ ?_; clear hK K)
  (refine aw_ret ?_; simp (disch := first | omega | (simp only [lnS]; try omega)) [thenQ_ret, scopeQ_ret, inBlockQ_ret, RQ, resL, resV])
  have hFb := hS.bound
  have hk2 : c.kb ∈ F1 := by rw [hF]; simp
  refine ⟨G.length, c.kb, rfl, ⟨fun j hj => (hget_left (by have := lwG.2; omega)).trans (lwG.1 j hj), by have := lwG.2; simp; omega⟩, ?_, ?_, lwG.2, ?_⟩
  ·rw [hget_app0, hn]; rfl
  ·rw [hget_left (hFb _ hk2), ← hfin]
   exact hkb
  ·rcases hF1 _ hk2 with e | e
   ·exact hF0 _ e
   ·have := lw0.2; omega
end
section
def openT (T : List TermD) (k y : List Int) (box : ByteArray) : Option (ByteArray × List (List Int)) :=
 if box.size = 32 then (match findT T (nums box) with
  | some x => if x.kind = 6 ∧ k0 x = k ∧ k1 x = y then some (x.text, x.keys.drop 2) else none
  | none => none) else none
def OpenQ (H : AH) (T : List TermD) (k y : List Int) (box : ByteArray) (v' : Value) (H' : AH) : Prop :=
 Low H.length H H' ∧ match openT T k y box with
  | none => v' = .tuple #[.string ⟨#[]⟩, .slice none 0 0, .bool false]
  | some (s, ks) => ∃ kv, v' = .tuple #[.string s, kv, .bool true] ∧ OwnK H.length H' kv ks
theorem OwnK.less {lo lo' : Nat} {H : AH} {v : Value} {ks : List (List Int)} (h : OwnK lo H v ks) (hl : lo' ≤ lo) : OwnK lo' H v ks := by
 rcases h with h | ⟨j, cs, h1, h2⟩
 ·exact .inl h
 ·exact .inr ⟨j, cs, by omega, h2⟩
theorem PartK.keep {H H' : AH} {lo lo' : Nat} {x : Value} {ks : List (List Int)} (h : PartK H lo x ks) (hl : lo ≤ lo') (hg : ∀ j, j < lo → hget H' j = hget H j) : PartK H' lo' x ks :=
 ⟨h.1, fun G hG => h.2 G (fun j hj => (hG j (by omega)).trans (hg j hj))⟩
def opJD : List Nat := [48, 49, 50, 51, 52, 53, 8, 9, 10]
def opJP : List (List Nat) := [[], [0], [], [2], [3], [4], [1], [5], []]
def opJV (gl lo : Nat) (st : ByteArray) (kv sv : Value) (ds : List (List Int)) (G : AH) (i : Nat) (v : Value) : Prop := match i with
 | 0 => v = .pointer (some ⟨gl, 1, none⟩)
 | 1 => v = .string st
 | 2 => v = .pointer (some ⟨gl, 2, none⟩)
 | 3 => v = kv
 | 4 => v = sv
 | 5 => OwnK lo G v ds
 | 6 => v = .string st
 | 7 => OwnK lo G v ds
 | 8 => v = .bool true
 | _ => True
theorem cloneP_ac {nro : Nat} {γ : Nat → Option Nat} {H : AH} {v : Value} {ks : List (List Int)} (hv : PartK H H.length v ks) (hk : K32 ks) (hc : ks.length ≤ 1000000) (hnro : nro ≤ H.length) :
  AC Tryd.prog nro γ 32 #[v] H (fun v' H' => OwnK H.length H' v' ks ∧ Low H.length H H') := by
 obtain ⟨⟨a, c, rfl⟩, hx⟩ := hv
 cases a with
 | none =>
  have h0 : ks = [] := by
   have := hx H (fun _ _ => rfl)
   cases hks : ks.length with
   | zero => exact List.eq_nil_of_length_eq_zero hks
   | succ n =>
    rw [hks] at this
    simp [xcells] at this
  subst h0
  refine ac_of_aw Tryd.func32 rfl Tryd.ntmps32 Tryd.results32 (by simp) ?_
  (refine aw_seq (aoo fun K hK => ?_); simp (disch := first | omega | (simp only [lnS]; try omega)) []; refine hK _ _ ?_; clear hK K)
  refine aw_seq (aw_seq ?_)
  (refine aoo fun K hK => ?_; simp (disch := first | omega | (simp only [lnS]; try omega)) []; refine hK _ _ ?_; clear hK K)
  refine aw_t (by (first | (simp; done) | (simp; omega))) (by kernel_rfl) ?_
  (refine aw_seq (aoo fun K hK => ?_); simp (disch := first | omega | (simp only [lnS]; try omega)) []; refine hK _ _ ?_; clear hK K)
  (refine aw_ret ?_; simp (disch := first | omega | (simp only [lnS]; try omega)) [thenQ_ret, scopeQ_ret, inBlockQ_ret, RQ, resL, resV])
  exact ⟨.inl ⟨rfl, rfl⟩, Low.refl (Nat.le_refl _)⟩
 | some a =>
  have ho0 : OwnK H.length (H ++ [some ⟨[], 41, some 32⟩]) (.slice (some ⟨H.length, 0, none⟩) 0 0) [] := .inr ⟨H.length, [], Nat.le_refl _, rfl, by rw [hget_app0]; rfl, List.prefix_rfl⟩
  obtain ⟨v7, G3, hap, ho3, hl3, hk3⟩ := ownK_append (nro := nro) (x := .slice (some a) ks.length c) (fun k hk => (by cases hk)) hk ho0 hnro (by simp) (fun s e => by cases e) (hx _ (fun j hj => hget_left hj)) (by simp; omega)
  have hnt7 := ho3.nt
  refine ac_of_aw Tryd.func32 rfl Tryd.ntmps32 Tryd.results32 (by simp) ?_
  (refine aw_seq (aoo fun K hK => ?_); simp (disch := first | omega | (simp only [lnS]; try omega)) []; refine hK _ _ ?_; clear hK K)
  refine aw_seq (aw_seq ?_)
  (refine aoo fun K hK => ?_; simp (disch := first | omega | (simp only [lnS]; try omega)) []; refine hK _ _ ?_; clear hK K)
  refine aw_f (by (first | (simp; done) | (simp; omega))) (by kernel_rfl) ?_
  refine aw_skip (aw_seq ?_)
  (refine aoo fun K hK => ?_; simp (disch := first | omega | (simp only [lnS]; try omega)) [-xappend, hap, hnt7.1, hnt7.2, -notTuple]; refine hK _ _ ?_; clear hK K)
  (refine aw_ret ?_; simp (disch := first | omega | (simp only [lnS]; try omega)) [thenQ_ret, scopeQ_ret, inBlockQ_ret, RQ, resL, resV, hnt7.1, hnt7.2])
  simp only [List.length_append, List.length_cons, List.length_nil] at hl3
  rw [List.nil_append] at ho3
  exact ⟨ho3, fun j hj => (hk3 j hj).trans (hget_left hj), by omega⟩
theorem open_ac {nro : Nat} {γ : Nat → Option Nat} {H : AH} {b : Nat} {F : List Nat} {T : List TermD} (h : Tbl H b F T) (hnH : nro ≤ H.length) {k y : List Int} (hk : k.length = 32) (hy : y.length = 32) {s : ByteArray} (hs1 : s.size ≤ 10000000) :
  AC Tryd.prog nro γ 55 #[.pointer (some ⟨b, 0, none⟩), .agg (iv .u8 k).toArray, .agg (iv .u8 y).toArray, .string s] H (OpenQ H T k y s) := by
 obtain ⟨mb, tv, Ft, Fk, L, rfl, hL, rfl, hFl⟩ := h
 have htk : (iv .u8 k).take 32 = iv .u8 k := List.take_of_length_le (by simp [hk])
 have hty : (iv .u8 y).take 32 = iv .u8 y := List.take_of_length_le (by simp [hy])
 have hs9 : s.size ≤ 9223372036854775807 := by omega
 by_cases h32 : s.size = 32
 case neg =>
  have hb32 : ((s.size : Int) == 32) = false := by rw [beq_eq_false_iff_ne]; omega
  have hi32 : ¬ (s.size : Int) = 32 := by omega
  have hop : openT (L.map (·.2)) k y s = none := by unfold openT; rw [if_neg h32]
  refine ac_of_aw Tryd.func55 rfl Tryd.ntmps55 Tryd.results55 (by simp) ?_
  (refine aw_seq (aoo fun K hK => ?_); simp (disch := first | omega | (simp only [lnS]; try omega)) [htk, hty]; refine hK _ _ ?_; clear hK K)
  refine aw_seq (aw_seq ?_)
  (refine aoo fun K hK => ?_; simp (disch := first | omega | (simp only [lnS]; try omega)) [hs9, hi32, hb32]; refine hK _ _ ?_; clear hK K)
  refine aw_t (by (first | (simp; done) | (simp; omega))) (by kernel_rfl) ?_
  (refine aw_seq (aoo fun K hK => ?_); simp (disch := first | omega | (simp only [lnS]; try omega)) []; refine hK _ _ ?_; clear hK K)
  (refine aw_ret ?_; simp (disch := first | omega | (simp only [lnS]; try omega)) [thenQ_ret, scopeQ_ret, inBlockQ_ret, RQ, resL, resV])
  exact ⟨Low.push (Nat.le_refl _) _, by rw [hop]⟩
 have hb32 : ((s.size : Int) == 32) = true := by rw [h32]; rfl
 have hi32 : (s.size : Int) = 32 := by rw [h32]; rfl
 have ln : (nums s).length = 32 := by rw [nums_len, h32]
 have htn : (iv .u8 (nums s)).take 32 = iv .u8 (nums s) := List.take_of_length_le (by simp [ln])
 have hf := fun (N : AH) => find_ac (nro := nro) (γ := γ) (hL.low (G := H ++ N) (fun j hj => hget_left (hFl j hj))) ln (nums_bd s)
 have hcase := findV_T L (nums s)
 have p1 : plain1 (.slice none 0 0) = true := rfl
 have r3 : List.range 3 = [0, 1, 2] := rfl
 generalize findV L (nums s) = fv at *
 rcases hcase with ⟨⟨kv, x⟩, hp, rfl, hft⟩ | ⟨rfl, hft⟩
 ·have hkn := hL.key_nt hp
  have hw : x.Wf := hL.wf _ hp
  obtain ⟨Fx, hox, hFx⟩ := hL.keys _ hp
  have hxl : ∀ j ∈ Fx, j < H.length := fun j hj => hFl j (by simp [hFx j hj])
  have h6k := hw.seal_
  have hmk := hw.many
  have hop : openT (L.map (·.2)) k y s = if x.kind = 6 ∧ k0 x = k ∧ k1 x = y then some (x.text, x.keys.drop 2) else none := by unfold openT; rw [if_pos h32, hft]
  unfold k0 k1 at hop
  unfold tmRow at *
  refine ac_of_aw Tryd.func55 rfl Tryd.ntmps55 Tryd.results55 (by simp) ?_
  (refine aw_seq (aoo fun K hK => ?_); simp (disch := first | omega | (simp only [lnS]; try omega)) [htk, hty]; refine hK _ _ ?_; clear hK K)
  refine aw_seq (aw_seq ?_)
  (refine aoo fun K hK => ?_; simp (disch := first | omega | (simp only [lnS]; try omega)) [hs9, hi32, hb32]; refine hK _ _ ?_; clear hK K)
  refine aw_f (by (first | (simp; done) | (simp; omega))) (by kernel_rfl) ?_
  refine aw_skip (aw_seq ?_)
  refine aoo fun K hK => ?_
  simp (disch := first | omega | (simp only [lnS]; try omega)) [h32, ln, htn]
  refine ⟨by kernel_rfl, AC.mono (hf _) ?_⟩
  rintro _ G ⟨rfl, lw⟩
  have hGl := lw.2
  rw [List.length_append] at lw hGl
  simp only [List.length_cons, List.length_nil] at lw hGl
  have gk : hget G H.length = some ⟨iv .u8 k, 41, none⟩ := (lw.1 _ (by omega)).trans (by rw [hget_app0]; rfl)
  have gy : hget G (H.length + 1) = some ⟨iv .u8 y, 41, none⟩ := (lw.1 _ (by omega)).trans (by rw [hget_app]; rfl)
  have lwH : Low H.length H G := ⟨fun j hj => (lw.1 j (by omega)).trans (hget_left hj), by omega⟩
  have hng : nro ≤ G.length := by omega
  try simp (disch := first | omega | (simp only [lnS]; try omega)) [p1, r3, hng, -notTuple, hkn.1, hkn.2]
  refine hK _ _ ?_; clear hK K
  obtain ⟨A, hA⟩ : ∃ A : AH, A = G ++ [some ⟨[.int .i64 (x.kind : Nat), .string x.text, kv], 92, none⟩] := ⟨_, rfl⟩
  have aG : hget A G.length = some ⟨[.int .i64 (x.kind : Nat), .string x.text, kv], 92, none⟩ := by rw [hA, hget_app0]; rfl
  have ak : hget A H.length = some ⟨iv .u8 k, 41, none⟩ := by rw [hA, hget_left (hget_lt gk)]; exact gk
  have ay : hget A (H.length + 1) = some ⟨iv .u8 y, 41, none⟩ := by rw [hA, hget_left (hget_lt gy)]; exact gy
  have aj : ∀ j, j < H.length → hget A j = hget H j := fun j hj => by rw [hA, hget_left (by omega)]; exact lwH.1 j hj
  have al : A.length = G.length + 1 := by rw [hA]; simp
  have lwA : Low H.length H A := ⟨aj, by omega⟩
  rw [← hA]
  clear hA
  have lA := hget_lt aG
  have la := hget_lt ak
  have lb := hget_lt ay
  have ldt : xload Tryd.prog 3 (.pointer (some ⟨G.length, 0, none⟩)) A = some (.int .i64 (x.kind : Nat)) := by simp [xload, aG]
  have lds : xload Tryd.prog 9 (.pointer (some ⟨G.length, 1, none⟩)) A = some (.string x.text) := by simp [xload, aG]
  have ldk : xload Tryd.prog 34 (.pointer (some ⟨G.length, 2, none⟩)) A = some kv := by simp [xload, aG]
  have ld1 : xload Tryd.prog 41 (.pointer (some ⟨H.length, 0, none⟩)) A = some (.agg (iv .u8 k).toArray) := by simp [xload, ak, hk, htk]
  have ld2 : xload Tryd.prog 41 (.pointer (some ⟨H.length + 1, 0, none⟩)) A = some (.agg (iv .u8 y).toArray) := by simp [xload, ay, hy, hty]
  refine aw_seq (aw_seq ?_)
  by_cases h6 : x.kind = 6
  case neg =>
   have b6 : ((x.kind : Int) == 6) = false := by rw [beq_eq_false_iff_ne]; omega
   have i6 : ¬ (x.kind : Int) = 6 := by omega
   rw [if_neg (fun e => h6 e.1)] at hop
   (refine aw_plan [] [] [0, 1, 2, 3, 4, 5, 6, 7, 8, 9, 10, 11, 12, 13, 14, 15, 16, 17, 18, 19, 20, 21, 22] 23 0 (by kernel_rfl) (by kernel_rfl) (by kernel_rfl) (fun K hK => ?_)); simp only [sel, List.getElem?_cons_succ, List.getElem?_cons_zero, List.drop_succ_cons, List.drop_zero]; simp (disch := first | omega | (simp only [lnS]; try omega)) [-xload, ldt, b6, i6, -notTuple, PL_nil, plainB_lit, PL_cons, PLc_val, PLc_new, stepP_t, stepP_f, stepPC_n, stepPC_s, stepPX_s, stepPX_n, stepPV_n, stepPV_s, stepPA_t, stepPA_c, stepPA_l, stepPN_s, allocOp, reloc_sl, reloc_ptr, List.map_cons, List.map_nil, List.nil_append, List.append_assoc, List.cons_append, Nat.add_assoc]
   refine hK _ _ ?_; clear hK K
   refine aw_t (by (first | (simp; done) | (simp; omega))) (by kernel_rfl) ?_
   (refine aw_seq (aoo fun K hK => ?_); simp (disch := first | omega | (simp only [lnS]; try omega)) []; refine hK _ _ ?_; clear hK K)
   (refine aw_ret ?_; simp (disch := first | omega | (simp only [lnS]; try omega)) [thenQ_ret, scopeQ_ret, inBlockQ_ret, RQ, resL, resV])
   exact ⟨lwA, by rw [hop]⟩
  have h2 := h6k h6
  have b6 : ((x.kind : Int) == 6) = true := by rw [h6]; rfl
  have i6 : (x.kind : Int) = 6 := by omega
  have hoA := hox.low (H' := A) (fun j hj => aj j (hxl j hj))
  have hKA : KsV A kv x.keys := kr_ksv hoA hw.k32
  have hacc := hKA.acc hw.k32
  obtain ⟨q0, y0, t1, t2, t3, t4, t5⟩ := hacc.at_ 0 (by omega)
  obtain ⟨q1, y1, u1, u2, u3, u4, u5⟩ := hacc.at_ 1 (by omega)
  have t2 : xindexAddr Tryd.prog 34 kv (.int .i64 0) = some q0 := t2
  have u2 : xindexAddr Tryd.prog 34 kv (.int .i64 1) = some q1 := u2
  have t5 := t5 A (Low.refl (Nat.le_refl _))
  have u5 := u5 A (Low.refl (Nat.le_refl _))
  subst t4 u4
  have z0 : (x.keys.getD 0 []).length = 32 := by
   rw [List.getD_eq_getElem?_getD, List.getElem?_eq_getElem (by omega)]
   exact hw.k32 _ (List.getElem_mem _)
  have z1 : (x.keys.getD 1 []).length = 32 := by
   rw [List.getD_eq_getElem?_getD, List.getElem?_eq_getElem (by omega)]
   exact hw.k32 _ (List.getElem_mem _)
  obtain ⟨sv, v1, v2, v3, v4, v5, _⟩ := suf_keys hoA hw.k32 h2
  have hdk : K32 (x.keys.drop 2) := fun z hz => hw.k32 z (List.mem_of_mem_drop hz)
  have hdm : (x.keys.drop 2).length ≤ 1000000 := by rw [List.length_drop]; omega
  have hsl := v1 A
  generalize x.keys.getD 0 [] = c0 at *
  generalize x.keys.getD 1 [] = c1 at *
  generalize x.keys.drop 2 = ds at *
  generalize x.kind = kd at *
  subst h6
  by_cases e0 : c0 = k
  case neg =>
   have c0b : (c0 == k) = false := by simpa using e0
   rw [if_neg (fun e => e0 e.2.1)] at hop
   (refine aw_plan [] [] [0, 1, 2, 3, 4, 5, 6, 7, 8, 9, 10, 11, 12, 13, 14, 15, 16, 17, 18, 19, 20, 21, 22] 23 0 (by kernel_rfl) (by kernel_rfl) (by kernel_rfl) (fun K hK => ?_)); simp only [sel, List.getElem?_cons_succ, List.getElem?_cons_zero, List.drop_succ_cons, List.drop_zero]; simp (disch := first | omega | (simp only [lnS]; try omega)) [-xload, ldt, ldk, ld1, t5, -xindexAddr, t1, t2, b6, i6, z0, hk, e0, c0b, -notTuple, hkn.1, PL_nil, plainB_lit, PL_cons, PLc_val, PLc_new, stepP_t, stepP_f, stepPC_n, stepPC_s, stepPX_s, stepPX_n, stepPV_n, stepPV_s, stepPA_t, stepPA_c, stepPA_l, stepPN_s, allocOp, reloc_sl, reloc_ptr, List.map_cons, List.map_nil, List.nil_append, List.append_assoc, List.cons_append, Nat.add_assoc]
   refine hK _ _ ?_; clear hK K
   refine aw_t (by (first | (simp; done) | (simp; omega))) (by kernel_rfl) ?_
   (refine aw_seq (aoo fun K hK => ?_); simp (disch := first | omega | (simp only [lnS]; try omega)) []; refine hK _ _ ?_; clear hK K)
   (refine aw_ret ?_; simp (disch := first | omega | (simp only [lnS]; try omega)) [thenQ_ret, scopeQ_ret, inBlockQ_ret, RQ, resL, resV])
   exact ⟨lwA, by rw [hop]⟩
  subst e0
  by_cases e1 : c1 = y
  case neg =>
   have c1b : (c1 == y) = false := by simpa using e1
   rw [if_neg (fun e => e1 e.2.2)] at hop
   (refine aw_plan [] [] [0, 1, 2, 3, 4, 5, 6, 7, 8, 9, 10, 11, 12, 13, 14, 15, 16, 17, 18, 19, 20, 21, 22] 23 0 (by kernel_rfl) (by kernel_rfl) (by kernel_rfl) (fun K hK => ?_)); simp only [sel, List.getElem?_cons_succ, List.getElem?_cons_zero, List.drop_succ_cons, List.drop_zero]; simp (disch := first | omega | (simp only [lnS]; try omega)) [-xload, ldt, ldk, ld1, ld2, t5, u5, -xindexAddr, t1, t2, u1, u2, b6, i6, z0, z1, hk, hy, e1, c1b, -notTuple, hkn.1, PL_nil, plainB_lit, PL_cons, PLc_val, PLc_new, stepP_t, stepP_f, stepPC_n, stepPC_s, stepPX_s, stepPX_n, stepPV_n, stepPV_s, stepPA_t, stepPA_c, stepPA_l, stepPN_s, allocOp, reloc_sl, reloc_ptr, List.map_cons, List.map_nil, List.nil_append, List.append_assoc, List.cons_append, Nat.add_assoc]
   refine hK _ _ ?_; clear hK K
   refine aw_t (by (first | (simp; done) | (simp; omega))) (by kernel_rfl) ?_
   (refine aw_seq (aoo fun K hK => ?_); simp (disch := first | omega | (simp only [lnS]; try omega)) []; refine hK _ _ ?_; clear hK K)
   (refine aw_ret ?_; simp (disch := first | omega | (simp only [lnS]; try omega)) [thenQ_ret, scopeQ_ret, inBlockQ_ret, RQ, resL, resV])
   exact ⟨lwA, by rw [hop]⟩
  subst e1
  rw [if_pos ⟨rfl, rfl, rfl⟩] at hop
  (refine aw_plan [] [] [0, 1, 2, 3, 4, 5, 6, 7, 8, 9, 10, 11, 12, 13, 14, 15, 16, 17, 18, 19, 20, 21, 22] 23 0 (by kernel_rfl) (by kernel_rfl) (by kernel_rfl) (fun K hK => ?_)); simp only [sel, List.getElem?_cons_succ, List.getElem?_cons_zero, List.drop_succ_cons, List.drop_zero]; simp (disch := first | omega | (simp only [lnS]; try omega)) [-xload, ldt, ldk, ld1, ld2, t5, u5, -xindexAddr, t1, t2, u1, u2, b6, i6, z0, z1, hk, hy, -notTuple, hkn.1, PL_nil, plainB_lit, PL_cons, PLc_val, PLc_new, stepP_t, stepP_f, stepPC_n, stepPC_s, stepPX_s, stepPX_n, stepPV_n, stepPV_s, stepPA_t, stepPA_c, stepPA_l, stepPN_s, allocOp, reloc_sl, reloc_ptr, List.map_cons, List.map_nil, List.nil_append, List.append_assoc, List.cons_append, Nat.add_assoc]
  refine hK _ _ ?_; clear hK K
  refine aw_f (by (first | (simp; done) | (simp; omega))) (by kernel_rfl) ?_
  refine aw_skip (aw_seq ?_)
  obtain ⟨gl, hgl⟩ : ∃ gl, gl = G.length := ⟨_, rfl⟩
  rw [← hgl] at aG lA
  refine name_aw (fun β hβ => ?_)
  have e11 : β 11 = .pointer (some ⟨gl, 0, none⟩) := by rw [hβ, hgl]; (first | (simp; done) | rfl)
  clear hβ
  have hND : opJD.Nodup := by decide
  have hST : ∀ (G1 G2 : AH) (i : Nat) (v : Value), G1.length ≤ G2.length → (∀ j, j < G1.length → hget G2 j = hget G1 j) → opJV gl A.length x.text kv sv ds G1 i v → opJV gl A.length x.text kv sv ds G2 i v := fun G1 G2 i v h1 h2 h => by
   unfold opJV at h ⊢
   split at h <;> first | exact h | exact h.low (fun j _ hj => h2 j hj)
  generalize x.text = st at *
  refine aw_inv opJP (IJ opJD (opJV gl A.length st kv sv ds) β A) (by kernel_rfl) (by kernel_rfl) (by kernel_rfl) (IJ.start rfl) ?_ ?_
  ·intro i s α G k hJ hi0 hsi hd hc hcont
   have j11 := (hJ.lo 11 (by decide)).trans e11
   have gA := (hJ.lw.2 gl lA).trans aG
   have lgA := hget_lt gA
   have hi : i = 0 ∨ i = 1 ∨ i = 2 ∨ i = 3 ∨ i = 4 ∨ i = 5 ∨ i = 6 ∨ i = 7 ∨ i = 8 := by have hi0 : i < 9 := hi0; omega
   rcases hi with rfl | rfl | rfl | rfl | rfl | rfl | rfl | rfl | rfl
   ·simp (disch := first | omega | (simp only [lnS]; try omega)) [-notTuple, hkn.1, j11]
    exact hcont _ _ (hJ.put hND hST rfl (Nat.le_refl _) (fun _ _ => rfl) rfl)
   ·have f0 : α 48 = .pointer (some ⟨gl, 1, none⟩) := hJ.val 0 48 rfl (hd 0 (by decide))
    simp (disch := first | omega | (simp only [lnS]; try omega)) [-notTuple, hkn.1, gA, lgA, f0]
    exact hcont _ _ (hJ.put hND hST rfl (Nat.le_refl _) (fun _ _ => rfl) rfl)
   ·simp (disch := first | omega | (simp only [lnS]; try omega)) [-notTuple, hkn.1, j11]
    exact hcont _ _ (hJ.put hND hST rfl (Nat.le_refl _) (fun _ _ => rfl) rfl)
   ·have f2 : α 50 = .pointer (some ⟨gl, 2, none⟩) := hJ.val 2 50 rfl (hd 2 (by decide))
    simp (disch := first | omega | (simp only [lnS]; try omega)) [-notTuple, hkn.1, gA, lgA, f2]
    exact hcont _ _ (hJ.put hND hST rfl (Nat.le_refl _) (fun _ _ => rfl) rfl)
   ·have f3 : α 51 = kv := hJ.val 3 51 rfl (hd 3 (by decide))
    simp (disch := first | omega | (simp only [lnS]; try omega)) [-notTuple, hkn.1, -xslice, v1 G, v2, f3]
    exact hcont _ _ (hJ.put hND hST rfl (Nat.le_refl _) (fun _ _ => rfl) rfl)
   ·have f4 : α 52 = sv := hJ.val 4 52 rfl (hd 4 (by decide))
    simp (disch := first | omega | (simp only [lnS]; try omega)) [f4]
    refine ⟨by kernel_rfl, (cloneP_ac (nro := nro) (γ := γ) (v5.keep hJ.lw.1 hJ.lw.2) hdk hdm (by have := hJ.lw.1; omega)).mono ?_⟩
    rintro v' G' ⟨ho, lw⟩
    exact hcont _ _ (hJ.put hND hST rfl lw.2 lw.1 (ho.less hJ.lw.1))
   ·have f1 : α 49 = .string st := hJ.val 1 49 rfl (hd 1 (by decide))
    simp (disch := first | omega | (simp only [lnS]; try omega)) [-notTuple, hkn.1, f1]
    exact hcont _ _ (hJ.put hND hST rfl (Nat.le_refl _) (fun _ _ => rfl) rfl)
   ·have f5 := hJ.val 5 53 rfl (hd 5 (by decide))
    obtain ⟨n1, n2⟩ := OwnK.nt f5
    simp (disch := first | omega | (simp only [lnS]; try omega)) []
    exact hcont _ _ (hJ.put hND hST rfl (Nat.le_refl _) (fun _ _ => rfl) f5)
   ·simp (disch := first | omega | (simp only [lnS]; try omega)) [-notTuple, hkn.1]
    exact hcont _ _ (hJ.put hND hST rfl (Nat.le_refl _) (fun _ _ => rfl) rfl)
  ·rintro s' α' B hJ hall
   have hsz : s'.size = 9 := hJ.sz
   have hg : ∀ i, i < 9 → s'.getD i false = true := fun i hi => by
    rw [Array.getD_eq_getD_getElem?, Array.getElem?_eq_getElem (by omega)]
    exact Array.all_eq_true.1 hall i (by omega)
   have e8 : α' 8 = .string st := hJ.val 6 8 rfl (hg 6 (by omega))
   have e9 : OwnK A.length B (α' 9) ds := hJ.val 7 9 rfl (hg 7 (by omega))
   have e10 : α' 10 = .bool true := hJ.val 8 10 rfl (hg 8 (by omega))
   obtain ⟨v9, h9⟩ : ∃ v9, α' 9 = v9 := ⟨_, rfl⟩
   rw [h9] at e9
   have hn9 := e9.nt
   (refine aw_ret ?_; simp (disch := first | omega | (simp only [lnS]; try omega)) [thenQ_ret, scopeQ_ret, inBlockQ_ret, RQ, resL, resV, e8, h9, e10, -notTuple, hn9.1, hn9.2])
   refine ⟨⟨fun j hj => (hJ.lw.2 j (by omega)).trans (aj j hj), by have := hJ.lw.1; omega⟩, ?_⟩
   rw [hop]
   exact ⟨v9, rfl, e9.less (by omega)⟩
 ·unfold zkey at *
  refine ac_of_aw Tryd.func55 rfl Tryd.ntmps55 Tryd.results55 (by simp) ?_
  (refine aw_seq (aoo fun K hK => ?_); simp (disch := first | omega | (simp only [lnS]; try omega)) [htk, hty]; refine hK _ _ ?_; clear hK K)
  refine aw_seq (aw_seq ?_)
  (refine aoo fun K hK => ?_; simp (disch := first | omega | (simp only [lnS]; try omega)) [hs9, hi32, hb32]; refine hK _ _ ?_; clear hK K)
  refine aw_f (by (first | (simp; done) | (simp; omega))) (by kernel_rfl) ?_
  refine aw_skip (aw_seq ?_)
  refine aoo fun K hK => ?_
  simp (disch := first | omega | (simp only [lnS]; try omega)) [h32, ln, htn]
  refine ⟨by kernel_rfl, AC.mono (hf _) ?_⟩
  rintro _ G ⟨rfl, lw⟩
  have hGl := lw.2
  rw [List.length_append] at lw hGl
  simp only [List.length_cons, List.length_nil] at lw hGl
  have gk : hget G H.length = some ⟨iv .u8 k, 41, none⟩ := (lw.1 _ (by omega)).trans (by rw [hget_app0]; rfl)
  have gy : hget G (H.length + 1) = some ⟨iv .u8 y, 41, none⟩ := (lw.1 _ (by omega)).trans (by rw [hget_app]; rfl)
  have lwH : Low H.length H G := ⟨fun j hj => (lw.1 j (by omega)).trans (hget_left hj), by omega⟩
  have hng : nro ≤ G.length := by omega
  try simp (disch := first | omega | (simp only [lnS]; try omega)) [p1, r3, hng]
  refine hK _ _ ?_; clear hK K
  refine aw_seq (aw_seq ?_)
  (refine aw_plan [] [] [0, 1, 2, 3, 4, 5, 6, 7, 8, 9, 10, 11, 12, 13, 14, 15, 16, 17, 18, 19, 20, 21, 22] 23 0 (by kernel_rfl) (by kernel_rfl) (by kernel_rfl) (fun K hK => ?_)); simp only [sel, List.getElem?_cons_succ, List.getElem?_cons_zero, List.drop_succ_cons, List.drop_zero]; simp (disch := first | omega | (simp only [lnS]; try omega)) [PL_nil, plainB_lit, PL_cons, PLc_val, PLc_new, stepP_t, stepP_f, stepPC_n, stepPC_s, stepPX_s, stepPX_n, stepPV_n, stepPV_s, stepPA_t, stepPA_c, stepPA_l, stepPN_s, allocOp, reloc_sl, reloc_ptr, List.map_cons, List.map_nil, List.nil_append, List.append_assoc, List.cons_append, Nat.add_assoc]
  refine hK _ _ ?_; clear hK K
  refine aw_t (by (first | (simp; done) | (simp; omega))) (by kernel_rfl) ?_
  (refine aw_seq (aoo fun K hK => ?_); simp (disch := first | omega | (simp only [lnS]; try omega)) []; refine hK _ _ ?_; clear hK K)
  (refine aw_ret ?_; simp (disch := first | omega | (simp only [lnS]; try omega)) [thenQ_ret, scopeQ_ret, inBlockQ_ret, RQ, resL, resV])
  have hop : openT (L.map (·.2)) k y s = none := by unfold openT; rw [if_pos h32, hft]
  exact ⟨⟨fun j hj => (hget_left (by omega)).trans (lwH.1 j hj), by simp; omega⟩, by rw [hop]⟩
end
end
section
theorem place_none {x : TermD} {T : List TermD} (hx : x.Wf) (hT : ∀ y ∈ T, y.Wf) (h : x ∉ T) : placeT x T = none := by
 cases hp : placeT x T with
 | none => rfl
 | some i => exact absurd (List.mem_of_getElem? (place_some hx hT hp)) h
theorem idxS_mem {s : ByteArray} : ∀ {L : List ByteArray}, s ∈ L → ∃ i, idxS s L = some i
 | x :: L, h => by
  unfold idxS
  by_cases e : s = x
  ·exact ⟨0, if_pos e⟩
  ·rw [if_neg e]
   rcases List.mem_cons.1 h with h | h
   ·exact absurd h e
   ·obtain ⟨i, hi⟩ := idxS_mem h
    exact ⟨i + 1, by rw [hi]; rfl⟩
theorem add_new {x : TermD} {T : List TermD} (hx : x.Wf) (hT : ∀ y ∈ T, y.Wf) (h : x ∉ T) : addT x T = T ++ [x] ∧ nameT x T = T.length := by
 have := place_none hx hT h
 exact ⟨by unfold addT; rw [this], by unfold nameT; rw [this]⟩
theorem add_old {x : TermD} {T : List TermD} (hx : x.Wf) (hT : ∀ y ∈ T, y.Wf) (hn : T.Nodup) {i : Nat} (h : T[i]? = some x) : addT x T = T ∧ nameT x T = i := by
 obtain ⟨j, hj⟩ := idxS_mem (List.mem_map.2 ⟨x, List.mem_of_getElem? h, rfl⟩ : x.rec_ ∈ T.map TermD.rec_)
 have hp : placeT x T = some j := hj
 have h2 := place_some hx hT hp
 have e : j = i := (List.getElem?_inj (List.getElem?_eq_some_iff.1 h2).1 hn).1 (h2.trans h.symm)
 exact ⟨by unfold addT; rw [hp], by unfold nameT; rw [hp]; exact e⟩
theorem wf_atom {s : ByteArray} (hs : s.size ≤ 100000000) : TermD.Wf ⟨1, s, []⟩ := wf_0 (.inl rfl) hs
theorem zl_by32 : By (zl 32) := fun x hx => by
 rw [List.eq_of_mem_replicate hx]; omega
end
section
theorem place_eq {x : TermD} {T : List TermD} (hx : x.Wf) (hT : ∀ y ∈ T, y.Wf) (hn : T.Nodup) {i : Nat} (h : T[i]? = some x) : placeT x T = some i := by
 obtain ⟨j, hj⟩ := idxS_mem (List.mem_map.2 ⟨x, List.mem_of_getElem? h, rfl⟩ : x.rec_ ∈ T.map TermD.rec_)
 have hp : placeT x T = some j := hj
 have h2 := place_some hx hT hp
 have e : j = i := (List.getElem?_inj (List.getElem?_eq_some_iff.1 h2).1 hn).1 (h2.trans h.symm)
 rw [hp, e]
abbrev mA (a : ByteArray) : TermD := ⟨1, a, []⟩
abbrev mU (k : List Int) : TermD := ⟨3, ⟨#[]⟩, [k]⟩
abbrev mK (k l : List Int) : TermD := ⟨4, ⟨#[]⟩, [k, l]⟩
def n0 : List Int := nmL ((0 : Nat) : Int)
def n1 : List Int := nmL ((1 : Nat) : Int)
def n2 : List Int := nmL ((2 : Nat) : Int)
def n3 : List Int := nmL ((3 : Nat) : Int)
def n4 : List Int := nmL ((4 : Nat) : Int)
theorem n0_by : By n0 := nmL_by _
theorem n1_by : By n1 := nmL_by _
theorem n2_by : By n2 := nmL_by _
theorem n3_by : By n3 := nmL_by _
theorem n4_by : By n4 := nmL_by _
theorem p0 : pk n0 = some 0 := pk_nm (by omega)
theorem p1_ : pk n1 = some 1 := pk_nm (by omega)
def tE (a : ByteArray) : List TermD := [mA a, mU n0, mK n0 n0]
section
variable {a b : ByteArray} (ha : a.size ≤ 300) (hb : b.size ≤ 300)
theorem folN {C : List Bool} {k : List Int} {i : Nat} (h : pk k = some i) : fol C k = kw C i := by unfold fol; rw [h]
end
end
section
attribute [local simp] wb_bool wb_undef with_lit XL_nil XL_cons XLc_val XLc_call step1_eq stepW_t stepW_f stepC_n stepC_s stepX_s stepX_n stepN_s calleeX xrecv oneV xop_eq xopR_s xopR_n wantedA_eq wantedG_n wantedG_s plain1_int plain1_bool plain1_string bits_i64 bits_u64 bits_u32 bits_u16 bits_u8 xeqA xagg xcmp xarr allK_iv num_iv calleeOf xread xeff xbin xint xnil xun xstr xload xconv xpart xfield xfieldAddr xindexAddr xindex bnd asInt? xslice xlen xmin xmax xbuild xfill xappend xapp2 xappstr xappmk xcap xcopy xcells eval_tmp eval_const put_at put_none fr0_at cells_agg cells_int cells_bool cells_string cells_ptr cells_slice notTuple tab iv_all hget_app hget_app0 hget_cons0 hget_cons set_app set_app0 setR setR_one QL_nil QL_cons QLc_val stepQ_t stepQ_f stepQC_n stepQC_s stepQX_s SL_nil SL_cons SLc_val stepS_t stepS_f ltT ltF leT leF eqT eqF ltTn ltFn leTn leFn eqTn eqFn beqT beqF bneT bneF wi64 wu64 wu32 wu16 wu8 tmodP tdivP hgetL hgetNe hgetEq setL nums_def nums_len Nat.succ_le_of_lt List.getElem?_cons_zero List.getElem?_cons_succ Option.getD_some Int.toNat_add Int.toNat_mul agM okM agB agI agS agP agL agA okB okI okS okP okSl okA nt_strG nt_boolG nt_aggG nt_intG nt_ptrG nt_slG XO_s XO_z XLk_val XLk_call headsO behind List.length_cons List.length_nil List.mem_cons List.not_mem_nil or_false forall_eq_or_imp forall_eq List.contains_cons List.contains_nil XOm
section
theorem gs_0 (n i : Nat) : (Array.replicate n false).getD i false = false := by
 rw [Array.getD_eq_getD_getElem?, Array.getElem?_replicate]
 split <;> rfl
theorem gs_eq {s : Array Bool} {i : Nat} (h : i < s.size) : (s.setIfInBounds i true).getD i false = true := by
 rw [Array.getD_eq_getD_getElem?, Array.getElem?_setIfInBounds_self_of_lt h]; rfl
theorem gs_ne {s : Array Bool} {i j : Nat} (h : i ≠ j) : (s.setIfInBounds i true).getD j false = s.getD j false := by
 rw [Array.getD_eq_getD_getElem?, Array.getElem?_setIfInBounds_ne h, ← Array.getD_eq_getD_getElem?]
theorem two32 {k l : List Int} (hk : k.length = 32) (hl : l.length = 32) : ∀ x ∈ [k, l], x.length = 32 := fun x hx => by
 simp only [List.mem_cons, List.not_mem_nil, or_false] at hx
 rcases hx with rfl | rfl
 ·exact hk
 ·exact hl
theorem twoBy {k l : List Int} (hk : By k) (hl : By l) : ∀ x ∈ [k, l], By x := fun x hx => by
 simp only [List.mem_cons, List.not_mem_nil, or_false] at hx
 rcases hx with rfl | rfl
 ·exact hk
 ·exact hl
end
end
section
def db32L : List Int := [0, 1, 28, 2, 29, 14, 24, 3, 30, 22, 20, 15, 25, 17, 4, 8, 31, 27, 13, 23, 21, 19, 16, 7, 26, 12, 18, 6, 11, 5, 10, 9]
def db64L : List Int := [0, 1, 56, 2, 57, 49, 28, 3, 61, 58, 42, 50, 38, 29, 17, 4, 62, 47, 59, 36, 45, 43, 51, 22, 53, 39, 33, 30, 24, 18, 12, 5, 63, 55, 48, 27, 60, 41, 37, 16, 46, 35, 44, 21, 52, 32, 23, 11, 54, 26, 40, 15, 34, 20, 31, 10, 25, 14, 19, 9, 13, 8, 7, 6]
end
section
attribute [local simp] wb_bool wb_undef with_lit XL_nil XL_cons XLc_val XLc_call step1_eq stepW_t stepW_f stepC_n stepC_s stepX_s stepX_n stepN_s calleeX xrecv oneV xop_eq xopR_s xopR_n wantedA_eq wantedG_n wantedG_s plain1_int plain1_bool plain1_string bits_i64 bits_u64 bits_u32 bits_u16 bits_u8 xeqA xagg xcmp xarr allK_iv num_iv calleeOf xread xeff xbin xint xnil xun xstr xload xconv xpart xfield xfieldAddr xindexAddr xindex bnd asInt? xslice xlen xmin xmax xbuild xfill xappend xapp2 xappstr xappmk xcap xcopy xcells eval_tmp eval_const put_at put_none fr0_at cells_agg cells_int cells_bool cells_string cells_ptr cells_slice notTuple tab iv_all hget_app hget_app0 hget_cons0 hget_cons set_app set_app0 setR setR_one QL_nil QL_cons QLc_val stepQ_t stepQ_f stepQC_n stepQC_s stepQX_s SL_nil SL_cons SLc_val stepS_t stepS_f ltT ltF leT leF eqT eqF ltTn ltFn leTn leFn eqTn eqFn beqT beqF bneT bneF wi64 wu64 wu32 wu16 wu8 tmodP tdivP hgetL hgetNe hgetEq setL nums_def nums_len Nat.succ_le_of_lt List.getElem?_cons_zero List.getElem?_cons_succ Option.getD_some Int.toNat_add Int.toNat_mul agM okM agB agI agS agP agL agA okB okI okS okP okSl okA nt_strG nt_boolG nt_aggG nt_intG nt_ptrG nt_slG XO_s XO_z XLk_val XLk_call headsO behind List.length_cons List.length_nil List.mem_cons List.not_mem_nil or_false forall_eq_or_imp forall_eq List.contains_cons List.contains_nil XOm
section
structure JT (ds : List (Option Nat)) (VP : Nat → Value → Prop) (β : Fm) (P : Array Bool → Fm → AH → Prop) (s : Array Bool) (α : Fm) (G : AH) : Prop where
 sz : s.size = ds.length
 lo : ∀ t, some t ∉ ds → α t = β t
 val : ∀ i t, ds[i]? = some (some t) → s.getD i false = true → VP i (α t)
 hp : P s α G
theorem JT.put {ds : List (Option Nat)} {VP : Nat → Value → Prop} {β : Fm} {P : Array Bool → Fm → AH → Prop} {s : Array Bool} {α : Fm} {G G' : AH} (h : JT ds VP β P s α G) (hnd : ∀ i j t : Nat, ds[i]? = some (some t) → ds[j]? = some (some t) → i = j) {i t : Nat} {v : Value}
  (hi : ds[i]? = some (some t)) (hv : VP i v) (hp : P (s.setIfInBounds i true) (α.put (some t) v) G') : JT ds VP β P (s.setIfInBounds i true) (α.put (some t) v) G' := by
 refine ⟨by simp [h.sz], fun t' ht => ?_, fun j t' hj hs => ?_, hp⟩
 ·have hm : some t ∈ ds := List.mem_of_getElem? hi
  have : t' ≠ t := fun e => ht (e ▸ hm)
  rw [← h.lo t' ht]
  simp [put_at, this]
 ·by_cases hij : i = j
  ·subst hij
   rw [hi] at hj
   cases hj
   simpa [put_at] using hv
  ·rw [gs_ne hij] at hs
   have : t' ≠ t := fun e => hij (hnd i j t hi (e ▸ hj))
   simpa [put_at, this] using h.val j t' hj hs
theorem JT.put0 {ds : List (Option Nat)} {VP : Nat → Value → Prop} {β : Fm} {P : Array Bool → Fm → AH → Prop} {s : Array Bool} {α : Fm} {G G' : AH} (h : JT ds VP β P s α G) {i : Nat} (hi : ds[i]? = some none) (hp : P (s.setIfInBounds i true) α G') : JT ds VP β P (s.setIfInBounds i true) α G' := by
 refine ⟨by simp [h.sz], h.lo, fun j t' hj hs => ?_, hp⟩
 have hij : i ≠ j := fun e => by rw [← e, hi] at hj; cases hj
 rw [gs_ne hij] at hs
 exact h.val j t' hj hs
end
section
def u3 (x : Int) : Int := IntKind.u32.wrap x
def smT (s : ByteArray) (n : Int) : Nat → Int
 | 0 => n
 | i + 1 => u3 (u3 (smT s n i * 31) + u3 (gb s i))
def smK (ks : List (List Int)) (n : Int) : Nat → Int
 | 0 => n
 | i + 1 => u3 (u3 (u3 (u3 (smK ks n i * 31) + u3 ((ks.getD i []).getD 7 0)) + u3 (256 * u3 ((ks.getD i []).getD 6 0))) + u3 ((ks.getD i []).getD 0 0))
def sm0 (x : TermD) : Int := u3 (u3 (x.kind : Int) + u3 (7 * u3 (x.text.size : Int)))
def sumR (x : TermD) : Int := smK x.keys (smT x.text (sm0 x) (min x.text.size 20)) x.keys.length
theorem KsV.cell {H : AH} {v : Value} {l : List (List Int)} (h : KsV H v l) (hl : ∀ k ∈ l, k.length = 32) {i : Nat} (hi : i < l.length) :
  ∃ j, xindexAddr Tryd.prog 34 v (.int .i64 (i : Nat)) = some (.pointer (some ⟨j, i * 32, none⟩)) ∧ ∀ c, c < 32 → ∀ G : AH, Low H.length H G → xload Tryd.prog 5 (.pointer (some ⟨j, i * 32 + c, none⟩)) G = some (.int .u8 ((l.getD i []).getD c 0)) := by
 obtain ⟨z, hz⟩ : ∃ z, l[i]? = some z := ⟨_, List.getElem?_eq_getElem hi⟩
 have hzl := hl z (List.mem_of_getElem? hz)
 obtain ⟨j, b, us, hv, hb, hle, hx, hus, hul, hle2, hc, hval⟩ := val_at (P := Tryd.prog) (t := 34) (e := 41) (sz := 32) h (by kernel_rfl) (by kernel_rfl) (by omega) (fun row hr => by
  obtain ⟨y, hy, rfl⟩ := List.mem_map.1 hr
  unfold kd
  rw [List.length_map]
  exact hl y hy) (i := i) (row := kd z) (by rw [List.getElem?_map, hz]; rfl)
 have hk : us = iv .u8 z := hval.key
 have hg : l.getD i [] = z := by rw [List.getD_eq_getElem?_getD, hz]; rfl
 have e1 : isAggD (und Tryd.prog 5) = false := by kernel_rfl
 have e2 : okD (und Tryd.prog 5) = true := by kernel_rfl
 refine ⟨j, hx, fun c hc32 G hG => ?_⟩
 have hbG : hget G j = some b := (hG.1 j (hget_lt hb)).trans hb
 have h1 := hc c hc32
 rw [hk, iv_getN _ _ _ (by omega)] at h1
 unfold xload
 simp only [hbG, e1, e2, h1, hg]
 simp
theorem key_at {j q c : Nat} (hc : c < 32) : xindexAddr Tryd.prog 41 (.pointer (some ⟨j, q, none⟩)) (.int .i64 (c : Nat)) = some (.pointer (some ⟨j, q + c, none⟩)) := by
 have h1 : und Tryd.prog 41 = .array 32 5 := by kernel_rfl
 have h2 : szt Tryd.prog 5 = 1 := by kernel_rfl
 unfold xindexAddr
 simp only [h1, h2]
 rw [if_pos ⟨by omega, by omega, by omega⟩]
 simp
theorem sum_rc {γ : Nat → Option Nat} {H : AH} {kv : Value} {x : TermD} (hv : KsV H kv x.keys) (hk : ∀ k ∈ x.keys, k.length = 32) (hs : x.text.size ≤ 9223372036854775807) (hm : x.keys.length ≤ maxLen) :
  AC Tryd.prog H.length γ 63 #[.agg (tmRow kv x).toArray] H (fun v' _ => v' = .int .u32 (sumR x)) := by
 obtain ⟨kind, s, ks⟩ := x
 have hm63 : ks.length ≤ 9223372036854775807 := by simp only [maxLen] at hm; omega
 have hsum : sumR ⟨kind, s, ks⟩ = smK ks (smT s (sm0 ⟨kind, s, ks⟩) (min s.size 20)) ks.length := rfl
 have h00 : sm0 ⟨kind, s, ks⟩ = u3 (u3 (kind : Int) + u3 (7 * u3 (s.size : Int))) := rfl
 rw [hsum]
 generalize sm0 ⟨kind, s, ks⟩ = n0 at *
 have hcs : ks.length = ks.length := rfl
 obtain ⟨hnt, hvc, hxl, _⟩ := hv.acc hk
 have hcell := fun i (hi : i < ks.length) => hv.cell hk hi
 have hrow : tmRow kv ⟨kind, s, ks⟩ = [.int .i64 (kind : Nat), .string s, kv] := rfl
 rw [hrow]
 refine ac_of_aw Tryd.func63 rfl Tryd.ntmps63 Tryd.results63 (by simp) ?_
 (refine aw_seq (aoo fun K hK => ?_); simp (disch := first | omega | (simp only [lnS]; try omega)) [-notTuple, hnt, hvc]; refine hK _ _ ?_; clear hK K)
 obtain ⟨B, hB⟩ : ∃ B : AH, B = H ++ [some ⟨[.int .i64 (kind : Nat), .string s, kv], 92, none⟩] := ⟨_, rfl⟩
 have hb : hget B H.length = some ⟨[.int .i64 (kind : Nat), .string s, kv], 92, none⟩ := by rw [hB, hget_app0]; rfl
 have hlb := hget_lt hb
 have lwB : Low H.length H B := by rw [hB]; exact Low.push (Nat.le_refl _) _
 rw [← hB]
 (refine aw_seq (aoo fun K hK => ?_); simp (disch := first | omega | (simp only [lnS]; try omega)) [hb, hlb, -notTuple, hnt, hvc, hs]; refine hK _ _ ?_; clear hK K)
 refine aw_seq (aw_seq ?_)
 (refine aoo fun K hK => ?_; simp (disch := first | omega | (simp only [lnS]; try omega)) []; refine hK _ _ ?_; clear hK K)
 refine aw_block ?_
 refine aw_loop (fun q α G => ∃ i : Nat, i + q = 20 ∧ i ≤ s.size ∧ α 1 = .pointer (some ⟨H.length, 0, none⟩) ∧ α 3 = .int .u32 (smT s n0 i) ∧ α 4 = .int .i64 (i : Nat) ∧ G = B) 20 ?_ ?_
 ·exact ⟨0, by omega, by omega, by (first | (simp; done) | rfl), by rw [show smT s n0 0 = n0 from rfl, h00]; (first | (simp; done) | rfl), by (first | (simp; done) | rfl), rfl⟩
 rintro q α G ⟨i, hiq, his, h1, h3, h4, rfl⟩
 refine aw_seq (aw_seq ?_)
 by_cases hi : i < s.size ∧ i < 20
 ·obtain ⟨hi1, hi2⟩ := hi
  have hi1' : (i : Int) < s.size := by omega
  have hi2' : (i : Int) < 20 := by omega
  have hT : smT s n0 (i + 1) = u3 (u3 (smT s n0 i * 31) + u3 (gb s i)) := rfl
  unfold u3 at hT
  (refine aoo fun K hK => ?_; simp (disch := first | omega | (simp only [lnS]; try omega)) [h1, h4, hb, hlb, hs, hi1', hi2']; refine hK _ _ ?_; clear hK K)
  refine aw_t (by (first | (simp; done) | (simp; omega))) (by kernel_rfl) ?_
  refine aw_skip (aw_seq ?_)
  refine aw_block ?_
  (refine aoo fun K hK => ?_; simp (disch := first | omega | (simp only [lnS]; try omega)) [h1, h3, h4, hb, hlb, hi1, hi1']; refine hK _ _ ?_; clear hK K)
  (refine aoo fun K hK => ?_; simp (disch := first | omega | (simp only [lnS]; try omega)) [h4, hi2']; refine hK _ _ ?_; clear hK K)
  exact ⟨q - 1, by omega, i + 1, by omega, by omega, by (first | (simp [h1]; done) | rfl), by rw [hT]; (first | (simp; done) | rfl), by (first | (simp; done) | rfl), rfl⟩
 ·have hmin : min s.size 20 = i := by omega
  rw [hmin]
  generalize smT s n0 i = n1 at *
  refine aw_cut (fun α G' => α 1 = .pointer (some ⟨H.length, 0, none⟩) ∧ α 3 = .int .u32 n1 ∧ α 23 = .bool false ∧ G' = G) ?_ ?_
  ·by_cases hi1 : i < s.size
   ·have hi1' : (i : Int) < s.size := by omega
    have hi2' : ¬ (i : Int) < 20 := by omega
    (refine aoo fun K hK => ?_; simp (disch := first | omega | (simp only [lnS]; try omega)) [h1, h4, hb, hlb, hs, hi1', hi2']; refine hK _ _ ?_; clear hK K)
    exact ⟨by (first | (simp [h1]; done) | rfl), by (first | (simp [h3]; done) | rfl), by (first | (simp; done) | rfl), rfl⟩
   ·have hi1' : ¬ (i : Int) < s.size := by omega
    (refine aoo fun K hK => ?_; simp (disch := first | omega | (simp only [lnS]; try omega)) [h1, h4, hb, hlb, hs, hi1']; refine hK _ _ ?_; clear hK K)
    exact ⟨by (first | (simp [h1]; done) | rfl), by (first | (simp [h3]; done) | rfl), by (first | (simp; done) | rfl), rfl⟩
  rintro α1 G' ⟨g1, g3, g23, rfl⟩
  clear h1 h3 h4
  refine aw_f (by (first | (simp [g23]; done) | (simp [g23]; omega))) (by kernel_rfl) ?_
  refine aw_exit ?_
  refine aw_seq (aw_seq ?_)
  (refine aoo fun K hK => ?_; simp (disch := first | omega | (simp only [lnS]; try omega)) []; refine hK _ _ ?_; clear hK K)
  refine aw_block ?_
  refine aw_loop (fun q α G => ∃ i : Nat, i + q = ks.length ∧ α 1 = .pointer (some ⟨H.length, 0, none⟩) ∧ α 3 = .int .u32 (smK ks n1 i) ∧ α 5 = .int .i64 (i : Nat) ∧ G = G') ks.length ?_ ?_
  ·exact ⟨0, by omega, by (first | (simp [g1]; done) | rfl), by rw [show smK ks n1 0 = n1 from rfl]; (first | (simp [g3]; done) | rfl), by (first | (simp; done) | rfl), rfl⟩
  clear g1 g3 g23 hiq his hmin hi hB hsum h00 hrow
  rintro q α G ⟨i, hiq, h1, h3, h5, rfl⟩
  refine aw_seq (aw_seq ?_)
  by_cases hi : i < ks.length
  ·have hi' : (i : Int) < ks.length := by omega
   obtain ⟨j, q1, q2⟩ := hcell i hi
   have hT : smK ks n1 (i + 1) = u3 (u3 (u3 (u3 (smK ks n1 i * 31) + u3 ((ks.getD i []).getD 7 0)) + u3 (256 * u3 ((ks.getD i []).getD 6 0))) + u3 ((ks.getD i []).getD 0 0)) := rfl
   have c7 := q2 7 (by omega) G lwB
   have c6 := q2 6 (by omega) G lwB
   have c0 := q2 0 (by omega) G lwB
   have k7 : xindexAddr Tryd.prog 41 (.pointer (some ⟨j, i * 32, none⟩)) (.int .i64 7) = some (.pointer (some ⟨j, i * 32 + 7, none⟩)) := key_at (c := 7) (by omega)
   have k6 : xindexAddr Tryd.prog 41 (.pointer (some ⟨j, i * 32, none⟩)) (.int .i64 6) = some (.pointer (some ⟨j, i * 32 + 6, none⟩)) := key_at (c := 6) (by omega)
   have k0 : xindexAddr Tryd.prog 41 (.pointer (some ⟨j, i * 32, none⟩)) (.int .i64 0) = some (.pointer (some ⟨j, i * 32 + 0, none⟩)) := key_at (c := 0) (by omega)
   have ld2 : xload Tryd.prog 34 (.pointer (some ⟨H.length, 2, none⟩)) G = some kv := by
    unfold xload
    have e1 : isAggD (und Tryd.prog 34) = false := by kernel_rfl
    have e2 : okD (und Tryd.prog 34) = true := by kernel_rfl
    simp only [hb, e1, e2]
    simp
   generalize smK ks n1 i = n2 at *
   generalize (ks.getD i []).getD 7 0 = x7 at *
   generalize (ks.getD i []).getD 6 0 = x6 at *
   generalize (ks.getD i []).getD 0 0 = x0 at *
   generalize i * 32 + 7 = o7 at *
   generalize i * 32 + 6 = o6 at *
   generalize i * 32 + 0 = o0 at *
   unfold u3 at hT
   (refine aoo fun K hK => ?_; simp (disch := first | omega | (simp only [lnS]; try omega)) [h1, h5, hb, hlb, -notTuple, hnt, hvc, -xlen, hxl, hi']; refine hK _ _ ?_; clear hK K)
   refine aw_t (by (first | (simp [hi']; done) | (simp [hi']; omega))) (by kernel_rfl) ?_
   refine aw_skip (aw_seq ?_)
   refine aw_block ?_
   (refine aw_plan [] [] [0, 1, 2, 3, 4, 5, 6, 7, 8, 9, 10, 11, 12, 13, 14, 15, 16, 17, 18, 19, 20, 21, 22, 23, 24, 25, 26, 27] 28 0 (by kernel_rfl) (by kernel_rfl) (by kernel_rfl) (fun K hK => ?_)); simp only [sel, List.getElem?_cons_succ, List.getElem?_cons_zero, List.drop_succ_cons, List.drop_zero]; simp (disch := first | omega | (simp only [lnS]; try omega)) [h1, h3, h5, -xload, ld2, c7, c6, c0, -xindexAddr, q1, k7, k6, k0, -notTuple, hnt, PL_nil, plainB_lit, PL_cons, PLc_val, PLc_new, stepP_t, stepP_f, stepPC_n, stepPC_s, stepPX_s, stepPX_n, stepPV_n, stepPV_s, stepPA_t, stepPA_c, stepPA_l, stepPN_s, allocOp, reloc_sl, reloc_ptr, List.map_cons, List.map_nil, List.nil_append, List.append_assoc, List.cons_append, Nat.add_assoc]
   refine hK _ _ ?_; clear hK K
   (refine aoo fun K hK => ?_; simp (disch := first | omega | (simp only [lnS]; try omega)) [h5]; refine hK _ _ ?_; clear hK K)
   exact ⟨q - 1, by omega, i + 1, by omega, by (first | (simp [h1]; done) | rfl), by rw [hT]; (first | (simp [h3]; done) | rfl), by (first | (simp; done) | rfl), rfl⟩
  ·obtain rfl : i = ks.length := by omega
   (refine aoo fun K hK => ?_; simp (disch := first | omega | (simp only [lnS]; try omega)) [h1, h5, hb, hlb, -notTuple, hnt, hvc, -xlen, hxl]; refine hK _ _ ?_; clear hK K)
   refine aw_f (by (first | (simp; done) | (simp; omega))) (by kernel_rfl) ?_
   refine aw_exit (aw_seq ?_)
   (refine aoo fun K hK => ?_; simp (disch := first | omega | (simp only [lnS]; try omega)) [h3]; refine hK _ _ ?_; clear hK K)
   (refine aw_ret ?_; simp (disch := first | omega | (simp only [lnS]; try omega)) [thenQ_ret, scopeQ_ret, inBlockQ_ret, RQ, resL, resV, h3])
end
section
structure RTblF (H : AH) (b : Nat) (tv sv : Value) (Ft Fs F : List Nat) (L : List (Value × TermD)) : Prop where
 hb : hget H b = some ⟨[tv, sv], 33, none⟩
 rows : OwnF H tv 92 3 (tmRows L) Ft
 sums : OwnF H sv 46 1 (iv .u32 (L.map fun p => sumR p.2)) Fs
 keys : ∀ p ∈ L, ∀ G : AH, (∀ j ∈ F, hget G j = hget H j) → KsV G p.1 p.2.keys
 wf : ∀ p ∈ L, p.2.Wf
 lt : ∀ j ∈ F, j < H.length
 bt : b ∉ Ft
 bs : b ∉ Fs
 bf : b ∉ F
 ts : ∀ j ∈ Ft, j ∉ Fs
 tf : ∀ j ∈ Ft, j ∉ F
 sf : ∀ j ∈ Fs, j ∉ F
theorem RTblF.low {H G : AH} {b : Nat} {tv sv : Value} {Ft Fs F : List Nat} {L : List (Value × TermD)} (h : RTblF H b tv sv Ft Fs F L) (hl : ∀ j ∈ b :: (Ft ++ Fs ++ F), hget G j = hget H j) (hG : H.length ≤ G.length) : RTblF G b tv sv Ft Fs F L :=
 ⟨(hl b (by simp)).trans h.hb, h.rows.low (fun j hj => hl j (by simp [hj])), h.sums.low (fun j hj => hl j (by simp [hj])), fun p hp D hD => h.keys p hp D (fun j hj => (hD j hj).trans (hl j (by simp [hj]))), h.wf, fun j hj => by have := h.lt j hj; omega, h.bt, h.bs, h.bf, h.ts, h.tf, h.sf⟩
theorem RTblF.bound {H : AH} {b : Nat} {tv sv : Value} {Ft Fs F : List Nat} {L : List (Value × TermD)} (h : RTblF H b tv sv Ft Fs F L) : ∀ j ∈ b :: (Ft ++ Fs ++ F), j < H.length := fun j hj => by
 simp only [List.mem_cons, List.mem_append] at hj
 rcases hj with rfl | (hj | hj) | hj
 ·exact hget_lt h.hb
 ·exact h.rows.lt j hj
 ·exact h.sums.lt j hj
 ·exact h.lt j hj
theorem RTblF.at_ {H : AH} {b : Nat} {tv sv : Value} {Ft Fs F : List Nat} {L : List (Value × TermD)} (h : RTblF H b tv sv Ft Fs F L) {i : Nat} {p : Value × TermD} (hi : L[i]? = some p) :
  ∃ q, xindexAddr Tryd.prog 30 tv (.int .i64 (i : Nat)) = some q ∧ notTuple q = true ∧ xload Tryd.prog 92 q H = some (.agg (tmRow p.1 p.2).toArray) := by
 have hl := (List.getElem?_eq_some_iff.1 hi).1
 have hr := tmRows_len L
 rcases h.rows with ⟨_, h2, _⟩ | ⟨j, len, rfl, h2, h3, _⟩
 ·rw [h2] at hr
  simp at hr
  omega
 ·have : len = L.length := by omega
  subst this
  exact ⟨_, tm_addr hl, rfl, tm_load hi h2⟩
theorem RTblF.sat {H : AH} {b : Nat} {tv sv : Value} {Ft Fs F : List Nat} {L : List (Value × TermD)} (h : RTblF H b tv sv Ft Fs F L) {i : Nat} {p : Value × TermD} (hi : L[i]? = some p) :
  ∃ q, xindexAddr Tryd.prog 31 sv (.int .i64 (i : Nat)) = some q ∧ notTuple q = true ∧ xload Tryd.prog 46 q H = some (.int .u32 (sumR p.2)) := by
 have hl := (List.getElem?_eq_some_iff.1 hi).1
 rcases h.sums with ⟨_, h2, _⟩ | ⟨j, len, rfl, h2, h3, _⟩
 ·have := congrArg List.length h2
  simp at this
  rw [this] at hl
  simp at hl
 ·have h3' : L.length = len * 1 := by simpa using h3
  have h1 : und Tryd.prog 31 = .slice 46 := by kernel_rfl
  have h4 : szt Tryd.prog 46 = 1 := by kernel_rfl
  have e1 : isAggD (und Tryd.prog 46) = false := by kernel_rfl
  have e2 : okD (und Tryd.prog 46) = true := by kernel_rfl
  refine ⟨.pointer (some ⟨j, i, none⟩), ?_, rfl, ?_⟩
  ·unfold xindexAddr
   simp only [h1, h4]
   rw [if_pos ⟨by omega, by omega, by omega⟩]
   simp
  ·unfold xload
   simp only [h2, e1, e2]
   simp [iv, hi]
theorem RTblF.slen {H : AH} {b : Nat} {tv sv : Value} {Ft Fs F : List Nat} {L : List (Value × TermD)} (h : RTblF H b tv sv Ft Fs F L) : xlen Tryd.prog 31 sv = some (.int .i64 (L.length : Nat)) ∧ xlen Tryd.prog 30 tv = some (.int .i64 (L.length : Nat)) :=
 ⟨h.sums.len (by kernel_rfl) (n := L.length) (by simp) (by omega), h.rows.len (by kernel_rfl) (tmRows_len L) (by omega)⟩
def posI (x : TermD) (T : List TermD) : Int := match placeT x T with | some i => (i : Nat) | none => -1
theorem place_at {x : TermD} {T : List TermD} (hx : x.Wf) (hT : ∀ y ∈ T, y.Wf) {i : Nat} (hi : T[i]? = some x) (hp : ∀ k, k < i → ∀ y, T[k]? = some y → y ≠ x) : placeT x T = some i := by
 cases h : placeT x T with
 | none =>
  refine absurd ?_ (idxS_none h)
  exact List.mem_map.2 ⟨x, List.mem_of_getElem? hi, rfl⟩
 | some j =>
  have hj := place_some hx hT h
  rcases Nat.lt_trichotomy j i with hlt | rfl | hgt
  ·exact absurd rfl (hp j hlt x hj)
  ·rfl
  ·exfalso
   have : ∀ (L : List ByteArray) (s : ByteArray) (i j : Nat), idxS s L = some j → L[i]? = some s → j ≤ i := by
    intro L
    induction L with
    | nil => intro s i j h; cases h
    | cons y L ih =>
     intro s i j h hi
     unfold idxS at h
     by_cases e : s = y
     ·rw [if_pos e] at h; cases h; omega
     ·rw [if_neg e] at h
      cases hr : idxS s L with
      | none => rw [hr] at h; cases h
      | some j' =>
       rw [hr] at h
       cases h
       cases i with
       | zero => exact absurd (Option.some.inj hi).symm e
       | succ i => have := ih s i j' hr hi; show j' + 1 ≤ i + 1; omega
   have := this _ _ i j h (by rw [List.getElem?_map, hi]; rfl)
   omega
theorem place_no {x : TermD} {T : List TermD} (hx : x.Wf) (hT : ∀ y ∈ T, y.Wf) (hp : ∀ (k : Nat) (y : TermD), T[k]? = some y → y ≠ x) : placeT x T = none := by
 cases h : placeT x T with
 | none => rfl
 | some j => exact absurd rfl (hp j x (place_some hx hT h))
theorem rfind_ac {nro : Nat} {γ : Nat → Option Nat} {H : AH} {b : Nat} {tv sv : Value} {Ft Fs F : List Nat} {L : List (Value × TermD)} (h : RTblF H b tv sv Ft Fs F L) (hnH : nro ≤ H.length) {kv : Value} {x : TermD} (hx : x.Wf) (hv : KsV H kv x.keys) (hL : L.length ≤ 1000000) :
  AC Tryd.prog nro γ 47 #[.pointer (some ⟨b, 0, none⟩), .agg (tmRow kv x).toArray] H (fun v' H' => v' = .int .i64 (posI x (L.map (·.2))) ∧ Low H.length H H') := by
 obtain ⟨hsl, htl⟩ := h.slen
 obtain ⟨hnt, hvc⟩ := val_nt hv
 have hs1 := ownF_nt h.sums
 have hs2 := ownF_nt h.rows
 have hxt := hx.text
 have hxm : x.keys.length ≤ maxLen := by have := hx.many; simp only [maxLen]; omega
 have hsum := fun (G : AH) (hG : KsV G kv x.keys) => sum_rc (γ := γ) (H := G) hG hx.k32 (by omega) hxm
 have hbd := h.bound
 have hTw : ∀ y ∈ L.map (·.2), y.Wf := fun y hy => by
  obtain ⟨p, hp, rfl⟩ := List.mem_map.1 hy
  exact h.wf p hp
 have hrow : tmRow kv x = [.int .i64 (x.kind : Nat), .string x.text, kv] := rfl
 rw [hrow] at hsum ⊢
 obtain ⟨sx, hsx⟩ : ∃ sx, sx = sumR x := ⟨_, rfl⟩
 rw [← hsx] at hsum
 refine ac_of_aw Tryd.func47 rfl Tryd.ntmps47 Tryd.results47 (by simp) ?_
 (refine aw_seq (aoo fun K hK => ?_); simp (disch := first | omega | (simp only [lnS]; try omega)) [-notTuple, hnt, hvc]; refine hK _ _ ?_; clear hK K)
 obtain ⟨B, hB⟩ : ∃ B : AH, B = H ++ [some ⟨[.int .i64 (x.kind : Nat), .string x.text, kv], 92, none⟩] := ⟨_, rfl⟩
 have hgx : hget B H.length = some ⟨[.int .i64 (x.kind : Nat), .string x.text, kv], 92, none⟩ := by rw [hB, hget_app0]; rfl
 have hlx := hget_lt hgx
 have lwB : Low H.length H B := by rw [hB]; exact Low.push (Nat.le_refl _) _
 rw [← hB]
 clear hB
 have hvB : KsV B kv x.keys := CD.Val.low (fun j hj => lwB.1 j hj) hv
 refine aw_seq (aoo fun K hK => ?_)
 simp (disch := first | omega | (simp only [lnS]; try omega)) [hgx, hlx, -notTuple, hnt, hvc]
 refine ⟨by kernel_rfl, ac_of_rc (hsum _ hvB) (by simp [pv_iv, pv_int, pv_bool, pv_string, pv_tup2, pv_tup3, iv_plain, p2_int, p2_bool, p2_string]) ?_⟩
 try simp (disch := first | omega | (simp only [lnS]; try omega)) []
 refine hK _ _ ?_; clear hK K
 refine aw_seq (aw_seq ?_)
 (refine aoo fun K hK => ?_; simp (disch := first | omega | (simp only [lnS]; try omega)) []; refine hK _ _ ?_; clear hK K)
 refine aw_block ?_
 refine aw_loop (fun q α G => ∃ i : Nat, i + q = L.length ∧ Low B.length B G ∧ α 0 = .pointer (some ⟨b, 0, none⟩) ∧ α 3 = .pointer (some ⟨H.length, 0, none⟩) ∧ α 5 = .int .u32 sx ∧ α 6 = .int .i64 (i : Nat) ∧ ∀ (k : Nat), k < i → ∀ y, (L.map (·.2))[k]? = some y → y ≠ x) L.length ?_ ?_
 ·exact ⟨0, by omega, Low.refl (Nat.le_refl _), by (first | (simp; done) | rfl), by (first | (simp; done) | rfl), by (first | (simp; done) | rfl), by (first | (simp; done) | rfl), fun k hk => by omega⟩
 rintro q α G ⟨i, hiq, lwG, h0, h3, h5, h6, hpre⟩
 have lwH : Low H.length H G := ⟨fun j hj => (lwG.1 j (by have := lwB.2; omega)).trans (lwB.1 j hj), by have := lwB.2; have := lwG.2; omega⟩
 have hT := h.low (G := G) (fun j hj => lwH.1 j (hbd j hj)) lwH.2
 have hgb := hT.hb
 have hlb := hget_lt hgb
 have gx := (lwG.1 _ hlx).trans hgx
 have lx := hget_lt gx
 refine aw_seq (aw_seq ?_)
 by_cases hi : i < L.length
 ·have hi' : (i : Int) < L.length := by omega
  obtain ⟨⟨kv2, y⟩, hy⟩ : ∃ p, L[i]? = some p := ⟨_, List.getElem?_eq_getElem hi⟩
  have hyT : (L.map (·.2))[i]? = some y := by rw [List.getElem?_map, hy]; rfl
  have hym := List.mem_of_getElem? hy
  obtain ⟨a1, a2, a3, a4⟩ := hT.at_ hy
  obtain ⟨b1, b2, b3, b4⟩ := hT.sat hy
  have hv2 := hT.keys _ hym
  have hwy := hT.wf _ hym
  have hvy : KsV G kv2 y.keys := hv2 G (fun _ _ => rfl)
  have hvx : KsV G kv x.keys := CD.Val.low (fun j hj => lwG.1 j hj) hvB
  obtain ⟨hnt2, hvc2⟩ := val_nt hvy
  have ldt : xload Tryd.prog 30 (.pointer (some ⟨b, 0, none⟩)) G = some tv := by simp [xload, hgb]
  have lds : xload Tryd.prog 31 (.pointer (some ⟨b, 1, none⟩)) G = some sv := by simp [xload, hgb]
  simp only at b4 a4
  (refine aoo fun K hK => ?_; simp (disch := first | omega | (simp only [lnS]; try omega)) [h0, h6, -xload, lds, -notTuple, hs1.1, hs1.2, -xlen, hsl, hi']; refine hK _ _ ?_; clear hK K)
  refine aw_t (by (first | (simp [hi']; done) | (simp [hi']; omega))) (by kernel_rfl) ?_
  refine aw_skip (aw_seq ?_)
  refine aw_block ?_
  refine aw_seq (aw_seq ?_)
  have hnext : y ≠ x → ∀ (k : Nat), k < i + 1 → ∀ y', (L.map (·.2))[k]? = some y' → y' ≠ x := fun hyx k hk y' hy' => by
   rcases Nat.lt_succ_iff_lt_or_eq.1 hk with hk | rfl
   ·exact hpre k hk y' hy'
   ·rw [hyT] at hy'
    cases hy'
    exact hyx
  obtain ⟨sy, hsy⟩ : ∃ sy, sy = sumR y := ⟨_, rfl⟩
  rw [← hsy] at b4
  by_cases hse : sy = sx
  case neg =>
   have hyx : y ≠ x := fun e => hse (by rw [hsy, hsx, e])
   (refine aoo fun K hK => ?_; simp (disch := first | omega | (simp only [lnS]; try omega)) [h0, h5, h6, -xload, lds, b4, -xindexAddr, b2, b3, -notTuple, hs1.1, hs1.2, hse]; refine hK _ _ ?_; clear hK K)
   refine aw_t (by (first | (simp [hse]; done) | (simp [hse]; omega))) (by kernel_rfl) ?_
   refine aw_exit ?_
   (refine aoo fun K hK => ?_; simp (disch := first | omega | (simp only [lnS]; try omega)) [h6]; refine hK _ _ ?_; clear hK K)
   exact ⟨q - 1, by omega, i + 1, by omega, lwG, by (first | (simp [h0]; done) | rfl), by (first | (simp [h3]; done) | rfl), by (first | (simp [h5]; done) | rfl), by (first | (simp; done) | rfl), hnext hyx⟩
  (refine aoo fun K hK => ?_; simp (disch := first | omega | (simp only [lnS]; try omega)) [h0, h5, h6, -xload, lds, b4, -xindexAddr, b2, b3, -notTuple, hs1.1, hs1.2, hse]; refine hK _ _ ?_; clear hK K)
  refine aw_f (by (first | (simp [hse]; done) | (simp [hse]; omega))) (by kernel_rfl) ?_
  refine aw_skip (aw_seq ?_)
  have hrow2 : tmRow kv2 y = [.int .i64 (y.kind : Nat), .string y.text, kv2] := rfl
  rw [hrow2] at a4
  have hGl : H.length < G.length := hget_lt gx
  have p1 : plain1 (.slice none 0 0) = true := rfl
  have r3 : List.range 3 = [0, 1, 2] := rfl
  have hnG : nro ≤ G.length := by omega
  (refine aoo fun K hK => ?_; simp (disch := first | omega | (simp only [lnS]; try omega)) [h0, h6, -xload, ldt, a4, -xindexAddr, a2, a3, -notTuple, hs2.1, hs2.2, hnt2, hvc2, hnG, p1, r3]; refine hK _ _ ?_; clear hK K)
  obtain ⟨G2, hG2⟩ : ∃ G2 : AH, G2 = G ++ [some ⟨[.int .i64 (y.kind : Nat), .string y.text, kv2], 92, none⟩] := ⟨_, rfl⟩
  have lw2 : Low G.length G G2 := by rw [hG2]; exact Low.push (Nat.le_refl _) _
  have gy2 : hget G2 G.length = some ⟨[.int .i64 (y.kind : Nat), .string y.text, kv2], 92, none⟩ := by rw [hG2, hget_app0]; rfl
  have gx2 := (lw2.1 _ lx).trans gx
  have ly2 := hget_lt gy2
  have lx2 := hget_lt gx2
  rw [← hG2]
  clear hG2
  have hvy : KsV G2 kv2 y.keys := CD.Val.low (fun j hj => lw2.1 j hj) hvy
  have hvx : KsV G2 kv x.keys := CD.Val.low (fun j hj => lw2.1 j hj) hvx
  have hsk := sameKeys_rc (γ := γ) hvx hvy hx.k32 hwy.k32 hxm
  have lwB2 : Low B.length B G2 := ⟨fun j hj => (lw2.1 j (by have := lwG.2; omega)).trans (lwG.1 j hj), by have := lwG.2; have := lw2.2; omega⟩
  have lwH2 : Low H.length H G2 := ⟨fun j hj => (lwB2.1 j (by have := lwB.2; omega)).trans (lwB.1 j hj), by have := lwB.2; have := lwB2.2; omega⟩
  have hkb : (((y.kind : Nat) : Int) == ((x.kind : Nat) : Int)) = decide (y.kind = x.kind) := by rw [Bool.eq_iff_iff]; simp; omega
  have htb : (y.text.toList == x.text.toList) = decide (y.text = x.text) := tl_beq _ _
  refine aw_seq ?_
  refine aw_cut (fun α' G' => α' 0 = .pointer (some ⟨b, 0, none⟩) ∧ α' 3 = .pointer (some ⟨H.length, 0, none⟩) ∧ α' 5 = .int .u32 sx ∧ α' 6 = .int .i64 (i : Nat) ∧ α' 53 = .bool (sameT y x) ∧ G' = G2) ?_ ?_
  ·by_cases k1 : y.kind = x.kind
   ·rw [decide_eq_true k1] at hkb
    have k1i : (y.kind : Int) = x.kind := by omega
    by_cases k2 : y.text = x.text
    ·rw [decide_eq_true k2] at htb
     have hs3 : sameT y x = decide (x.keys = y.keys) := by
      unfold sameT
      rw [decide_eq_true k1, decide_eq_true k2, Bool.true_and, Bool.true_and]
      exact decide_eq_decide.2 eq_comm
     rw [hs3]
     refine aoo fun K hK => ?_
     simp (disch := first | omega | (simp only [lnS]; try omega)) [h3, gx2, lx2, gy2, ly2, -notTuple, hnt, hvc, hnt2, hvc2, hkb, k1i, htb, k2]
     refine ⟨by kernel_rfl, ac_of_rc hsk (by simp [pv_iv, pv_int, pv_bool, pv_string, pv_tup2, pv_tup3, iv_plain, p2_int, p2_bool, p2_string]) ?_⟩
     try simp (disch := first | omega | (simp only [lnS]; try omega)) []
     refine hK _ _ ?_; clear hK K
     exact ⟨by (first | (simp [h0]; done) | rfl), by (first | (simp [h3]; done) | rfl), by (first | (simp [h5]; done) | rfl), by (first | (simp [h6]; done) | rfl), by (first | (simp; done) | rfl), rfl⟩
    ·rw [decide_eq_false k2] at htb
     have hs3 : sameT y x = false := by
      unfold sameT
      rw [decide_eq_false k2, Bool.false_and, Bool.and_false]
     rw [hs3]
     refine aoo fun K hK => ?_
     simp (disch := first | omega | (simp only [lnS]; try omega)) [h3, gx2, lx2, gy2, ly2, -notTuple, hnt, hvc, hnt2, hvc2, hkb, k1i, htb, k2]
     refine hK _ _ ?_; clear hK K
     exact ⟨by (first | (simp [h0]; done) | rfl), by (first | (simp [h3]; done) | rfl), by (first | (simp [h5]; done) | rfl), by (first | (simp [h6]; done) | rfl), by (first | (simp; done) | rfl), rfl⟩
   ·rw [decide_eq_false k1] at hkb
    have k1i : ¬ (y.kind : Int) = x.kind := by omega
    have hs3 : sameT y x = false := by
     unfold sameT
     rw [decide_eq_false k1, Bool.false_and]
    rw [hs3]
    refine aoo fun K hK => ?_
    simp (disch := first | omega | (simp only [lnS]; try omega)) [h3, gx2, lx2, gy2, ly2, -notTuple, hnt, hvc, hnt2, hvc2, hkb, k1i]
    refine hK _ _ ?_; clear hK K
    exact ⟨by (first | (simp [h0]; done) | rfl), by (first | (simp [h3]; done) | rfl), by (first | (simp [h5]; done) | rfl), by (first | (simp [h6]; done) | rfl), by (first | (simp; done) | rfl), rfl⟩
  rintro α' G' ⟨h0, h3, h5, h6, h53, rfl⟩
  by_cases hyx : y = x
  ·have hsT : sameT y x = true := sameT_iff.2 hyx
   rw [hsT] at h53
   refine aw_t (by (first | (simp [h53]; done) | (simp [h53]; omega))) (by kernel_rfl) ?_
   (refine aw_seq (aoo fun K hK => ?_); simp (disch := first | omega | (simp only [lnS]; try omega)) [h6]; refine hK _ _ ?_; clear hK K)
   have hat : placeT x (L.map (·.2)) = some i := place_at hx hTw (by rw [hyT, hyx]) (fun k hk y' hy' => hpre k hk y' hy')
   unfold posI
   rw [hat]
   (refine aw_ret ?_; simp (disch := first | omega | (simp only [lnS]; try omega)) [thenQ_ret, scopeQ_ret, inBlockQ_ret, RQ, resL, resV])
   exact lwH2
  ·have hsT : sameT y x = false := by
    cases hh : sameT y x with
    | false => rfl
    | true => exact absurd (sameT_iff.1 hh) hyx
   rw [hsT] at h53
   refine aw_f (by (first | (simp [h53]; done) | (simp [h53]; omega))) (by kernel_rfl) ?_
   refine aw_skip ?_
   (refine aoo fun K hK => ?_; simp (disch := first | omega | (simp only [lnS]; try omega)) [h6]; refine hK _ _ ?_; clear hK K)
   exact ⟨q - 1, by omega, i + 1, by omega, lwB2, by (first | (simp [h0]; done) | rfl), by (first | (simp [h3]; done) | rfl), by (first | (simp [h5]; done) | rfl), by (first | (simp; done) | rfl), hnext hyx⟩
 ·obtain rfl : i = L.length := by omega
  have lds : xload Tryd.prog 31 (.pointer (some ⟨b, 1, none⟩)) G = some sv := by simp [xload, hgb]
  (refine aoo fun K hK => ?_; simp (disch := first | omega | (simp only [lnS]; try omega)) [h0, h6, -xload, lds, -notTuple, hs1.1, hs1.2, -xlen, hsl]; refine hK _ _ ?_; clear hK K)
  refine aw_f (by (first | (simp; done) | (simp; omega))) (by kernel_rfl) ?_
  refine aw_exit (aw_seq ?_)
  (refine aoo fun K hK => ?_; simp (disch := first | omega | (simp only [lnS]; try omega)) []; refine hK _ _ ?_; clear hK K)
  have hno : placeT x (L.map (·.2)) = none := place_no hx hTw (fun k y hk => hpre k (by have := (List.getElem?_eq_some_iff.1 hk).1; simpa using this) y hk)
  unfold posI
  rw [hno]
  (refine aw_ret ?_; simp (disch := first | omega | (simp only [lnS]; try omega)) [thenQ_ret, scopeQ_ret, inBlockQ_ret, RQ, resL, resV])
  exact lwH
end
section
theorem radd_ac {nro : Nat} {γ : Nat → Option Nat} {H : AH} {b : Nat} {tv sv : Value} {Ft Fs F : List Nat} {L : List (Value × TermD)} (h : RTblF H b tv sv Ft Fs F L) (hnH : nro ≤ H.length) (hnro : ∀ j ∈ b :: (Ft ++ Fs), nro ≤ j) {kv : Value} {x : TermD} (hx : x.Wf) {Fx : List Nat} (hkv : ∀ G : AH, (∀ j ∈ Fx, hget G j = hget H j) → KsV G kv x.keys) (hFx : ∀ j ∈ Fx, j < H.length ∧ j ≠ b ∧ j ∉ Ft ∧ j ∉ Fs) (hL : L.length ≤ 1000000) :
  AC Tryd.prog nro γ 48 #[.pointer (some ⟨b, 0, none⟩), .agg (tmRow kv x).toArray] H (fun v' H' => v' = .tuple #[] ∧ H.length ≤ H'.length ∧ (∀ j, j < H.length → j ≠ b → j ∉ Ft → j ∉ Fs → hget H' j = hget H j) ∧ ∃ tv' sv' Ft' Fs', RTblF H' b tv' sv' Ft' Fs' (F ++ Fx) (L ++ [(kv, x)]) ∧ ∀ j ∈ Ft' ++ Fs', H.length ≤ j) := by
 obtain ⟨hsl, htl⟩ := h.slen
 have hv : KsV H kv x.keys := hkv H (fun _ _ => rfl)
 obtain ⟨hnt, hvc⟩ := val_nt hv
 have hs1 := ownF_nt h.sums
 have hs2 := ownF_nt h.rows
 have hxt := hx.text
 have hxm : x.keys.length ≤ maxLen := by have := hx.many; simp only [maxLen]; omega
 have hsum := fun (G : AH) (hG : KsV G kv x.keys) => sum_rc (γ := γ) (H := G) hG hx.k32 (by omega) hxm
 have hrow : tmRow kv x = [.int .i64 (x.kind : Nat), .string x.text, kv] := rfl
 have hgb := h.hb
 have hlb := hget_lt hgb
 have hFtl := h.rows.lt
 have hFsl := h.sums.lt
 rw [hrow] at hsum ⊢
 refine ac_of_aw Tryd.func48 rfl Tryd.ntmps48 Tryd.results48 (by simp) ?_
 (refine aw_seq (aoo fun K hK => ?_); simp (disch := first | omega | (simp only [lnS]; try omega)) [-notTuple, hnt, hvc]; refine hK _ _ ?_; clear hK K)
 obtain ⟨B, hB⟩ : ∃ B : AH, B = H ++ [some ⟨[.int .i64 (x.kind : Nat), .string x.text, kv], 92, none⟩] := ⟨_, rfl⟩
 have hgx : hget B H.length = some ⟨[.int .i64 (x.kind : Nat), .string x.text, kv], 92, none⟩ := by rw [hB, hget_app0]; rfl
 have hlx := hget_lt hgx
 have hBl : B.length = H.length + 1 := by rw [hB]; simp
 have lwB : ∀ j, j < H.length → hget B j = hget H j := fun j hj => by rw [hB]; exact hget_left hj
 rw [← hB]
 clear hB
 have hgB := (lwB b hlb).trans hgb
 have hlB := hget_lt hgB
 obtain ⟨R, hR⟩ : ∃ R : Option Blk, R = some ⟨[.int .i64 (x.kind : Nat), .string x.text, kv], 92, some 3⟩ := ⟨_, rfl⟩
 have hxc : xcells 3 (.slice (some ⟨B.length, 0, none⟩) 1 1) (B ++ [R]) = some (tmRow kv x) := by
  unfold xcells
  simp only [hget_app0]
  rw [hR]
  rfl
 obtain ⟨tv', G3, hap, ho2, hl3, hk3⟩ := ownF_append (P := Tryd.prog) (nro := nro) (t := 30) (e := 92) (H := B ++ [R]) (v := tv) (x := .slice (some ⟨B.length, 0, none⟩) 1 1) (sz := 3) (cells := tmRows L) (news := tmRow kv x) (F := Ft) (by kernel_rfl) (by kernel_rfl) (by omega) (by kernel_rfl)
  (h.rows.low (fun j hj => (hget_left (by have := hFtl j hj; omega)).trans (lwB j (hFtl j hj)))) (fun j hj => hnro j (by simp [hj])) (fun s e => by cases e) hxc (by simp [tmRow]) (by simp [tmRow]) (by rw [tmRows_len]; show (L.length * 3 + 3) * byt Tryd.prog 92 ≤ _; rw [show byt Tryd.prog 92 = 48 by kernel_rfl]; omega) (by rw [tmRows_len]; show L.length * 3 + 3 ≤ _; simp [maxLen]; omega)
 have hl2 : (B ++ [R]).length = B.length + 1 := by simp
 rw [hl2] at ho2 hl3 hk3
 obtain ⟨n1, n2⟩ := ownF_nt ho2
 have k3 : ∀ j, j < B.length → j ∉ Ft → hget G3 j = hget B j := fun j hj hn => (hk3 j (by omega) hn).trans (hget_left hj)
 have g3b := (k3 b hlB h.bt).trans hgB
 have l3b := hget_lt g3b
 have hnb : nro ≤ b := hnro b (by simp)
 have hBt : ∀ G : AH, hget G b = some ⟨[tv, sv], 33, none⟩ → xload Tryd.prog 30 (.pointer (some ⟨b, 0, none⟩)) G = some tv := fun G hG => by simp [xload, hG]
 have r1 : List.range 3 = [0, 1, 2] := rfl
 have p1 : plain1 (.slice none 0 0) = true := rfl
 subst hR
 obtain ⟨A, hA⟩ : ∃ A : AH, A = G3.set b (some ⟨[tv', sv], 33, none⟩) := ⟨_, rfl⟩
 refine aw_seq ?_
 refine aw_cut (fun α G' => α 0 = .pointer (some ⟨b, 0, none⟩) ∧ α 3 = .pointer (some ⟨H.length, 0, none⟩) ∧ G' = A) ?_ ?_
 ·rw [hA]
  (refine aw_ptree [0, 1, 2, 3] 7 [[4, 5, 6, 7, 8, 9, 10], [5, 4, 6, 7, 8, 9, 10], [5, 6, 4, 7, 8, 9, 10]] (by kernel_rfl) (by kernel_rfl) (by kernel_rfl) (fun K hK => ?_)); simp only [sel, List.getElem?_cons_succ, List.getElem?_cons_zero]; simp (disch := first | omega | (simp only [lnS]; try omega)) [hgB, hlB, hgx, hlx, -notTuple, hnt, hvc, hs2.1, hs2.2, p1, r1, -xappend, hap, g3b, l3b, hnb, n1, n2]
  refine ⟨?_, ?_, ?_⟩
  all_goals
   refine hK _ _ ?_; clear hK K
   exact ⟨by (first | (simp; done) | rfl), by (first | (simp; done) | rfl), rfl⟩
 rintro α G' ⟨h0, h3, rfl⟩
 obtain ⟨A, hAG⟩ : ∃ A, A = G' := ⟨_, rfl⟩
 rw [← hAG] at hA ⊢
 clear hAG
 have hgA : hget A b = some ⟨[tv', sv], 33, none⟩ := by rw [hA, hget_set_eq l3b]
 have hAl : A.length = H.length + 3 := by rw [hA, List.length_set]; omega
 have hAj : ∀ j, j < B.length → j ≠ b → j ∉ Ft → hget A j = hget B j := fun j hj h1 h2 => by rw [hA, hget_set_ne (Ne.symm h1)]; exact k3 j hj h2
 have hAH : ∀ j, j < H.length → j ≠ b → j ∉ Ft → hget A j = hget H j := fun j hj h1 h2 => (hAj j (by omega) h1 h2).trans (lwB j hj)
 have hgxA := (hAj H.length hlx (by omega) (fun e => by have := hFtl _ e; omega)).trans hgx
 have ho2A : OwnF A tv' 92 3 (tmRows L ++ tmRow kv x) [B.length + 1] := ho2.low (fun j hj => by rw [hA, hget_set_ne (by have := List.mem_singleton.1 hj; omega)])
 clear hA hap k3 hk3 g3b l3b hgB hlB hgx hlx ho2 hxc lwB hAj hl3 hl2
 have hlA := hget_lt hgA
 have hlxA := hget_lt hgxA
 have hvA : KsV A kv x.keys := hkv A (fun j hj => hAH j (hFx j hj).1 (hFx j hj).2.1 (hFx j hj).2.2.1)
 have hsA : OwnF A sv 46 1 (iv .u32 (L.map fun p => sumR p.2)) Fs := h.sums.low (fun j hj => hAH j (hFsl j hj) (fun e => h.bs (e ▸ hj)) (fun e => h.ts j e hj))
 obtain ⟨sx, hsx⟩ : ∃ sx, sx = sumR x := ⟨_, rfl⟩
 rw [← hsx] at hsum
 have hxc : xcells 1 (.slice (some ⟨A.length, 0, none⟩) 1 1) (A ++ [some ⟨[.int .u32 sx], 46, some 1⟩]) = some [.int .u32 sx] := by
  unfold xcells
  simp only [hget_app0]
  rfl
 obtain ⟨sv', G4, hap, ho4, hl4, hk4⟩ := ownF_append (P := Tryd.prog) (nro := nro) (t := 31) (e := 46) (H := A ++ [some ⟨[.int .u32 sx], 46, some 1⟩]) (v := sv) (x := .slice (some ⟨A.length, 0, none⟩) 1 1) (sz := 1) (cells := iv .u32 (L.map fun p => sumR p.2)) (news := [.int .u32 sx]) (F := Fs) (by kernel_rfl) (by kernel_rfl) (by omega) (by kernel_rfl)
  (hsA.low (fun j hj => hget_left (by have := hFsl j hj; omega))) (fun j hj => hnro j (by simp [hj])) (fun s e => by cases e) hxc (by simp) (by simp) (by rw [iv_length, List.length_map]; show (L.length + 1) * byt Tryd.prog 46 ≤ _; rw [show byt Tryd.prog 46 = 4 by kernel_rfl]; omega) (by rw [iv_length, List.length_map]; show L.length + 1 ≤ _; simp [maxLen]; omega)
 have hl5 : (A ++ [(some ⟨[.int .u32 sx], 46, some 1⟩ : Option Blk)]).length = A.length + 1 := by simp
 rw [hl5] at ho4 hl4 hk4
 obtain ⟨n3, n4⟩ := ownF_nt ho4
 have k4 : ∀ j, j < A.length → j ∉ Fs → hget G4 j = hget A j := fun j hj hn => (hk4 j (by omega) hn).trans (hget_left hj)
 have g4b := (k4 b hlA h.bs).trans hgA
 have l4b := hget_lt g4b
 have r1 : List.range 1 = [0] := rfl
 have fin : H.length ≤ (G4.set b (some ⟨[tv', sv'], 33, none⟩)).length ∧ (∀ j, j < H.length → j ≠ b → j ∉ Ft → j ∉ Fs → hget (G4.set b (some ⟨[tv', sv'], 33, none⟩)) j = hget H j) ∧ ∃ tv2 sv2 Ft2 Fs2, RTblF (G4.set b (some ⟨[tv', sv'], 33, none⟩)) b tv2 sv2 Ft2 Fs2 (F ++ Fx) (L ++ [(kv, x)]) ∧ ∀ j ∈ Ft2 ++ Fs2, H.length ≤ j := by
  obtain ⟨M, hM⟩ : ∃ M : AH, M = G4.set b (some ⟨[tv', sv'], 33, none⟩) := ⟨_, rfl⟩
  rw [← hM]
  have hMb : hget M b = some ⟨[tv', sv'], 33, none⟩ := by rw [hM, hget_set_eq l4b]
  have hMl : M.length = H.length + 5 := by rw [hM, List.length_set]; omega
  have hMj : ∀ j, j ≠ b → hget M j = hget G4 j := fun j hj => by rw [hM, hget_set_ne (Ne.symm hj)]
  have hMH : ∀ j, j < H.length → j ≠ b → j ∉ Ft → j ∉ Fs → hget M j = hget H j := fun j hj h1 h2 h3 => (hMj j h1).trans ((k4 j (by omega) h3).trans (hAH j hj h1 h2))
  refine ⟨by omega, hMH, tv', sv', [B.length + 1], [A.length + 1], ⟨hMb, ?_, ?_, ?_, ?_, ?_, ?_, ?_, ?_, ?_, ?_, ?_⟩, ?_⟩
  ·rw [tmRows_snoc]
   exact ho2A.low (fun j hj => by
    have := List.mem_singleton.1 hj
    exact (hMj j (by omega)).trans (k4 j (by omega) (fun e => by have := hFsl j e; omega)))
  ·rw [List.map_append, show iv .u32 ((L.map fun p => sumR p.2) ++ [(kv, x)].map fun p => sumR p.2) = iv .u32 (L.map fun p => sumR p.2) ++ [.int .u32 sx] by simp [iv, hsx]]
   exact ho4.low (fun j hj => hMj j (by have := List.mem_singleton.1 hj; omega))
  ·intro p hp D hD
   rcases List.mem_append.1 hp with hp | hp
   ·exact h.keys p hp D (fun j hj => (hD j (by simp [hj])).trans (hMH j (h.lt j hj) (fun e => h.bf (e ▸ hj)) (fun e => h.tf j e hj) (fun e => h.sf j e hj)))
   ·rw [List.mem_singleton.1 hp]
    exact hkv D (fun j hj => (hD j (by simp [hj])).trans (hMH j (hFx j hj).1 (hFx j hj).2.1 (hFx j hj).2.2.1 (hFx j hj).2.2.2))
  ·intro p hp
   rcases List.mem_append.1 hp with hp | hp
   ·exact h.wf p hp
   ·rw [List.mem_singleton.1 hp]; exact hx
  ·intro j hj
   rcases List.mem_append.1 hj with hj | hj
   ·have := h.lt j hj; omega
   ·have := (hFx j hj).1; omega
  ·rw [List.mem_singleton]; omega
  ·rw [List.mem_singleton]; omega
  ·intro e
   rcases List.mem_append.1 e with e | e
   ·exact h.bf e
   ·exact (hFx b e).2.1 rfl
  ·intro j hj e
   have := List.mem_singleton.1 hj
   have := List.mem_singleton.1 e
   omega
  ·intro j hj e
   have h1 := List.mem_singleton.1 hj
   rcases List.mem_append.1 e with e | e
   ·have := h.lt j e; omega
   ·have := (hFx j e).1; omega
  ·intro j hj e
   have h1 := List.mem_singleton.1 hj
   rcases List.mem_append.1 e with e | e
   ·have := h.lt j e; omega
   ·have := (hFx j e).1; omega
  ·intro j hj
   simp only [List.mem_append, List.mem_singleton] at hj
   omega
 (refine aw_ptree [0, 1, 2, 3] 8 [[4, 5, 6, 7, 8, 9, 10, 11], [5, 4, 6, 7, 8, 9, 10, 11], [5, 6, 4, 7, 8, 9, 10, 11], [5, 6, 7, 4, 8, 9, 10, 11]] (by kernel_rfl) (by kernel_rfl) (by kernel_rfl) (fun K hK => ?_)); simp only [sel, List.getElem?_cons_succ, List.getElem?_cons_zero]; simp (disch := first | omega | (simp only [lnS]; try omega)) [h0, h3, hgA, hlA, hgxA, hlxA, -notTuple, hnt, hvc, hs1.1, hs1.2, n1, n2, p1, r1, -xappend, hap, g4b, l4b, hnb, n3, n4]
 refine ⟨⟨by kernel_rfl, ac_of_rc (hsum _ hvA) (by simp [pv_iv, pv_int, pv_bool, pv_string, pv_tup2, pv_tup3, iv_plain, p2_int, p2_bool, p2_string]) ?_⟩, ⟨by kernel_rfl, ac_of_rc (hsum _ hvA) (by simp [pv_iv, pv_int, pv_bool, pv_string, pv_tup2, pv_tup3, iv_plain, p2_int, p2_bool, p2_string]) ?_⟩, by kernel_rfl, ac_of_rc (hsum _ hvA) (by simp [pv_iv, pv_int, pv_bool, pv_string, pv_tup2, pv_tup3, iv_plain, p2_int, p2_bool, p2_string]) ?_⟩
 all_goals try simp (disch := first | omega | (simp only [lnS]; try omega)) [h0, h3, hgA, hlA, hgxA, hlxA, -notTuple, hnt, hvc, hs1.1, hs1.2, n1, n2, p1, r1, -xappend, hap, g4b, l4b, hnb, n3, n4]
 ·refine hK _ _ ?_; clear hK K
  exact ⟨[], _, rfl, rfl, rfl, fin⟩
 ·refine hK _ _ ?_; clear hK K
  exact ⟨[], _, rfl, rfl, rfl, fin⟩
 ·refine ⟨?_, ?_⟩
  all_goals
   refine hK _ _ ?_; clear hK K
   exact ⟨[], _, rfl, rfl, rfl, fin⟩
end
section
theorem ownF_appQ {P : Program} {nro : Nat} {t e : TypeId} {H : AH} {v x : Value} {sz : Nat} {cells news : List Value} {F : List Nat} (hu : und P t = .slice e) (hs : szt P e = sz) (h0 : 0 < sz) (hz : (zer P e).map (·.cells.size) = some sz)
  (hv : OwnF H v e sz cells F) (hnro : ∀ j ∈ F, nro ≤ j) (hstr : ∀ s, x ≠ .string s) (hx : xcells sz x H = some news) (hd : news.length % sz = 0) (hb : (cells.length + news.length) * byt P e ≤ 140737488355328) (hm : cells.length + news.length ≤ maxLen) :
  ∃ v' H' F', xappend P nro t v x H = some (v', H') ∧ OwnF H' v' e sz (cells ++ news) F' ∧ H.length ≤ H'.length ∧ (∀ j, j < H.length → j ∉ F → hget H' j = hget H j) ∧ ∀ j ∈ F', H.length ≤ j := by
 by_cases hn : news = []
 ·subst hn
  rcases hv with ⟨rfl, rfl, rfl⟩ | ⟨j, len, rfl, h3, h4, rfl⟩
  ·refine ⟨.slice none 0 0, H, [], ?_, .inl ⟨rfl, rfl, rfl⟩, Nat.le_refl _, fun _ _ _ => rfl, fun j hj => (by cases hj)⟩
   subst hs
   unfold xappend
   cases x <;> first | (exact absurd rfl (hstr _)) | (simp only [hu, hx]; rw [if_pos ⟨h0, hz, by simp, by simp⟩]; first | rw [if_pos rfl] | rw [if_pos trivial])
  ·subst hs
   have hj := hget_lt h3
   refine ⟨.slice (some ⟨H.length, 0, none⟩) len len, H.set j none ++ [some ⟨cells, e, some (szt P e)⟩], [H.length], ?_, .inr ⟨H.length, len, rfl, ?_, by simpa using h4, rfl⟩, by simp, fun i hi hni => ?_, fun j hj => by simp at hj; omega⟩
   ·have hc : True ∧ 0 < szt P e ∧ (zer P e).map (·.cells.size) = some (szt P e) ∧ nro ≤ j ∧ True ∧ True ∧ len * szt P e ≤ cells.length ∧ (len * szt P e + 0) * byt P e ≤ 140737488355328 ∧ len * szt P e + 0 ≤ maxLen :=
     ⟨trivial, h0, hz, hnro j (by simp), trivial, trivial, by omega, by rw [← h4]; exact hb, by rw [← h4]; exact hm⟩
    have e2 : cells.take (len * szt P e) = cells := List.take_of_length_le (by omega)
    unfold xappend
    cases x <;> first | (exact absurd rfl (hstr _)) | (simp only [hu, hx, h3, List.length_nil]; rw [if_pos hc, e2]; simp)
   ·have : (H.set j none).length = H.length := by simp
    rw [← this, hget_app0, hget_cons0, List.append_nil]
   ·rw [hget_left (by simp; omega), hget_set_ne (fun e => hni (by simp [e]))]
 ·obtain ⟨v', H', h1, h2, h3, h4⟩ := ownF_append (P := P) (nro := nro) (t := t) hu hs h0 hz hv hnro hstr hx hn hd hb hm
  exact ⟨v', H', _, h1, h2, by omega, h4, fun j hj => by simp at hj; omega⟩
def RMkQ (H : AH) (b : Nat) (Ft Fs F : List Nat) (L : List (Value × TermD)) (x : TermD) (v' : Value) (H' : AH) : Prop :=
 v' = .agg (iv .u8 (nmL (nameT x (L.map (·.2)) : Nat))).toArray ∧ H.length ≤ H'.length ∧ (∀ j, j < H.length → j ≠ b → j ∉ Ft → j ∉ Fs → hget H' j = hget H j) ∧ ∃ tv' sv' Ft' Fs' F' L', RTblF H' b tv' sv' Ft' Fs' F' L' ∧ L'.map (·.2) = addT x (L.map (·.2)) ∧ ∀ j ∈ Ft' ++ Fs' ++ F', j ∈ Ft ++ Fs ++ F ∨ H.length ≤ j
theorem rmake_ac {nro : Nat} {γ : Nat → Option Nat} {H : AH} {b : Nat} {tv sv : Value} {Ft Fs F : List Nat} {L : List (Value × TermD)} (h : RTblF H b tv sv Ft Fs F L) (hnH : nro ≤ H.length) (hnro : ∀ j ∈ b :: (Ft ++ Fs), nro ≤ j) {x : TermD} (hx : x.Wf) {v : Value} (hv : KsV H v x.keys) (hL : L.length ≤ 900000) :
  AC Tryd.prog nro γ 25 #[.pointer (some ⟨b, 0, none⟩), .int .i64 (x.kind : Nat), .string x.text, v] H (RMkQ H b Ft Fs F L x) := by
 obtain ⟨hnt, hvc⟩ := val_nt hv
 have hFb := h.bound
 have hlb := hget_lt h.hb
 have hstr : ∀ s, v ≠ .string s := fun s e => by
  have hv' : CD.Val H (.sl (x.keys.map kd)) v := hv
  generalize x.keys.map kd = rows at hv'
  rw [e] at hv'
  cases hv'
 obtain ⟨G0, hG0⟩ : ∃ G0 : AH, G0 = H ++ [some ⟨iv .u8 (zl 32), 41, none⟩, some ⟨[], 41, some 32⟩] := ⟨_, rfl⟩
 have g00 : hget G0 H.length = some ⟨iv .u8 (zl 32), 41, none⟩ := by rw [hG0, hget_app0]; rfl
 have g01 : hget G0 (H.length + 1) = some ⟨[], 41, some 32⟩ := by rw [hG0, hget_app]; rfl
 have hG0l : G0.length = H.length + 2 := by rw [hG0]; simp
 have hG0j : ∀ j, j < H.length → hget G0 j = hget H j := fun j hj => by rw [hG0]; exact hget_left hj
 have hxc : xcells 32 v G0 = some (ksC x.keys) := val_cells (by omega) (CD.Val.low (fun j hj => hG0j j hj) hv) (kd_len hx.k32) (kd_flat _)
 have hkl := ksC_len hx.k32
 have hmany := hx.many
 obtain ⟨v1, G1, F1, hap, ho1, hl1, hk1, hF1⟩ := ownF_appQ (P := Tryd.prog) (nro := nro) (t := 34) (e := 41) (H := G0) (v := .slice (some ⟨H.length + 1, 0, none⟩) 0 0) (x := v) (sz := 32) (cells := []) (news := ksC x.keys) (F := [H.length + 1]) (by kernel_rfl) (by kernel_rfl) (by omega) (by kernel_rfl)
  (.inr ⟨H.length + 1, 0, rfl, g01, rfl, rfl⟩) (fun j hj => by have := List.mem_singleton.1 hj; omega) hstr hxc (by rw [hkl]; omega) (by rw [hkl]; show (0 + x.keys.length * 32) * byt Tryd.prog 41 ≤ _; rw [show byt Tryd.prog 41 = 32 by kernel_rfl]; omega) (by rw [hkl]; show 0 + _ ≤ _; simp only [maxLen]; omega)
 obtain ⟨n1, n2⟩ := ownF_nt ho1
 have g10 := (hk1 H.length (by omega) (by simp)).trans g00
 have hG1j : ∀ j, j < H.length → hget G1 j = hget H j := fun j hj => (hk1 j (by omega) (by simp; omega)).trans (hG0j j hj)
 have p1 : plain1 (.slice none 0 0) = true := rfl
 have r3 : List.range 3 = [0, 1, 2] := rfl
 have hn1 : nro ≤ G1.length := by omega
 subst hG0
 refine ac_of_aw Tryd.func25 rfl Tryd.ntmps25 Tryd.results25 (by simp) ?_
 (refine aw_seq (aoo fun K hK => ?_); simp (disch := first | omega | (simp only [lnS]; try omega)) []; refine hK _ _ ?_; clear hK K)
 (refine aw_seq (aoo fun K hK => ?_); simp (disch := first | omega | (simp only [lnS]; try omega)) [-notTuple, hnt, hvc, n1, n2, hn1, p1, r3, -xappend, hap, List.range_zero, List.map_nil]; refine hK _ _ ?_; clear hK K)
 obtain ⟨G2, hG2⟩ : ∃ G2 : AH, G2 = G1 ++ [some ⟨[.int .i64 (x.kind : Nat), .string x.text, v1], 92, none⟩] := ⟨_, rfl⟩
 have gx2 : hget G2 G1.length = some ⟨[.int .i64 (x.kind : Nat), .string x.text, v1], 92, none⟩ := by rw [hG2, hget_app0]; rfl
 have k2 : ∀ j, j < G1.length → hget G2 j = hget G1 j := fun j hj => by rw [hG2]; exact hget_left hj
 have hG2l : G2.length = G1.length + 1 := by rw [hG2]; simp
 rw [← hG2]
 clear hG2
 have hF1l := ho1.lt
 have ho2 : OwnF G2 v1 41 32 (kr x.keys) F1 := by
  rw [← ksC_kr]
  exact ho1.low (fun j hj => k2 j (hF1l j hj))
 have hT2 : RTblF G2 b tv sv Ft Fs F L := h.low (fun j hj => (k2 j (by have := hFb j hj; omega)).trans (hG1j j (hFb j hj))) (by omega)
 have g20 := (k2 H.length (by omega)).trans g10
 have lx2 := hget_lt gx2
 have hrow : tmRow v1 x = [.int .i64 (x.kind : Nat), .string x.text, v1] := rfl
 have hfd := rfind_ac (nro := nro) (γ := γ) hT2 (by omega) hx (kr_ksv ho2 hx.k32) (by omega)
 rw [hrow] at hfd
 refine aw_seq (aoo fun K hK => ?_)
 simp (disch := first | omega | (simp only [lnS]; try omega)) [gx2, lx2, -notTuple, n1, n2]
 refine ⟨by kernel_rfl, AC.mono hfd ?_⟩
 rintro _ G3 ⟨rfl, lw3⟩
 try simp (disch := first | omega | (simp only [lnS]; try omega)) []
 refine hK _ _ ?_; clear hK K
 have hl3 := lw3.2
 have gx3 := (lw3.1 _ lx2).trans gx2
 have g30 := (lw3.1 _ (hget_lt g20)).trans g20
 have hT3 : RTblF G3 b tv sv Ft Fs F L := hT2.low (fun j hj => lw3.1 j (by have := hFb j hj; omega)) (by omega)
 have hH3 : ∀ j, j < H.length → hget G3 j = hget H j := fun j hj => (lw3.1 j (by omega)).trans ((k2 j (by omega)).trans (hG1j j hj))
 have ho3 : OwnF G3 v1 41 32 (kr x.keys) F1 := ho2.low (fun j hj => lw3.1 j (by have := hF1l j hj; omega))
 clear hfd lw3 hT2 ho2 g20 gx2 lx2 k2 hap hk1 ho1 g10 g01 hxc hkl
 have lx3 := hget_lt gx3
 have l30 := hget_lt g30
 refine aw_seq (aw_seq ?_)
 unfold posI
 have hnm := fun (G : AH) (hle : nameT x (L.map (·.2)) ≤ L.length) => rname_rc (γ := γ) (H := G) (n := (nameT x (L.map (·.2)) : Nat)) ⟨by omega, by omega⟩
 have hnn : nro ≤ H.length := hnH
 cases hf : placeT x (L.map (·.2)) with
 | some i =>
  have hnm1 : nameT x (L.map (·.2)) = i := by unfold nameT; rw [hf]
  have had : addT x (L.map (·.2)) = L.map (·.2) := by unfold addT; rw [hf]
  have hil : i ≤ L.length := by
   have := (List.getElem?_eq_some_iff.1 (idxS_some hf)).1
   simp at this
   omega
  rw [hnm1] at hnm
  have h0 : ¬ ((i : Nat) : Int) < 0 := by omega
  (refine aoo fun K hK => ?_; simp (disch := first | omega | (simp only [lnS]; try omega)) [h0]; refine hK _ _ ?_; clear hK K)
  refine aw_f (by (first | (simp [h0]; done) | (simp [h0]; omega))) (by kernel_rfl) ?_
  refine aw_skip (aw_seq ?_)
  refine aoo fun K hK => ?_
  simp (disch := first | omega | (simp only [lnS]; try omega)) []
  refine ⟨by kernel_rfl, ac_of_rc (hnm _ hil) (by simp [pv_iv]) ?_⟩
  have lN : (nmL (i : Nat)).length = 32 := rfl
  obtain ⟨N, hN⟩ : ∃ N : List Int, N = nmL (i : Nat) := ⟨_, rfl⟩
  rw [← hN] at lN ⊢
  have htN : (iv .u8 N).take 32 = iv .u8 N := List.take_of_length_le (by simp [lN])
  have hsN : setR (iv .u8 (zl 32)) 0 (iv .u8 N) = iv .u8 N := setR_all _ _ (by simp [lN])
  have fin : RMkQ H b Ft Fs F L x (.agg (iv .u8 N).toArray) (G3.set H.length (some ⟨iv .u8 N, 41, none⟩)) := by
   refine ⟨by rw [hnm1, ← hN], by simp; omega, fun j hj _ _ _ => (hget_set_ne (by omega)).trans (hH3 j hj), tv, sv, Ft, Fs, F, L, hT3.low (fun j hj => hget_set_ne (by have := hFb j hj; omega)) (by simp), had.symm, fun j hj => .inl hj⟩
  try simp (disch := first | omega | (simp only [lnS]; try omega)) [lN, htN, hsN, g30, l30, hnn]
  refine hK _ _ ?_; clear hK K
  (refine aw_ret ?_; simp (disch := first | omega | (simp only [lnS]; try omega)) [thenQ_ret, scopeQ_ret, inBlockQ_ret, RQ, resL, resV, lN, htN, l30])
  exact fin
 | none =>
  have hnm1 : nameT x (L.map (·.2)) = L.length := by unfold nameT; rw [hf, List.length_map]
  have had : addT x (L.map (·.2)) = (L ++ [(v1, x)]).map (·.2) := by unfold addT; rw [hf]; simp
  rw [hnm1] at hnm
  have hF3 : ∀ j ∈ F1, j < G3.length ∧ j ≠ b ∧ j ∉ Ft ∧ j ∉ Fs := fun j hj => by
   have h1 := hF1 j hj
   have h2 := hF1l j hj
   refine ⟨by omega, by omega, fun e => ?_, fun e => ?_⟩
   ·have := hFb j (by simp [e]); omega
   ·have := hFb j (by simp [e]); omega
  have hadd := radd_ac (nro := nro) (γ := γ) hT3 (by omega) hnro hx (Fx := F1) (fun D hD => kr_ksv (ho3.low hD) hx.k32) hF3 (by omega)
  rw [hrow] at hadd
  (refine aoo fun K hK => ?_; simp (disch := first | omega | (simp only [lnS]; try omega)) []; refine hK _ _ ?_; clear hK K)
  refine aw_t (by (first | (simp; done) | (simp; omega))) (by kernel_rfl) ?_
  refine aw_seq (aoo fun K hK => ?_)
  simp (disch := first | omega | (simp only [lnS]; try omega)) [gx3, lx3, -notTuple, n1, n2]
  refine ⟨by kernel_rfl, AC.mono hadd ?_⟩
  rintro _ G4 ⟨rfl, hl4, hk4, tv', sv', Ft', Fs', hT4, hF4⟩
  try simp (disch := first | omega | (simp only [lnS]; try omega)) []
  refine hK _ _ ?_; clear hK K
  have hbH : H.length ≠ b := by omega
  have hHt : H.length ∉ Ft := fun e => by have := hFb _ (show H.length ∈ b :: (Ft ++ Fs ++ F) by simp [e]); omega
  have hHs : H.length ∉ Fs := fun e => by have := hFb _ (show H.length ∈ b :: (Ft ++ Fs ++ F) by simp [e]); omega
  have g40 := (hk4 H.length (by omega) hbH hHt hHs).trans g30
  have l40 := hget_lt g40
  have hgb4 := hT4.hb
  have hlb4 := hget_lt hgb4
  obtain ⟨_, htl4⟩ := hT4.slen
  have hlen : (L ++ [(v1, x)]).length = L.length + 1 := by simp
  rw [hlen] at htl4
  have ht4 := ownF_nt hT4.rows
  have ldt : xload Tryd.prog 30 (.pointer (some ⟨b, 0, none⟩)) G4 = some tv' := by simp [xload, hgb4]
  have hw : IntKind.i64.wrap (((L.length + 1 : Nat) : Int) - 1) = (L.length : Nat) := by
   rw [show ((L.length + 1 : Nat) : Int) - 1 = (L.length : Nat) by omega]
   exact w64 (by omega)
  (refine aoo fun K hK => ?_; simp (disch := first | omega | (simp only [lnS]; try omega)) [hgb4, hlb4, -xload, ldt, -notTuple, ht4.1, ht4.2, -xlen, htl4, hw]; refine hK _ _ ?_; clear hK K)
  refine aw_seq (aoo fun K hK => ?_)
  simp (disch := first | omega | (simp only [lnS]; try omega)) []
  refine ⟨by kernel_rfl, ac_of_rc (hnm _ (Nat.le_refl _)) (by simp [pv_iv]) ?_⟩
  have lN : (nmL (L.length : Nat)).length = 32 := rfl
  obtain ⟨N, hN⟩ : ∃ N : List Int, N = nmL (L.length : Nat) := ⟨_, rfl⟩
  rw [← hN] at lN ⊢
  have htN : (iv .u8 N).take 32 = iv .u8 N := List.take_of_length_le (by simp [lN])
  have hsN : setR (iv .u8 (zl 32)) 0 (iv .u8 N) = iv .u8 N := setR_all _ _ (by simp [lN])
  have hb4 := hT4.bound
  have fin : RMkQ H b Ft Fs F L x (.agg (iv .u8 N).toArray) (G4.set H.length (some ⟨iv .u8 N, 41, none⟩)) := by
   refine ⟨by rw [hnm1, ← hN], by simp; omega, fun j hj h1 h2 h3 => (hget_set_ne (by omega)).trans ((hk4 j (by omega) h1 h2 h3).trans (hH3 j hj)), tv', sv', Ft', Fs', F ++ F1, L ++ [(v1, x)], hT4.low (fun j hj => hget_set_ne (fun e => ?_)) (by simp), had.symm, fun j hj => ?_⟩
   ·rw [← e] at hj
    simp only [List.mem_cons, List.mem_append] at hj
    rcases hj with hj | (hj | hj) | hj | hj
    ·exact hbH hj
    ·have := hF4 _ (List.mem_append.2 (.inl hj)); omega
    ·have := hF4 _ (List.mem_append.2 (.inr hj)); omega
    ·have := hFb _ (show H.length ∈ b :: (Ft ++ Fs ++ F) by simp [hj]); omega
    ·have := hF1 _ hj; omega
   ·simp only [List.mem_append] at hj ⊢
    rcases hj with (hj | hj) | hj | hj
    ·have := hF4 _ (List.mem_append.2 (.inl hj)); exact .inr (by omega)
    ·have := hF4 _ (List.mem_append.2 (.inr hj)); exact .inr (by omega)
    ·exact .inl (.inr hj)
    ·have := hF1 _ hj; exact .inr (by omega)
  try simp (disch := first | omega | (simp only [lnS]; try omega)) [lN, htN, hsN, g40, l40, hnn]
  refine hK _ _ ?_; clear hK K
  (refine aw_ret ?_; simp (disch := first | omega | (simp only [lnS]; try omega)) [thenQ_ret, scopeQ_ret, inBlockQ_ret, RQ, resL, resV, lN, htN, l40])
  exact fin
end
section
theorem RMkQ.up {H G A A' : AH} {b : Nat} {Ft Fs F : List Nat} {L : List (Value × TermD)} {x : TermD} {v : Value} (h : RMkQ G b Ft Fs F L x v A) (lw : Low H.length H G) (la : Low A.length A A') : RMkQ H b Ft Fs F L x v A' := by
 obtain ⟨h1, h2, h3, tv', sv', Ft', Fs', F', L', h4, h5, h6⟩ := h
 have e1 := lw.2
 have e2 := la.2
 exact ⟨h1, by omega, fun j hj a b c => (la.1 j (by omega)).trans ((h3 j (by omega) a b c).trans (lw.1 j hj)), tv', sv', Ft', Fs', F', L', h4.low (fun j hj => la.1 j (h4.bound j hj)) e2, h5, fun j hj => (h6 j hj).imp id (fun h => by omega)⟩
def RSealQ (H : AH) (b : Nat) (Ft Fs F : List Nat) (L : List (Value × TermD)) (x : TermD) (v' : Value) (H' : AH) : Prop :=
 v' = .string (strOfNums (nmL (nameT x (L.map (·.2)) : Nat))) ∧ RMkQ H b Ft Fs F L x (.agg (iv .u8 (nmL (nameT x (L.map (·.2)) : Nat))).toArray) H'
theorem rseal_ac {nro : Nat} {γ : Nat → Option Nat} {H : AH} {b : Nat} {tv sv : Value} {Ft Fs F : List Nat} {L : List (Value × TermD)} (h : RTblF H b tv sv Ft Fs F L) (hnH : nro ≤ H.length) (hnro : ∀ j ∈ b :: (Ft ++ Fs), nro ≤ j) {k y : List Int} (hk : k.length = 32) (hy : y.length = 32) {s : ByteArray} {ks : List (List Int)} (hx : TermD.Wf ⟨6, s, k :: y :: ks⟩) {v : Value} (hv : KsV H v ks) (hL : L.length ≤ 900000) :
  AC Tryd.prog nro γ 28 #[.pointer (some ⟨b, 0, none⟩), .agg (iv .u8 k).toArray, .agg (iv .u8 y).toArray, .string s, v] H (RSealQ H b Ft Fs F L ⟨6, s, k :: y :: ks⟩) := by
 unfold RSealQ
 obtain ⟨hnt, hvc⟩ := val_nt hv
 have hFb := h.bound
 have hlb := hget_lt h.hb
 have hks : ∀ z ∈ ks, z.length = 32 := fun z hz => hx.k32 z (by simp [hz])
 have hmany := hx.many
 have hmk : ks.length + 2 ≤ 1000000 := hmany
 have hstr : ∀ s, v ≠ .string s := fun s e => by
  have hv' : CD.Val H (.sl (ks.map kd)) v := hv
  generalize ks.map kd = rows at hv'
  rw [e] at hv'
  cases hv'
 have htk : (iv .u8 k).take 32 = iv .u8 k := List.take_of_length_le (by simp [hk])
 have hty : (iv .u8 y).take 32 = iv .u8 y := List.take_of_length_le (by simp [hy])
 have hrow2 : setR (setR (List.map (fun j => (iv .u8 (zl 32))[j % 32]?.getD undef) (List.range 64)) 0 (iv .u8 k)) 32 (iv .u8 y) = iv .u8 k ++ iv .u8 y := row2 (by simp) (by simp [hk]) (by simp [hy])
 obtain ⟨G0, hG0⟩ : ∃ G0 : AH, G0 = H ++ [some ⟨iv .u8 k, 41, none⟩, some ⟨iv .u8 y, 41, none⟩] := ⟨_, rfl⟩
 have gk : hget G0 H.length = some ⟨iv .u8 k, 41, none⟩ := by rw [hG0, hget_app0]; rfl
 have gy : hget G0 (H.length + 1) = some ⟨iv .u8 y, 41, none⟩ := by rw [hG0, hget_app]; rfl
 have hG0l : G0.length = H.length + 2 := by rw [hG0]; simp
 have hG0j : ∀ j, j < H.length → hget G0 j = hget H j := fun j hj => by rw [hG0]; exact hget_left hj
 have lk := hget_lt gk
 have ly := hget_lt gy
 obtain ⟨R, hR⟩ : ∃ R : Option Blk, R = some ⟨iv .u8 k ++ iv .u8 y, 41, some 32⟩ := ⟨_, rfl⟩
 have hxc : xcells 32 (.slice (some ⟨G0.length, 0, none⟩) 2 2) (G0 ++ [R]) = some (iv .u8 k ++ iv .u8 y) := by
  have ht : (iv .u8 k ++ iv .u8 y).take 64 = iv .u8 k ++ iv .u8 y := List.take_of_length_le (by simp [hk, hy])
  rw [hR]
  simp [xcells, hget_app0, hk, hy, ht]
 obtain ⟨v1, G1, F1, hap, ho1, hl1, hk1, hF1⟩ := ownF_appQ (P := Tryd.prog) (nro := nro) (t := 34) (e := 41) (H := G0 ++ [R]) (v := .slice none 0 0) (x := .slice (some ⟨G0.length, 0, none⟩) 2 2) (sz := 32) (cells := []) (news := iv .u8 k ++ iv .u8 y) (F := []) (by kernel_rfl) (by kernel_rfl) (by omega) (by kernel_rfl)
  (.inl ⟨rfl, rfl, rfl⟩) (fun j hj => by cases hj) (fun s e => by cases e) hxc (by simp [hk, hy]) (by show (0 + (iv .u8 k ++ iv .u8 y).length) * byt Tryd.prog 41 ≤ _; rw [show byt Tryd.prog 41 = 32 by kernel_rfl]; simp [hk, hy]) (by simp [hk, hy, maxLen])
 have hRl : (G0 ++ [R]).length = G0.length + 1 := by simp
 rw [hRl] at hl1 hk1 hF1
 have hG1j : ∀ j, j < H.length → hget G1 j = hget H j := fun j hj => (hk1 j (by omega) (by simp)).trans ((hget_left (by omega)).trans (hG0j j hj))
 have hv1 : KsV G1 v ks := CD.Val.low (fun j hj => hG1j j hj) hv
 have hxc2 : xcells 32 v G1 = some (ksC ks) := val_cells (by omega) hv1 (kd_len hks) (kd_flat _)
 have hkl := ksC_len hks
 have hF1l := ho1.lt
 obtain ⟨v2, G2, F2, hap2, ho2, hl2, hk2, hF2⟩ := ownF_appQ (P := Tryd.prog) (nro := nro) (t := 34) (e := 41) (H := G1) (v := v1) (x := v) (sz := 32) (cells := [] ++ (iv .u8 k ++ iv .u8 y)) (news := ksC ks) (F := F1) (by kernel_rfl) (by kernel_rfl) (by omega) (by kernel_rfl)
  ho1 (fun j hj => by have := hF1 j hj; omega) hstr hxc2 (by rw [hkl]; omega) (by rw [hkl]; simp only [List.nil_append, List.length_append, iv_length, hk, hy]; rw [show byt Tryd.prog 41 = 32 by kernel_rfl]; omega) (by rw [hkl]; simp only [List.nil_append, List.length_append, iv_length, hk, hy, maxLen]; omega)
 have hG2j : ∀ j, j < H.length → hget G2 j = hget H j := fun j hj => (hk2 j (by omega) (fun e => by have := hF1 j e; omega)).trans (hG1j j hj)
 have lw2 : Low H.length H G2 := ⟨hG2j, by omega⟩
 have hv2 : KsV G2 v2 (k :: y :: ks) := kr_ksv (F := F2) (by rw [show kr (k :: y :: ks) = [] ++ (iv .u8 k ++ iv .u8 y) ++ ksC ks by rw [ksC_kr]; simp [kr]]; exact ho2) hx.k32
 have hmk := rmake_ac (nro := nro) (γ := γ) (h.low (fun j hj => hG2j j (hFb j hj)) (by omega)) (by omega) hnro hx hv2 hL
 obtain ⟨n1, n2⟩ := ownF_nt ho1
 obtain ⟨n3, n4⟩ := ownF_nt ho2
 subst hR
 clear hxc hxc2
 refine ac_of_aw Tryd.func28 rfl Tryd.ntmps28 Tryd.results28 (by simp) ?_
 (refine aw_seq (aoo fun K hK => ?_); simp (disch := first | omega | (simp only [lnS]; try omega)) [-getElem?_pos, -getElem?_neg, htk, hty]; refine hK _ _ ?_; clear hK K)
 rw [← hG0]
 clear hG0
 (refine aw_seq (aoo fun K hK => ?_); simp (disch := first | omega | (simp only [lnS]; try omega)) [-getElem?_pos, -getElem?_neg]; refine hK _ _ ?_; clear hK K)
 (refine aw_seq (aoo fun K hK => ?_); simp (disch := first | omega | (simp only [lnS]; try omega)) [-getElem?_pos, -getElem?_neg, gk, gy, lk, ly, htk, hty, hrow2, -notTuple, n1, n2, -xappend, hap]; refine hK _ _ ?_; clear hK K)
 (refine aw_seq (aoo fun K hK => ?_); simp (disch := first | omega | (simp only [lnS]; try omega)) [-getElem?_pos, -getElem?_neg, -notTuple, hnt, hvc, n1, n2, n3, n4, -xappend, hap2]; refine hK _ _ ?_; clear hK K)
 refine aw_seq (aoo fun K hK => ?_)
 simp (disch := first | omega | (simp only [lnS]; try omega)) [-getElem?_pos, -getElem?_neg, -notTuple, n3, n4]
 refine ⟨by kernel_rfl, AC.mono hmk ?_⟩
 intro v3 G3 hQ
 have hv3 := hQ.1
 have hn3 : nro ≤ G3.length := by have := hQ.2.1; omega
 have fin := fun (N : AH) => hQ.up lw2 (A' := G3 ++ N) (Low.push (Nat.le_refl _) N)
 subst hv3
 have lN : (nmL (nameT ⟨6, s, k :: y :: ks⟩ (L.map (·.2)) : Nat)).length = 32 := rfl
 generalize nmL (nameT ⟨6, s, k :: y :: ks⟩ (L.map (·.2)) : Nat) = N at *
 have htN : (iv .u8 N).take 32 = iv .u8 N := List.take_of_length_le (by simp [lN])
 have hsN : setR (iv .u8 (zl 32)) 0 (iv .u8 N) = iv .u8 N := setR_all _ _ (by simp [lN])
 try simp (disch := first | omega | (simp only [lnS]; try omega)) [-getElem?_pos, -getElem?_neg, hn3, lN, htN, hsN]
 refine hK _ _ ?_; clear hK K
 refine aw_seq ?_
 have hbl := byteList_iv N
 (refine aoo fun K hK => ?_; simp (disch := first | omega | (simp only [lnS]; try omega)) [-getElem?_pos, -getElem?_neg, lN, htN, hbl]; refine hK _ _ ?_; clear hK K)
 (refine aw_ret ?_; simp (disch := first | omega | (simp only [lnS]; try omega)) [-getElem?_pos, -getElem?_neg, thenQ_ret, scopeQ_ret, inBlockQ_ret, RQ, resL, resV])
 exact fin _
end
end
section
theorem look_mem {T : List TermD} {k : List Int} (h : (lookT T k).kind ≠ 0) : lookT T k ∈ T := by
 unfold lookT at h ⊢
 cases hf : findT T k with
 | none => rw [hf] at h; exact absurd rfl h
 | some x =>
  unfold findT at hf
  split at hf
  ·exact List.mem_of_getElem? hf
  ·cases hf
end
section
attribute [local simp] wb_bool wb_undef with_lit XL_nil XL_cons XLc_val XLc_call step1_eq stepW_t stepW_f stepC_n stepC_s stepX_s stepX_n stepN_s calleeX xrecv oneV xop_eq xopR_s xopR_n wantedA_eq wantedG_n wantedG_s plain1_int plain1_bool plain1_string bits_i64 bits_u64 bits_u32 bits_u16 bits_u8 xeqA xagg xcmp xarr allK_iv num_iv calleeOf xread xeff xbin xint xnil xun xstr xload xconv xpart xfield xfieldAddr xindexAddr xindex bnd asInt? xslice xlen xmin xmax xbuild xfill xappend xapp2 xappstr xappmk xcap xcopy xcells eval_tmp eval_const put_at put_none fr0_at cells_agg cells_int cells_bool cells_string cells_ptr cells_slice notTuple tab iv_all hget_app hget_app0 hget_cons0 hget_cons set_app set_app0 setR setR_one QL_nil QL_cons QLc_val stepQ_t stepQ_f stepQC_n stepQC_s stepQX_s SL_nil SL_cons SLc_val stepS_t stepS_f ltT ltF leT leF eqT eqF ltTn ltFn leTn leFn eqTn eqFn beqT beqF bneT bneF wi64 wu64 wu32 wu16 wu8 tmodP tdivP hgetL hgetNe hgetEq setL nums_def nums_len Nat.succ_le_of_lt List.getElem?_cons_zero List.getElem?_cons_succ Option.getD_some Int.toNat_add Int.toNat_mul agM okM agB agI agS agP agL agA okB okI okS okP okSl okA nt_strG nt_boolG nt_aggG nt_intG nt_ptrG nt_slG
section
theorem openT_look (T : List TermD) (k y : List Int) (box : ByteArray) : openT T k y box = if box.size = 32 then (if (lookT T (nums box)).kind = 6 ∧ (lookT T (nums box)).keys.getD 0 [] = k ∧ (lookT T (nums box)).keys.getD 1 [] = y then some ((lookT T (nums box)).text, (lookT T (nums box)).keys.drop 2) else none) else none := by
 unfold openT lookT
 cases findT T (nums box) with
 | none => simp
 | some x => rfl
end
end
section
structure PlW (H0 : AH) (S : List Nat) (H : AH) (tb rb : Nat) (kv : Value) (T R : List TermD) (l : List (List Int)) (F Ft Fs Fr Fk : List Nat) (tv sv : Value) (L : List (Value × TermD)) : Prop where
 lw : Low H0.length H0 H
 a : Tbl H tb F T
 b : RTblF H rb tv sv Ft Fs Fr L
 e : L.map (·.2) = R
 k : OwnF H kv 41 32 (kr l) Fk
 ra : ∀ j ∈ F, H0.length ≤ j
 rr : ∀ j ∈ rb :: (Ft ++ Fs ++ Fr), H0.length ≤ j
 rk : ∀ j ∈ Fk, H0.length ≤ j
 ab : ∀ j ∈ F, j ∉ rb :: (Ft ++ Fs ++ Fr)
 ak : ∀ j ∈ F, j ∉ Fk
 bk : ∀ j ∈ rb :: (Ft ++ Fs ++ Fr), j ∉ Fk
 s : ∀ j ∈ S, j < H.length ∧ j ∉ F ∧ j ∉ rb :: (Ft ++ Fs ++ Fr) ∧ j ∉ Fk
def Pl (H0 : AH) (S : List Nat) (H : AH) (tb rb : Nat) (kv : Value) (T R : List TermD) (l : List (List Int)) : Prop := ∃ F Ft Fs Fr Fk tv sv L, PlW H0 S H tb rb kv T R l F Ft Fs Fr Fk tv sv L
def PlQ (H0 : AH) (S : List Nat) (H : AH) (tb rb : Nat) (kv : Value) (T R : List TermD) (l : List (List Int)) (w v' : Value) (H' : AH) : Prop := v' = w ∧ Pl H0 S H' tb rb kv T R l ∧ ∀ j ∈ S, hget H' j = hget H j
section
variable {H0 H G : AH} {S : List Nat} {tb rb : Nat} {kv : Value} {T R : List TermD} {l : List (List Int)}
theorem Pl.lw (h : Pl H0 S H tb rb kv T R l) : Low H0.length H0 H := by
 obtain ⟨F, Ft, Fs, Fr, Fk, tv, sv, L, h⟩ := h
 exact h.lw
theorem Pl.sl (h : Pl H0 S H tb rb kv T R l) {j : Nat} (hj : j ∈ S) : j < H.length := by
 obtain ⟨F, Ft, Fs, Fr, Fk, tv, sv, L, h⟩ := h
 exact (h.s j hj).1
theorem Pl.push (h : Pl H0 S H tb rb kv T R l) (lw : Low H.length H G) {S2 : List Nat} (h2 : ∀ j ∈ S2, H.length ≤ j ∧ j < G.length) : Pl H0 (S2 ++ S) G tb rb kv T R l := by
 obtain ⟨F, Ft, Fs, Fr, Fk, tv, sv, L, h⟩ := h
 have ba := h.a.bound
 have bb := h.b.bound
 have bk := h.k.lt
 have hl := lw.2
 refine ⟨F, Ft, Fs, Fr, Fk, tv, sv, L, ⟨fun j hj => (lw.1 j (by have := h.lw.2; omega)).trans (h.lw.1 j hj), by have := h.lw.2; omega⟩, h.a.low (fun j hj => lw.1 j (ba j hj)) hl, h.b.low (fun j hj => lw.1 j (bb j hj)) hl, h.e, h.k.low (fun j hj => lw.1 j (bk j hj)), h.ra, h.rr, h.rk, h.ab, h.ak, h.bk, fun j hj => ?_⟩
 rcases List.mem_append.1 hj with hj | hj
 ·obtain ⟨h3, h4⟩ := h2 j hj
  exact ⟨h4, fun e => by have := ba j e; omega, fun e => by have := bb j e; omega, fun e => by have := bk j e; omega⟩
 ·obtain ⟨h3, h4⟩ := h.s j hj
  exact ⟨by omega, h4⟩
theorem Pl.low (h : Pl H0 S H tb rb kv T R l) (lw : Low H.length H G) : Pl H0 S G tb rb kv T R l := h.push lw (S2 := []) (fun j hj => by cases hj)
theorem Pl.less (h : Pl H0 S H tb rb kv T R l) {S2 : List Nat} (h2 : ∀ j ∈ S2, j ∈ S) : Pl H0 S2 H tb rb kv T R l := by
 obtain ⟨F, Ft, Fs, Fr, Fk, tv, sv, L, h⟩ := h
 exact ⟨F, Ft, Fs, Fr, Fk, tv, sv, L, h.lw, h.a, h.b, h.e, h.k, h.ra, h.rr, h.rk, h.ab, h.ak, h.bk, fun j hj => h.s j (h2 j hj)⟩
theorem Pl.set (h : Pl H0 S H tb rb kv T R l) {j : Nat} (hj : j ∈ S) (hn : H0.length ≤ j) (X : Option Blk) : Pl H0 S (H.set j X) tb rb kv T R l := by
 obtain ⟨F, Ft, Fs, Fr, Fk, tv, sv, L, h⟩ := h
 obtain ⟨s1, s2, s3, s4⟩ := h.s j hj
 have hl := h.lw
 refine ⟨F, Ft, Fs, Fr, Fk, tv, sv, L, ⟨fun i hi => (hget_set_ne (by omega)).trans (hl.1 i hi), by have := hl.2; simpa using this⟩, h.a.low (fun i hi => hget_set_ne (fun e => s2 (e ▸ hi))) (by simp), h.b.low (fun i hi => hget_set_ne (fun e => s3 (e ▸ hi))) (by simp), h.e, h.k.low (fun i hi => hget_set_ne (fun e => s4 (e ▸ hi))), h.ra, h.rr, h.rk, h.ab, h.ak, h.bk, fun i hi => ?_⟩
 obtain ⟨i1, i2⟩ := h.s i hi
 exact ⟨by simpa using i1, i2⟩
theorem PlW.term_ {F Ft Fs Fr Fk : List Nat} {tv sv : Value} {L : List (Value × TermD)} (w : PlW H0 S H tb rb kv T R l F Ft Fs Fr Fk tv sv L) {x : TermD} {v' : Value} {H' : AH} (hq : TermQ H tb F T x v' H') : PlQ H0 S H tb rb kv (addT x T) R l (.agg (iv .u8 (nmL (nameT x T))).toArray) v' H' := by
 obtain ⟨h0, h2, h3, F', h4, h5⟩ := hq
 have bb := w.b.bound
 have bk := w.k.lt
 have hl := w.lw
 refine ⟨h0, ⟨F', Ft, Fs, Fr, Fk, tv, sv, L, ⟨fun j hj => (h3 j (by have := hl.2; omega) (fun e => by have := w.ra j e; omega)).trans (hl.1 j hj), by have := hl.2; omega⟩, h4, w.b.low (fun j hj => h3 j (bb j hj) (fun e => w.ab j e hj)) h2, w.e, w.k.low (fun j hj => h3 j (bk j hj) (fun e => w.ak j e hj)), fun j hj => ?_, w.rr, w.rk, fun j hj e => ?_, fun j hj e => ?_, w.bk, fun j hj => ?_⟩, fun j hj => h3 j (w.s j hj).1 (w.s j hj).2.1⟩
 ·rcases h5 j hj with e | e
  ·exact w.ra j e
  ·have := hl.2; omega
 ·rcases h5 j hj with e2 | e2
  ·exact w.ab j e2 e
  ·have := bb j e; omega
 ·rcases h5 j hj with e2 | e2
  ·exact w.ak j e2 e
  ·have := bk j e; omega
 ·obtain ⟨s1, s2, s3, s4⟩ := w.s j hj
  refine ⟨by omega, fun e => ?_, s3, s4⟩
  rcases h5 j e with e2 | e2
  ·exact s2 e2
  ·omega
theorem PlW.make {F Ft Fs Fr Fk : List Nat} {tv sv : Value} {L : List (Value × TermD)} (w : PlW H0 S H tb rb kv T R l F Ft Fs Fr Fk tv sv L) {x : TermD} {v' : Value} {H' : AH} (hq : RMkQ H rb Ft Fs Fr L x v' H') : PlQ H0 S H tb rb kv T (addT x R) l (.agg (iv .u8 (nmL (nameT x R : Nat))).toArray) v' H' := by
 obtain ⟨h0, h2, h3, tv', sv', Ft', Fs', Fr', L', h4, h5, h6⟩ := hq
 have ba := w.a.bound
 have bb := w.b.bound
 have bk := w.k.lt
 have hl := w.lw
 have he := w.e
 rw [he] at h0 h5
 have nin : ∀ j, j ∉ rb :: (Ft ++ Fs ++ Fr) → j ≠ rb ∧ j ∉ Ft ∧ j ∉ Fs ∧ j ∉ Fr := fun j hj => by
  simp only [List.mem_cons, List.mem_append, not_or] at hj
  exact ⟨hj.1, hj.2.1.1, hj.2.1.2, hj.2.2⟩
 have out : ∀ j, j < H.length → j ∉ rb :: (Ft ++ Fs ++ Fr) → j ∉ rb :: (Ft' ++ Fs' ++ Fr') := fun j hj hn e => by
  obtain ⟨n1, n2, n3, n4⟩ := nin j hn
  rcases List.mem_cons.1 e with e | e
  ·exact n1 e
  ·rcases h6 j e with e | e
   ·simp only [List.mem_append] at e
    rcases e with (e | e) | e
    ·exact n2 e
    ·exact n3 e
    ·exact n4 e
   ·omega
 have hna : ∀ j ∈ F, j ∉ rb :: (Ft ++ Fs ++ Fr) := w.ab
 have hnk : ∀ j ∈ Fk, j ∉ rb :: (Ft ++ Fs ++ Fr) := fun j hj e => w.bk j e hj
 have same : ∀ j, j < H.length → j ∉ rb :: (Ft ++ Fs ++ Fr) → hget H' j = hget H j := fun j hj hn => by
  obtain ⟨n1, n2, n3, n4⟩ := nin j hn
  exact h3 j hj n1 n2 n3
 refine ⟨h0, ⟨F, Ft', Fs', Fr', Fk, tv', sv', L', ⟨fun j hj => (h3 j (by have := hl.2; omega) (fun e => by have := w.rr j (by simp [e]); omega) (fun e => by have := w.rr j (by simp [e]); omega) (fun e => by have := w.rr j (by simp [e]); omega)).trans (hl.1 j hj), by have := hl.2; omega⟩, w.a.low (fun j hj => same j (ba j hj) (hna j hj)) h2, h4, h5, w.k.low (fun j hj => same j (bk j hj) (hnk j hj)), w.ra, fun j hj => ?_, w.rk, fun j hj => out j (ba j hj) (hna j hj), w.ak, fun j hj e => out j (bk j e) (hnk j e) hj, fun j hj => ?_⟩, fun j hj => same j (w.s j hj).1 (w.s j hj).2.2.1⟩
 ·by_cases hjn : j ∈ rb :: (Ft ++ Fs ++ Fr)
  ·exact w.rr j hjn
  ·have := out j
   by_cases hjl : j < H.length
   ·exact absurd hj (out j hjl hjn)
   ·have := hl.2; omega
 ·obtain ⟨s1, s2, s3, s4⟩ := w.s j hj
  exact ⟨by omega, s2, out j s1 s3, s4⟩
end
end
section
theorem addT_mem {x y : TermD} {T : List TermD} (h : y ∈ addT x T) : y ∈ T ∨ y = x := by
 unfold addT at h
 cases hp : placeT x T with
 | some i => rw [hp] at h; exact .inl h
 | none =>
  rw [hp] at h
  rcases List.mem_append.1 h with h | h
  ·exact .inl h
  ·exact .inr (List.mem_singleton.1 h)
theorem addT_le (x : TermD) (T : List TermD) : (addT x T).length ≤ T.length + 1 := by
 unfold addT
 cases placeT x T with
 | some i => exact Nat.le_succ _
 | none => simp
def nmV (x : TermD) (T : List TermD) : Value := .agg (iv .u8 (nmL (nameT x T : Nat))).toArray
def boxT (s : ByteArray) : TermD := ⟨2, tmBox ++ s, []⟩
def markT (T : List TermD) (s : ByteArray) : List TermD := if s.size = 32 then T else addT (boxT s) T
def markV (T : List TermD) (s : ByteArray) : List Int := if s.size = 32 then nums s else nmL (nameT (boxT s) T : Nat)
def agrT2 (T : List TermD) (s p : List Int) : List TermD := if p = zl 32 then T else addT (agreeT T s p) T
def agrK (T : List TermD) (s p : List Int) : List Int := if p = zl 32 then zl 32 else nmL (nameT (agreeT T s p) T : Nat)
def agrB (p : List Int) : Bool := !decide (p = zl 32)
section
variable {γ : Nat → Option Nat} {H0 H : AH} {S : List Nat} {tb rb : Nat} {kv : Value} {T R : List TermD} {l : List (List Int)}
theorem pl_draw (hpw : Pw γ H0) (h : Pl H0 S H tb rb kv T R l) {s : ByteArray} (hs : s.size ≤ 100000000) (hT : T.length ≤ 900000) : AC Tryd.prog H0.length γ 22 #[.pointer (some ⟨tb, 0, none⟩), .string s] H (PlQ H0 S H tb rb kv (addT ⟨1, s, []⟩ T) R l (nmV ⟨1, s, []⟩ T)) := by
 obtain ⟨F, Ft, Fs, Fr, Fk, tv, sv, L, w⟩ := h
 exact (draw_ac (nro := H0.length) (hpw.low w.lw) w.a w.ra w.lw.2 hs (by omega)).mono fun v' H' hq => w.term_ hq
theorem pl_hash (hpw : Pw γ H0) (h : Pl H0 S H tb rb kv T R l) {s : ByteArray} {ks : List (List Int)} (hx : TermD.Wf ⟨2, s, ks⟩) {v : Value} {Fv : List Nat} (hv : OwnF H v 41 32 (kr ks) Fv) (hF : ∀ j ∈ Fv, j ∈ S) (hT : T.length ≤ 900000) : AC Tryd.prog H0.length γ 23 #[.pointer (some ⟨tb, 0, none⟩), .string s, v] H (PlQ H0 S H tb rb kv (addT ⟨2, s, ks⟩ T) R l (nmV ⟨2, s, ks⟩ T)) := by
 obtain ⟨F, Ft, Fs, Fr, Fk, tv, sv, L, w⟩ := h
 exact (hash_ac (nro := H0.length) (hpw.low w.lw) w.a w.ra w.lw.2 hx (fun G hG hj => kr_ksv (hv.low (fun j hm => hj j (w.s j (hF j hm)).1 (w.s j (hF j hm)).2.1)) hx.k32) (by omega)).mono fun v' H' hq => w.term_ hq
theorem pl_pub (hpw : Pw γ H0) (h : Pl H0 S H tb rb kv T R l) {k : List Int} (hk : k.length = 32) (hb : By k) (hT : T.length ≤ 900000) : AC Tryd.prog H0.length γ 29 #[.pointer (some ⟨tb, 0, none⟩), .agg (iv .u8 k).toArray] H (PlQ H0 S H tb rb kv (addT ⟨3, ⟨#[]⟩, [k]⟩ T) R l (nmV ⟨3, ⟨#[]⟩, [k]⟩ T)) := by
 obtain ⟨F, Ft, Fs, Fr, Fk, tv, sv, L, w⟩ := h
 exact (pubT_ac (nro := H0.length) (hpw.low w.lw) w.a w.ra w.lw.2 hk hb (by omega)).mono fun v' H' hq => w.term_ hq
theorem pl_seal (hpw : Pw γ H0) (h : Pl H0 S H tb rb kv T R l) {k y : List Int} (hk : k.length = 32) (hy : y.length = 32) {s : ByteArray} {ks : List (List Int)} (hx : TermD.Wf ⟨6, s, k :: y :: ks⟩) {v : Value} (hv : KsV H v ks) (hT : T.length ≤ 900000) : AC Tryd.prog H0.length γ 27 #[.pointer (some ⟨tb, 0, none⟩), .agg (iv .u8 k).toArray, .agg (iv .u8 y).toArray, .string s, v] H (PlQ H0 S H tb rb kv (addT ⟨6, s, k :: y :: ks⟩ T) R l (.string (strOfNums (nmL (nameT ⟨6, s, k :: y :: ks⟩ T : Nat))))) := by
 obtain ⟨F, Ft, Fs, Fr, Fk, tv, sv, L, w⟩ := h
 refine (seal_ac (nro := H0.length) (hpw.low w.lw) w.a w.ra w.lw.2 hk hy hx hv (by omega)).mono fun v' H' hq => ?_
 exact ⟨hq.1, (w.term_ hq.2).2⟩
theorem pl_mark (hpw : Pw γ H0) (h : Pl H0 S H tb rb kv T R l) {s : ByteArray} (hs : s.size ≤ 10000000) (hT : T.length ≤ 900000) : AC Tryd.prog H0.length γ 26 #[.pointer (some ⟨tb, 0, none⟩), .string s] H (PlQ H0 S H tb rb kv (markT T s) R l (.agg (iv .u8 (markV T s)).toArray)) := by
 have h0 := h
 obtain ⟨F, Ft, Fs, Fr, Fk, tv, sv, L, w⟩ := h
 refine (mark_ac (nro := H0.length) (hpw.low w.lw) w.a w.ra w.lw.2 hs (by omega)).mono fun v' H' hq => ?_
 unfold MarkQ at hq
 unfold markT markV
 by_cases h32 : s.size = 32
 ·rw [if_pos h32] at hq ⊢
  rw [if_pos h32]
  exact ⟨hq.1, h0.low hq.2, fun j hj => hq.2.1 j (h0.sl hj)⟩
 ·rw [if_neg h32] at hq ⊢
  rw [if_neg h32]
  exact w.term_ hq
theorem pl_make (h : Pl H0 S H tb rb kv T R l) {x : TermD} (hx : x.Wf) {v : Value} (hv : KsV H v x.keys) (hR : R.length ≤ 900000) : AC Tryd.prog H0.length γ 25 #[.pointer (some ⟨rb, 0, none⟩), .int .i64 (x.kind : Nat), .string x.text, v] H (PlQ H0 S H tb rb kv T (addT x R) l (nmV x R)) := by
 obtain ⟨F, Ft, Fs, Fr, Fk, tv, sv, L, w⟩ := h
 have hl : L.length ≤ 900000 := by rw [← w.e, List.length_map] at hR; exact hR
 exact (rmake_ac (nro := H0.length) w.b w.lw.2 (fun j hj => w.rr j (by simp only [List.mem_cons, List.mem_append] at hj ⊢; rcases hj with e | e | e <;> simp [e])) hx hv hl).mono fun v' H' hq => w.make hq
theorem pl_rseal (h : Pl H0 S H tb rb kv T R l) {k y : List Int} (hk : k.length = 32) (hy : y.length = 32) {s : ByteArray} {ks : List (List Int)} (hx : TermD.Wf ⟨6, s, k :: y :: ks⟩) {v : Value} (hv : KsV H v ks) (hR : R.length ≤ 900000) : AC Tryd.prog H0.length γ 28 #[.pointer (some ⟨rb, 0, none⟩), .agg (iv .u8 k).toArray, .agg (iv .u8 y).toArray, .string s, v] H (PlQ H0 S H tb rb kv T (addT ⟨6, s, k :: y :: ks⟩ R) l (.string (strOfNums (nmL (nameT ⟨6, s, k :: y :: ks⟩ R : Nat))))) := by
 obtain ⟨F, Ft, Fs, Fr, Fk, tv, sv, L, w⟩ := h
 have hl : L.length ≤ 900000 := by rw [← w.e, List.length_map] at hR; exact hR
 refine (rseal_ac (nro := H0.length) w.b w.lw.2 (fun j hj => w.rr j (by simp only [List.mem_cons, List.mem_append] at hj ⊢; rcases hj with e | e | e <;> simp [e])) hk hy hx hv hl).mono fun v' H' hq => ?_
 have q := w.make hq.2
 exact ⟨by rw [hq.1, w.e], q.2⟩
end
end
section
theorem key_load {G : AH} {n : Nat} {Y : List Int} (hY : Y.length = 32) (h : hget G n = some ⟨iv .u8 Y, 41, none⟩) : xload Tryd.prog 41 (.pointer (some ⟨n, 0, none⟩)) G = some (.agg (iv .u8 Y).toArray) := by
 have := load_at (P := Tryd.prog) (e := 41) (sz := 32) (i := 0) (us := iv .u8 Y) h (by kernel_rfl) (by omega) (by kernel_rfl) (by simp; rw [List.take_of_length_le (by simp [hY])]) (by simp [hY])
 simpa using this
end
section
def OpR (T : List TermD) (k y : List Int) (box : ByteArray) (u : ByteArray) (ks : List (List Int)) (b : Bool) : Prop := (openT T k y box = none ∧ u = ⟨#[]⟩ ∧ ks = [] ∧ b = false) ∨ (openT T k y box = some (u, ks) ∧ b = true)
theorem opR_ex (T : List TermD) (k y : List Int) (box : ByteArray) : ∃ u ks b, OpR T k y box u ks b := by
 cases h : openT T k y box with
 | none => exact ⟨_, _, _, .inl ⟨h, rfl, rfl, rfl⟩⟩
 | some p => exact ⟨p.1, p.2, true, .inr ⟨h, rfl⟩⟩
theorem openT_keys {T : List TermD} {k y : List Int} {box : ByteArray} {u : ByteArray} {ks : List (List Int)} (h : openT T k y box = some (u, ks)) : ∃ x ∈ T, ks = x.keys.drop 2 := by
 rw [openT_look] at h
 split at h
 ·split at h
  ·rename_i h6
   cases h
   exact ⟨_, look_mem (by omega), rfl⟩
  ·cases h
 ·cases h
theorem openQ_w {G G' : AH} {T : List TermD} {k y : List Int} {box : ByteArray} {v' : Value} (hq : OpenQ G T k y box v' G') {lo : Nat} (hl : lo ≤ G.length) {u : ByteArray} {ks : List (List Int)} {b : Bool} (ho : OpR T k y box u ks b) : ∃ w, v' = .tuple #[.string u, w, .bool b] ∧ OwnK lo G' w ks := by
 obtain ⟨_, h⟩ := hq
 rcases ho with ⟨e, rfl, rfl, rfl⟩ | ⟨e, rfl⟩
 ·rw [e] at h
  exact ⟨_, h, .inl ⟨rfl, rfl⟩⟩
 ·rw [e] at h
  obtain ⟨kv, h1, h2⟩ := h
  exact ⟨kv, h1, h2.less hl⟩
end
section
attribute [local simp] wb_bool wb_undef with_lit XL_nil XL_cons XLc_val XLc_call step1_eq stepW_t stepW_f stepC_n stepC_s stepX_s stepX_n stepN_s calleeX xrecv oneV xop_eq xopR_s xopR_n wantedA_eq wantedG_n wantedG_s plain1_int plain1_bool plain1_string bits_i64 bits_u64 bits_u32 bits_u16 bits_u8 xeqA xagg xcmp xarr allK_iv num_iv calleeOf xread xeff xbin xint xnil xun xstr xload xconv xpart xfield xfieldAddr xindexAddr xindex bnd asInt? xslice xlen xmin xmax xbuild xfill xappend xapp2 xappstr xappmk xcap xcopy xcells eval_tmp eval_const put_at put_none fr0_at cells_agg cells_int cells_bool cells_string cells_ptr cells_slice notTuple tab iv_all hget_app hget_app0 hget_cons0 hget_cons set_app set_app0 setR setR_one QL_nil QL_cons QLc_val stepQ_t stepQ_f stepQC_n stepQC_s stepQX_s SL_nil SL_cons SLc_val stepS_t stepS_f ltT ltF leT leF eqT eqF ltTn ltFn leTn leFn eqTn eqFn beqT beqF bneT bneF wi64 wu64 wu32 wu16 wu8 tmodP tdivP hgetL hgetNe hgetEq setL nums_def nums_len Nat.succ_le_of_lt List.getElem?_cons_zero List.getElem?_cons_succ Option.getD_some Int.toNat_add Int.toNat_mul agM okM agB agI agS agP agL agA okB okI okS okP okSl okA nt_strG nt_boolG nt_aggG nt_intG nt_ptrG nt_slG
section
structure CookD where
 kind : Int
 n : Int
 text : ByteArray
 keys : List Int
 raw : List Int
structure CookD.Wf (x : CookD) : Prop where
 kind : I64 x.kind
 n : I64 x.n
 text : x.text.size ≤ maxLen
 keys : ∀ z ∈ x.keys, I64 z
 klen : x.keys.length ≤ maxLen
 raw : Key32 x.raw
def CookD.row (x : CookD) : List CD := [CD.int .i64 x.kind, .int .i64 x.n, .str x.text] ++ (CD.sl (x.keys.map fun z => [.int .i64 z]) :: kd x.raw)
def cookK : List CK := [CK.int .i64, .int .i64, .str] ++ (CK.sl [.int .i64] :: keyK)
theorem cook_of {ds : List CD} (h : OkL cookK ds) : ∃ x : CookD, ds = x.row ∧ x.Wf := by
 obtain ⟨a, r, rfl, h1, h2⟩ := OkL.split h
 obtain ⟨d1, r11, rfl, o11, g1⟩ := h1.cons
 obtain ⟨ki, rfl, w1⟩ := ok_int o11
 obtain ⟨d2, r12, rfl, o12, g2⟩ := g1.cons
 obtain ⟨ai, rfl, w2⟩ := ok_int o12
 obtain ⟨d3, r13, rfl, o13, g3⟩ := g2.cons
 obtain ⟨s, rfl, w3⟩ := ok_str o13
 obtain rfl := g3.nil
 obtain ⟨d, r3, rfl, o2, h7⟩ := h2.cons
 obtain ⟨zs, rfl, hz, hl⟩ := ok_ints o2
 obtain ⟨k, rfl, hk⟩ := key_of h7
 exact ⟨⟨ki, ai, s, zs, k⟩, rfl, wf_i64 w1, wf_i64 w2, w3, fun z hm => wf_i64 (hz z hm), hl, hk⟩
theorem cooks_of {d : CD} (h : CD.Ok (.sl cookK) d) : ∃ l : List CookD, d = .sl (l.map CookD.row) ∧ (∀ x ∈ l, x.Wf) ∧ l.length ≤ maxLen := by
 obtain ⟨rows, rfl, hm, hr⟩ := ok_sl h
 obtain ⟨l, rfl, hl⟩ := rows_of (f := CookD.row) (R := CookD.Wf) rows (fun row hrow => cook_of (hr row hrow))
 exact ⟨l, rfl, hl, by simpa using hm⟩
structure CkC (H : AH) (C : List Value) (x : CookD) (kv : Value) : Prop where
 len : C.length = 36
 c0 : C[0]? = some (.int .i64 x.kind)
 c1 : C[1]? = some (.int .i64 x.n)
 c2 : C[2]? = some (.string x.text)
 c3 : C[3]? = some kv
 raw : (C.drop 4).take 32 = iv .u8 x.raw
 kv : InV H kv x.keys
theorem CkC.low {H G : AH} {C : List Value} {x : CookD} {kv : Value} (h : CkC H C x kv) (lw : Low H.length H G) : CkC G C x kv := ⟨h.len, h.c0, h.c1, h.c2, h.c3, h.raw, CD.Val.low (fun j hj => lw.1 j hj) h.kv⟩
theorem cook_c {H : AH} {x : CookD} (hw : x.Wf) {us : List Value} (h : ValL H x.row us) : ∃ kv, CkC H us x kv := by
 obtain ⟨a, r, rfl, h1, h2⟩ := ValL.split h
 obtain ⟨u0, r0, rfl, v0, n0⟩ := h1.cons
 obtain ⟨u1, r1, rfl, v1, n1⟩ := n0.cons
 obtain ⟨u2, r2, rfl, v2, n2⟩ := n1.cons
 obtain rfl := n2.nil
 obtain ⟨u3, r4, rfl, v3, n3⟩ := h2.cons
 obtain rfl := n3.key
 rw [val_int v0, val_int v1, val_str v2]
 have lr := hw.raw.1
 refine ⟨u3, ?_, rfl, rfl, rfl, rfl, ?_, v3⟩
 ·simp [lr]
 ·show ((iv .u8 x.raw).take 32) = _
  rw [List.take_of_length_le (by simp [lr])]
def CkV (H : AH) (v : Value) (l : List CookD) : Prop := CD.Val H (.sl (l.map CookD.row)) v
theorem CkV.acc {H : AH} {v : Value} {l : List CookD} (h : CkV H v l) (hl : ∀ x ∈ l, x.Wf) : Acc H 22 43 v l.length (fun i x => ∃ us y kv, x = .agg us.toArray ∧ l[i]? = some y ∧ CkC H us y kv) := by
 refine ⟨(val_nt h).1, (val_nt h).2, ?_, fun i hi => ?_⟩
 ·have := val_len (P := Tryd.prog) (t := 22) (e := 43) h (by kernel_rfl)
  rw [List.length_map] at this
  exact this
 ·obtain ⟨z, hz⟩ : ∃ z, l[i]? = some z := ⟨_, List.getElem?_eq_getElem hi⟩
  have hzw := hl z (List.mem_of_getElem? hz)
  obtain ⟨j, b, us, hv, hb, hle, hx, hus, hul, hle2, hc, hval⟩ := val_at (P := Tryd.prog) (t := 22) (e := 43) (sz := 36) h (by kernel_rfl) (by kernel_rfl) (by omega) (fun row hr => by
   obtain ⟨y, hy, rfl⟩ := List.mem_map.1 hr
   have h1 := (hl y hy).raw.1
   simp [CookD.row, kd, h1]) (i := i) (row := z.row) (by rw [List.getElem?_map, hz]; rfl)
  obtain ⟨kv, hcc⟩ := cook_c hzw hval
  refine ⟨_, .agg us.toArray, rfl, hx, rfl, ⟨us, z, kv, rfl, hz, hcc⟩, fun G hg => ?_⟩
  have hbG : hget G j = some b := (hg.1 j (hget_lt hb)).trans hb
  exact load_at (P := Tryd.prog) (e := 43) (i := i) hbG (by kernel_rfl) (by omega) (by kernel_rfl) hus hle2
theorem CkC.loads {H G : AH} {C : List Value} {x : CookD} {kv : Value} (h : CkC H C x kv) (hx : x.Wf) {n : Nat} (hn : hget G n = some ⟨C, 43, none⟩) :
  xload Tryd.prog 3 (.pointer (some ⟨n, 0, none⟩)) G = some (.int .i64 x.kind) ∧ xload Tryd.prog 3 (.pointer (some ⟨n, 1, none⟩)) G = some (.int .i64 x.n) ∧ xload Tryd.prog 9 (.pointer (some ⟨n, 2, none⟩)) G = some (.string x.text) ∧
  xload Tryd.prog 39 (.pointer (some ⟨n, 3, none⟩)) G = some kv ∧ xload Tryd.prog 41 (.pointer (some ⟨n, 4, none⟩)) G = some (.agg (iv .u8 x.raw).toArray) ∧ xload Tryd.prog 43 (.pointer (some ⟨n, 0, none⟩)) G = some (.agg C.toArray) := by
 have c0 := h.c0
 have c1 := h.c1
 have c2 := h.c2
 have c3 := h.c3
 have cr := h.raw
 have cl := h.len
 have ht : C.take 36 = C := List.take_of_length_le (by omega)
 have lr := hx.raw.1
 refine ⟨by simp [xload, hn, c0], by simp [xload, hn, c1], by simp [xload, hn, c2], by simp [xload, hn, c3], ?_, by simp [xload, hn, cl, ht]⟩
 simp [xload, hn, cr, cl]
def inR (m : Nat) (l : List Int) : Bool := l.all fun i => decide (0 ≤ i ∧ i < m)
def pickL (made : List (List Int)) (l : List Int) : List (List Int) := l.map fun i => made.getD i.toNat []
def needN (k : Int) : Nat := if k = 4 then 1 else if k = 5 ∨ k = 6 then 2 else if k = 7 then 3 else 0
def foeS : ByteArray := ⟨#[102, 111, 101, 32]⟩
def ckT (T : List TermD) (ks : List (List Int)) (c : CookD) : TermD :=
 if c.kind = 2 then ⟨1, foeS ++ c.text, []⟩ else if c.kind = 3 then ⟨2, c.text, ks⟩ else if c.kind = 4 then ⟨3, ⟨#[]⟩, [ks.getD 0 []]⟩ else if c.kind = 5 then agreeT T (ks.getD 0 []) (ks.getD 1 []) else ⟨6, c.text, ks.getD 0 [] :: ks.getD 1 [] :: ks.drop 2⟩
def openK : Option (ByteArray × List (List Int)) → List (List Int)
 | some p => p.2
 | none => []
def cookM (T : List TermD) (seen ks : List (List Int)) (c : CookD) : List TermD × List (List Int) :=
 if c.kind = 1 then (T, if 0 ≤ c.n ∧ c.n < seen.length then [seen.getD c.n.toNat []] else [])
 else if c.kind = 2 ∨ c.kind = 3 ∨ c.kind = 4 ∨ c.kind = 6 then (addT (ckT T ks c) T, [nmL (nameT (ckT T ks c) T : Nat)])
 else if c.kind = 5 then (if ks.getD 1 [] = zl 32 then (T, []) else (addT (ckT T ks c) T, [nmL (nameT (ckT T ks c) T : Nat)]))
 else if c.kind = 7 then (T, openK (openT T (ks.getD 0 []) (ks.getD 1 []) (strOfNums (ks.getD 2 []))))
 else if c.kind = 8 then (T, if nmL (plN c.raw) = c.raw then [] else [c.raw])
 else (T, [])
def moreM (T : List TermD) (seen made : List (List Int)) (c : CookD) : List TermD × List (List Int) :=
 if inR made.length c.keys = true ∧ needN c.kind ≤ c.keys.length then ((cookM T seen (pickL made c.keys) c).1, made ++ (cookM T seen (pickL made c.keys) c).2) else (T, made)
def makeM (seen : List (List Int)) : List CookD → List TermD × List (List Int) → List TermD × List (List Int)
 | [], s => s
 | c :: l, s => makeM seen l (moreM s.1 seen s.2 c)
theorem makeM_snoc (seen : List (List Int)) (c : CookD) : ∀ (l : List CookD) (s : List TermD × List (List Int)), makeM seen (l ++ [c]) s = moreM (makeM seen l s).1 seen (makeM seen l s).2 c
 | [], s => rfl
 | d :: l, s => makeM_snoc seen c l _
theorem makeM_take {seen : List (List Int)} {c : CookD} {l : List CookD} {i : Nat} (h : l[i]? = some c) (s : List TermD × List (List Int)) : makeM seen (l.take (i + 1)) s = moreM (makeM seen (l.take i) s).1 seen (makeM seen (l.take i) s).2 c := by
 rw [List.take_add_one, h]
 exact makeM_snoc seen c _ s
theorem pickL_len (made : List (List Int)) (l : List Int) : (pickL made l).length = l.length := List.length_map _
theorem pickL_mem {made : List (List Int)} {l : List Int} (h : inR made.length l = true) : ∀ k ∈ pickL made l, k ∈ made := fun k hk => by
 obtain ⟨i, hi, rfl⟩ := List.mem_map.1 hk
 have h1 := of_decide_eq_true (List.all_eq_true.1 h i hi)
 rw [List.getD_eq_getElem?_getD, List.getElem?_eq_getElem (by omega : i.toNat < made.length)]
 exact List.getElem_mem _
end
end
end Go.Proofs.YtlaglpnbmkoakaaDoor
