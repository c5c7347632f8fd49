/-
  TermMeets: two who know one another's public keys.
  TermMeets, whole.
-/
import Derived.Test.YtecjhpamfkfilaaDoorM8F
import Derived.Test.YtecjhpamfkfilaaDoorM8C
namespace Go.Proofs.YtecjhpamfkfilaaDoor
open Go Go.RowKit
set_option linter.unusedSimpArgs false
set_option linter.unusedVariables false
set_option maxRecDepth 100000
set_option maxHeartbeats 4000000
section
structure J7 (β : Fm) (H : AH) (b px py : Nat) (X Y U V : List Int) (T2 T3 T4 : List TermD) (s : Array Bool) (α : Fm) (G : AH) : Prop where
 sz : s.size = 10
 lo : ∀ t, t ≠ 8 → t ≠ 9 → t < 32 → α t = β t
 v0 : s.getD 0 false = true → α 32 = .pointer (some ⟨b, 0, none⟩)
 v1 : s.getD 1 false = true → α 33 = .agg (iv .u8 X).toArray
 v2 : s.getD 2 false = true → α 34 = .agg (iv .u8 U).toArray
 v3 : s.getD 3 false = true → α 35 = .pointer (some ⟨b, 0, none⟩)
 v4 : s.getD 4 false = true → α 36 = .agg (iv .u8 Y).toArray
 v5 : s.getD 5 false = true → α 37 = .agg (iv .u8 V).toArray
 hp : ∃ F ru rv, Tbl G b F (if s.getD 5 false = true then T4 else if s.getD 2 false = true then T3 else T2) ∧ Low H.length H G ∧ (∀ j ∈ F, H.length ≤ j) ∧
  hget G px = some ⟨iv .u8 X, 28, none⟩ ∧ px ∉ F ∧ hget G py = some ⟨iv .u8 Y, 28, none⟩ ∧ py ∉ F ∧
  (s.getD 6 false = true → α 8 = .pointer (some ⟨ru, 0, none⟩) ∧ ru ∉ F ∧ H.length ≤ ru ∧ ru ≠ px ∧ ru ≠ py ∧ hget G ru = some ⟨iv .u8 (if s.getD 8 false = true then U else zl 32), 28, none⟩) ∧
  (s.getD 7 false = true → α 9 = .pointer (some ⟨rv, 0, none⟩) ∧ rv ∉ F ∧ H.length ≤ rv ∧ rv ≠ px ∧ rv ≠ py ∧ hget G rv = some ⟨iv .u8 (if s.getD 9 false = true then V else zl 32), 28, none⟩) ∧
  (s.getD 6 false = true → s.getD 7 false = true → ru ≠ rv)
def j7P : List (List Nat) := [[], [], [0, 1], [], [], [2, 3, 4], [], [], [2, 6], [5, 7, 8]]
theorem gs_0 (n i : Nat) : (Array.replicate n false).getD i false = false := by
 rw [Array.getD_eq_getD_getElem?, Array.getElem?_replicate]
 split <;> rfl
theorem gs_eq {s : Array Bool} {i : Nat} (h : i < s.size) : (s.setIfInBounds i true).getD i false = true := by
 rw [Array.getD_eq_getD_getElem?, Array.getElem?_setIfInBounds_self_of_lt h]; rfl
theorem gs_ne {s : Array Bool} {i j : Nat} (h : i ≠ j) : (s.setIfInBounds i true).getD j false = s.getD j false := by
 rw [Array.getD_eq_getD_getElem?, Array.getElem?_setIfInBounds_ne h, ← Array.getD_eq_getD_getElem?]
theorem toList_inj {a b : ByteArray} (h : a.toList = b.toList) : a = b := by
 simp only [ByteArray.toList_eq] at h
 obtain ⟨a⟩ := a
 obtain ⟨b⟩ := b
 exact congrArg ByteArray.mk (Array.toList_inj.1 h)
theorem two32 {k l : List Int} (hk : k.length = 32) (hl : l.length = 32) : ∀ x ∈ [k, l], x.length = 32 := fun x hx => by
 simp only [List.mem_cons, List.not_mem_nil, or_false] at hx
 rcases hx with rfl | rfl
 ·exact hk
 ·exact hl
theorem twoBy {k l : List Int} (hk : By k) (hl : By l) : ∀ x ∈ [k, l], By x := fun x hx => by
 simp only [List.mem_cons, List.not_mem_nil, or_false] at hx
 rcases hx with rfl | rfl
 ·exact hk
 ·exact hl
def mtJD : List Nat := [63, 64, 65, 66, 67, 68, 69, 70, 71, 72, 73, 74, 75, 76, 77, 78, 79, 80, 81, 82, 83, 84, 85, 86, 87, 88, 89, 90, 91, 92, 93, 94, 95, 96, 97, 98, 99, 100, 101, 102, 103, 104, 4]
def mtJP : List (List Nat) := [[], [0], [1], [1], [1], [1, 3, 4], [1, 2, 5], [1], [1, 6, 7], [1, 8], [9], [10], [10], [10], [10, 12, 13], [10, 11, 14], [10], [10, 15, 16], [10, 17], [18], [19], [19], [19], [19, 21, 22], [19, 20, 23], [19], [19, 24, 25], [19, 26], [19, 27], [28], [29], [29], [29, 31], [29, 30, 32], [29], [29, 33, 34], [29, 35], [29], [29], [29, 37, 38], [29, 36, 39], [29, 40], [41]]
def mtJV (tb : Nat) (a b : ByteArray) (X Y U V K : List Int) (T5 : List TermD) (G : AH) (i : Nat) (v : Value) : Prop := match i with
 | 0 => v = .bool true
 | 1 => v = .bool true
 | 2 => v = .pointer (some ⟨tb, 0, none⟩)
 | 3 => v = .agg (iv .u8 X).toArray
 | 4 => v = .agg (iv .u8 V).toArray
 | 5 => ∃ rr, v = .slice (some ⟨rr, 0, none⟩) 2 2 ∧ hget G rr = some ⟨iv .u8 X ++ iv .u8 V, 28, some 32⟩
 | 6 => FolV T5.length (folL T5 [X, V]) G v
 | 7 => v = .agg (iv .u8 K).toArray
 | 8 => v = .bool true
 | 9 => v = .bool true
 | 10 => v = .bool true
 | 11 => v = .pointer (some ⟨tb, 0, none⟩)
 | 12 => v = .agg (iv .u8 Y).toArray
 | 13 => v = .agg (iv .u8 U).toArray
 | 14 => ∃ rr, v = .slice (some ⟨rr, 0, none⟩) 2 2 ∧ hget G rr = some ⟨iv .u8 Y ++ iv .u8 U, 28, some 32⟩
 | 15 => FolV T5.length (folL T5 [Y, U]) G v
 | 16 => v = .agg (iv .u8 K).toArray
 | 17 => v = .bool true
 | 18 => v = .bool true
 | 19 => v = .bool true
 | 20 => v = .pointer (some ⟨tb, 0, none⟩)
 | 21 => v = .agg (iv .u8 U).toArray
 | 22 => v = .agg (iv .u8 V).toArray
 | 23 => ∃ rr, v = .slice (some ⟨rr, 0, none⟩) 2 2 ∧ hget G rr = some ⟨iv .u8 U ++ iv .u8 V, 28, some 32⟩
 | 24 => FolV T5.length (folL T5 [U, V]) G v
 | 25 => v = .agg (iv .u8 K).toArray
 | 26 => v = .bool false
 | 27 => v = .bool true
 | 28 => v = .bool true
 | 29 => v = .bool true
 | 30 => v = .pointer (some ⟨tb, 0, none⟩)
 | 31 => v = .agg (iv .u8 X).toArray
 | 32 => ∃ rr, v = .slice (some ⟨rr, 0, none⟩) 1 1 ∧ hget G rr = some ⟨iv .u8 X, 28, some 32⟩
 | 33 => FolV T5.length (folL T5 [X]) G v
 | 34 => v = .agg (iv .u8 K).toArray
 | 35 => v = .bool (decide (a = b))
 | 36 => v = .bool (!decide (a = b))
 | 37 => v = .string a
 | 38 => v = .string b
 | 39 => v = .bool (!decide (a = b))
 | 40 => v = .bool true
 | 41 => v = .bool true
 | 42 => v = .bool true
 | _ => True
attribute [local simp] wb_bool wb_undef with_lit XL_nil XL_cons XLc_val XLc_call step1_eq stepW_t stepW_f stepC_n stepC_s stepX_s stepX_n stepN_s calleeX xrecv oneV xop_eq xopR_s xopR_n wantedA_eq wantedG_n wantedG_s plain1_int plain1_bool plain1_string bits_i64 bits_u64 bits_u32 bits_u16 bits_u8 xeqA xagg xcmp xarr allK_iv num_iv calleeOf xread xeff xbin xint xnil xun xstr xload xconv xpart xfield xfieldAddr xindexAddr xindex bnd asInt? xslice xlen xmin xmax xbuild xfill xappend xapp2 xappstr xappmk xcap xcopy xcells eval_tmp eval_const put_at put_none fr0_at cells_agg cells_int cells_bool cells_string cells_ptr cells_slice notTuple tab iv_all hget_app hget_app0 hget_cons0 hget_cons set_app set_app0 setR setR_one QL_nil QL_cons QLc_val stepQ_t stepQ_f stepQC_n stepQC_s stepQX_s SL_nil SL_cons SLc_val stepS_t stepS_f ltT ltF leT leF eqT eqF ltTn ltFn leTn leFn eqTn eqFn beqT beqF bneT bneF wi64 wu64 wu32 wu16 wu8 tmodP tdivP hgetL hgetNe hgetEq setL nums_def nums_len Nat.succ_le_of_lt List.getElem?_cons_zero List.getElem?_cons_succ Option.getD_some Int.toNat_add Int.toNat_mul agM okM agB agI agS agP agL agA okB okI okS okP okSl okA
theorem meets_go {γ : Nat → Option Nat} {H : AH} (hpw : Pw γ H) {a b : ByteArray} (ha : a.size ≤ 300) (hb : b.size ≤ 300) {X Y U V K : List Int} {T1 T2 T3 T4 T5 : List TermD} {KT : TermD} (md : MeetD a b X Y U V K T1 T2 T3 T4 T5 KT) :
  AC Tryd.prog H.length γ 6 #[.string a, .string b] H (fun v' _ => v' = .bool true) := by
 have lX : X.length = 32 := by rw [← md.h1.2]; rfl
 have lY : Y.length = 32 := by rw [← md.h2.2]; rfl
 have lU : U.length = 32 := by rw [← md.h3.2]; rfl
 have lV : V.length = 32 := by rw [← md.h4.2]; rfl
 have lK : K.length = 32 := by rw [← md.h5.2.2.2]; rfl
 have bX : By X := by rw [← md.h1.2]; exact nmL_by _
 have bY : By Y := by rw [← md.h2.2]; exact nmL_by _
 have bU : By U := by rw [← md.h3.2]; exact nmL_by _
 have bV : By V := by rw [← md.h4.2]; exact nmL_by _
 have bK : By K := by rw [← md.h5.2.2.2]; exact nmL_by _
 have tkn : ∀ {N : List Int}, N.length = 32 → (iv .u8 N).take 32 = iv .u8 N := fun h => List.take_of_length_le (by simp [h])
 have skn : ∀ {N : List Int}, N.length = 32 → setR (iv .u8 (zl 32)) 0 (iv .u8 N) = iv .u8 N := fun h => setR_all _ _ (by simp [h])
 have tX := tkn lX
 have tY := tkn lY
 have tU := tkn lU
 have tV := tkn lV
 have tK := tkn lK
 have sX := skn lX
 have sY := skn lY
 have sU := skn lU
 have sV := skn lV
 have sK := skn lK
 have hal := fun (G : AH) (hP : Pw γ G) => alive_rc (γ := γ) (H := G) hP
 have ha9 : a.size ≤ 9223372036854775807 := by omega
 have hb9 : b.size ≤ 9223372036854775807 := by omega
 have ha3 : ¬ (300 : Int) < a.size := by omega
 have hb3 : ¬ (300 : Int) < b.size := by omega
 obtain ⟨hm1, hm2, hm3, hm4, hm5⟩ := md.len
 refine ac_of_aw Tryd.func6 rfl Tryd.ntmps6 Tryd.results6 (by simp) ?_
 refine aw_seq ?_
 (refine aw_ops (by kernel_rfl) (fun K hK => ?_); simp (disch := first | omega | (simp only [lnS]; try omega)) [-getElem?_pos, -getElem?_neg]; refine hK _ _ ?_; clear hK K)
 refine aw_seq ?_
 refine aw_seq ?_
 refine aw_ops (by kernel_rfl) (fun K hK => ?_)
 simp (disch := first | omega | (simp only [lnS]; try omega)) [-getElem?_pos, -getElem?_neg]
 refine ⟨by kernel_rfl, ac_of_rc (hal _ hpw) (by simp [pv_iv, pv_int, pv_bool, pv_string, pv_tup2, pv_tup3, iv_plain, p2_int, p2_bool, p2_string]) ?_⟩
 try simp (disch := first | omega | (simp only [lnS]; try omega)) [-getElem?_pos, -getElem?_neg]
 refine hK _ _ ?_; clear hK K
 refine aw_f (by (first | (simp [eval_tmp, put_at]; done) | (simp [eval_tmp, put_at]; omega))) (by kernel_rfl) ?_
 refine aw_skip ?_
 refine aw_seq ?_
 refine aw_seq ?_
 (refine aw_ops (by kernel_rfl) (fun K hK => ?_); simp (disch := first | omega | (simp only [lnS]; try omega)) [-getElem?_pos, -getElem?_neg, ha9, hb9, ha3, hb3]; refine hK _ _ ?_; clear hK K)
 refine aw_f (by (first | (simp [eval_tmp, put_at]; done) | (simp [eval_tmp, put_at]; omega))) (by kernel_rfl) ?_
 refine aw_skip ?_
 refine aw_seq ?_
 refine aw_ops (by kernel_rfl) (fun K hK => ?_)
 simp (disch := first | omega | (simp only [lnS]; try omega)) [-getElem?_pos, -getElem?_neg]
 refine ⟨by kernel_rfl, AC.mono (tnew_ac (Nat.le_refl _)) ?_⟩
 rintro _ G1 ⟨rfl, lw1, hL1⟩
 have hl1 : H.length + 1 < G1.length := hget_lt hL1.hb
 have t1 : Tbl G1 (H.length + 1) [H.length + 1, H.length] [] := ⟨H.length, .slice none 0 0, [], [], [], rfl, hL1, rfl, fun j hj => by simp only [List.mem_cons, List.not_mem_nil, or_false] at hj; omega⟩
 obtain ⟨tb, htb⟩ : ∃ tb, tb = H.length + 1 := ⟨_, rfl⟩
 rw [← htb] at t1
 obtain ⟨F1, hF1⟩ : ∃ F1, F1 = [tb, H.length] := ⟨_, rfl⟩
 rw [← hF1] at t1
 have n1 : ∀ j ∈ F1, H.length ≤ j := fun j hj => by rw [hF1] at hj; simp only [List.mem_cons, List.not_mem_nil, or_false] at hj; omega
 clear hF1 hL1
 rw [← htb]
 try simp (disch := first | omega | (simp only [lnS]; try omega)) [-getElem?_pos, -getElem?_neg]
 refine hK _ _ ?_; clear hK K
 have d1 := draw_ac (nro := H.length) (hpw.low lw1) t1 n1 lw1.2 (s := a) (by omega) (by simp)
 refine aw_seq ?_
 refine aw_ops (by kernel_rfl) (fun K hK => ?_)
 simp (disch := first | omega | (simp only [lnS]; try omega)) [-getElem?_pos, -getElem?_neg]
 refine ⟨by kernel_rfl, AC.mono d1 ?_⟩
 intro v2 G2 q2
 obtain ⟨rfl, hl2, F2, t2, k2, m2⟩ := q2.keep
 rw [md.h1.1] at t2
 rw [md.h1.2]
 have lw2 : Low H.length H G2 := ⟨fun j hj => ((k2 j (by have := lw1.2; omega) (fun e => by have := n1 j e; omega)).1).trans (lw1.1 j hj), by have := lw1.2; omega⟩
 have n2 : ∀ j ∈ F2, H.length ≤ j := fun j hj => (m2 j hj).elim (n1 j) (fun e => by have := lw1.2; omega)
 have d2 := draw_ac (nro := H.length) (hpw.low lw2) t2 n2 lw2.2 (s := b) (by omega) (by omega)
 try simp (disch := first | omega | (simp only [lnS]; try omega)) [-getElem?_pos, -getElem?_neg]
 refine ⟨by kernel_rfl, AC.mono d2 ?_⟩
 intro v3 G3 q3
 obtain ⟨rfl, hl3, F3, t3, k3, m3⟩ := q3.keep
 rw [md.h2.1] at t3
 rw [md.h2.2]
 have lw3 : Low H.length H G3 := ⟨fun j hj => ((k3 j (by have := lw2.2; omega) (fun e => by have := n2 j e; omega)).1).trans (lw2.1 j hj), by have := lw2.2; omega⟩
 have n3 : ∀ j ∈ F3, H.length ≤ j := fun j hj => (m3 j hj).elim (n2 j) (fun e => by have := lw2.2; omega)
 clear q2 q3 k2 k3 m2 m3 t1 t2 d1 d2 lw1 lw2 n1 n2
 have hng3 := lw3.2
 try simp (disch := first | omega | (simp only [lnS]; try omega)) [-getElem?_pos, -getElem?_neg, lX, lY, tX, tY, sX, sY, hng3]
 refine hK _ _ ?_; clear hK K
 obtain ⟨G4, hG4⟩ : ∃ G4 : AH, G4 = G3 ++ [some ⟨iv .u8 X, 28, none⟩, some ⟨iv .u8 Y, 28, none⟩] := ⟨_, rfl⟩
 have lw34 : Low G3.length G3 G4 := by rw [hG4]; exact ⟨fun j hj => hget_left hj, by simp⟩
 have gx : hget G4 G3.length = some ⟨iv .u8 X, 28, none⟩ := by rw [hG4, hget_app0]; rfl
 have gy : hget G4 (G3.length + 1) = some ⟨iv .u8 Y, 28, none⟩ := by rw [hG4, hget_app]; rfl
 rw [← hG4]
 clear hG4
 have t4 : Tbl G4 tb F3 T2 := t3.low (fun j hj => lw34.1 j (t3.bound j hj)) lw34.2
 have cx : G3.length ∉ F3 := fun e => by have := t3.bound _ e; omega
 have cy : G3.length + 1 ∉ F3 := fun e => by have := t3.bound _ e; omega
 have lw4 : Low H.length H G4 := ⟨fun j hj => (lw34.1 j (by omega)).trans (lw3.1 j hj), by have := lw34.2; omega⟩
 obtain ⟨p, hp⟩ : ∃ p, p = G3.length := ⟨_, rfl⟩
 rw [← hp] at gx gy cx cy ⊢
 have hpl : H.length ≤ p := by omega
 clear t3 lw3 lw34 hng3 hp
 refine aw_seq ?_
 refine name_aw (fun β hβ => ?_)
 have e0 : β 0 = .string a := by rw [hβ]; (first | (simp [put_at, put_none, fr0_at]; done) | rfl)
 have e1 : β 1 = .string b := by rw [hβ]; (first | (simp [put_at, put_none, fr0_at]; done) | rfl)
 have e5 : β 5 = .pointer (some ⟨tb, 0, none⟩) := by rw [hβ]; (first | (simp [put_at, put_none, fr0_at]; done) | rfl)
 have e6 : β 6 = .pointer (some ⟨p, 0, none⟩) := by rw [hβ]; (first | (simp [put_at, put_none, fr0_at]; done) | rfl)
 have e7 : β 7 = .pointer (some ⟨p + 1, 0, none⟩) := by rw [hβ]; (first | (simp [put_at, put_none, fr0_at]; done) | rfl)
 clear hβ
 refine aw_inv j7P (J7 β H tb p (p + 1) X Y U V T2 T3 T4) (by kernel_rfl) (by kernel_rfl) (by kernel_rfl) ?_ ?_ ?_
 ·exact ⟨by simp, fun t _ _ _ => rfl, fun h => absurd h (by rw [gs_0]; simp), fun h => absurd h (by rw [gs_0]; simp), fun h => absurd h (by rw [gs_0]; simp), fun h => absurd h (by rw [gs_0]; simp), fun h => absurd h (by rw [gs_0]; simp), fun h => absurd h (by rw [gs_0]; simp), F3, 0, 0, by rw [if_neg (by rw [gs_0]; simp), if_neg (by rw [gs_0]; simp)]; exact t4, lw4, n3, gx, cx, gy, cy, fun h => absurd h (by rw [gs_0]; simp), fun h => absurd h (by rw [gs_0]; simp), fun h => absurd h (by rw [gs_0]; simp)⟩
 ·intro i s α G k hJ hi0 hsi hd hc hcont
  obtain ⟨jsz, jl, v0, v1, v2, v3, v4, v5, F, ru, rv, jt, jlw, jn, jx, jcx, jy, jcy, j6, j7, j67⟩ := hJ
  have hi10 : i < 10 := hi0
  have f5 := (jl 5 (by omega) (by omega) (by omega)).trans e5
  have f6 := (jl 6 (by omega) (by omega) (by omega)).trans e6
  have f7 := (jl 7 (by omega) (by omega) (by omega)).trans e7
  have lx := hget_lt jx
  have ly := hget_lt jy
  have hi : i = 0 ∨ i = 1 ∨ i = 2 ∨ i = 3 ∨ i = 4 ∨ i = 5 ∨ i = 6 ∨ i = 7 ∨ i = 8 ∨ i = 9 := by omega
  rcases hi with rfl | rfl | rfl | rfl | rfl | rfl | rfl | rfl | rfl | rfl
  ·unfold XOm
   simp only [List.getElem?_cons_succ, List.getElem?_cons_zero]
   simp (disch := first | omega | (simp only [lnS]; try omega)) [-getElem?_pos, -getElem?_neg, f5, nt_aggG, XO_s, XO_z, XLk_val, XLk_call, headsO, behind, List.length_cons, List.length_nil, List.mem_cons, List.not_mem_nil, or_false, forall_eq_or_imp, forall_eq, List.contains_cons, List.contains_nil]
   exact hcont _ _ ⟨by simp [jsz], fun t h8 h9 ht => by
    have : t ≠ 32 := by omega
    simp [put_at, this, jl t h8 h9 ht], fun _ => by (first | (simp [put_at, put_none, fr0_at]; done) | rfl), fun h => by
    rw [gs_ne (by decide)] at h
    have w := v1 h
    first | (first | (simp [put_at, put_none, fr0_at, w]; done) | rfl) | (simp only [put_none]; exact w), fun h => by
    rw [gs_ne (by decide)] at h
    have w := v2 h
    first | (first | (simp [put_at, put_none, fr0_at, w]; done) | rfl) | (simp only [put_none]; exact w), fun h => by
    rw [gs_ne (by decide)] at h
    have w := v3 h
    first | (first | (simp [put_at, put_none, fr0_at, w]; done) | rfl) | (simp only [put_none]; exact w), fun h => by
    rw [gs_ne (by decide)] at h
    have w := v4 h
    first | (first | (simp [put_at, put_none, fr0_at, w]; done) | rfl) | (simp only [put_none]; exact w), fun h => by
    rw [gs_ne (by decide)] at h
    have w := v5 h
    first | (first | (simp [put_at, put_none, fr0_at, w]; done) | rfl) | (simp only [put_none]; exact w), F, ru, rv, by rw [gs_ne (by decide), gs_ne (by decide)]; exact jt, jlw, jn, jx, jcx, jy, jcy, fun h => by
    rw [gs_ne (by decide)] at h
    obtain ⟨w1, w2⟩ := j6 h
    refine ⟨by first | (first | (simp [put_at, put_none, fr0_at, w1]; done) | rfl) | (simp only [put_none]; exact w1), ?_⟩
    rw [gs_ne (by decide)]
    exact w2, fun h => by
    rw [gs_ne (by decide)] at h
    obtain ⟨w1, w2⟩ := j7 h
    refine ⟨by first | (first | (simp [put_at, put_none, fr0_at, w1]; done) | rfl) | (simp only [put_none]; exact w1), ?_⟩
    rw [gs_ne (by decide)]
    exact w2, fun h h' => by
    rw [gs_ne (by decide)] at h h'
    exact j67 h h'⟩
  ·unfold XOm
   simp only [List.getElem?_cons_succ, List.getElem?_cons_zero]
   simp (disch := first | omega | (simp only [lnS]; try omega)) [-getElem?_pos, -getElem?_neg, f6, jx, lx, tX, lX, nt_aggG, XO_s, XO_z, XLk_val, XLk_call, headsO, behind, List.length_cons, List.length_nil, List.mem_cons, List.not_mem_nil, or_false, forall_eq_or_imp, forall_eq, List.contains_cons, List.contains_nil]
   exact hcont _ _ ⟨by simp [jsz], fun t h8 h9 ht => by
    have : t ≠ 33 := by omega
    simp [put_at, this, jl t h8 h9 ht], fun h => by
    rw [gs_ne (by decide)] at h
    have w := v0 h
    first | (first | (simp [put_at, put_none, fr0_at, w]; done) | rfl) | (simp only [put_none]; exact w), fun _ => by (first | (simp [put_at, put_none, fr0_at]; done) | rfl), fun h => by
    rw [gs_ne (by decide)] at h
    have w := v2 h
    first | (first | (simp [put_at, put_none, fr0_at, w]; done) | rfl) | (simp only [put_none]; exact w), fun h => by
    rw [gs_ne (by decide)] at h
    have w := v3 h
    first | (first | (simp [put_at, put_none, fr0_at, w]; done) | rfl) | (simp only [put_none]; exact w), fun h => by
    rw [gs_ne (by decide)] at h
    have w := v4 h
    first | (first | (simp [put_at, put_none, fr0_at, w]; done) | rfl) | (simp only [put_none]; exact w), fun h => by
    rw [gs_ne (by decide)] at h
    have w := v5 h
    first | (first | (simp [put_at, put_none, fr0_at, w]; done) | rfl) | (simp only [put_none]; exact w), F, ru, rv, by rw [gs_ne (by decide), gs_ne (by decide)]; exact jt, jlw, jn, jx, jcx, jy, jcy, fun h => by
    rw [gs_ne (by decide)] at h
    obtain ⟨w1, w2⟩ := j6 h
    refine ⟨by first | (first | (simp [put_at, put_none, fr0_at, w1]; done) | rfl) | (simp only [put_none]; exact w1), ?_⟩
    rw [gs_ne (by decide)]
    exact w2, fun h => by
    rw [gs_ne (by decide)] at h
    obtain ⟨w1, w2⟩ := j7 h
    refine ⟨by first | (first | (simp [put_at, put_none, fr0_at, w1]; done) | rfl) | (simp only [put_none]; exact w1), ?_⟩
    rw [gs_ne (by decide)]
    exact w2, fun h h' => by
    rw [gs_ne (by decide)] at h h'
    exact j67 h h'⟩
  ·have w0 := v0 (hd 0 (by decide))
   have w1 := v1 (hd 1 (by decide))
   rw [if_neg (by rw [hc 5 (by decide)]; simp), if_neg (by rw [hsi]; simp)] at jt
   have hpb := pubT_ac (nro := H.length) (γ := γ) (hpw.low jlw) jt jn jlw.2 lX bX (by omega)
   unfold XOm
   simp only [List.getElem?_cons_succ, List.getElem?_cons_zero]
   simp (disch := first | omega | (simp only [lnS]; try omega)) [-getElem?_pos, -getElem?_neg, w0, w1, XO_s, XO_z, XLk_val, XLk_call, headsO, behind, List.length_cons, List.length_nil, List.mem_cons, List.not_mem_nil, or_false, forall_eq_or_imp, forall_eq, List.contains_cons, List.contains_nil]
   refine ⟨by kernel_rfl, AC.mono hpb ?_⟩
   intro v' G' q
   obtain ⟨rfl, hlq, F', tq, kq, mq⟩ := q.keep
   rw [md.h3.1] at tq
   rw [md.h3.2]
   exact hcont _ _ ⟨by simp [jsz], fun t h8 h9 ht => by
    have : t ≠ 34 := by omega
    simp [put_at, this, jl t h8 h9 ht], fun h => by
    rw [gs_ne (by decide)] at h
    have w := v0 h
    first | (first | (simp [put_at, put_none, fr0_at, w]; done) | rfl) | (simp only [put_none]; exact w), fun h => by
    rw [gs_ne (by decide)] at h
    have w := v1 h
    first | (first | (simp [put_at, put_none, fr0_at, w]; done) | rfl) | (simp only [put_none]; exact w), fun _ => by (first | (simp [put_at, put_none, fr0_at]; done) | rfl), fun h => by
    rw [gs_ne (by decide)] at h
    have w := v3 h
    first | (first | (simp [put_at, put_none, fr0_at, w]; done) | rfl) | (simp only [put_none]; exact w), fun h => by
    rw [gs_ne (by decide)] at h
    have w := v4 h
    first | (first | (simp [put_at, put_none, fr0_at, w]; done) | rfl) | (simp only [put_none]; exact w), fun h => by
    rw [gs_ne (by decide)] at h
    have w := v5 h
    first | (first | (simp [put_at, put_none, fr0_at, w]; done) | rfl) | (simp only [put_none]; exact w), F', ru, rv, by rw [gs_ne (by decide), if_neg (by rw [hc 5 (by decide)]; simp), if_pos (gs_eq (by omega))]; exact tq, ⟨fun j hj => ((kq j (by have := jlw.2; omega) (fun e => by have := jn j e; omega)).1).trans (jlw.1 j hj), by have := jlw.2; omega⟩, fun j hj => (mq j hj).elim (jn j) (fun e => by have := jlw.2; omega), ((kq _ lx jcx).1).trans jx, (kq _ lx jcx).2, ((kq _ ly jcy).1).trans jy, (kq _ ly jcy).2, fun h => by
    rw [gs_ne (by decide)] at h
    obtain ⟨w1, w2⟩ := j6 h
    refine ⟨by first | (first | (simp [put_at, put_none, fr0_at, w1]; done) | rfl) | (simp only [put_none]; exact w1), ?_⟩
    rw [gs_ne (by decide)]
    obtain ⟨w2, w3, w4, w5, w6⟩ := w2
    have wl := hget_lt w6
    exact ⟨(kq _ wl w2).2, w3, w4, w5, ((kq _ wl w2).1).trans w6⟩, fun h => by
    rw [gs_ne (by decide)] at h
    obtain ⟨w1, w2⟩ := j7 h
    refine ⟨by first | (first | (simp [put_at, put_none, fr0_at, w1]; done) | rfl) | (simp only [put_none]; exact w1), ?_⟩
    rw [gs_ne (by decide)]
    obtain ⟨w2, w3, w4, w5, w6⟩ := w2
    have wl := hget_lt w6
    exact ⟨(kq _ wl w2).2, w3, w4, w5, ((kq _ wl w2).1).trans w6⟩, fun h h' => by
    rw [gs_ne (by decide)] at h h'
    exact j67 h h'⟩
  ·unfold XOm
   simp only [List.getElem?_cons_succ, List.getElem?_cons_zero]
   simp (disch := first | omega | (simp only [lnS]; try omega)) [-getElem?_pos, -getElem?_neg, f5, nt_aggG, XO_s, XO_z, XLk_val, XLk_call, headsO, behind, List.length_cons, List.length_nil, List.mem_cons, List.not_mem_nil, or_false, forall_eq_or_imp, forall_eq, List.contains_cons, List.contains_nil]
   exact hcont _ _ ⟨by simp [jsz], fun t h8 h9 ht => by
    have : t ≠ 35 := by omega
    simp [put_at, this, jl t h8 h9 ht], fun h => by
    rw [gs_ne (by decide)] at h
    have w := v0 h
    first | (first | (simp [put_at, put_none, fr0_at, w]; done) | rfl) | (simp only [put_none]; exact w), fun h => by
    rw [gs_ne (by decide)] at h
    have w := v1 h
    first | (first | (simp [put_at, put_none, fr0_at, w]; done) | rfl) | (simp only [put_none]; exact w), fun h => by
    rw [gs_ne (by decide)] at h
    have w := v2 h
    first | (first | (simp [put_at, put_none, fr0_at, w]; done) | rfl) | (simp only [put_none]; exact w), fun _ => by (first | (simp [put_at, put_none, fr0_at]; done) | rfl), fun h => by
    rw [gs_ne (by decide)] at h
    have w := v4 h
    first | (first | (simp [put_at, put_none, fr0_at, w]; done) | rfl) | (simp only [put_none]; exact w), fun h => by
    rw [gs_ne (by decide)] at h
    have w := v5 h
    first | (first | (simp [put_at, put_none, fr0_at, w]; done) | rfl) | (simp only [put_none]; exact w), F, ru, rv, by rw [gs_ne (by decide), gs_ne (by decide)]; exact jt, jlw, jn, jx, jcx, jy, jcy, fun h => by
    rw [gs_ne (by decide)] at h
    obtain ⟨w1, w2⟩ := j6 h
    refine ⟨by first | (first | (simp [put_at, put_none, fr0_at, w1]; done) | rfl) | (simp only [put_none]; exact w1), ?_⟩
    rw [gs_ne (by decide)]
    exact w2, fun h => by
    rw [gs_ne (by decide)] at h
    obtain ⟨w1, w2⟩ := j7 h
    refine ⟨by first | (first | (simp [put_at, put_none, fr0_at, w1]; done) | rfl) | (simp only [put_none]; exact w1), ?_⟩
    rw [gs_ne (by decide)]
    exact w2, fun h h' => by
    rw [gs_ne (by decide)] at h h'
    exact j67 h h'⟩
  ·unfold XOm
   simp only [List.getElem?_cons_succ, List.getElem?_cons_zero]
   simp (disch := first | omega | (simp only [lnS]; try omega)) [-getElem?_pos, -getElem?_neg, f7, jy, ly, tY, lY, nt_aggG, XO_s, XO_z, XLk_val, XLk_call, headsO, behind, List.length_cons, List.length_nil, List.mem_cons, List.not_mem_nil, or_false, forall_eq_or_imp, forall_eq, List.contains_cons, List.contains_nil]
   exact hcont _ _ ⟨by simp [jsz], fun t h8 h9 ht => by
    have : t ≠ 36 := by omega
    simp [put_at, this, jl t h8 h9 ht], fun h => by
    rw [gs_ne (by decide)] at h
    have w := v0 h
    first | (first | (simp [put_at, put_none, fr0_at, w]; done) | rfl) | (simp only [put_none]; exact w), fun h => by
    rw [gs_ne (by decide)] at h
    have w := v1 h
    first | (first | (simp [put_at, put_none, fr0_at, w]; done) | rfl) | (simp only [put_none]; exact w), fun h => by
    rw [gs_ne (by decide)] at h
    have w := v2 h
    first | (first | (simp [put_at, put_none, fr0_at, w]; done) | rfl) | (simp only [put_none]; exact w), fun h => by
    rw [gs_ne (by decide)] at h
    have w := v3 h
    first | (first | (simp [put_at, put_none, fr0_at, w]; done) | rfl) | (simp only [put_none]; exact w), fun _ => by (first | (simp [put_at, put_none, fr0_at]; done) | rfl), fun h => by
    rw [gs_ne (by decide)] at h
    have w := v5 h
    first | (first | (simp [put_at, put_none, fr0_at, w]; done) | rfl) | (simp only [put_none]; exact w), F, ru, rv, by rw [gs_ne (by decide), gs_ne (by decide)]; exact jt, jlw, jn, jx, jcx, jy, jcy, fun h => by
    rw [gs_ne (by decide)] at h
    obtain ⟨w1, w2⟩ := j6 h
    refine ⟨by first | (first | (simp [put_at, put_none, fr0_at, w1]; done) | rfl) | (simp only [put_none]; exact w1), ?_⟩
    rw [gs_ne (by decide)]
    exact w2, fun h => by
    rw [gs_ne (by decide)] at h
    obtain ⟨w1, w2⟩ := j7 h
    refine ⟨by first | (first | (simp [put_at, put_none, fr0_at, w1]; done) | rfl) | (simp only [put_none]; exact w1), ?_⟩
    rw [gs_ne (by decide)]
    exact w2, fun h h' => by
    rw [gs_ne (by decide)] at h h'
    exact j67 h h'⟩
  ·have w0 := v3 (hd 3 (by decide))
   have w1 := v4 (hd 4 (by decide))
   rw [if_neg (by rw [hsi]; simp), if_pos (hd 2 (by decide))] at jt
   have hpb := pubT_ac (nro := H.length) (γ := γ) (hpw.low jlw) jt jn jlw.2 lY bY (by omega)
   unfold XOm
   simp only [List.getElem?_cons_succ, List.getElem?_cons_zero]
   simp (disch := first | omega | (simp only [lnS]; try omega)) [-getElem?_pos, -getElem?_neg, w0, w1, XO_s, XO_z, XLk_val, XLk_call, headsO, behind, List.length_cons, List.length_nil, List.mem_cons, List.not_mem_nil, or_false, forall_eq_or_imp, forall_eq, List.contains_cons, List.contains_nil]
   refine ⟨by kernel_rfl, AC.mono hpb ?_⟩
   intro v' G' q
   obtain ⟨rfl, hlq, F', tq, kq, mq⟩ := q.keep
   rw [md.h4.1] at tq
   rw [md.h4.2]
   exact hcont _ _ ⟨by simp [jsz], fun t h8 h9 ht => by
    have : t ≠ 37 := by omega
    simp [put_at, this, jl t h8 h9 ht], fun h => by
    rw [gs_ne (by decide)] at h
    have w := v0 h
    first | (first | (simp [put_at, put_none, fr0_at, w]; done) | rfl) | (simp only [put_none]; exact w), fun h => by
    rw [gs_ne (by decide)] at h
    have w := v1 h
    first | (first | (simp [put_at, put_none, fr0_at, w]; done) | rfl) | (simp only [put_none]; exact w), fun h => by
    rw [gs_ne (by decide)] at h
    have w := v2 h
    first | (first | (simp [put_at, put_none, fr0_at, w]; done) | rfl) | (simp only [put_none]; exact w), fun h => by
    rw [gs_ne (by decide)] at h
    have w := v3 h
    first | (first | (simp [put_at, put_none, fr0_at, w]; done) | rfl) | (simp only [put_none]; exact w), fun h => by
    rw [gs_ne (by decide)] at h
    have w := v4 h
    first | (first | (simp [put_at, put_none, fr0_at, w]; done) | rfl) | (simp only [put_none]; exact w), fun _ => by (first | (simp [put_at, put_none, fr0_at]; done) | rfl), F', ru, rv, by rw [if_pos (gs_eq (by omega))]; exact tq, ⟨fun j hj => ((kq j (by have := jlw.2; omega) (fun e => by have := jn j e; omega)).1).trans (jlw.1 j hj), by have := jlw.2; omega⟩, fun j hj => (mq j hj).elim (jn j) (fun e => by have := jlw.2; omega), ((kq _ lx jcx).1).trans jx, (kq _ lx jcx).2, ((kq _ ly jcy).1).trans jy, (kq _ ly jcy).2, fun h => by
    rw [gs_ne (by decide)] at h
    obtain ⟨w1, w2⟩ := j6 h
    refine ⟨by first | (first | (simp [put_at, put_none, fr0_at, w1]; done) | rfl) | (simp only [put_none]; exact w1), ?_⟩
    rw [gs_ne (by decide)]
    obtain ⟨w2, w3, w4, w5, w6⟩ := w2
    have wl := hget_lt w6
    exact ⟨(kq _ wl w2).2, w3, w4, w5, ((kq _ wl w2).1).trans w6⟩, fun h => by
    rw [gs_ne (by decide)] at h
    obtain ⟨w1, w2⟩ := j7 h
    refine ⟨by first | (first | (simp [put_at, put_none, fr0_at, w1]; done) | rfl) | (simp only [put_none]; exact w1), ?_⟩
    rw [gs_ne (by decide)]
    obtain ⟨w2, w3, w4, w5, w6⟩ := w2
    have wl := hget_lt w6
    exact ⟨(kq _ wl w2).2, w3, w4, w5, ((kq _ wl w2).1).trans w6⟩, fun h h' => by
    rw [gs_ne (by decide)] at h h'
    exact j67 h h'⟩
  ·have hg := jlw.2
   unfold XOm
   simp only [List.getElem?_cons_succ, List.getElem?_cons_zero]
   simp (disch := first | omega | (simp only [lnS]; try omega)) [-getElem?_pos, -getElem?_neg, hg, nt_aggG, XO_s, XO_z, XLk_val, XLk_call, headsO, behind, List.length_cons, List.length_nil, List.mem_cons, List.not_mem_nil, or_false, forall_eq_or_imp, forall_eq, List.contains_cons, List.contains_nil]
   exact hcont _ _ ⟨by simp [jsz], fun t h8 h9 ht => by
    simp [put_at, h8, h9, jl t h8 h9 ht], fun h => by
    rw [gs_ne (by decide)] at h
    have w := v0 h
    first | (first | (simp [put_at, put_none, fr0_at, w]; done) | rfl) | (simp only [put_none]; exact w), fun h => by
    rw [gs_ne (by decide)] at h
    have w := v1 h
    first | (first | (simp [put_at, put_none, fr0_at, w]; done) | rfl) | (simp only [put_none]; exact w), fun h => by
    rw [gs_ne (by decide)] at h
    have w := v2 h
    first | (first | (simp [put_at, put_none, fr0_at, w]; done) | rfl) | (simp only [put_none]; exact w), fun h => by
    rw [gs_ne (by decide)] at h
    have w := v3 h
    first | (first | (simp [put_at, put_none, fr0_at, w]; done) | rfl) | (simp only [put_none]; exact w), fun h => by
    rw [gs_ne (by decide)] at h
    have w := v4 h
    first | (first | (simp [put_at, put_none, fr0_at, w]; done) | rfl) | (simp only [put_none]; exact w), fun h => by
    rw [gs_ne (by decide)] at h
    have w := v5 h
    first | (first | (simp [put_at, put_none, fr0_at, w]; done) | rfl) | (simp only [put_none]; exact w), F, G.length, rv, by rw [gs_ne (by decide), gs_ne (by decide)]; exact jt.push _, ⟨fun j hj => (hget_left (by omega)).trans (jlw.1 j hj), by simp; omega⟩, jn, (hget_left lx).trans jx, jcx, (hget_left ly).trans jy, jcy, fun _ => by
    refine ⟨by (first | (simp [put_at, put_none, fr0_at]; done) | rfl), fun e => by have := jt.bound _ e; omega, hg, by omega, by omega, ?_⟩
    rw [gs_ne (by decide), if_neg (by rw [hc 8 (by decide)]; simp), hget_app0]; rfl, fun h => by
    rw [gs_ne (by decide)] at h
    obtain ⟨w1, w2, w3, w4, w5, w6⟩ := j7 h
    refine ⟨by (first | (simp [put_at, put_none, fr0_at, w1]; done) | rfl), w2, w3, w4, w5, ?_⟩
    rw [gs_ne (by decide), hget_left (hget_lt w6)]; exact w6, fun h h' => by
    rw [gs_ne (by decide)] at h'
    have := hget_lt (j7 h').2.2.2.2.2
    omega⟩
  ·have hg := jlw.2
   unfold XOm
   simp only [List.getElem?_cons_succ, List.getElem?_cons_zero]
   simp (disch := first | omega | (simp only [lnS]; try omega)) [-getElem?_pos, -getElem?_neg, hg, nt_aggG, XO_s, XO_z, XLk_val, XLk_call, headsO, behind, List.length_cons, List.length_nil, List.mem_cons, List.not_mem_nil, or_false, forall_eq_or_imp, forall_eq, List.contains_cons, List.contains_nil]
   exact hcont _ _ ⟨by simp [jsz], fun t h8 h9 ht => by
    simp [put_at, h8, h9, jl t h8 h9 ht], fun h => by
    rw [gs_ne (by decide)] at h
    have w := v0 h
    first | (first | (simp [put_at, put_none, fr0_at, w]; done) | rfl) | (simp only [put_none]; exact w), fun h => by
    rw [gs_ne (by decide)] at h
    have w := v1 h
    first | (first | (simp [put_at, put_none, fr0_at, w]; done) | rfl) | (simp only [put_none]; exact w), fun h => by
    rw [gs_ne (by decide)] at h
    have w := v2 h
    first | (first | (simp [put_at, put_none, fr0_at, w]; done) | rfl) | (simp only [put_none]; exact w), fun h => by
    rw [gs_ne (by decide)] at h
    have w := v3 h
    first | (first | (simp [put_at, put_none, fr0_at, w]; done) | rfl) | (simp only [put_none]; exact w), fun h => by
    rw [gs_ne (by decide)] at h
    have w := v4 h
    first | (first | (simp [put_at, put_none, fr0_at, w]; done) | rfl) | (simp only [put_none]; exact w), fun h => by
    rw [gs_ne (by decide)] at h
    have w := v5 h
    first | (first | (simp [put_at, put_none, fr0_at, w]; done) | rfl) | (simp only [put_none]; exact w), F, ru, G.length, by rw [gs_ne (by decide), gs_ne (by decide)]; exact jt.push _, ⟨fun j hj => (hget_left (by omega)).trans (jlw.1 j hj), by simp; omega⟩, jn, (hget_left lx).trans jx, jcx, (hget_left ly).trans jy, jcy, fun h => by
    rw [gs_ne (by decide)] at h
    obtain ⟨w1, w2, w3, w4, w5, w6⟩ := j6 h
    refine ⟨by (first | (simp [put_at, put_none, fr0_at, w1]; done) | rfl), w2, w3, w4, w5, ?_⟩
    rw [gs_ne (by decide), hget_left (hget_lt w6)]; exact w6, fun _ => by
    refine ⟨by (first | (simp [put_at, put_none, fr0_at]; done) | rfl), fun e => by have := jt.bound _ e; omega, hg, by omega, by omega, ?_⟩
    rw [gs_ne (by decide), if_neg (by rw [hc 9 (by decide)]; simp), hget_app0]; rfl, fun h h' => by
    rw [gs_ne (by decide)] at h
    have := hget_lt (j6 h).2.2.2.2.2
    omega⟩
  ·have hg := jlw.2
   have wv := v2 (hd 2 (by decide))
   obtain ⟨w1, w2, w3, w4, w5, w6⟩ := j6 (hd 6 (by decide))
   rw [if_neg (by rw [hsi]; simp)] at w6
   have wl := hget_lt w6
   unfold XOm
   simp only [List.getElem?_cons_succ, List.getElem?_cons_zero]
   simp (disch := first | omega | (simp only [lnS]; try omega)) [-getElem?_pos, -getElem?_neg, wv, w1, w6, wl, w3, sU, lU, tU, nt_aggG, XO_s, XO_z, XLk_val, XLk_call, headsO, behind, List.length_cons, List.length_nil, List.mem_cons, List.not_mem_nil, or_false, forall_eq_or_imp, forall_eq, List.contains_cons, List.contains_nil]
   exact hcont _ _ ⟨by simp [jsz], jl, fun h => by
    rw [gs_ne (by decide)] at h
    have w := v0 h
    first | (first | (simp [put_at, put_none, fr0_at, w]; done) | rfl) | (simp only [put_none]; exact w), fun h => by
    rw [gs_ne (by decide)] at h
    have w := v1 h
    first | (first | (simp [put_at, put_none, fr0_at, w]; done) | rfl) | (simp only [put_none]; exact w), fun h => by
    rw [gs_ne (by decide)] at h
    have w := v2 h
    first | (first | (simp [put_at, put_none, fr0_at, w]; done) | rfl) | (simp only [put_none]; exact w), fun h => by
    rw [gs_ne (by decide)] at h
    have w := v3 h
    first | (first | (simp [put_at, put_none, fr0_at, w]; done) | rfl) | (simp only [put_none]; exact w), fun h => by
    rw [gs_ne (by decide)] at h
    have w := v4 h
    first | (first | (simp [put_at, put_none, fr0_at, w]; done) | rfl) | (simp only [put_none]; exact w), fun h => by
    rw [gs_ne (by decide)] at h
    have w := v5 h
    first | (first | (simp [put_at, put_none, fr0_at, w]; done) | rfl) | (simp only [put_none]; exact w), F, ru, rv, by rw [gs_ne (by decide), gs_ne (by decide)]; exact jt.low (fun j hj => hget_set_ne (fun e => w2 (e ▸ hj))) (by simp), ⟨fun j hj => (hget_set_ne (by omega)).trans (jlw.1 j hj), by simp; omega⟩, jn, (hget_set_ne w4).trans jx, jcx, (hget_set_ne w5).trans jy, jcy, fun h => by
    rw [gs_ne (by decide)] at h
    refine ⟨by first | (first | (simp [put_at, put_none, fr0_at, w1]; done) | rfl) | (simp only [put_none]; exact w1), w2, w3, w4, w5, ?_⟩
    rw [if_pos (gs_eq (by omega))]
    exact hget_set_eq wl, fun h => by
    rw [gs_ne (by decide)] at h
    obtain ⟨x1, x2, x3, x4, x5, x6⟩ := j7 h
    refine ⟨by first | (first | (simp [put_at, put_none, fr0_at, x1]; done) | rfl) | (simp only [put_none]; exact x1), x2, x3, x4, x5, ?_⟩
    rw [gs_ne (by decide), hget_set_ne (j67 (hd 6 (by decide)) h)]
    exact x6, fun h h' => by
    rw [gs_ne (by decide)] at h h'
    exact j67 h h'⟩
  ·have hg := jlw.2
   have wv := v5 (hd 5 (by decide))
   obtain ⟨w1, w2, w3, w4, w5, w6⟩ := j7 (hd 7 (by decide))
   rw [if_neg (by rw [hsi]; simp)] at w6
   have wl := hget_lt w6
   unfold XOm
   simp only [List.getElem?_cons_succ, List.getElem?_cons_zero]
   simp (disch := first | omega | (simp only [lnS]; try omega)) [-getElem?_pos, -getElem?_neg, wv, w1, w6, wl, w3, sV, lV, tV, nt_aggG, XO_s, XO_z, XLk_val, XLk_call, headsO, behind, List.length_cons, List.length_nil, List.mem_cons, List.not_mem_nil, or_false, forall_eq_or_imp, forall_eq, List.contains_cons, List.contains_nil]
   exact hcont _ _ ⟨by simp [jsz], jl, fun h => by
    rw [gs_ne (by decide)] at h
    have w := v0 h
    first | (first | (simp [put_at, put_none, fr0_at, w]; done) | rfl) | (simp only [put_none]; exact w), fun h => by
    rw [gs_ne (by decide)] at h
    have w := v1 h
    first | (first | (simp [put_at, put_none, fr0_at, w]; done) | rfl) | (simp only [put_none]; exact w), fun h => by
    rw [gs_ne (by decide)] at h
    have w := v2 h
    first | (first | (simp [put_at, put_none, fr0_at, w]; done) | rfl) | (simp only [put_none]; exact w), fun h => by
    rw [gs_ne (by decide)] at h
    have w := v3 h
    first | (first | (simp [put_at, put_none, fr0_at, w]; done) | rfl) | (simp only [put_none]; exact w), fun h => by
    rw [gs_ne (by decide)] at h
    have w := v4 h
    first | (first | (simp [put_at, put_none, fr0_at, w]; done) | rfl) | (simp only [put_none]; exact w), fun h => by
    rw [gs_ne (by decide)] at h
    have w := v5 h
    first | (first | (simp [put_at, put_none, fr0_at, w]; done) | rfl) | (simp only [put_none]; exact w), F, ru, rv, by rw [gs_ne (by decide), gs_ne (by decide)]; exact jt.low (fun j hj => hget_set_ne (fun e => w2 (e ▸ hj))) (by simp), ⟨fun j hj => (hget_set_ne (by omega)).trans (jlw.1 j hj), by simp; omega⟩, jn, (hget_set_ne w4).trans jx, jcx, (hget_set_ne w5).trans jy, jcy, fun h => by
    rw [gs_ne (by decide)] at h
    obtain ⟨x1, x2, x3, x4, x5, x6⟩ := j6 h
    refine ⟨by first | (first | (simp [put_at, put_none, fr0_at, x1]; done) | rfl) | (simp only [put_none]; exact x1), x2, x3, x4, x5, ?_⟩
    rw [gs_ne (by decide), hget_set_ne (Ne.symm (j67 h (hd 7 (by decide))))]
    exact x6, fun h => by
    rw [gs_ne (by decide)] at h
    refine ⟨by first | (first | (simp [put_at, put_none, fr0_at, w1]; done) | rfl) | (simp only [put_none]; exact w1), w2, w3, w4, w5, ?_⟩
    rw [if_pos (gs_eq (by omega))]
    exact hget_set_eq wl, fun h h' => by
    rw [gs_ne (by decide)] at h h'
    exact j67 h h'⟩
 rintro s α G hJ hall
 have hsz : s.size = 10 := hJ.sz
 have hg : ∀ i, i < 10 → s.getD i false = true := fun i hi => by
  rw [Array.getD_eq_getD_getElem?, Array.getElem?_eq_getElem (by omega)]
  exact Array.all_eq_true.1 hall i (by omega)
 obtain ⟨_, jl, _, _, _, _, _, _, F, ru, rv, jt, jlw, jn, jx, jcx, jy, jcy, j6, j7, j67⟩ := hJ
 rw [if_pos (hg 5 (by omega))] at jt
 obtain ⟨a8, cu, hru, _, _, gu⟩ := j6 (hg 6 (by omega))
 obtain ⟨a9, cv, hrv, _, _, gv⟩ := j7 (hg 7 (by omega))
 rw [if_pos (hg 8 (by omega))] at gu
 rw [if_pos (hg 9 (by omega))] at gv
 have a0 := (jl 0 (by omega) (by omega) (by omega)).trans e0
 have a1 := (jl 1 (by omega) (by omega) (by omega)).trans e1
 have a5 := (jl 5 (by omega) (by omega) (by omega)).trans e5
 have a6 := (jl 6 (by omega) (by omega) (by omega)).trans e6
 have a7 := (jl 7 (by omega) (by omega) (by omega)).trans e7
 clear jl j6 j7 j67 hg hall hsz e0 e1 e5 e6 e7 t4 gx gy cx cy lw4 n3
 have lx := hget_lt jx
 have ly := hget_lt jy
 have lu := hget_lt gu
 have lv := hget_lt gv
 have d8 := agree_ac (nro := H.length) (γ := γ) (hpw.low jlw) jt jn jlw.2 lX bX lV bV (by omega)
 refine aw_seq ?_
 refine aw_ops (by kernel_rfl) (fun K hK => ?_)
 simp (disch := first | omega | (simp only [lnS]; try omega)) [-getElem?_pos, -getElem?_neg, a5, a6, a9, jx, gv, lx, lv, tX, tV, lX, lV]
 refine ⟨by kernel_rfl, AC.mono d8 ?_⟩
 rintro v8 G8 (⟨hz, _, _⟩ | ⟨_, v1, rfl, q8⟩)
 ·exact absurd hz md.h5.2.1
 obtain ⟨rfl, hl8, F8, t8, k8, m8⟩ := q8.keep
 rw [md.h5.1, md.h5.2.2.1] at t8
 rw [md.h5.1, md.h5.2.2.2]
 have lw8 : Low H.length H G8 := ⟨fun j hj => ((k8 j (by have := jlw.2; omega) (fun e => by have := jn j e; omega)).1).trans (jlw.1 j hj), by have := jlw.2; omega⟩
 have n8 : ∀ j ∈ F8, H.length ≤ j := fun j hj => (m8 j hj).elim (jn j) (fun e => by have := jlw.2; omega)
 have jx := ((k8 _ lx jcx).1).trans jx
 have jcx := (k8 _ lx jcx).2
 have jy := ((k8 _ ly jcy).1).trans jy
 have jcy := (k8 _ ly jcy).2
 have gu := ((k8 _ lu cu).1).trans gu
 have cu := (k8 _ lu cu).2
 have gv := ((k8 _ lv cv).1).trans gv
 have cv := (k8 _ lv cv).2
 have hng := lw8.2
 try simp (disch := first | omega | (simp only [lnS]; try omega)) [-getElem?_pos, -getElem?_neg, lK, tK, sK, hng, nt_aggG]
 refine hK _ _ ?_; clear hK K
 obtain ⟨G9, hG9⟩ : ∃ G9 : AH, G9 = G8 ++ [some ⟨iv .u8 K, 28, none⟩] := ⟨_, rfl⟩
 have k9 : ∀ j, j < G8.length → hget G9 j = hget G8 j := fun j hj => by rw [hG9]; exact hget_left hj
 have gk : hget G9 G8.length = some ⟨iv .u8 K, 28, none⟩ := by rw [hG9, hget_app0]; rfl
 have hl9 : G9.length = G8.length + 1 := by rw [hG9]; simp
 rw [← hG9]
 clear hG9
 have t9 : Tbl G9 tb F8 T5 := t8.low (fun j hj => k9 j (t8.bound j hj)) (by omega)
 have ck : G8.length ∉ F8 := fun e => by have := t8.bound _ e; omega
 have lw9 : Low H.length H G9 := ⟨fun j hj => (k9 j (by omega)).trans (lw8.1 j hj), by omega⟩
 have jx := (k9 _ (hget_lt jx)).trans jx
 have jy := (k9 _ (hget_lt jy)).trans jy
 have gu := (k9 _ (hget_lt gu)).trans gu
 have gv := (k9 _ (hget_lt gv)).trans gv
 obtain ⟨rk, hrk⟩ : ∃ rk, rk = G8.length := ⟨_, rfl⟩
 rw [← hrk] at gk ck ⊢
 have hrkl : H.length ≤ rk := by omega
 clear d8 q8 k8 m8 jt jlw jn k9 hrk t8 lw8 hng lx ly lu lv hl8 hl9
 have lx := hget_lt jx
 have ly := hget_lt jy
 have lu := hget_lt gu
 have lv := hget_lt gv
 have lk := hget_lt gk
 have d10 := agree_ac (nro := H.length) (γ := γ) (hpw.low lw9) t9 n8 lw9.2 lY bY lU bU (by omega)
 refine aw_seq ?_
 refine aw_ops (by kernel_rfl) (fun K hK => ?_)
 simp (disch := first | omega | (simp only [lnS]; try omega)) [-getElem?_pos, -getElem?_neg, a5, a7, a8, jy, gu, ly, lu, tY, tU, lY, lU]
 refine ⟨by kernel_rfl, AC.mono d10 ?_⟩
 rintro v10 GA (⟨hz, _, _⟩ | ⟨_, v1, rfl, q10⟩)
 ·exact absurd hz md.h6.2.1
 obtain ⟨rfl, hlA, FA, tA, kA, mA_⟩ := q10.keep
 rw [md.h6.1, md.h6.2.2.1] at tA
 rw [md.h6.1, md.h6.2.2.2]
 have lwA : Low H.length H GA := ⟨fun j hj => ((kA j (by have := lw9.2; omega) (fun e => by have := n8 j e; omega)).1).trans (lw9.1 j hj), by have := lw9.2; omega⟩
 have nA : ∀ j ∈ FA, H.length ≤ j := fun j hj => (mA_ j hj).elim (n8 j) (fun e => by have := lw9.2; omega)
 have jx := ((kA _ lx jcx).1).trans jx
 have jy := ((kA _ ly jcy).1).trans jy
 have gu := ((kA _ lu cu).1).trans gu
 have gv := ((kA _ lv cv).1).trans gv
 have gk := ((kA _ lk ck).1).trans gk
 have hng := lwA.2
 try simp (disch := first | omega | (simp only [lnS]; try omega)) [-getElem?_pos, -getElem?_neg, lK, tK, sK, hng, nt_aggG]
 refine hK _ _ ?_; clear hK K
 obtain ⟨GB, hGB⟩ : ∃ GB : AH, GB = GA ++ [some ⟨iv .u8 K, 28, none⟩] := ⟨_, rfl⟩
 have kB : ∀ j, j < GA.length → hget GB j = hget GA j := fun j hj => by rw [hGB]; exact hget_left hj
 have gl : hget GB GA.length = some ⟨iv .u8 K, 28, none⟩ := by rw [hGB, hget_app0]; rfl
 have hlB : GB.length = GA.length + 1 := by rw [hGB]; simp
 rw [← hGB]
 clear hGB
 have tB : Tbl GB tb FA T5 := tA.low (fun j hj => kB j (tA.bound j hj)) (by omega)
 have lwB : Low H.length H GB := ⟨fun j hj => (kB j (by omega)).trans (lwA.1 j hj), by omega⟩
 have jx := (kB _ (hget_lt jx)).trans jx
 have jy := (kB _ (hget_lt jy)).trans jy
 have gu := (kB _ (hget_lt gu)).trans gu
 have gv := (kB _ (hget_lt gv)).trans gv
 have gk := (kB _ (hget_lt gk)).trans gk
 clear d10 q10 kA mA_ t9 lw9 n8 kB tA lwA lx ly lu lv lk ck jcx jcy cu cv hlA hng
 have lk := hget_lt gk
 have lgl := hget_lt gl
 refine aw_seq ?_
 refine aw_seq ?_
 (refine aw_ops (by kernel_rfl) (fun K hK => ?_); simp (disch := first | omega | (simp only [lnS]; try omega)) [-getElem?_pos, -getElem?_neg, gk, gl, lk, lgl, tK, lK]; refine hK _ _ ?_; clear hK K)
 refine aw_f (by (first | (simp [eval_tmp, put_at]; done) | (simp [eval_tmp, put_at]; omega))) (by kernel_rfl) ?_
 refine aw_skip ?_
 refine aw_seq ?_
 have hrow2 : ∀ {k l : List Int}, k.length = 32 → l.length = 32 → setR (setR (List.map (fun j => (iv .u8 (zl 32))[j % 32]?.getD undef) (List.range 64)) 0 (iv .u8 k)) 32 (iv .u8 l) = iv .u8 k ++ iv .u8 l := fun hk hl => row2 (by simp) (by simp [hk]) (by simp [hl])
 have hrow1 : ∀ {k : List Int}, k.length = 32 → setR (List.map (fun j => (iv .u8 (zl 32))[j % 32]?.getD undef) (List.range 32)) 0 (iv .u8 k) = iv .u8 k := fun hk => setR_all _ _ (by simp [hk])
 have hlwB := lwB.2
 refine name_aw (fun β2 hβ => ?_)
 have e0 : β2 0 = .string a := by rw [hβ]; (first | (simp [put_at, put_none, fr0_at, a0]; done) | rfl)
 have e1 : β2 1 = .string b := by rw [hβ]; (first | (simp [put_at, put_none, fr0_at, a1]; done) | rfl)
 have e5 : β2 5 = .pointer (some ⟨tb, 0, none⟩) := by rw [hβ]; (first | (simp [put_at, put_none, fr0_at, a5]; done) | rfl)
 have e6 : β2 6 = .pointer (some ⟨p, 0, none⟩) := by rw [hβ]; (first | (simp [put_at, put_none, fr0_at, a6]; done) | rfl)
 have e7 : β2 7 = .pointer (some ⟨p + 1, 0, none⟩) := by rw [hβ]; (first | (simp [put_at, put_none, fr0_at, a7]; done) | rfl)
 have e8 : β2 8 = .pointer (some ⟨ru, 0, none⟩) := by rw [hβ]; (first | (simp [put_at, put_none, fr0_at, a8]; done) | rfl)
 have e9 : β2 9 = .pointer (some ⟨rv, 0, none⟩) := by rw [hβ]; (first | (simp [put_at, put_none, fr0_at, a9]; done) | rfl)
 have e10 : β2 10 = .pointer (some ⟨rk, 0, none⟩) := by rw [hβ]; (first | (simp [put_at, put_none, fr0_at]; done) | rfl)
 clear hβ a0 a1 a5 a6 a7 a8 a9 lk lgl
 have bx := jx
 have by_ := jy
 have bu := gu
 have bv := gv
 have bk := gk
 clear jx jy gu gv gk
 have hND : mtJD.Nodup := by decide
 have hST : ∀ (G1 G2 : AH) (i : Nat) (v : Value), G1.length ≤ G2.length → (∀ j, j < G1.length → hget G2 j = hget G1 j) → mtJV tb a b X Y U V K T5 G1 i v → mtJV tb a b X Y U V K T5 G2 i v := fun G1 G2 i v h1 h2 h => by
  unfold mtJV at h ⊢
  split at h <;> first | exact h | exact row_low h h2 | exact h.low h2
 refine aw_inv mtJP (IJ mtJD (mtJV tb a b X Y U V K T5) β2 GB) (by kernel_rfl) (by kernel_rfl) (by kernel_rfl) (IJ.start rfl) ?_ ?_
 ·intro i s α G k hJ hi0 hsi hd hc hcont
  have j0 := (hJ.lo 0 (by decide)).trans e0
  have j1 := (hJ.lo 1 (by decide)).trans e1
  have j5 := (hJ.lo 5 (by decide)).trans e5
  have j6 := (hJ.lo 6 (by decide)).trans e6
  have j7 := (hJ.lo 7 (by decide)).trans e7
  have j8 := (hJ.lo 8 (by decide)).trans e8
  have j9 := (hJ.lo 9 (by decide)).trans e9
  have j10 := (hJ.lo 10 (by decide)).trans e10
  have gx := (hJ.lw.2 _ (hget_lt bx)).trans bx
  have gy := (hJ.lw.2 _ (hget_lt by_)).trans by_
  have gu := (hJ.lw.2 _ (hget_lt bu)).trans bu
  have gv := (hJ.lw.2 _ (hget_lt bv)).trans bv
  have gk := (hJ.lw.2 _ (hget_lt bk)).trans bk
  have lx := hget_lt gx
  have ly := hget_lt gy
  have lu := hget_lt gu
  have lv := hget_lt gv
  have lk := hget_lt gk
  have lwG : Low H.length H G := ⟨fun j hj => (hJ.lw.2 j (by omega)).trans (lwB.1 j hj), by have := hJ.lw.1; omega⟩
  have tG : Tbl G tb FA T5 := tB.low (fun j hj => hJ.lw.2 j (tB.bound j hj)) hJ.lw.1
  have hi : i = 0 ∨ i = 1 ∨ i = 2 ∨ i = 3 ∨ i = 4 ∨ i = 5 ∨ i = 6 ∨ i = 7 ∨ i = 8 ∨ i = 9 ∨ i = 10 ∨ i = 11 ∨ i = 12 ∨ i = 13 ∨ i = 14 ∨ i = 15 ∨ i = 16 ∨ i = 17 ∨ i = 18 ∨ i = 19 ∨ i = 20 ∨ i = 21 ∨ i = 22 ∨ i = 23 ∨ i = 24 ∨ i = 25 ∨ i = 26 ∨ i = 27 ∨ i = 28 ∨ i = 29 ∨ i = 30 ∨ i = 31 ∨ i = 32 ∨ i = 33 ∨ i = 34 ∨ i = 35 ∨ i = 36 ∨ i = 37 ∨ i = 38 ∨ i = 39 ∨ i = 40 ∨ i = 41 ∨ i = 42 := by have hi0 : i < 43 := hi0; omega
  rcases hi with rfl | rfl | rfl | rfl | rfl | rfl | rfl | rfl | rfl | rfl | rfl | rfl | rfl | rfl | rfl | rfl | rfl | rfl | rfl | rfl | rfl | rfl | rfl | rfl | rfl | rfl | rfl | rfl | rfl | rfl | rfl | rfl | rfl | rfl | rfl | rfl | rfl | rfl | rfl | rfl | rfl | rfl | rfl
  ·unfold XOm
   simp only [List.getElem?_cons_succ, List.getElem?_cons_zero]
   simp (disch := first | omega | (simp only [lnS]; try omega)) [-getElem?_pos, -getElem?_neg, XO_s, XO_z, XLk_val, XLk_call, headsO, behind, List.length_cons, List.length_nil, List.mem_cons, List.not_mem_nil, or_false, forall_eq_or_imp, forall_eq, List.contains_cons, List.contains_nil]
   refine ⟨by kernel_rfl, ac_of_rc (hal _ (hpw.low lwG)) (by simp [pv_iv, pv_int, pv_bool, pv_string, pv_tup2, pv_tup3, iv_plain, p2_int, p2_bool, p2_string]) ?_⟩
   exact hcont _ _ (hJ.put hND hST rfl (Nat.le_refl _) (fun _ _ => rfl) rfl)
  ·have f0 : α 63 = .bool true := hJ.val 0 63 rfl (hd 0 (by decide))
   unfold XOm
   simp only [List.getElem?_cons_succ, List.getElem?_cons_zero]
   simp (disch := first | omega | (simp only [lnS]; try omega)) [-getElem?_pos, -getElem?_neg, -notTuple, nt_strG, nt_boolG, nt_aggG, nt_intG, nt_ptrG, f0, XO_s, XO_z, XLk_val, XLk_call, headsO, behind, List.length_cons, List.length_nil, List.mem_cons, List.not_mem_nil, or_false, forall_eq_or_imp, forall_eq, List.contains_cons, List.contains_nil]
   exact hcont _ _ (hJ.put hND hST rfl (Nat.le_refl _) (fun _ _ => rfl) rfl)
  ·have f1 : α 64 = .bool true := hJ.val 1 64 rfl (hd 1 (by decide))
   unfold XOm
   simp only [List.getElem?_cons_succ, List.getElem?_cons_zero]
   simp (disch := first | omega | (simp only [lnS]; try omega)) [-getElem?_pos, -getElem?_neg, -notTuple, nt_strG, nt_boolG, nt_aggG, nt_intG, nt_ptrG, j5, f1, XO_s, XO_z, XLk_val, XLk_call, headsO, behind, List.length_cons, List.length_nil, List.mem_cons, List.not_mem_nil, or_false, forall_eq_or_imp, forall_eq, List.contains_cons, List.contains_nil]
   exact hcont _ _ (hJ.put hND hST rfl (Nat.le_refl _) (fun _ _ => rfl) rfl)
  ·have f1 : α 64 = .bool true := hJ.val 1 64 rfl (hd 1 (by decide))
   unfold XOm
   simp only [List.getElem?_cons_succ, List.getElem?_cons_zero]
   simp (disch := first | omega | (simp only [lnS]; try omega)) [-getElem?_pos, -getElem?_neg, -notTuple, nt_strG, nt_boolG, nt_aggG, nt_intG, nt_ptrG, j6, gx, lx, tX, lX, f1, XO_s, XO_z, XLk_val, XLk_call, headsO, behind, List.length_cons, List.length_nil, List.mem_cons, List.not_mem_nil, or_false, forall_eq_or_imp, forall_eq, List.contains_cons, List.contains_nil]
   exact hcont _ _ (hJ.put hND hST rfl (Nat.le_refl _) (fun _ _ => rfl) rfl)
  ·have f1 : α 64 = .bool true := hJ.val 1 64 rfl (hd 1 (by decide))
   unfold XOm
   simp only [List.getElem?_cons_succ, List.getElem?_cons_zero]
   simp (disch := first | omega | (simp only [lnS]; try omega)) [-getElem?_pos, -getElem?_neg, -notTuple, nt_strG, nt_boolG, nt_aggG, nt_intG, nt_ptrG, j9, gv, lv, tV, lV, f1, XO_s, XO_z, XLk_val, XLk_call, headsO, behind, List.length_cons, List.length_nil, List.mem_cons, List.not_mem_nil, or_false, forall_eq_or_imp, forall_eq, List.contains_cons, List.contains_nil]
   exact hcont _ _ (hJ.put hND hST rfl (Nat.le_refl _) (fun _ _ => rfl) rfl)
  ·have f1 : α 64 = .bool true := hJ.val 1 64 rfl (hd 1 (by decide))
   have f3 : α 66 = .agg (iv .u8 X).toArray := hJ.val 3 66 rfl (hd 3 (by decide))
   have f4 : α 67 = .agg (iv .u8 V).toArray := hJ.val 4 67 rfl (hd 4 (by decide))
   unfold XOm
   simp only [List.getElem?_cons_succ, List.getElem?_cons_zero]
   simp (disch := first | omega | (simp only [lnS]; try omega)) [-getElem?_pos, -getElem?_neg, -notTuple, nt_strG, nt_boolG, nt_aggG, nt_intG, nt_ptrG, f1, f3, f4, (hrow2 lX lV), XO_s, XO_z, XLk_val, XLk_call, headsO, behind, List.length_cons, List.length_nil, List.mem_cons, List.not_mem_nil, or_false, forall_eq_or_imp, forall_eq, List.contains_cons, List.contains_nil]
   exact hcont _ _ (hJ.put hND hST rfl (by simp) (fun j hj => hget_left hj) ⟨G.length, rfl, by rw [hget_app0]; rfl⟩)
  ·have f1 : α 64 = .bool true := hJ.val 1 64 rfl (hd 1 (by decide))
   have f2 : α 65 = .pointer (some ⟨tb, 0, none⟩) := hJ.val 2 65 rfl (hd 2 (by decide))
   have f5 := hJ.val 5 68 rfl (hd 5 (by decide))
   obtain ⟨rr, e, hrr⟩ := f5
   unfold XOm
   simp only [List.getElem?_cons_succ, List.getElem?_cons_zero]
   simp (disch := first | omega | (simp only [lnS]; try omega)) [-getElem?_pos, -getElem?_neg, f1, f2, e, XO_s, XO_z, XLk_val, XLk_call, headsO, behind, List.length_cons, List.length_nil, List.mem_cons, List.not_mem_nil, or_false, forall_eq_or_imp, forall_eq, List.contains_cons, List.contains_nil]
   refine ⟨by kernel_rfl, (follow_ac (nro := H.length) (γ := γ) (hpw.low lwG) tG lwG.2 md.w (keys2 lX lV hrr) (two32 lX lV) (twoBy bX bV) (by simp)).mono ?_⟩
   rintro v' G' ⟨kx, kb, rfl, lw, e1, e2, _, _⟩
   exact hcont _ _ (hJ.put hND hST rfl lw.2 lw.1 ⟨kx, kb, rfl, e1, e2⟩)
  ·have f1 : α 64 = .bool true := hJ.val 1 64 rfl (hd 1 (by decide))
   unfold XOm
   simp only [List.getElem?_cons_succ, List.getElem?_cons_zero]
   simp (disch := first | omega | (simp only [lnS]; try omega)) [-getElem?_pos, -getElem?_neg, -notTuple, nt_strG, nt_boolG, nt_aggG, nt_intG, nt_ptrG, j10, gk, lk, tK, lK, f1, XO_s, XO_z, XLk_val, XLk_call, headsO, behind, List.length_cons, List.length_nil, List.mem_cons, List.not_mem_nil, or_false, forall_eq_or_imp, forall_eq, List.contains_cons, List.contains_nil]
   exact hcont _ _ (hJ.put hND hST rfl (Nat.le_refl _) (fun _ _ => rfl) rfl)
  ·have f1 : α 64 = .bool true := hJ.val 1 64 rfl (hd 1 (by decide))
   have f6 := hJ.val 6 69 rfl (hd 6 (by decide))
   have f7 : α 70 = .agg (iv .u8 K).toArray := hJ.val 7 70 rfl (hd 7 (by decide))
   obtain ⟨kx, kb, e, h1, h2⟩ := f6
   unfold XOm
   simp only [List.getElem?_cons_succ, List.getElem?_cons_zero]
   simp (disch := first | omega | (simp only [lnS]; try omega)) [-getElem?_pos, -getElem?_neg, f1, f7, e, XO_s, XO_z, XLk_val, XLk_call, headsO, behind, List.length_cons, List.length_nil, List.mem_cons, List.not_mem_nil, or_false, forall_eq_or_imp, forall_eq, List.contains_cons, List.contains_nil]
   refine ⟨by kernel_rfl, ac_of_rc (fol1_rc h1 h2 (fol_len _ _) (by omega) lK bK) (by simp [pv_iv, pv_int, pv_bool, pv_string, pv_tup2, pv_tup3, iv_plain, p2_int, p2_bool, p2_string]) ?_⟩
   exact hcont _ _ (hJ.put hND hST rfl (Nat.le_refl _) (fun _ _ => rfl) (congrArg Value.bool md.f1))
  ·have f1 : α 64 = .bool true := hJ.val 1 64 rfl (hd 1 (by decide))
   have f8 : α 71 = .bool true := hJ.val 8 71 rfl (hd 8 (by decide))
   unfold XOm
   simp only [List.getElem?_cons_succ, List.getElem?_cons_zero]
   simp (disch := first | omega | (simp only [lnS]; try omega)) [-getElem?_pos, -getElem?_neg, -notTuple, nt_strG, nt_boolG, nt_aggG, nt_intG, nt_ptrG, f1, f8, XO_s, XO_z, XLk_val, XLk_call, headsO, behind, List.length_cons, List.length_nil, List.mem_cons, List.not_mem_nil, or_false, forall_eq_or_imp, forall_eq, List.contains_cons, List.contains_nil]
   exact hcont _ _ (hJ.put hND hST rfl (Nat.le_refl _) (fun _ _ => rfl) rfl)
  ·have f9 : α 72 = .bool true := hJ.val 9 72 rfl (hd 9 (by decide))
   unfold XOm
   simp only [List.getElem?_cons_succ, List.getElem?_cons_zero]
   simp (disch := first | omega | (simp only [lnS]; try omega)) [-getElem?_pos, -getElem?_neg, -notTuple, nt_strG, nt_boolG, nt_aggG, nt_intG, nt_ptrG, f9, XO_s, XO_z, XLk_val, XLk_call, headsO, behind, List.length_cons, List.length_nil, List.mem_cons, List.not_mem_nil, or_false, forall_eq_or_imp, forall_eq, List.contains_cons, List.contains_nil]
   exact hcont _ _ (hJ.put hND hST rfl (Nat.le_refl _) (fun _ _ => rfl) rfl)
  ·have f10 : α 73 = .bool true := hJ.val 10 73 rfl (hd 10 (by decide))
   unfold XOm
   simp only [List.getElem?_cons_succ, List.getElem?_cons_zero]
   simp (disch := first | omega | (simp only [lnS]; try omega)) [-getElem?_pos, -getElem?_neg, -notTuple, nt_strG, nt_boolG, nt_aggG, nt_intG, nt_ptrG, j5, f10, XO_s, XO_z, XLk_val, XLk_call, headsO, behind, List.length_cons, List.length_nil, List.mem_cons, List.not_mem_nil, or_false, forall_eq_or_imp, forall_eq, List.contains_cons, List.contains_nil]
   exact hcont _ _ (hJ.put hND hST rfl (Nat.le_refl _) (fun _ _ => rfl) rfl)
  ·have f10 : α 73 = .bool true := hJ.val 10 73 rfl (hd 10 (by decide))
   unfold XOm
   simp only [List.getElem?_cons_succ, List.getElem?_cons_zero]
   simp (disch := first | omega | (simp only [lnS]; try omega)) [-getElem?_pos, -getElem?_neg, -notTuple, nt_strG, nt_boolG, nt_aggG, nt_intG, nt_ptrG, j7, gy, ly, tY, lY, f10, XO_s, XO_z, XLk_val, XLk_call, headsO, behind, List.length_cons, List.length_nil, List.mem_cons, List.not_mem_nil, or_false, forall_eq_or_imp, forall_eq, List.contains_cons, List.contains_nil]
   exact hcont _ _ (hJ.put hND hST rfl (Nat.le_refl _) (fun _ _ => rfl) rfl)
  ·have f10 : α 73 = .bool true := hJ.val 10 73 rfl (hd 10 (by decide))
   unfold XOm
   simp only [List.getElem?_cons_succ, List.getElem?_cons_zero]
   simp (disch := first | omega | (simp only [lnS]; try omega)) [-getElem?_pos, -getElem?_neg, -notTuple, nt_strG, nt_boolG, nt_aggG, nt_intG, nt_ptrG, j8, gu, lu, tU, lU, f10, XO_s, XO_z, XLk_val, XLk_call, headsO, behind, List.length_cons, List.length_nil, List.mem_cons, List.not_mem_nil, or_false, forall_eq_or_imp, forall_eq, List.contains_cons, List.contains_nil]
   exact hcont _ _ (hJ.put hND hST rfl (Nat.le_refl _) (fun _ _ => rfl) rfl)
  ·have f10 : α 73 = .bool true := hJ.val 10 73 rfl (hd 10 (by decide))
   have f12 : α 75 = .agg (iv .u8 Y).toArray := hJ.val 12 75 rfl (hd 12 (by decide))
   have f13 : α 76 = .agg (iv .u8 U).toArray := hJ.val 13 76 rfl (hd 13 (by decide))
   unfold XOm
   simp only [List.getElem?_cons_succ, List.getElem?_cons_zero]
   simp (disch := first | omega | (simp only [lnS]; try omega)) [-getElem?_pos, -getElem?_neg, -notTuple, nt_strG, nt_boolG, nt_aggG, nt_intG, nt_ptrG, f10, f12, f13, (hrow2 lY lU), XO_s, XO_z, XLk_val, XLk_call, headsO, behind, List.length_cons, List.length_nil, List.mem_cons, List.not_mem_nil, or_false, forall_eq_or_imp, forall_eq, List.contains_cons, List.contains_nil]
   exact hcont _ _ (hJ.put hND hST rfl (by simp) (fun j hj => hget_left hj) ⟨G.length, rfl, by rw [hget_app0]; rfl⟩)
  ·have f10 : α 73 = .bool true := hJ.val 10 73 rfl (hd 10 (by decide))
   have f11 : α 74 = .pointer (some ⟨tb, 0, none⟩) := hJ.val 11 74 rfl (hd 11 (by decide))
   have f14 := hJ.val 14 77 rfl (hd 14 (by decide))
   obtain ⟨rr, e, hrr⟩ := f14
   unfold XOm
   simp only [List.getElem?_cons_succ, List.getElem?_cons_zero]
   simp (disch := first | omega | (simp only [lnS]; try omega)) [-getElem?_pos, -getElem?_neg, f10, f11, e, XO_s, XO_z, XLk_val, XLk_call, headsO, behind, List.length_cons, List.length_nil, List.mem_cons, List.not_mem_nil, or_false, forall_eq_or_imp, forall_eq, List.contains_cons, List.contains_nil]
   refine ⟨by kernel_rfl, (follow_ac (nro := H.length) (γ := γ) (hpw.low lwG) tG lwG.2 md.w (keys2 lY lU hrr) (two32 lY lU) (twoBy bY bU) (by simp)).mono ?_⟩
   rintro v' G' ⟨kx, kb, rfl, lw, e1, e2, _, _⟩
   exact hcont _ _ (hJ.put hND hST rfl lw.2 lw.1 ⟨kx, kb, rfl, e1, e2⟩)
  ·have f10 : α 73 = .bool true := hJ.val 10 73 rfl (hd 10 (by decide))
   unfold XOm
   simp only [List.getElem?_cons_succ, List.getElem?_cons_zero]
   simp (disch := first | omega | (simp only [lnS]; try omega)) [-getElem?_pos, -getElem?_neg, -notTuple, nt_strG, nt_boolG, nt_aggG, nt_intG, nt_ptrG, j10, gk, lk, tK, lK, f10, XO_s, XO_z, XLk_val, XLk_call, headsO, behind, List.length_cons, List.length_nil, List.mem_cons, List.not_mem_nil, or_false, forall_eq_or_imp, forall_eq, List.contains_cons, List.contains_nil]
   exact hcont _ _ (hJ.put hND hST rfl (Nat.le_refl _) (fun _ _ => rfl) rfl)
  ·have f10 : α 73 = .bool true := hJ.val 10 73 rfl (hd 10 (by decide))
   have f15 := hJ.val 15 78 rfl (hd 15 (by decide))
   have f16 : α 79 = .agg (iv .u8 K).toArray := hJ.val 16 79 rfl (hd 16 (by decide))
   obtain ⟨kx, kb, e, h1, h2⟩ := f15
   unfold XOm
   simp only [List.getElem?_cons_succ, List.getElem?_cons_zero]
   simp (disch := first | omega | (simp only [lnS]; try omega)) [-getElem?_pos, -getElem?_neg, f10, f16, e, XO_s, XO_z, XLk_val, XLk_call, headsO, behind, List.length_cons, List.length_nil, List.mem_cons, List.not_mem_nil, or_false, forall_eq_or_imp, forall_eq, List.contains_cons, List.contains_nil]
   refine ⟨by kernel_rfl, ac_of_rc (fol1_rc h1 h2 (fol_len _ _) (by omega) lK bK) (by simp [pv_iv, pv_int, pv_bool, pv_string, pv_tup2, pv_tup3, iv_plain, p2_int, p2_bool, p2_string]) ?_⟩
   exact hcont _ _ (hJ.put hND hST rfl (Nat.le_refl _) (fun _ _ => rfl) (congrArg Value.bool md.f2))
  ·have f10 : α 73 = .bool true := hJ.val 10 73 rfl (hd 10 (by decide))
   have f17 : α 80 = .bool true := hJ.val 17 80 rfl (hd 17 (by decide))
   unfold XOm
   simp only [List.getElem?_cons_succ, List.getElem?_cons_zero]
   simp (disch := first | omega | (simp only [lnS]; try omega)) [-getElem?_pos, -getElem?_neg, -notTuple, nt_strG, nt_boolG, nt_aggG, nt_intG, nt_ptrG, f10, f17, XO_s, XO_z, XLk_val, XLk_call, headsO, behind, List.length_cons, List.length_nil, List.mem_cons, List.not_mem_nil, or_false, forall_eq_or_imp, forall_eq, List.contains_cons, List.contains_nil]
   exact hcont _ _ (hJ.put hND hST rfl (Nat.le_refl _) (fun _ _ => rfl) rfl)
  ·have f18 : α 81 = .bool true := hJ.val 18 81 rfl (hd 18 (by decide))
   unfold XOm
   simp only [List.getElem?_cons_succ, List.getElem?_cons_zero]
   simp (disch := first | omega | (simp only [lnS]; try omega)) [-getElem?_pos, -getElem?_neg, -notTuple, nt_strG, nt_boolG, nt_aggG, nt_intG, nt_ptrG, f18, XO_s, XO_z, XLk_val, XLk_call, headsO, behind, List.length_cons, List.length_nil, List.mem_cons, List.not_mem_nil, or_false, forall_eq_or_imp, forall_eq, List.contains_cons, List.contains_nil]
   exact hcont _ _ (hJ.put hND hST rfl (Nat.le_refl _) (fun _ _ => rfl) rfl)
  ·have f19 : α 82 = .bool true := hJ.val 19 82 rfl (hd 19 (by decide))
   unfold XOm
   simp only [List.getElem?_cons_succ, List.getElem?_cons_zero]
   simp (disch := first | omega | (simp only [lnS]; try omega)) [-getElem?_pos, -getElem?_neg, -notTuple, nt_strG, nt_boolG, nt_aggG, nt_intG, nt_ptrG, j5, f19, XO_s, XO_z, XLk_val, XLk_call, headsO, behind, List.length_cons, List.length_nil, List.mem_cons, List.not_mem_nil, or_false, forall_eq_or_imp, forall_eq, List.contains_cons, List.contains_nil]
   exact hcont _ _ (hJ.put hND hST rfl (Nat.le_refl _) (fun _ _ => rfl) rfl)
  ·have f19 : α 82 = .bool true := hJ.val 19 82 rfl (hd 19 (by decide))
   unfold XOm
   simp only [List.getElem?_cons_succ, List.getElem?_cons_zero]
   simp (disch := first | omega | (simp only [lnS]; try omega)) [-getElem?_pos, -getElem?_neg, -notTuple, nt_strG, nt_boolG, nt_aggG, nt_intG, nt_ptrG, j8, gu, lu, tU, lU, f19, XO_s, XO_z, XLk_val, XLk_call, headsO, behind, List.length_cons, List.length_nil, List.mem_cons, List.not_mem_nil, or_false, forall_eq_or_imp, forall_eq, List.contains_cons, List.contains_nil]
   exact hcont _ _ (hJ.put hND hST rfl (Nat.le_refl _) (fun _ _ => rfl) rfl)
  ·have f19 : α 82 = .bool true := hJ.val 19 82 rfl (hd 19 (by decide))
   unfold XOm
   simp only [List.getElem?_cons_succ, List.getElem?_cons_zero]
   simp (disch := first | omega | (simp only [lnS]; try omega)) [-getElem?_pos, -getElem?_neg, -notTuple, nt_strG, nt_boolG, nt_aggG, nt_intG, nt_ptrG, j9, gv, lv, tV, lV, f19, XO_s, XO_z, XLk_val, XLk_call, headsO, behind, List.length_cons, List.length_nil, List.mem_cons, List.not_mem_nil, or_false, forall_eq_or_imp, forall_eq, List.contains_cons, List.contains_nil]
   exact hcont _ _ (hJ.put hND hST rfl (Nat.le_refl _) (fun _ _ => rfl) rfl)
  ·have f19 : α 82 = .bool true := hJ.val 19 82 rfl (hd 19 (by decide))
   have f21 : α 84 = .agg (iv .u8 U).toArray := hJ.val 21 84 rfl (hd 21 (by decide))
   have f22 : α 85 = .agg (iv .u8 V).toArray := hJ.val 22 85 rfl (hd 22 (by decide))
   unfold XOm
   simp only [List.getElem?_cons_succ, List.getElem?_cons_zero]
   simp (disch := first | omega | (simp only [lnS]; try omega)) [-getElem?_pos, -getElem?_neg, -notTuple, nt_strG, nt_boolG, nt_aggG, nt_intG, nt_ptrG, f19, f21, f22, (hrow2 lU lV), XO_s, XO_z, XLk_val, XLk_call, headsO, behind, List.length_cons, List.length_nil, List.mem_cons, List.not_mem_nil, or_false, forall_eq_or_imp, forall_eq, List.contains_cons, List.contains_nil]
   exact hcont _ _ (hJ.put hND hST rfl (by simp) (fun j hj => hget_left hj) ⟨G.length, rfl, by rw [hget_app0]; rfl⟩)
  ·have f19 : α 82 = .bool true := hJ.val 19 82 rfl (hd 19 (by decide))
   have f20 : α 83 = .pointer (some ⟨tb, 0, none⟩) := hJ.val 20 83 rfl (hd 20 (by decide))
   have f23 := hJ.val 23 86 rfl (hd 23 (by decide))
   obtain ⟨rr, e, hrr⟩ := f23
   unfold XOm
   simp only [List.getElem?_cons_succ, List.getElem?_cons_zero]
   simp (disch := first | omega | (simp only [lnS]; try omega)) [-getElem?_pos, -getElem?_neg, f19, f20, e, XO_s, XO_z, XLk_val, XLk_call, headsO, behind, List.length_cons, List.length_nil, List.mem_cons, List.not_mem_nil, or_false, forall_eq_or_imp, forall_eq, List.contains_cons, List.contains_nil]
   refine ⟨by kernel_rfl, (follow_ac (nro := H.length) (γ := γ) (hpw.low lwG) tG lwG.2 md.w (keys2 lU lV hrr) (two32 lU lV) (twoBy bU bV) (by simp)).mono ?_⟩
   rintro v' G' ⟨kx, kb, rfl, lw, e1, e2, _, _⟩
   exact hcont _ _ (hJ.put hND hST rfl lw.2 lw.1 ⟨kx, kb, rfl, e1, e2⟩)
  ·have f19 : α 82 = .bool true := hJ.val 19 82 rfl (hd 19 (by decide))
   unfold XOm
   simp only [List.getElem?_cons_succ, List.getElem?_cons_zero]
   simp (disch := first | omega | (simp only [lnS]; try omega)) [-getElem?_pos, -getElem?_neg, -notTuple, nt_strG, nt_boolG, nt_aggG, nt_intG, nt_ptrG, j10, gk, lk, tK, lK, f19, XO_s, XO_z, XLk_val, XLk_call, headsO, behind, List.length_cons, List.length_nil, List.mem_cons, List.not_mem_nil, or_false, forall_eq_or_imp, forall_eq, List.contains_cons, List.contains_nil]
   exact hcont _ _ (hJ.put hND hST rfl (Nat.le_refl _) (fun _ _ => rfl) rfl)
  ·have f19 : α 82 = .bool true := hJ.val 19 82 rfl (hd 19 (by decide))
   have f24 := hJ.val 24 87 rfl (hd 24 (by decide))
   have f25 : α 88 = .agg (iv .u8 K).toArray := hJ.val 25 88 rfl (hd 25 (by decide))
   obtain ⟨kx, kb, e, h1, h2⟩ := f24
   unfold XOm
   simp only [List.getElem?_cons_succ, List.getElem?_cons_zero]
   simp (disch := first | omega | (simp only [lnS]; try omega)) [-getElem?_pos, -getElem?_neg, f19, f25, e, XO_s, XO_z, XLk_val, XLk_call, headsO, behind, List.length_cons, List.length_nil, List.mem_cons, List.not_mem_nil, or_false, forall_eq_or_imp, forall_eq, List.contains_cons, List.contains_nil]
   refine ⟨by kernel_rfl, ac_of_rc (fol1_rc h1 h2 (fol_len _ _) (by omega) lK bK) (by simp [pv_iv, pv_int, pv_bool, pv_string, pv_tup2, pv_tup3, iv_plain, p2_int, p2_bool, p2_string]) ?_⟩
   exact hcont _ _ (hJ.put hND hST rfl (Nat.le_refl _) (fun _ _ => rfl) (congrArg Value.bool md.f3))
  ·have f19 : α 82 = .bool true := hJ.val 19 82 rfl (hd 19 (by decide))
   have f26 : α 89 = .bool false := hJ.val 26 89 rfl (hd 26 (by decide))
   unfold XOm
   simp only [List.getElem?_cons_succ, List.getElem?_cons_zero]
   simp (disch := first | omega | (simp only [lnS]; try omega)) [-getElem?_pos, -getElem?_neg, -notTuple, nt_strG, nt_boolG, nt_aggG, nt_intG, nt_ptrG, f19, f26, XO_s, XO_z, XLk_val, XLk_call, headsO, behind, List.length_cons, List.length_nil, List.mem_cons, List.not_mem_nil, or_false, forall_eq_or_imp, forall_eq, List.contains_cons, List.contains_nil]
   exact hcont _ _ (hJ.put hND hST rfl (Nat.le_refl _) (fun _ _ => rfl) rfl)
  ·have f19 : α 82 = .bool true := hJ.val 19 82 rfl (hd 19 (by decide))
   have f27 : α 90 = .bool true := hJ.val 27 90 rfl (hd 27 (by decide))
   unfold XOm
   simp only [List.getElem?_cons_succ, List.getElem?_cons_zero]
   simp (disch := first | omega | (simp only [lnS]; try omega)) [-getElem?_pos, -getElem?_neg, -notTuple, nt_strG, nt_boolG, nt_aggG, nt_intG, nt_ptrG, f19, f27, XO_s, XO_z, XLk_val, XLk_call, headsO, behind, List.length_cons, List.length_nil, List.mem_cons, List.not_mem_nil, or_false, forall_eq_or_imp, forall_eq, List.contains_cons, List.contains_nil]
   exact hcont _ _ (hJ.put hND hST rfl (Nat.le_refl _) (fun _ _ => rfl) rfl)
  ·have f28 : α 91 = .bool true := hJ.val 28 91 rfl (hd 28 (by decide))
   unfold XOm
   simp only [List.getElem?_cons_succ, List.getElem?_cons_zero]
   simp (disch := first | omega | (simp only [lnS]; try omega)) [-getElem?_pos, -getElem?_neg, -notTuple, nt_strG, nt_boolG, nt_aggG, nt_intG, nt_ptrG, f28, XO_s, XO_z, XLk_val, XLk_call, headsO, behind, List.length_cons, List.length_nil, List.mem_cons, List.not_mem_nil, or_false, forall_eq_or_imp, forall_eq, List.contains_cons, List.contains_nil]
   exact hcont _ _ (hJ.put hND hST rfl (Nat.le_refl _) (fun _ _ => rfl) rfl)
  ·have f29 : α 92 = .bool true := hJ.val 29 92 rfl (hd 29 (by decide))
   unfold XOm
   simp only [List.getElem?_cons_succ, List.getElem?_cons_zero]
   simp (disch := first | omega | (simp only [lnS]; try omega)) [-getElem?_pos, -getElem?_neg, -notTuple, nt_strG, nt_boolG, nt_aggG, nt_intG, nt_ptrG, j5, f29, XO_s, XO_z, XLk_val, XLk_call, headsO, behind, List.length_cons, List.length_nil, List.mem_cons, List.not_mem_nil, or_false, forall_eq_or_imp, forall_eq, List.contains_cons, List.contains_nil]
   exact hcont _ _ (hJ.put hND hST rfl (Nat.le_refl _) (fun _ _ => rfl) rfl)
  ·have f29 : α 92 = .bool true := hJ.val 29 92 rfl (hd 29 (by decide))
   unfold XOm
   simp only [List.getElem?_cons_succ, List.getElem?_cons_zero]
   simp (disch := first | omega | (simp only [lnS]; try omega)) [-getElem?_pos, -getElem?_neg, -notTuple, nt_strG, nt_boolG, nt_aggG, nt_intG, nt_ptrG, j6, gx, lx, tX, lX, f29, XO_s, XO_z, XLk_val, XLk_call, headsO, behind, List.length_cons, List.length_nil, List.mem_cons, List.not_mem_nil, or_false, forall_eq_or_imp, forall_eq, List.contains_cons, List.contains_nil]
   exact hcont _ _ (hJ.put hND hST rfl (Nat.le_refl _) (fun _ _ => rfl) rfl)
  ·have f29 : α 92 = .bool true := hJ.val 29 92 rfl (hd 29 (by decide))
   have f31 : α 94 = .agg (iv .u8 X).toArray := hJ.val 31 94 rfl (hd 31 (by decide))
   unfold XOm
   simp only [List.getElem?_cons_succ, List.getElem?_cons_zero]
   simp (disch := first | omega | (simp only [lnS]; try omega)) [-getElem?_pos, -getElem?_neg, -notTuple, nt_strG, nt_boolG, nt_aggG, nt_intG, nt_ptrG, f29, f31, (hrow1 lX), XO_s, XO_z, XLk_val, XLk_call, headsO, behind, List.length_cons, List.length_nil, List.mem_cons, List.not_mem_nil, or_false, forall_eq_or_imp, forall_eq, List.contains_cons, List.contains_nil]
   exact hcont _ _ (hJ.put hND hST rfl (by simp) (fun j hj => hget_left hj) ⟨G.length, rfl, by rw [hget_app0]; rfl⟩)
  ·have f29 : α 92 = .bool true := hJ.val 29 92 rfl (hd 29 (by decide))
   have f30 : α 93 = .pointer (some ⟨tb, 0, none⟩) := hJ.val 30 93 rfl (hd 30 (by decide))
   have f32 := hJ.val 32 95 rfl (hd 32 (by decide))
   obtain ⟨rr, e, hrr⟩ := f32
   unfold XOm
   simp only [List.getElem?_cons_succ, List.getElem?_cons_zero]
   simp (disch := first | omega | (simp only [lnS]; try omega)) [-getElem?_pos, -getElem?_neg, f29, f30, e, XO_s, XO_z, XLk_val, XLk_call, headsO, behind, List.length_cons, List.length_nil, List.mem_cons, List.not_mem_nil, or_false, forall_eq_or_imp, forall_eq, List.contains_cons, List.contains_nil]
   refine ⟨by kernel_rfl, (follow_ac (nro := H.length) (γ := γ) (hpw.low lwG) tG lwG.2 md.w (keys1 lX hrr) (fun k hk => by rw [List.mem_singleton.1 hk]; exact lX) (fun k hk => by rw [List.mem_singleton.1 hk]; exact bX) (by simp)).mono ?_⟩
   rintro v' G' ⟨kx, kb, rfl, lw, e1, e2, _, _⟩
   exact hcont _ _ (hJ.put hND hST rfl lw.2 lw.1 ⟨kx, kb, rfl, e1, e2⟩)
  ·have f29 : α 92 = .bool true := hJ.val 29 92 rfl (hd 29 (by decide))
   unfold XOm
   simp only [List.getElem?_cons_succ, List.getElem?_cons_zero]
   simp (disch := first | omega | (simp only [lnS]; try omega)) [-getElem?_pos, -getElem?_neg, -notTuple, nt_strG, nt_boolG, nt_aggG, nt_intG, nt_ptrG, j10, gk, lk, tK, lK, f29, XO_s, XO_z, XLk_val, XLk_call, headsO, behind, List.length_cons, List.length_nil, List.mem_cons, List.not_mem_nil, or_false, forall_eq_or_imp, forall_eq, List.contains_cons, List.contains_nil]
   exact hcont _ _ (hJ.put hND hST rfl (Nat.le_refl _) (fun _ _ => rfl) rfl)
  ·have f29 : α 92 = .bool true := hJ.val 29 92 rfl (hd 29 (by decide))
   have f33 := hJ.val 33 96 rfl (hd 33 (by decide))
   have f34 : α 97 = .agg (iv .u8 K).toArray := hJ.val 34 97 rfl (hd 34 (by decide))
   obtain ⟨kx, kb, e, h1, h2⟩ := f33
   unfold XOm
   simp only [List.getElem?_cons_succ, List.getElem?_cons_zero]
   simp (disch := first | omega | (simp only [lnS]; try omega)) [-getElem?_pos, -getElem?_neg, f29, f34, e, XO_s, XO_z, XLk_val, XLk_call, headsO, behind, List.length_cons, List.length_nil, List.mem_cons, List.not_mem_nil, or_false, forall_eq_or_imp, forall_eq, List.contains_cons, List.contains_nil]
   refine ⟨by kernel_rfl, ac_of_rc (fol1_rc h1 h2 (fol_len _ _) (by omega) lK bK) (by simp [pv_iv, pv_int, pv_bool, pv_string, pv_tup2, pv_tup3, iv_plain, p2_int, p2_bool, p2_string]) ?_⟩
   exact hcont _ _ (hJ.put hND hST rfl (Nat.le_refl _) (fun _ _ => rfl) (congrArg Value.bool md.f4))
  ·have f29 : α 92 = .bool true := hJ.val 29 92 rfl (hd 29 (by decide))
   have f35 : α 98 = .bool (decide (a = b)) := hJ.val 35 98 rfl (hd 35 (by decide))
   unfold XOm
   simp only [List.getElem?_cons_succ, List.getElem?_cons_zero]
   simp (disch := first | omega | (simp only [lnS]; try omega)) [-getElem?_pos, -getElem?_neg, -notTuple, nt_strG, nt_boolG, nt_aggG, nt_intG, nt_ptrG, f29, f35, XO_s, XO_z, XLk_val, XLk_call, headsO, behind, List.length_cons, List.length_nil, List.mem_cons, List.not_mem_nil, or_false, forall_eq_or_imp, forall_eq, List.contains_cons, List.contains_nil]
   exact hcont _ _ (hJ.put hND hST rfl (Nat.le_refl _) (fun _ _ => rfl) rfl)
  ·have f29 : α 92 = .bool true := hJ.val 29 92 rfl (hd 29 (by decide))
   unfold XOm
   simp only [List.getElem?_cons_succ, List.getElem?_cons_zero]
   simp (disch := first | omega | (simp only [lnS]; try omega)) [-getElem?_pos, -getElem?_neg, -notTuple, nt_strG, nt_boolG, nt_aggG, nt_intG, nt_ptrG, j0, f29, XO_s, XO_z, XLk_val, XLk_call, headsO, behind, List.length_cons, List.length_nil, List.mem_cons, List.not_mem_nil, or_false, forall_eq_or_imp, forall_eq, List.contains_cons, List.contains_nil]
   exact hcont _ _ (hJ.put hND hST rfl (Nat.le_refl _) (fun _ _ => rfl) rfl)
  ·have f29 : α 92 = .bool true := hJ.val 29 92 rfl (hd 29 (by decide))
   unfold XOm
   simp only [List.getElem?_cons_succ, List.getElem?_cons_zero]
   simp (disch := first | omega | (simp only [lnS]; try omega)) [-getElem?_pos, -getElem?_neg, -notTuple, nt_strG, nt_boolG, nt_aggG, nt_intG, nt_ptrG, j1, f29, XO_s, XO_z, XLk_val, XLk_call, headsO, behind, List.length_cons, List.length_nil, List.mem_cons, List.not_mem_nil, or_false, forall_eq_or_imp, forall_eq, List.contains_cons, List.contains_nil]
   exact hcont _ _ (hJ.put hND hST rfl (Nat.le_refl _) (fun _ _ => rfl) rfl)
  ·have f29 : α 92 = .bool true := hJ.val 29 92 rfl (hd 29 (by decide))
   have f37 : α 100 = .string a := hJ.val 37 100 rfl (hd 37 (by decide))
   have f38 : α 101 = .string b := hJ.val 38 101 rfl (hd 38 (by decide))
   unfold XOm
   simp only [List.getElem?_cons_succ, List.getElem?_cons_zero]
   simp (disch := first | omega | (simp only [lnS]; try omega)) [-getElem?_pos, -getElem?_neg, f29, f37, f38, XO_s, XO_z, XLk_val, XLk_call, headsO, behind, List.length_cons, List.length_nil, List.mem_cons, List.not_mem_nil, or_false, forall_eq_or_imp, forall_eq, List.contains_cons, List.contains_nil]
   by_cases hab : a = b
   ·have w : (a.toList == b.toList) = true := by rw [hab]; simp
    rw [w]
    exact hcont _ _ (hJ.put hND hST rfl (Nat.le_refl _) (fun _ _ => rfl) (congrArg Value.bool (by simp [hab])))
   ·have w : (a.toList == b.toList) = false := by
     rw [beq_eq_false_iff_ne]
     exact fun e => hab (toList_inj e)
    rw [w]
    exact hcont _ _ (hJ.put hND hST rfl (Nat.le_refl _) (fun _ _ => rfl) (congrArg Value.bool (by simp [hab])))
  ·have f29 : α 92 = .bool true := hJ.val 29 92 rfl (hd 29 (by decide))
   have f36 : α 99 = .bool (!decide (a = b)) := hJ.val 36 99 rfl (hd 36 (by decide))
   have f39 : α 102 = .bool (!decide (a = b)) := hJ.val 39 102 rfl (hd 39 (by decide))
   unfold XOm
   simp only [List.getElem?_cons_succ, List.getElem?_cons_zero]
   simp (disch := first | omega | (simp only [lnS]; try omega)) [-getElem?_pos, -getElem?_neg, -notTuple, nt_strG, nt_boolG, nt_aggG, nt_intG, nt_ptrG, f29, f36, f39, XO_s, XO_z, XLk_val, XLk_call, headsO, behind, List.length_cons, List.length_nil, List.mem_cons, List.not_mem_nil, or_false, forall_eq_or_imp, forall_eq, List.contains_cons, List.contains_nil]
   exact hcont _ _ (hJ.put hND hST rfl (Nat.le_refl _) (fun _ _ => rfl) rfl)
  ·have f29 : α 92 = .bool true := hJ.val 29 92 rfl (hd 29 (by decide))
   have f40 : α 103 = .bool true := hJ.val 40 103 rfl (hd 40 (by decide))
   unfold XOm
   simp only [List.getElem?_cons_succ, List.getElem?_cons_zero]
   simp (disch := first | omega | (simp only [lnS]; try omega)) [-getElem?_pos, -getElem?_neg, -notTuple, nt_strG, nt_boolG, nt_aggG, nt_intG, nt_ptrG, f29, f40, XO_s, XO_z, XLk_val, XLk_call, headsO, behind, List.length_cons, List.length_nil, List.mem_cons, List.not_mem_nil, or_false, forall_eq_or_imp, forall_eq, List.contains_cons, List.contains_nil]
   exact hcont _ _ (hJ.put hND hST rfl (Nat.le_refl _) (fun _ _ => rfl) rfl)
  ·have f41 : α 104 = .bool true := hJ.val 41 104 rfl (hd 41 (by decide))
   unfold XOm
   simp only [List.getElem?_cons_succ, List.getElem?_cons_zero]
   simp (disch := first | omega | (simp only [lnS]; try omega)) [-getElem?_pos, -getElem?_neg, -notTuple, nt_strG, nt_boolG, nt_aggG, nt_intG, nt_ptrG, f41, XO_s, XO_z, XLk_val, XLk_call, headsO, behind, List.length_cons, List.length_nil, List.mem_cons, List.not_mem_nil, or_false, forall_eq_or_imp, forall_eq, List.contains_cons, List.contains_nil]
   exact hcont _ _ (hJ.put hND hST rfl (Nat.le_refl _) (fun _ _ => rfl) rfl)
 ·rintro s' α' B hJ hall
  have hsz : s'.size = 43 := hJ.sz
  have e4 : α' 4 = .bool true := hJ.val 42 4 rfl (by
   rw [Array.getD_eq_getD_getElem?, Array.getElem?_eq_getElem (by omega)]
   exact Array.all_eq_true.1 hall 42 (by omega))
  (refine aw_ret ?_; simp (disch := first | omega | (simp only [lnS]; try omega)) [-getElem?_pos, -getElem?_neg, thenQ_ret, scopeQ_ret, inBlockQ_ret, RQ, resL, resV, e4])
end
section
def db32L : List Int := [0, 1, 28, 2, 29, 14, 24, 3, 30, 22, 20, 15, 25, 17, 4, 8, 31, 27, 13, 23, 21, 19, 16, 7, 26, 12, 18, 6, 11, 5, 10, 9]
def db64L : List Int := [0, 1, 56, 2, 57, 49, 28, 3, 61, 58, 42, 50, 38, 29, 17, 4, 62, 47, 59, 36, 45, 43, 51, 22, 53, 39, 33, 30, 24, 18, 12, 5, 63, 55, 48, 27, 60, 41, 37, 16, 46, 35, 44, 21, 52, 32, 23, 11, 54, 26, 40, 15, 34, 20, 31, 10, 25, 14, 19, 9, 13, 8, 7, 6]
attribute [local simp] wb_bool wb_undef with_lit XL_nil XL_cons XLc_val XLc_call step1_eq stepW_t stepW_f stepC_n stepC_s stepX_s stepX_n stepN_s calleeX xrecv oneV xop_eq xopR_s xopR_n wantedA_eq wantedG_n wantedG_s plain1_int plain1_bool plain1_string bits_i64 bits_u64 bits_u32 bits_u16 bits_u8 xeqA xagg xcmp xarr allK_iv num_iv calleeOf xread xeff xbin xint xnil xun xstr xload xconv xpart xfield xfieldAddr xindexAddr xindex bnd asInt? xslice xlen xmin xmax xbuild xfill xappend xapp2 xappstr xappmk xcap xcopy xcells eval_tmp eval_const put_at put_none fr0_at cells_agg cells_int cells_bool cells_string cells_ptr cells_slice notTuple tab iv_all hget_app hget_app0 hget_cons0 hget_cons set_app set_app0 setR setR_one QL_nil QL_cons QLc_val stepQ_t stepQ_f stepQC_n stepQC_s stepQX_s SL_nil SL_cons SLc_val stepS_t stepS_f ltT ltF leT leF eqT eqF ltTn ltFn leTn leFn eqTn eqFn beqT beqF bneT bneF wi64 wu64 wu32 wu16 wu8 tmodP tdivP hgetL hgetNe hgetEq setL nums_def nums_len Nat.succ_le_of_lt List.getElem?_cons_zero List.getElem?_cons_succ Option.getD_some Int.toNat_add Int.toNat_mul agM okM agB agI agS agP agL agA okB okI okS okP okSl okA
theorem meets_law {γ : Nat → Option Nat} {H : AH} (hpw : Pw γ H) (a b : ByteArray) (ha9 : a.size ≤ 9223372036854775807) (hb9 : b.size ≤ 9223372036854775807) : AC Tryd.prog H.length γ 6 #[.string a, .string b] H (fun v' _ => v' = .bool true) := by
 by_cases ha : a.size ≤ 300
 ·by_cases hb : b.size ≤ 300
  ·by_cases hab : a = b
   ·subst hab
    exact meets_go hpw ha hb (meet_eq ha)
   ·exact meets_go hpw ha hb (meet_ne ha hb hab)
  ·have hal := fun (G : AH) (hP : Pw γ G) => alive_rc (γ := γ) (H := G) hP
   have ha3 : ¬ (300 : Int) < a.size := by omega
   have hb3 : (300 : Int) < b.size := by omega
   refine ac_of_aw Tryd.func6 rfl Tryd.ntmps6 Tryd.results6 (by simp) ?_
   refine aw_seq ?_
   (refine aw_ops (by kernel_rfl) (fun K hK => ?_); simp (disch := first | omega | (simp only [lnS]; try omega)) [-getElem?_pos, -getElem?_neg]; refine hK _ _ ?_; clear hK K)
   refine aw_seq ?_
   refine aw_seq ?_
   refine aw_ops (by kernel_rfl) (fun K hK => ?_)
   simp (disch := first | omega | (simp only [lnS]; try omega)) [-getElem?_pos, -getElem?_neg]
   refine ⟨by kernel_rfl, ac_of_rc (hal _ hpw) (by simp [pv_iv, pv_int, pv_bool, pv_string, pv_tup2, pv_tup3, iv_plain, p2_int, p2_bool, p2_string]) ?_⟩
   try simp (disch := first | omega | (simp only [lnS]; try omega)) [-getElem?_pos, -getElem?_neg]
   refine hK _ _ ?_; clear hK K
   refine aw_f (by (first | (simp [eval_tmp, put_at]; done) | (simp [eval_tmp, put_at]; omega))) (by kernel_rfl) ?_
   refine aw_skip ?_
   refine aw_seq ?_
   refine aw_seq ?_
   (refine aw_ops (by kernel_rfl) (fun K hK => ?_); simp (disch := first | omega | (simp only [lnS]; try omega)) [-getElem?_pos, -getElem?_neg, ha9, hb9, ha3, hb3]; refine hK _ _ ?_; clear hK K)
   refine aw_t (by (first | (simp [eval_tmp, put_at]; done) | (simp [eval_tmp, put_at]; omega))) (by kernel_rfl) ?_
   refine aw_seq ?_
   refine aw_ops (by kernel_rfl) (fun K hK => ?_)
   simp (disch := first | omega | (simp only [lnS]; try omega)) [-getElem?_pos, -getElem?_neg]
   refine ⟨by kernel_rfl, ac_of_rc (hal _ hpw) (by simp [pv_iv, pv_int, pv_bool, pv_string, pv_tup2, pv_tup3, iv_plain, p2_int, p2_bool, p2_string]) ?_⟩
   try simp (disch := first | omega | (simp only [lnS]; try omega)) [-getElem?_pos, -getElem?_neg]
   refine hK _ _ ?_; clear hK K
   (refine aw_ret ?_; simp (disch := first | omega | (simp only [lnS]; try omega)) [-getElem?_pos, -getElem?_neg, thenQ_ret, scopeQ_ret, inBlockQ_ret, RQ, resL, resV])
 ·have hal := fun (G : AH) (hP : Pw γ G) => alive_rc (γ := γ) (H := G) hP
  have ha3 : (300 : Int) < a.size := by omega
  refine ac_of_aw Tryd.func6 rfl Tryd.ntmps6 Tryd.results6 (by simp) ?_
  refine aw_seq ?_
  (refine aw_ops (by kernel_rfl) (fun K hK => ?_); simp (disch := first | omega | (simp only [lnS]; try omega)) [-getElem?_pos, -getElem?_neg]; refine hK _ _ ?_; clear hK K)
  refine aw_seq ?_
  refine aw_seq ?_
  refine aw_ops (by kernel_rfl) (fun K hK => ?_)
  simp (disch := first | omega | (simp only [lnS]; try omega)) [-getElem?_pos, -getElem?_neg]
  refine ⟨by kernel_rfl, ac_of_rc (hal _ hpw) (by simp [pv_iv, pv_int, pv_bool, pv_string, pv_tup2, pv_tup3, iv_plain, p2_int, p2_bool, p2_string]) ?_⟩
  try simp (disch := first | omega | (simp only [lnS]; try omega)) [-getElem?_pos, -getElem?_neg]
  refine hK _ _ ?_; clear hK K
  refine aw_f (by (first | (simp [eval_tmp, put_at]; done) | (simp [eval_tmp, put_at]; omega))) (by kernel_rfl) ?_
  refine aw_skip ?_
  refine aw_seq ?_
  refine aw_seq ?_
  (refine aw_ops (by kernel_rfl) (fun K hK => ?_); simp (disch := first | omega | (simp only [lnS]; try omega)) [-getElem?_pos, -getElem?_neg, ha9, hb9, ha3]; refine hK _ _ ?_; clear hK K)
  refine aw_t (by (first | (simp [eval_tmp, put_at]; done) | (simp [eval_tmp, put_at]; omega))) (by kernel_rfl) ?_
  refine aw_seq ?_
  refine aw_ops (by kernel_rfl) (fun K hK => ?_)
  simp (disch := first | omega | (simp only [lnS]; try omega)) [-getElem?_pos, -getElem?_neg]
  refine ⟨by kernel_rfl, ac_of_rc (hal _ hpw) (by simp [pv_iv, pv_int, pv_bool, pv_string, pv_tup2, pv_tup3, iv_plain, p2_int, p2_bool, p2_string]) ?_⟩
  try simp (disch := first | omega | (simp only [lnS]; try omega)) [-getElem?_pos, -getElem?_neg]
  refine hK _ _ ?_; clear hK K
  (refine aw_ret ?_; simp (disch := first | omega | (simp only [lnS]; try omega)) [-getElem?_pos, -getElem?_neg, thenQ_ret, scopeQ_ret, inBlockQ_ret, RQ, resL, resV])
end
end Go.Proofs.YtecjhpamfkfilaaDoor
