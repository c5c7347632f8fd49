/-
  The stream, by its text.
-/
import Derived.BigFrame
import Derived.Deep.RegionLaw
import Derived.Test.YtjfjakighnibpaaZC
set_option linter.unusedVariables false
set_option linter.unusedSimpArgs false
set_option maxRecDepth 100000
namespace Go.Proofs.Ytjfjakighnibpaa.St
open Go.Proofs.Ytjfjakighnibpaa
section
open Go.RowKit
/-- four bytes as a word, by sums -/
def sum4 (a b c d : Int) : Int := a + b * 256 + c * 65536 + d * 16777216
theorem word4_sum (a b c d : Int) (ha : 0 ≤ a ∧ a ≤ 255) (hb : 0 ≤ b ∧ b ≤ 255) (hc : 0 ≤ c ∧ c ≤ 255) (hd : 0 ≤ d ∧ d ≤ 255) : word4 a b c d = sum4 a b c d := by
  unfold word4 sum4
  have e1 : bits .or .u32 a (b * 256) = b * 256 + a := or_join' 8 _ _ ⟨by omega, by omega⟩ ⟨by omega, by omega⟩ (by omega) (by omega)
  rw [e1]
  have e2 : bits .or .u32 (b * 256 + a) (c * 65536) = c * 65536 + (b * 256 + a) := or_join' 16 _ _ ⟨by omega, by omega⟩ ⟨by omega, by omega⟩ (by omega) (by omega)
  rw [e2]
  have e3 : bits .or .u32 (c * 65536 + (b * 256 + a)) (d * 16777216) = d * 16777216 + (c * 65536 + (b * 256 + a)) := or_join' 24 _ _ ⟨by omega, by omega⟩ ⟨by omega, by omega⟩ (by omega) (by omega)
  rw [e3]
  omega
theorem refword_any (s : ByteArray) (i : Nat) (h : i + 4 ≤ s.size) (hi : i ≤ 1000) (w : World) :
    Calls Try.prog 56 #[.string s, .int .i64 i] w fun e w' => e = .returned (.int .u32 (word4 (gb s i) (gb s (i + 1)) (gb s (i + 2)) (gb s (i + 3)))) ∧ ∃ n, w' = w.drewN n := by
  have i0 : ∀ W : World, (Instr.index 9 (.string s) (.int .i64 (i : Int))).run Try.prog W = .ok (.int .u8 (gb s i)) W := fun W => index_str W 9 .i64 s i Try.underlying9 (by omega)
  have i1 : ∀ W : World, (Instr.index 9 (.string s) (.int .i64 ((i : Int) + 1))).run Try.prog W = .ok (.int .u8 (gb s (i + 1))) W := fun W => index_str W 9 .i64 s (i + 1) Try.underlying9 (by omega)
  have i2 : ∀ W : World, (Instr.index 9 (.string s) (.int .i64 ((i : Int) + 2))).run Try.prog W = .ok (.int .u8 (gb s (i + 2))) W := fun W => index_str W 9 .i64 s (i + 2) Try.underlying9 (by omega)
  have i3 : ∀ W : World, (Instr.index 9 (.string s) (.int .i64 ((i : Int) + 3))).run Try.prog W = .ok (.int .u8 (gb s (i + 3))) W := fun W => index_str W 9 .i64 s (i + 3) Try.underlying9 (by omega)
  have b0 := gb_bd s i
  have b1 := gb_bd s (i + 1)
  have b2 := gb_bd s (i + 2)
  have b3 := gb_bd s (i + 3)
  have hw := hide (word4_sum _ _ _ _ b0 b1 b2 b3)
  generalize gb s i = x0 at *
  generalize gb s (i + 1) = x1 at *
  generalize gb s (i + 2) = x2 at *
  generalize gb s (i + 3) = x3 at *
  have z0 : (0 : Int) ≤ i := by omega
  have z1 : (i : Int) ≤ 1000 := by omega
  clear h hi
  go_enter Try.func56, Try.ntmps56
  go_wp2_with fail
  go_quiet (fail)
  go_wp2
  go_ret
  rw [hw.out]
  exact ⟨rfl, nq, rfl⟩

/-- what the reference's Words keeps -/
structure BR (w : World) (b0 b1 b2 : Nat) (kb l : List Int) (W : World) : Prop where
  key : Row W b0 23 .u8 kb
  res : Row W b1 46 .u32 (zeros 16)
  now : Row W b2 46 .u32 l
  below : Below w.heap.size w W
  lo : w.heap.size ≤ b0 ∧ w.heap.size ≤ b1 ∧ w.heap.size ≤ b2 ∧ b2 ≠ b0 ∧ b2 ≠ b1
theorem BR.next {w W W' : World} {b0 b1 b2 : Nat} {kb l l' : List Int} (h : BR w b0 b1 b2 kb l W) (hr : Row W' b2 46 .u32 l') (hg : W.grownBy W' (some b2)) : BR w b0 b1 b2 kb l' W' :=
  ⟨h.key.away hg (by have := h.lo; omega), h.res.away hg (by have := h.lo; omega), hr, below_of_grown h.below hg h.below.size h.lo.2.2.1, h.lo⟩
theorem BR.drewN {w W : World} {b0 b1 b2 : Nat} {kb l : List Int} (h : BR w b0 b1 b2 kb l W) (n : Nat) : BR w b0 b1 b2 kb l (W.drewN n) := ⟨h.key, h.res, h.now, below_drewN h.below n, h.lo⟩
theorem BR.store {w W : World} {b0 b1 b2 : Nat} {kb l : List Int} (h : BR w b0 b1 b2 kb l W) (i : Nat) (x : Int) : BR w b0 b1 b2 kb (l.set i x) (W.setCell ⟨b2, i, none⟩ (.int .u32 x)) :=
  h.next (h.now.set_ i x) (Row.grown_set _ _ _ _)
theorem BR.start (w : World) (kb : List Int) (o1 o2 : Obj) (h1 : o1 = .cells (ints .u32 (zeros 16)) 46) (h2 : o2 = .cells (ints .u32 (begK kb 0)) 46) :
    BR w w.heap.size (w.heap.size + 1) (w.heap.size + 1 + 1) kb (begK kb 0) (((w.alloc (.cells (ints .u8 kb) 23)).alloc o1).alloc o2) := by
  subst h1 h2
  exact ⟨heap_at0 _ _ _ _, heap_at1 _ _ _ _, heap_at2 _ _ _ _, (((Below.refl _ _).alloc (Nat.le_refl _) _).alloc (by simp) _).alloc (by simp only [World.size_alloc]; omega) _, by omega⟩
theorem sz42 (o : List Int) (h : o.length = 16) : (Try.prog.info? 46).map (·.size) = some (ints .u32 o).size := by rw [ints_size, h]; kernel_rfl
theorem all_slice23 (b : Nat) (W : World) : (Instr.sliceAt 23 (.pointer (some ⟨b, 0, none⟩)) none none none).run Try.prog W = .ok (.slice (some ⟨b, 0, none⟩) 32 32) W := by
  obtain ⟨i, hi, h1⟩ : ∃ i, Try.prog.info? 5 = some i ∧ i.size = 1 := ⟨_, rfl, by kernel_rfl⟩
  exact slice_all W 23 5 32 i Try.underlying23 hi h1 b (by omega)
theorem kword_key (kb : List Int) (hk : kb.length = 32) (hkb : Bytes kb) (k : Nat) (h : k < 8) : word4 (gb (strOfNums kb) (4 * k)) (gb (strOfNums kb) (4 * k + 1)) (gb (strOfNums kb) (4 * k + 2)) (gb (strOfNums kb) (4 * k + 3)) = kword kb k := by
  rw [gb_nums _ hkb _ (by omega), gb_nums _ hkb _ (by omega), gb_nums _ hkb _ (by omega), gb_nums _ hkb _ (by omega)]
  rfl
set_option maxRecDepth 100000 in
set_option maxHeartbeats 400000 in
theorem refwords_any (kb : List Int) (hk : kb.length = 32) (hkb : Bytes kb) (s : ByteArray) (hs : s.size = 12) (ct : Int) (w : World) :
    Calls Try.prog 41 #[.agg (ints .u8 kb), .string s, .int .u32 ct] w fun e w' => e = .returned (.agg (ints .u32 (beginF kb s ct))) ∧ Below w.heap.size w w' := by
  have WA := hide refword_any
  have HS := hide hs
  have HK := hide hk
  have KW := hide (kword_key kb hk hkb)
  clear hs hk
  go_enter Try.func41, Try.ntmps41
  go_upto_region 2 with fail
  generalize hW : ((w.alloc (.cells (ints .u8 kb) 23)).alloc _).alloc _ = W1
  have hB : BR w w.heap.size (w.heap.size + 1) (w.heap.size + 1 + 1) kb (begK kb 0) W1 := by rw [← hW]; exact BR.start w kb _ _ rfl rfl
  clear hW
  generalize w.heap.size + 1 + 1 = b2 at hB ⊢
  generalize w.heap.size + 1 = b1 at hB ⊢
  obtain ⟨b0, hb0⟩ : ∃ b0, b0 = w.heap.size := ⟨_, rfl⟩
  rw [← hb0] at hB ⊢
  clear hb0
  have sl : ∀ W : World, (Instr.sliceAt 23 (.pointer (some ⟨b0, 0, none⟩)) none none none).run Try.prog W = .ok (.slice (some ⟨b0, 0, none⟩) 32 32) W := fun W => all_slice23 b0 W
  have cv : (convert 38 9 (.slice (some ⟨b0, 0, none⟩) 32 32)).run Try.prog W1 = .ok (.string (strOfNums kb)) W1 :=
    conv_all W1 hB.key Try.underlying38 Try.underlying5 Try.underlying9 32 32 HK.out
  go_wp2
  clear sl cv
  go_loopw [9] (fun i W => ∃ k : Nat, k ≤ 8 ∧ i = .int .i64 k ∧ BR w b0 b1 b2 kb (begK kb k) W) (fun i _ => 8 - (intOf i).toNat)
  case atStart => exact ⟨0, by omega, rfl, hB⟩
  case round =>
    clear hB
    obtain ⟨k, hk, rfl, hB⟩ := hrel
    by_cases hlt : k < 8
    · have KWk := hide (KW.out k hlt)
      have WK := hide (WA.out (strOfNums kb) (4 * k) (by rw [snum_size, HK.out]; omega) (by omega))
      go_wp2_with fail
      refine (WK.out _).mono ?_
      rw [KWk.out]
      rintro e W ⟨rfl, nn, rfl⟩
      have hB2 : BR w b0 b1 b2 kb (begK kb (k + 1)) ((wr.drewN nn).setCell ⟨b2, 4 + k, none⟩ (.int .u32 (kword kb k))) := (hB.drewN nn).store (4 + k) (kword kb k)
      have HB2 := hide hB2
      have c := (hB.drewN nn).now.at_ (i := 4 + k) (by rw [begK_len]; omega)
      have f := (hB.drewN nn).now.free (4 + k)
      have z0 : (0 : Int) ≤ 4 + k := by omega
      have z1 : (4 + k : Int) < 16 := by omega
      clear hB hB2
      go_wp2
      exact ⟨⟨k + 1, by omega, by go_num, HB2.out⟩, by simp [intOf]; omega⟩
    · have hk8 : k = 8 := by omega
      rw [hk8] at hB
      clear hk8
      have hC := hide (hB.store 12 ct)
      have c := hB.now.at_ (i := 12) (by rw [begK_len]; omega)
      have f := hB.now.free 12
      have NL : Hid (((begK kb 8).set 12 ct).length = 16) := by show _ = _; rw [List.length_set, begK_len]
      have N0 : Hid (∀ W, Calls Try.prog 56 #[.string s, .int .i64 0] W fun e w' => e = .returned (.int .u32 (nword s 0)) ∧ ∃ n, w' = W.drewN n) := hide (fun W => WA.out s 0 (by rw [HS.out]; omega) (by omega) W)
      have N1 : Hid (∀ W, Calls Try.prog 56 #[.string s, .int .i64 4] W fun e w' => e = .returned (.int .u32 (nword s 1)) ∧ ∃ n, w' = W.drewN n) := hide (fun W => WA.out s 4 (by rw [HS.out]; omega) (by omega) W)
      have N2 : Hid (∀ W, Calls Try.prog 56 #[.string s, .int .i64 8] W fun e w' => e = .returned (.int .u32 (nword s 2)) ∧ ∃ n, w' = W.drewN n) := hide (fun W => WA.out s 8 (by rw [HS.out]; omega) (by omega) W)
      obtain ⟨lc, hlc⟩ : ∃ lc, lc = (begK kb 8).set 12 ct := ⟨_, rfl⟩
      rw [← hlc] at hC NL
      have HLC := hide hlc
      clear hlc hB
      go_wp2_with fail
      clear c f
      generalize wr.setCell ⟨b2, 12, none⟩ (.int .u32 ct) = W2 at hC ⊢
      refine (N0.out _).mono ?_
      rintro e W ⟨rfl, n0, rfl⟩
      have D1 := hide (hC.out.drewN n0)
      clear hC
      have c := D1.out.now.at_ (i := 13) (by rw [NL.out]; omega)
      have f := D1.out.now.free 13
      go_wp2_with fail
      clear c f
      have hD2 := hide (D1.out.store 13 (nword s 0))
      generalize (W2.drewN n0).setCell ⟨b2, 13, none⟩ (.int .u32 (nword s 0)) = W3 at hD2 ⊢
      refine (N1.out _).mono ?_
      rintro e W ⟨rfl, n1, rfl⟩
      have D2 := hide (hD2.out.drewN n1)
      clear hD2 D1
      have c := D2.out.now.at_ (i := 14) (by rw [List.length_set, NL.out]; omega)
      have f := D2.out.now.free 14
      go_wp2_with fail
      clear c f
      have hD3 := hide (D2.out.store 14 (nword s 1))
      generalize (W3.drewN n1).setCell ⟨b2, 14, none⟩ (.int .u32 (nword s 1)) = W4 at hD3 ⊢
      refine (N2.out _).mono ?_
      rintro e W ⟨rfl, n2, rfl⟩
      have D3 := hide (hD3.out.drewN n2)
      clear hD3 D2
      have c := D3.out.now.at_ (i := 15) (by rw [List.length_set, List.length_set, NL.out]; omega)
      have f := D3.out.now.free 15
      have hD4 : BR w b0 b1 b2 kb (begN s lc 3) ((W4.drewN n2).setCell ⟨b2, 15, none⟩ (.int .u32 (nword s 2))) := D3.out.store 15 (nword s 2)
      obtain ⟨o, ho⟩ : ∃ o, o = begN s lc 3 := ⟨_, rfl⟩
      have ol : o.length = 16 := by rw [ho, begN_len, NL.out]
      rw [← ho] at hD4
      have HO := hide ho
      have I42 := hide (sz42 o ol)
      have Z42 : Hid ((ints .u32 (zeros 16)).size = (ints .u32 o).size) := by show _ = _; rw [ints_size, ints_size, ol]; rfl
      have HN := hide hD4.now
      have HRs := hide hD4.res
      have HBl := hide hD4.below
      have HLo := hide hD4.lo
      clear ho ol hD4 D3
      go_upto_region 11 with fail
      clear c f
      generalize (W4.drewN n2).setCell ⟨b2, 15, none⟩ (.int .u32 (nword s 2)) = W5 at *
      go_wp2_with (first | (refine wpList_load_row rfl 46 _ rfl _ rfl 46 (ints .u32 o) (0, 0) _ HN.out Try.underlying46 rfl I42.out ?_) | (refine wpList_store_row rfl 46 _ _ rfl _ (ints .u32 o) rfl rfl 46 _ HRs.out I42.out Z42.out (ints_one _ _) ?_))
      refine bodyPost_ret (v := .agg (ints .u32 o)) (results_cell_row Try.results41 _ _ b1 46 (ints .u32 o) (0, 0) _ rfl (Row.put HRs.out _) Try.underlying46 rfl I42.out) rfl ⟨by rw [HO.out, HLC.out]; rfl, below_setRow HBl.out HLo.out.2.1 _⟩

def places : List Int := [0, 4, 8, 12, 1, 5, 9, 13, 2, 6, 10, 14, 3, 7, 11, 15, 0, 5, 10, 15, 1, 6, 11, 12, 2, 7, 8, 13, 3, 4, 9, 14]
theorem sz49 : (Try.prog.info? 79).map (·.size) = some (ints .i64 places).size := by rw [ints_size]; kernel_rfl
set_option maxRecDepth 100000 in
set_option maxHeartbeats 400000 in
theorem places_any (w : World) : Calls Try.prog 42 #[] w fun e w' => e = .returned (.agg (ints .i64 places)) ∧ Below w.heap.size w w' := by
  have HS := hide sz49
  go_enter Try.func42, Try.ntmps42
  go_upto_region 1 with fail
  go_wp2_with (first | (refine wpList_store_row rfl 79 _ _ rfl _ (ints .i64 places) rfl rfl 79 _ (heap_alloc_new _ _) HS.out (by rfl) (ints_one _ _) ?_))
  refine bodyPost_ret (v := .agg (ints .i64 places)) (results_cell_row Try.results42 _ _ w.heap.size 79 (ints .i64 places) (0, 0) _ rfl (setRow_heap _ _ _ _ 79 _ (heap_alloc_new _ _)) Try.underlying79 rfl HS.out) rfl ⟨rfl, below_setRow ((Below.refl _ _).alloc (Nat.le_refl _) _) (Nat.le_refl _) _⟩
end

section
open Go.RowKit
/-- a place of the words of a quarter round -/
def pl (i c : Nat) : Nat := (gi places (4 * i + c)).toNat
theorem pl_lt (i c : Nat) : pl i c < 16 := by
  have h : ∀ k, k < 32 → (gi places k).toNat < 16 := by decide
  unfold pl
  by_cases hk : 4 * i + c < 32
  · exact h _ hk
  · have : gi places (4 * i + c) = 0 := by
      unfold gi
      rw [List.getD_eq_getElem?_getD, List.getElem?_eq_none (by show 32 ≤ _; omega)]; rfl
    rw [this]; decide
theorem pl_int (i c : Nat) : gi places (4 * i + c) = (pl i c : Int) := by
  have h : ∀ k, k < 32 → 0 ≤ gi places k := by decide
  unfold pl
  by_cases hk : 4 * i + c < 32
  · have := h _ hk; omega
  · have : gi places (4 * i + c) = 0 := by
      unfold gi
      rw [List.getD_eq_getElem?_getD, List.getElem?_eq_none (by show 32 ≤ _; omega)]; rfl
    rw [this]; rfl
theorem pl_ne (i : Nat) (h : i < 8) : pl i 0 ≠ pl i 1 ∧ pl i 0 ≠ pl i 2 ∧ pl i 0 ≠ pl i 3 ∧ pl i 1 ≠ pl i 2 ∧ pl i 1 ≠ pl i 3 ∧ pl i 2 ≠ pl i 3 := by
  have h2 : ∀ i, i < 8 → pl i 0 ≠ pl i 1 ∧ pl i 0 ≠ pl i 2 ∧ pl i 0 ≠ pl i 3 ∧ pl i 1 ≠ pl i 2 ∧ pl i 1 ≠ pl i 3 ∧ pl i 2 ≠ pl i 3 := by decide
  exact h2 i h
theorem quarter_sets (l : List Int) (hl : l.length = 16) (a b c d : Nat) (ha : a < 16) (hb : b < 16) (hc : c < 16) (hd : d < 16)
    (h : a ≠ b ∧ a ≠ c ∧ a ≠ d ∧ b ≠ c ∧ b ≠ d ∧ c ≠ d) :
    quarter l a b c d = (((l.set a (q2a (gi l a) (gi l b) (gi l c) (gi l d))).set b (q2b (gi l a) (gi l b) (gi l c) (gi l d))).set c (q2c (gi l a) (gi l b) (gi l c) (gi l d))).set d (q2d (gi l a) (gi l b) (gi l c) (gi l d)) := by
  obtain ⟨hab, hac, had, hbc, hbd, hcd⟩ := h
  have hab' := hab.symm; have hac' := hac.symm; have had' := had.symm; have hbc' := hbc.symm; have hbd' := hbd.symm; have hcd' := hcd.symm
  apply list_ext_gi
  · simp [quarter_len]
  · intro i hi
    rw [quarter_len, hl] at hi
    unfold quarter turnBy addTo
    dsimp only
    by_cases ia : i = a
    · subst ia
      simp [gi_set, hl, hi, hb, hc, hd, hab, hac, had, hbc, hbd, hcd, hab', hac', had', hbc', hbd', hcd', q2a, q1a, q1b, q1c, q1d]
    by_cases ib : i = b
    · subst ib
      simp [gi_set, hl, hi, ha, hc, hd, hab, hac, had, hbc, hbd, hcd, hab', hac', had', hbc', hbd', hcd', q2a, q2b, q2c, q2d, q1a, q1b, q1c, q1d]
    by_cases ic : i = c
    · subst ic
      simp [gi_set, hl, hi, ha, hb, hd, hab, hac, had, hbc, hbd, hcd, hab', hac', had', hbc', hbd', hcd', q2a, q2b, q2c, q2d, q1a, q1b, q1c, q1d]
    by_cases id : i = d
    · subst id
      simp [gi_set, hl, hi, ha, hb, hc, hab, hac, had, hbc, hbd, hcd, hab', hac', had', hbc', hbd', hcd', q2a, q2b, q2c, q2d, q1a, q1b, q1c, q1d]
    have ja := Ne.symm ia; have jb := Ne.symm ib; have jc := Ne.symm ic; have jd := Ne.symm id
    simp [gi_set, hl, ha, hb, hc, hd, ja, jb, jc, jd]
/-- the first k quarter rounds of the eight -/
def plTo (l : List Int) : Nat → List Int
  | 0 => l
  | k + 1 => quarter (plTo l k) (pl k 0) (pl k 1) (pl k 2) (pl k 3)
theorem plTo_len (l : List Int) (k : Nat) : (plTo l k).length = l.length := by induction k <;> simp_all [plTo, quarter_len]
theorem refQuarter_same (a b c d : Int) (w : World) : Calls Try.prog 43 #[.int .u32 a, .int .u32 b, .int .u32 c, .int .u32 d] w fun e w' =>
    e = .returned (.tuple #[.int .u32 (q2a a b c d), .int .u32 (q2b a b c d), .int .u32 (q2c a b c d), .int .u32 (q2d a b c d)]) ∧ w' = w :=
  (refQuarter a b c d w).mono fun _ _ ⟨h, h2⟩ => ⟨h, h2.symm⟩
theorem plTo_all (l : List Int) : plTo l 8 = diags (cols l 4) 4 := by
  have e : ∀ i, i < 8 → pl i 0 = [0,1,2,3,0,1,2,3].getD i 0 ∧ pl i 1 = [4,5,6,7,5,6,7,4].getD i 0 ∧ pl i 2 = [8,9,10,11,10,11,8,9].getD i 0 ∧ pl i 3 = [12,13,14,15,15,12,13,14].getD i 0 := by decide
  simp only [plTo, diags, cols]
  rw [(e 0 (by omega)).1, (e 0 (by omega)).2.1, (e 0 (by omega)).2.2.1, (e 0 (by omega)).2.2.2,
    (e 1 (by omega)).1, (e 1 (by omega)).2.1, (e 1 (by omega)).2.2.1, (e 1 (by omega)).2.2.2,
    (e 2 (by omega)).1, (e 2 (by omega)).2.1, (e 2 (by omega)).2.2.1, (e 2 (by omega)).2.2.2,
    (e 3 (by omega)).1, (e 3 (by omega)).2.1, (e 3 (by omega)).2.2.1, (e 3 (by omega)).2.2.2,
    (e 4 (by omega)).1, (e 4 (by omega)).2.1, (e 4 (by omega)).2.2.1, (e 4 (by omega)).2.2.2,
    (e 5 (by omega)).1, (e 5 (by omega)).2.1, (e 5 (by omega)).2.2.1, (e 5 (by omega)).2.2.2,
    (e 6 (by omega)).1, (e 6 (by omega)).2.1, (e 6 (by omega)).2.2.1, (e 6 (by omega)).2.2.2,
    (e 7 (by omega)).1, (e 7 (by omega)).2.1, (e 7 (by omega)).2.2.1, (e 7 (by omega)).2.2.2]
  rfl

/-- what the reference's Block keeps: the words at first, the words now, the places -/
structure RB (w : World) (b7 b8 b9 : Nat) (l m : List Int) (W : World) : Prop where
  first : Row W b7 46 .u32 l
  now : Row W b8 46 .u32 m
  pls : Row W b9 79 .i64 places
  below : Below w.heap.size w W
  lo : w.heap.size ≤ b7 ∧ w.heap.size ≤ b8 ∧ w.heap.size ≤ b9 ∧ b8 ≠ b7 ∧ b8 ≠ b9
theorem RB.drewN {w W : World} {b7 b8 b9 : Nat} {l m : List Int} (h : RB w b7 b8 b9 l m W) (n : Nat) : RB w b7 b8 b9 l m (W.drewN n) := ⟨h.first, h.now, h.pls, below_drewN h.below n, h.lo⟩
theorem RB.alloc {w W : World} {b7 b8 b9 : Nat} {l m : List Int} (h : RB w b7 b8 b9 l m W) (o : Obj) : RB w b7 b8 b9 l m (W.alloc o) := ⟨h.first.alloc _, h.now.alloc _, h.pls.alloc _, h.below.alloc h.below.size _, h.lo⟩
theorem RB.store {w W : World} {b7 b8 b9 : Nat} {l m : List Int} (h : RB w b7 b8 b9 l m W) (i : Nat) (x : Int) : RB w b7 b8 b9 l (m.set i x) (W.setCell ⟨b8, i, none⟩ (.int .u32 x)) :=
  ⟨h.first.far (by have := h.lo; simp; omega) _, h.now.set_ i x, h.pls.far (by have := h.lo; simp; omega) _, h.below.setCell h.lo.2.1 _, h.lo⟩
theorem RB.grown {w W W' : World} {b7 b8 b9 : Nat} {l m : List Int} (h : RB w b7 b8 b9 l m W) (hb : Below W.heap.size W W') : RB w b7 b8 b9 l m W' :=
  ⟨h.first.below hb h.first.lt, h.now.below hb h.now.lt, h.pls.below hb h.pls.lt, h.below.trans (hb.mono h.below.size), h.lo⟩
/-- the same with the places of one quarter round -/
structure RC (w : World) (b7 b8 b9 b12 : Nat) (l m : List Int) (p0 p1 p2 p3 : Nat) (W : World) : Prop where
  rb : RB w b7 b8 b9 l m W
  c0 : W.cell? ⟨b12, 0, none⟩ = some (.int .i64 p0)
  c1 : W.cell? ⟨b12, 1, none⟩ = some (.int .i64 p1)
  c2 : W.cell? ⟨b12, 2, none⟩ = some (.int .i64 p2)
  c3 : W.cell? ⟨b12, 3, none⟩ = some (.int .i64 p3)
  ne : b8 ≠ b12
theorem RC.drewN {w W : World} {b7 b8 b9 b12 : Nat} {l m : List Int} {p0 p1 p2 p3 : Nat} (h : RC w b7 b8 b9 b12 l m p0 p1 p2 p3 W) (n : Nat) : RC w b7 b8 b9 b12 l m p0 p1 p2 p3 (W.drewN n) :=
  ⟨h.rb.drewN n, h.c0, h.c1, h.c2, h.c3, h.ne⟩
theorem RC.store {w W : World} {b7 b8 b9 b12 : Nat} {l m : List Int} {p0 p1 p2 p3 : Nat} (h : RC w b7 b8 b9 b12 l m p0 p1 p2 p3 W) (i : Nat) (x : Int) : RC w b7 b8 b9 b12 l (m.set i x) p0 p1 p2 p3 (W.setCell ⟨b8, i, none⟩ (.int .u32 x)) :=
  ⟨h.rb.store i x, (World.cell?_setCell_far _ _ _ _ h.ne).trans h.c0, (World.cell?_setCell_far _ _ _ _ h.ne).trans h.c1, (World.cell?_setCell_far _ _ _ _ h.ne).trans h.c2, (World.cell?_setCell_far _ _ _ _ h.ne).trans h.c3, h.ne⟩
theorem RC.start {w wr : World} {b7 b8 b9 : Nat} {l m : List Int} {p0 p1 p2 p3 : Nat} (h : RB w b7 b8 b9 l m wr) :
    RC w b7 b8 b9 wr.heap.size l m p0 p1 p2 p3 (wr.alloc (.cells #[.int .i64 p0, .int .i64 p1, .int .i64 p2, .int .i64 p3] 78)) :=
  ⟨h.alloc _, by rw [cell_of_row _ _ _ _ _ _ (heap_alloc_new _ _)]; rfl, by rw [cell_of_row _ _ _ _ _ _ (heap_alloc_new _ _)]; rfl, by rw [cell_of_row _ _ _ _ _ _ (heap_alloc_new _ _)]; rfl, by rw [cell_of_row _ _ _ _ _ _ (heap_alloc_new _ _)]; rfl, by have := h.now.lt; omega⟩
/-- a word's four bytes -/
def four (x : Int) : List Int := [x % 256, x / 256 % 256, x / 65536 % 256, x / 16777216 % 256]
/-- the bytes of the first sums, one after another -/
def outR (m l : List Int) : Nat → List Int
  | 0 => []
  | k + 1 => outR m l k ++ four (addU (gi m k) (gi l k))
theorem outR_len (m l : List Int) (k : Nat) : (outR m l k).length = 4 * k := by
  induction k with
  | zero => rfl
  | succ k ih => simp [outR, four, ih]; omega
theorem put4_front (o : List Int) (k n : Nat) (h : o.length = 4 * k) (x : Int) : put4 (o ++ zeros (n + 4)) k x = (o ++ four x) ++ zeros n := by
  have z : zeros (n + 4) = 0 :: 0 :: 0 :: 0 :: zeros n := rfl
  unfold put4 four
  rw [z]
  simp [h]
theorem outTo_front (m l : List Int) (k : Nat) (h : k ≤ 16) : outTo m l k = outR m l k ++ zeros (64 - 4 * k) := by
  induction k with
  | zero => rfl
  | succ k ih =>
    rw [outTo, outR, ih (by omega), show 64 - 4 * k = (64 - 4 * (k + 1)) + 4 by omega, put4_front _ _ _ (outR_len _ _ _)]
theorem outR_all (m l : List Int) : outR m l 16 = outTo m l 16 := by
  rw [outTo_front m l 16 (by omega)]
  exact (List.append_nil _).symm
structure RO (w : World) (b7 b8 b9 base : Nat) (l m : List Int) (k : Nat) (v : Value) (W : World) : Prop where
  rb : RB w b7 b8 b9 l m W
  own : OwnB W base 5 v (outR m l k)
  lo : b7 < base ∧ b8 < base ∧ b9 < base ∧ base ≤ W.heap.size
theorem RO.start {w W : World} {b7 b8 b9 : Nat} {l m : List Int} (h : RB w b7 b8 b9 l m W) : RO w b7 b8 b9 W.heap.size l m 0 (.slice none 0 0) W :=
  ⟨h, OwnB.nil _ _ _, by have := h.first.lt; have := h.now.lt; have := h.pls.lt; omega⟩
theorem RO.drewN {w W : World} {b7 b8 b9 base k : Nat} {v : Value} {l m : List Int} (h : RO w b7 b8 b9 base l m k v W) (n : Nat) : RO w b7 b8 b9 base l m k v (W.drewN n) := ⟨h.rb.drewN n, h.own, h.lo⟩
theorem RO.alloc {w W : World} {b7 b8 b9 base k : Nat} {v : Value} {l m : List Int} (h : RO w b7 b8 b9 base l m k v W) (o : Obj) : RO w b7 b8 b9 base l m k v (W.alloc o) := ⟨h.rb.alloc _, h.own.alloc _, by have := h.lo; simp; omega⟩
theorem RO.more {w W W' : World} {b7 b8 b9 base k : Nat} {v v' : Value} {l m : List Int} (h : RO w b7 b8 b9 base l m k v W)
    (ho : W'.ownsRow base 5 1 v' ((outR m l k).length + 4) ((outR m l k).map (Value.int .u8) ++ (four (addU (gi m k) (gi l k))).map (Value.int .u8))) (hg : W.grownBy W' v.ownBlock) : RO w b7 b8 b9 base l m (k + 1) v' W' := by
  have hlo := h.own.lo
  obtain ⟨l7, l8, l9, ls⟩ := h.lo
  refine ⟨⟨h.rb.first.grew hg hlo l7, h.rb.now.grew hg hlo l8, h.rb.pls.grew hg hlo l9, h.rb.below.grown hg h.rb.below.size (fun r hr => ?_), h.rb.lo⟩, OwnB.more rfl ho, l7, l8, l9, Nat.le_trans ls hg.size⟩
  have := hlo r hr
  have := h.rb.lo
  omega
theorem info_u8 : (Try.prog.info? 5).map (fun i => (i.zero, i.size, i.bytes)) = some (some (.int .u8 0), 1, 1) := by kernel_rfl
set_option maxRecDepth 100000 in
set_option maxHeartbeats 1000000 in
theorem refblock_any (kb : List Int) (hk : kb.length = 32) (hkb : Bytes kb) (s : ByteArray) (hs : s.size = 12) (ct : Int) (w : World) :
    Calls Try.prog 28 #[.agg (ints .u8 kb), .string s, .int .u32 ct] w fun e w' => e = .returned (.string (strOfNums (mixF (beginF kb s ct)))) ∧ Below w.heap.size w w' := by
  obtain ⟨i0, hi, hz0, hz1, hz2⟩ := info_parts info_u8
  have HI := hide hi
  have HZ := hide (And.intro hz0 (And.intro hz1 hz2))
  clear hi hz0 hz1 hz2
  have RW := hide (refwords_any kb hk hkb s hs ct)
  have PA := hide places_any
  have RQS := hide refQuarter_same
  obtain ⟨l, hl⟩ : ∃ l, l = beginF kb s ct := ⟨_, rfl⟩
  have ll : l.length = 16 := by rw [hl, beginF_len]
  rw [← hl] at RW ⊢
  have K23 : Hid ((Try.prog.info? 23).map (·.size) = some (ints .u8 kb).size) := by show _ = _; rw [ints_size, hk]; kernel_rfl
  have I42 := hide (sz42 l ll)
  have Z42 : Hid ((ints .u32 (zeros 16)).size = (ints .u32 l).size) := by show _ = _; rw [ints_size, ints_size, ll]; rfl
  have HR0 : Hid (Row (w.alloc (.cells (ints .u8 kb) 23)) w.heap.size 23 .u8 kb) := Row.new _ _ _ _
  have LL := hide ll
  have S49 := hide sz49
  have Z49 : Hid ((ints .i64 (List.replicate 32 0)).size = (ints .i64 places).size) := by show _ = _; rw [ints_size, ints_size]; rfl
  clear hl hk hs ll
  go_enter Try.func28, Try.ntmps28
  go_wp2_with (first | (refine wpList_load_row rfl 23 _ rfl _ rfl 23 (ints .u8 kb) (0, 0) _ HR0.out Try.underlying23 rfl K23.out ?_))
  refine (RW.out _).mono ?_
  rintro e W1 ⟨rfl, hb1⟩
  have HB1 : Hid (Below w.heap.size w W1) := ((Below.refl _ _).alloc (Nat.le_refl _) _).trans (hb1.mono (by simp))
  clear hb1 HR0
  go_upto_region 2 with (first | (refine wpList_store_row rfl 46 _ _ rfl _ (ints .u32 l) rfl rfl 46 _ (heap_alloc_new _ _) I42.out Z42.out (ints_one _ _) ?_))
  generalize hW2 : (W1.alloc _).setRow W1.heap.size _ = W2
  have R7 : Hid (Row W2 W1.heap.size 46 .u32 l) := by show Row _ _ _ _ _; rw [← hW2]; exact setRow_heap _ _ _ _ 46 _ (heap_alloc_new _ _)
  have B7 : Hid (Below w.heap.size w W2 ∧ w.heap.size ≤ W1.heap.size ∧ W1.heap.size < W2.heap.size) := by
    show _ ∧ _ ∧ _
    rw [← hW2]
    exact ⟨below_setRow (HB1.out.alloc HB1.out.size _) HB1.out.size _, HB1.out.size, by simp⟩
  clear hW2 HB1
  generalize W1.heap.size = b7 at *
  go_upto_region 3 with (first | (refine wpList_load_row rfl 46 _ rfl _ rfl 46 (ints .u32 l) (0, 0) _ R7.out Try.underlying46 rfl I42.out ?_) | (refine wpList_store_row rfl 46 _ _ rfl _ (ints .u32 l) rfl rfl 46 _ (heap_alloc_new _ _) I42.out Z42.out (ints_one _ _) ?_))
  generalize hW3 : (W2.alloc _).setRow W2.heap.size _ = W3
  have R8 : Hid (Row W3 W2.heap.size 46 .u32 l) := by show Row _ _ _ _ _; rw [← hW3]; exact setRow_heap _ _ _ _ 46 _ (heap_alloc_new _ _)
  have R72 : Hid (Row W3 b7 46 .u32 l) := by show Row _ _ _ _ _; rw [← hW3]; exact (R7.out.alloc _).farRow (by have := B7.out.2.2; omega) _
  have B8 : Hid (Below w.heap.size w W3 ∧ w.heap.size ≤ b7 ∧ b7 < W2.heap.size ∧ W2.heap.size < W3.heap.size) := by
    show _ ∧ _ ∧ _ ∧ _
    rw [← hW3]
    exact ⟨below_setRow (B7.out.1.alloc B7.out.1.size _) B7.out.1.size _, B7.out.2.1, B7.out.2.2, by simp⟩
  clear hW3 R7 B7
  generalize W2.heap.size = b8 at *
  go_wp2_with fail
  refine (PA.out _).mono ?_
  rintro e W4 ⟨rfl, hb4⟩
  have R8b := hide (R8.out.below hb4 R8.out.lt)
  have R7b := hide (R72.out.below hb4 R72.out.lt)
  have B9 : Hid (Below w.heap.size w W4 ∧ w.heap.size ≤ b7 ∧ b7 < b8 ∧ b8 < W4.heap.size) := ⟨B8.out.1.trans (hb4.mono B8.out.1.size), B8.out.2.1, B8.out.2.2.1, by have := B8.out.2.2.2; have := hb4.size; omega⟩
  clear hb4 R8 R72 B8
  go_upto_region 4 with (first | (refine wpList_store_row rfl 79 _ _ rfl _ (ints .i64 places) rfl rfl 79 _ (heap_alloc_new _ _) S49.out Z49.out (ints_one _ _) ?_))
  generalize hW5 : (W4.alloc _).setRow W4.heap.size _ = W5
  have hM : RB w b7 b8 W4.heap.size l l W5 := by
    rw [← hW5]
    have h1 := B9.out.1.size
    have h2 := B9.out.2.1
    have h3 := B9.out.2.2.1
    have h4 := B9.out.2.2.2
    exact ⟨(R7b.out.alloc _).farRow (by omega) _, (R8b.out.alloc _).farRow (by omega) _, setRow_heap _ _ _ _ 79 _ (heap_alloc_new _ _), below_setRow (B9.out.1.alloc h1 _) h1 _, by omega⟩
  clear hW5 R7b R8b B9
  generalize W4.heap.size = b9 at *
  clear RW PA K23 I42 Z42 S49 Z49
  go_wp2
  go_loopw [10] (fun i W => ∃ k : Nat, k ≤ 10 ∧ i = .int .i64 k ∧ RB w b7 b8 b9 l (rounds l k) W) (fun i _ => 10 - (intOf i).toNat)
  case atStart => exact ⟨0, by omega, rfl, hM⟩
  case round =>
    clear hM
    obtain ⟨k, hk, rfl, hM⟩ := hrel
    by_cases hlt : k < 10
    · obtain ⟨m, hm⟩ : ∃ m, m = rounds l k := ⟨_, rfl⟩
      have HML : Hid (m.length = 16) := by show _ = _; rw [hm, rounds_len, LL.out]
      rw [← hm] at hM
      have HM := hide hm
      clear hm
      go_wp2
      go_loopw [11] (fun i W => ∃ j : Nat, j ≤ 8 ∧ i = .int .i64 j ∧ RB w b7 b8 b9 l (plTo m j) W) (fun i _ => 8 - (intOf i).toNat)
      case atStart => exact ⟨0, by omega, rfl, hM⟩
      case round =>
        clear hM
        obtain ⟨j, hj, rfl, hM⟩ := hrel
        by_cases hlt2 : j < 8
        · have c0 := hM.pls.at_ (i := 4 * j + 0) (by show 4 * j + 0 < 32; omega)
          have c1 := hM.pls.at_ (i := 4 * j + 1) (by show 4 * j + 1 < 32; omega)
          have c2 := hM.pls.at_ (i := 4 * j + 2) (by show 4 * j + 2 < 32; omega)
          have c3 := hM.pls.at_ (i := 4 * j + 3) (by show 4 * j + 3 < 32; omega)
          rw [pl_int, Nat.mul_comm 4 j] at c0 c1 c2 c3
          rw [Nat.add_zero] at c0
          have HPN := hide (pl_ne j hlt2)
          have HP0 := hide (pl_lt j 0)
          have HP1 := hide (pl_lt j 1)
          have HP2 := hide (pl_lt j 2)
          have HP3 := hide (pl_lt j 3)
          have HQ : Hid (plTo m (j + 1) = quarter (plTo m j) (pl j 0) (pl j 1) (pl j 2) (pl j 3)) := rfl
          have HN : Hid ((plTo m j).length = 16) := by show _ = _; rw [plTo_len, HML.out]
          have HMM := hide hM
          clear hM
          generalize pl j 0 = p0 at *
          generalize pl j 1 = p1 at *
          generalize pl j 2 = p2 at *
          generalize pl j 3 = p3 at *
          go_upto_region 11 with fail
          clear c0 c1 c2 c3
          have HA := hide (RC.start (p0 := p0) (p1 := p1) (p2 := p2) (p3 := p3) HMM.out)
          generalize wr.alloc (.cells #[.int .i64 p0, .int .i64 p1, .int .i64 p2, .int .i64 p3] 78) = WA at *
          generalize wr.heap.size = b12 at *
          clear HMM
          have d0 := HA.out.c0
          have d1 := HA.out.c1
          have d2 := HA.out.c2
          have d3 := HA.out.c3
          have hl0 := HP0.out
          have hl1 := HP1.out
          have hl2 := HP2.out
          have hl3 := HP3.out
          have e0 := HA.out.rb.now.at_ (i := p0) (by rw [HN.out]; exact hl0)
          have e1 := HA.out.rb.now.at_ (i := p1) (by rw [HN.out]; exact hl1)
          have e2 := HA.out.rb.now.at_ (i := p2) (by rw [HN.out]; exact hl2)
          have e3 := HA.out.rb.now.at_ (i := p3) (by rw [HN.out]; exact hl3)
          have z0 : (0 : Int) ≤ p0 := by omega
          have z1 : (0 : Int) ≤ p1 := by omega
          have z2 : (0 : Int) ≤ p2 := by omega
          have z3 : (0 : Int) ≤ p3 := by omega
          have y0 : (p0 : Int) < 16 := by omega
          have y1 : (p1 : Int) < 16 := by omega
          have y2 : (p2 : Int) < 16 := by omega
          have y3 : (p3 : Int) < 16 := by omega
          go_quiet (first | (go_at_call 43; refine Calls.quiet_of_same (RQS.out _ _ _ _ _)))
          have HSS : Hid (plTo m (j + 1) = ((((plTo m j).set p0 (q2a (gi (plTo m j) p0) (gi (plTo m j) p1) (gi (plTo m j) p2) (gi (plTo m j) p3))).set p1 (q2b (gi (plTo m j) p0) (gi (plTo m j) p1) (gi (plTo m j) p2) (gi (plTo m j) p3))).set p2 (q2c (gi (plTo m j) p0) (gi (plTo m j) p1) (gi (plTo m j) p2) (gi (plTo m j) p3))).set p3 (q2d (gi (plTo m j) p0) (gi (plTo m j) p1) (gi (plTo m j) p2) (gi (plTo m j) p3))) := by
            show _ = _
            rw [HQ.out]
            exact quarter_sets _ HN.out p0 p1 p2 p3 hl0 hl1 hl2 hl3 HPN.out
          clear e0 e1 e2 e3 d0 d1 d2 d3 HQ
          generalize q2a (gi (plTo m j) p0) (gi (plTo m j) p1) (gi (plTo m j) p2) (gi (plTo m j) p3) = x0 at *
          generalize q2b (gi (plTo m j) p0) (gi (plTo m j) p1) (gi (plTo m j) p2) (gi (plTo m j) p3) = x1 at *
          generalize q2c (gi (plTo m j) p0) (gi (plTo m j) p1) (gi (plTo m j) p2) (gi (plTo m j) p3) = x2 at *
          generalize q2d (gi (plTo m j) p0) (gi (plTo m j) p1) (gi (plTo m j) p2) (gi (plTo m j) p3) = x3 at *
          have K0 := hide (HA.out.drewN nq)
          clear HA
          generalize WA.drewN nq = WB at *
          have d := K0.out.c0
          have c := K0.out.rb.now.at_ (i := p0) (by rw [HN.out]; exact hl0)
          have f := K0.out.rb.now.free p0
          go_upto_region 13 with fail
          have K1 := hide (K0.out.store p0 x0)
          generalize WB.setCell ⟨b8, p0, none⟩ (.int .u32 x0) = WC at *
          clear d c f K0
          have d := K1.out.c1
          have c := K1.out.rb.now.at_ (i := p1) (by rw [List.length_set, HN.out]; exact hl1)
          have f := K1.out.rb.now.free p1
          go_upto_region 14 with fail
          have K2 := hide (K1.out.store p1 x1)
          generalize WC.setCell ⟨b8, p1, none⟩ (.int .u32 x1) = WD at *
          clear d c f K1
          have d := K2.out.c2
          have c := K2.out.rb.now.at_ (i := p2) (by rw [List.length_set, List.length_set, HN.out]; exact hl2)
          have f := K2.out.rb.now.free p2
          go_upto_region 15 with fail
          have K3 := hide (K2.out.store p2 x2)
          generalize WD.setCell ⟨b8, p2, none⟩ (.int .u32 x2) = WE at *
          clear d c f K2
          have d := K3.out.c3
          have c := K3.out.rb.now.at_ (i := p3) (by rw [List.length_set, List.length_set, List.length_set, HN.out]; exact hl3)
          have f := K3.out.rb.now.free p3
          have K4 : Hid (RB w b7 b8 b9 l (plTo m (j + 1)) (WE.setCell ⟨b8, p3, none⟩ (.int .u32 x3))) := by show RB _ _ _ _ _ _ _; rw [HSS.out]; exact (K3.out.store p3 x3).rb
          clear K3
          go_wp2
          exact ⟨⟨j + 1, by omega, by go_num, K4.out⟩, by simp [intOf]; omega⟩
        · have hj8 : j = 8 := by omega
          rw [hj8, plTo_all] at hM
          clear hj8
          have e : diags (cols m 4) 4 = rounds l (k + 1) := by rw [HM.out]; rfl
          rw [e] at hM
          clear e
          go_wp2
          exact ⟨⟨k + 1, by omega, by go_num, hM⟩, by simp [intOf]; omega⟩
    · have hk10 : k = 10 := by omega
      rw [hk10] at hM
      clear hk10
      obtain ⟨m, hm⟩ : ∃ m, m = rounds l 10 := ⟨_, rfl⟩
      have HML : Hid (m.length = 16) := by show _ = _; rw [hm, rounds_len, LL.out]
      rw [← hm] at hM
      have HM := hide hm
      clear hm
      have hO := RO.start hM
      generalize wr.heap.size = base at hO
      clear hM
      go_wp2
      go_loopw [17, 18] (fun v i W => ∃ k : Nat, k ≤ 16 ∧ i = .int .i64 k ∧ RO w b7 b8 b9 base l m k v W) (fun _ i _ => 16 - (intOf i).toNat)
      case atStart => exact ⟨0, by omega, rfl, hO⟩
      case round =>
        clear hO
        obtain ⟨q, hq, rfl, hO⟩ := hrel
        by_cases hlt3 : q < 16
        · have q0 : (0 : Int) ≤ q := by omega
          have q1 : (q : Int) < 16 := by omega
          have c1 := hO.rb.now.at_ (i := q) (by rw [HML.out]; omega)
          have c2 := hO.rb.first.at_ (i := q) (by rw [LL.out]; omega)
          have HO := hide hO
          clear hO
          go_upto_region 20 with fail
          go_quiet (fail)
          clear c1 c2
          have HON := hide (HO.out.drewN nq)
          clear HO
          generalize wr.drewN nq = WB at *
          have hx0 : 0 ≤ (gi m q + gi l q) % 4294967296 := by omega
          have hx1 : (gi m q + gi l q) % 4294967296 ≤ 4294967295 := by omega
          have HX : Hid ((gi m q + gi l q) % 4294967296 = addU (gi m q) (gi l q)) := rfl
          generalize (gi m q + gi l q) % 4294967296 = x at *
          have HF : Hid ((four (addU (gi m q) (gi l q))).map (Value.int .u8) = [.int .u8 (x % 256), .int .u8 (x / 256 % 256), .int .u8 (x / 65536 % 256), .int .u8 (x / 16777216)]) := by
            show _ = _
            rw [← HX.out]
            simp only [four, List.map_cons, List.map_nil]
            rw [show x / 16777216 % 256 = x / 16777216 by omega]
          have hol : (outR m l q).length ≤ 64 := by rw [outR_len]; omega
          have HOL := hide hol
          clear hol
          have HAL := hide (fun o => HON.out.alloc o)
          go_wp2_with (at_builtin; refine wpList_append_own _ rfl _ _ 38 rfl base 5 i0 (.int .u8 0) 1 1 Try.underlying38 HI.out HZ.out.1 HZ.out.2.1 HZ.out.2.2 rfl (by decide) _ _ _ rfl (HAL.out _).own ⟨WB.heap.size, 0, none⟩ 4 4 [.int .u8 (x % 256), .int .u8 (x / 256 % 256), .int .u8 (x / 65536 % 256), .int .u8 (x / 16777216)] rfl rfl ?c1 ?c2 ?c3 ?c4 ?c5 ?_)
          case c1 => exact news_new _ _ _
          case c2 => simp [Value.oneCell']
          case c3 => have := HOL.out; unfold maxLen; omega
          case c4 => have := HOL.out; omega
          case c5 => exact (HAL.out _).lo.2.2.2
          intro v' w1 hown1 hgrow _
          rw [← HF.out] at hown1
          have hN := (HAL.out _).more hown1 hgrow
          clear hown1 hgrow
          go_wp2
          exact ⟨⟨q + 1, by omega, by go_num, hN⟩, by simp [intOf]; omega⟩
        · have hq16 : q = 16 := by omega
          rw [hq16] at hO
          clear hq16
          have cv := hO.own.conv Try.underlying38 Try.underlying5 Try.underlying9
          rw [outR_all] at cv
          have HB := hide hO.rb.below
          clear hO
          have e : outTo m l 16 = mixF l := by rw [HM.out]; rfl
          rw [e] at cv
          clear e
          go_wp2
          go_ret
          exact ⟨rfl, HB.out⟩
end

section
open Go.RowKit
/-- the load of a whole row, at an operation that is guarded and wanted -/
theorem wpList_load_row_w {P : Program} {ops : Array Oper} {rest : List Oper} {o : Oper} {a : Act} {w : World} {Q : Exit → Act → World → Prop} (hw : Region.wanted o (yielded ops a.tmps) = true) (ty : TypeId) (x : Operand) (ho : o.op = .load ty x)
    (g : Nat) (hx : a.eval x = .pointer (some ⟨g, 0, none⟩)) (t : TypeId) (cs : Array Value) (fr : Nat × Nat) (d : TypeDesc) (hg : w.heap[g]? = some (.cells cs t fr))
    (hu : P.underlying ty = some d) (hd : (match d with | .struct _ | .array _ _ => true | _ => false) = true) (hi : (P.info? ty).map (·.size) = some cs.size)
    (h : wpList P ops Q rest (a.put o.dst (.agg cs)) w) : wpList P ops Q (o :: rest) a w :=
  BigFrame.wpList_want hw fun _ hK => wp_load_row ty x ho g hx t cs fr d hg hu hd hi (hK _ _ h)
end

section
open Go.RowKit
/-- append to a slice of the call's own, as one step of a region that draws. -/
theorem step_append_own {P : Program} {ops : Array Oper} {o : Oper} {a : Act} {w : World} {K : Act → World → Prop} {Q : Exit → Act → World → Prop} {E : Prop}
    (hg : o.guard = none) (s x : Operand) (t : TypeId) (ho : o.op = .call { callee := .builtin .append, args := #[s, x], argTypes := #[t, t] })
    (base : Nat) (e : TypeId) (i : TypeInfo) (z : Value) (size bytes : Nat) (ht : P.underlying t = some (.slice e)) (hi : P.info? e = some i) (hz : i.zero = some z)
    (hsize : i.size = size) (hby : i.bytes = bytes) (hzs : z.cells.size = size) (hsz : 0 < size)
    (v : Value) (n : Nat) (xs : List Value) (hs : a.eval s = v) (hown : w.ownsRow base e size v n xs)
    (ad : Addr) (m c : Nat) (news : List Value) (hx : a.eval x = .slice (some ad) m c) (hl : news.length = m * size) (hnews : ∀ j u, news[j]? = some u → w.cell? (ad.add j) = some u) (h1 : ∀ u ∈ news, u.oneCell' = true)
    (h63 : n + m ≤ maxLen) (hbytes : (n + m) * bytes ≤ 140737488355328) (hbase : base ≤ w.heap.size)
    (h : ∀ v' w', w'.ownsRow base e size v' (n + m) (xs ++ news) → w.grownBy w' v.ownBlock → K (a.put o.dst v') w') :
    if Region.wanted o (yielded ops a.tmps) = true then Oper.wp P o a w K Q else E := by
  rw [if_pos (by simp [Region.wanted, hg])]
  exact wp_append_own w s x t ho base e i z size bytes ht hi hz hsize hby hzs hsz v n xs hs hown ad m c news hx hl hnews h1 h63 hbytes hbase fun v' w' h2 h3 _ => h v' w' h2 h3
def refTo (f : Nat → Int) (t : ByteArray) : Nat → List Int
  | 0 => []
  | k + 1 => refTo f t k ++ [bits .xor .u8 (gb t k) (f k)]
theorem refTo_len (f : Nat → Int) (t : ByteArray) (k : Nat) : (refTo f t k).length = k := by
  induction k with
  | zero => rfl
  | succ k ih => simp [refTo, ih]
theorem refTo_at (f : Nat → Int) (t : ByteArray) (k i : Nat) (h : i < k) : gi (refTo f t k) i = bits .xor .u8 (gb t i) (f i) := by
  induction k with
  | zero => omega
  | succ k ih =>
    by_cases e : i = k
    · subst e
      unfold gi refTo
      rw [List.getD_eq_getElem?_getD, List.getElem?_append_right (by rw [refTo_len]; omega), refTo_len, Nat.sub_self]
      rfl
    · have h2 : i < k := by omega
      rw [← ih h2]
      unfold gi
      rw [List.getD_eq_getElem?_getD, List.getD_eq_getElem?_getD, refTo, List.getElem?_append_left (by rw [refTo_len]; exact h2)]
theorem refTo_all (f : Nat → Int) (t : ByteArray) : refTo f t t.size = mskTo f (nums t) t.size := by
  apply list_ext_gi
  · rw [refTo_len, mskTo_len, nums_len]
  · intro i hi
    rw [refTo_len] at hi
    rw [refTo_at _ _ _ _ hi, mskTo_done _ _ _ _ hi (by rw [nums_len]; omega), gi_nums _ _ hi]
/-- what the reference's Mask keeps -/
structure MR (w : World) (b4 base : Nat) (kb o : List Int) (v : Value) (W : World) : Prop where
  key : Row W b4 23 .u8 kb
  own : OwnB W base 5 v o
  below : Below w.heap.size w W
  lo : w.heap.size ≤ b4 ∧ b4 < base ∧ base ≤ W.heap.size
theorem MR.drew {w W : World} {b4 base : Nat} {kb o : List Int} {v : Value} (h : MR w b4 base kb o v W) : MR w b4 base kb o v W.drew := ⟨h.key, h.own, h.below.drew, h.lo⟩
theorem MR.alloc {w W : World} {b4 base : Nat} {kb o : List Int} {v : Value} (h : MR w b4 base kb o v W) (x : Obj) : MR w b4 base kb o v (W.alloc x) := ⟨h.key.alloc _, h.own.alloc _, h.below.alloc h.below.size _, by have := h.lo; simp; omega⟩
theorem MR.next {w W W' : World} {b4 base : Nat} {kb o : List Int} {v : Value} (h : MR w b4 base kb o v W) (hb : Below W.heap.size W W') : MR w b4 base kb o v W' :=
  ⟨h.key.below hb h.key.lt, World.ownsRow.kept h.own (grown_of_below hb none) (by cases hv : v.ownBlock <;> simp), h.below.trans (hb.mono h.below.size), h.lo.1, h.lo.2.1, Nat.le_trans h.lo.2.2 hb.size⟩
theorem MR.more {w W W' : World} {b4 base : Nat} {kb o : List Int} {v v' : Value} {x : Int} (h : MR w b4 base kb o v W)
    (ho : W'.ownsRow base 5 1 v' (o.length + 1) (o.map (Value.int .u8) ++ [Value.int .u8 x])) (hg : W.grownBy W' v.ownBlock) : MR w b4 base kb (o ++ [x]) v' W' := by
  have hlo := h.own.lo
  obtain ⟨l1, l2, l3⟩ := h.lo
  refine ⟨h.key.grew hg hlo l2, OwnB.more (n := 1) (news := [x]) rfl ho, h.below.grown hg h.below.size (fun r hr => ?_), l1, l2, Nat.le_trans l3 hg.size⟩
  have := hlo r hr
  omega
theorem blk_begin (kb : List Int) (s : ByteArray) (ct : Int) (j : Nat) : blk kb s ct j = beginF kb s ((ct + j) % 4294967296) := by
  rw [blk, beginF_set]
set_option maxRecDepth 100000 in
set_option maxHeartbeats 1000000 in
theorem refmask_any (kb : List Int) (hk : kb.length = 32) (hkb : Bytes kb) (s : ByteArray) (hs : s.size = 12) (ct : Int) (text : ByteArray) (ht : text.size ≤ 2000) (w : World) :
    Calls Try.prog 17 #[.agg (ints .u8 kb), .string s, .int .u32 ct, .string text] w fun e w' => e = .returned (.string (strOfNums (mskTo (ks kb s ct) (nums text) text.size))) ∧ Below w.heap.size w w' := by
  obtain ⟨i0, hi, hz0, hz1, hz2⟩ := info_parts info_u8
  have HI := hide hi
  have HZ := hide (And.intro hz0 (And.intro hz1 hz2))
  clear hi hz0 hz1 hz2
  have K23 : Hid ((Try.prog.info? 23).map (·.size) = some (ints .u8 kb).size) := by show _ = _; rw [ints_size, hk]; kernel_rfl
  have RB := hide (fun c => refblock_any kb hk hkb s hs c)
  have HT := hide ht
  have hM0 : MR w w.heap.size (w.heap.size + 1) kb [] (.slice none 0 0) (w.alloc (.cells (ints .u8 kb) 23)) :=
    ⟨Row.new _ _ _ _, OwnB.nil _ _ _, (Below.refl _ _).alloc (Nat.le_refl _) _, by simp⟩
  have HM0 := hide hM0
  have ht' : (text.size : Int) ≤ 2000 := by omega
  clear hM0 hk hs ht
  go_enter Try.func17, Try.ntmps17
  go_wp2_with fail
  generalize hW : w.alloc (.cells (ints .u8 kb) 23) = W0 at *
  clear hW
  generalize w.heap.size + 1 = base at *
  obtain ⟨b4, hb4⟩ : ∃ b4, b4 = w.heap.size := ⟨_, rfl⟩
  rw [← hb4] at HM0 ⊢
  clear hb4
  go_loopw [9, 10, 11] (fun v b i W => ∃ k : Nat, k ≤ text.size ∧ i = .int .i64 k ∧ (∃ bs : ByteArray, b = .string bs ∧ (k % 64 ≠ 0 → bs = strOfNums (mixF (blk kb s ct (k / 64))))) ∧ MR w b4 base kb (refTo (ks kb s ct) text k) v W) (fun _ _ i _ => text.size - (intOf i).toNat)
  case atStart => exact ⟨0, by omega, rfl, ⟨_, rfl, by omega⟩, HM0.out⟩
  case round =>
    clear HM0
    obtain ⟨k, hk, rfl, ⟨bs, rfl, hbs⟩, hM⟩ := hrel
    by_cases hlt : k < text.size
    · have hlt' : (k : Int) < text.size := by omega
      have hk0 : (0 : Int) ≤ k := by omega
      obtain ⟨r, hr⟩ : ∃ r, r = k % 64 := ⟨_, rfl⟩
      obtain ⟨j, hj⟩ : ∃ j, j = k / 64 := ⟨_, rfl⟩
      have hr1 : (k : Int) % 64 = (r : Int) := by omega
      have hr2 : (k : Int).tmod 64 = (r : Int) := by rw [Int.tmod_eq_emod_of_nonneg hk0]; exact hr1
      have hj1 : (k : Int) / 64 = (j : Int) := by omega
      have hj2 : (k : Int).tdiv 64 = (j : Int) := by rw [Int.tdiv_eq_ediv_of_nonneg hk0]; exact hj1
      have hj3 : (0 : Int) ≤ j := by omega
      have hj4 : (j : Int) ≤ 2000 := by omega
      have hr64 : r < 64 := by omega
      have HL : Hid ((refTo (ks kb s ct) text k).length ≤ 2000) := by show _ ≤ _; rw [refTo_len]; have := HT.out; omega
      have ix : ∀ W : World, (Instr.index 9 (.string text) (.int .i64 (k : Int))).run Try.prog W = .ok (.int .u8 (gb text k)) W := fun W => index_str W 9 .i64 text k Try.underlying9 hlt
      have HKS : Hid (gb (strOfNums (mixF (blk kb s ct j))) r = ks kb s ct k) := by
        show _ = _
        rw [gb_nums _ (mixF_bytes _) _ (by rw [mixF_len]; exact hr64), ks, hr, hj]
      have HSZ : Hid ((strOfNums (mixF (blk kb s ct j))).size = 64) := by show _ = _; rw [snum_size, mixF_len]
      have HBK : Hid (blk kb s ct j = beginF kb s ((ct + j) % 4294967296)) := blk_begin _ _ _ _
      have HMM := hide hM
      rw [← hr, ← hj] at hbs
      clear hM hk
      have HJ := hide hj
      by_cases hz : r = 0
      · subst hz
        clear hbs hr hj
        have hr1' : (k : Int) % 64 = 0 := hr1
        have hr2' : (k : Int).tmod 64 = 0 := hr2
        clear hr1 hr2 hr64
        have HRB := hide (RB.out ((ct + j) % 4294967296))
        rw [← HBK.out] at HRB
        obtain ⟨o, ho⟩ : ∃ o, o = strOfNums (mixF (blk kb s ct j)) := ⟨_, rfl⟩
        rw [← ho] at HRB HKS HSZ
        have HOE := hide ho
        clear ho
        have R4 := hide HMM.out.key
        go_wp2_with (refine wpList_load_row rfl 23 _ rfl _ rfl 23 (ints .u8 kb) (0, 0) _ R4.out Try.underlying23 rfl K23.out ?_)
        refine (HRB.out _).mono ?_
        rintro e w2 ⟨rfl, hb2⟩
        have HMM2 := hide (HMM.out.next hb2)
        clear hb2 HMM R4
        have HMM := HMM2
        clear HMM2
        have ix2 : ∀ W : World, (Instr.index 9 (.string o) (.int .i64 0)).run Try.prog W = .ok (.int .u8 (gb o 0)) W := fun W => index_str W 9 .i64 o 0 Try.underlying9 (by rw [HSZ.out]; omega)
        have HD := hide (HMM.out.drew)
        clear HMM
        go_wp2_with fail
        go_region_law (first | (refine step_append_own rfl _ _ 38 rfl base 5 i0 (.int .u8 0) 1 1 Try.underlying38 HI.out HZ.out.1 HZ.out.2.1 HZ.out.2.2 rfl (by decide) _ _ _ rfl (HD.out.alloc _).own ⟨_, 0, none⟩ 1 1 [.int .u8 (bits .xor .u8 (gb text k) (gb o 0))] rfl rfl (news_new _ _ _) (by simp [Value.oneCell']) (by have := HL.out; unfold maxLen; omega) (by have := HL.out; omega) (HD.out.alloc _).lo.2.2 ?_; intro v' w1 hown hgrow))
        all_goals (
          rw [HKS.out] at hown
          have hN : MR w b4 base kb (refTo (ks kb s ct) text (k + 1)) v' w1 := (HD.out.alloc _).more hown hgrow
          clear hown hgrow ix ix2
          try go_wp2
          refine ⟨⟨k + 1, by omega, by go_num, ⟨o, rfl, fun h => ?_⟩, hN⟩, by simp [intOf]; omega⟩
          rw [HOE.out, HJ.out, show (k + 1) / 64 = k / 64 by omega])
      · have hz1 : ((r : Int) == 0) = false := by simp; omega
        obtain ⟨o, ho⟩ : ∃ o, o = strOfNums (mixF (blk kb s ct j)) := ⟨_, rfl⟩
        have hbs' : bs = o := by rw [ho]; exact hbs hz
        subst hbs'
        rw [← ho] at HKS HSZ
        have HOE := hide ho
        clear hbs hr hj ho hz
        have ix2 : ∀ W : World, (Instr.index 9 (.string bs) (.int .i64 (r : Int))).run Try.prog W = .ok (.int .u8 (gb bs r)) W := fun W => index_str W 9 .i64 bs r Try.underlying9 (by rw [HSZ.out]; exact hr64)
        have HD := hide (HMM.out.drew)
        clear HMM
        go_wp2_with fail
        go_region_law (first | (refine step_append_own rfl _ _ 38 rfl base 5 i0 (.int .u8 0) 1 1 Try.underlying38 HI.out HZ.out.1 HZ.out.2.1 HZ.out.2.2 rfl (by decide) _ _ _ rfl (HD.out.alloc _).own ⟨_, 0, none⟩ 1 1 [.int .u8 (bits .xor .u8 (gb text k) (gb bs r))] rfl rfl (news_new _ _ _) (by simp [Value.oneCell']) (by have := HL.out; unfold maxLen; omega) (by have := HL.out; omega) (HD.out.alloc _).lo.2.2 ?_; intro v' w1 hown hgrow))
        all_goals (
          rw [HKS.out] at hown
          have hN : MR w b4 base kb (refTo (ks kb s ct) text (k + 1)) v' w1 := (HD.out.alloc _).more hown hgrow
          clear hown hgrow ix ix2
          try go_wp2
          refine ⟨⟨k + 1, by omega, by go_num, ⟨bs, rfl, fun h => ?_⟩, hN⟩, by simp [intOf]; omega⟩
          rw [HOE.out, HJ.out, show (k + 1) / 64 = k / 64 by omega])
    · have hkn : k = text.size := by omega
      subst hkn
      have cv := hM.own.conv Try.underlying38 Try.underlying5 Try.underlying9
      rw [refTo_all] at cv
      have HB := hide hM.below
      clear hM hbs hlt hk
      have hlt : ¬ (text.size : Int) < text.size := by omega
      go_wp2
      go_ret
      exact ⟨rfl, HB.out⟩
end
end Go.Proofs.Ytjfjakighnibpaa.St
