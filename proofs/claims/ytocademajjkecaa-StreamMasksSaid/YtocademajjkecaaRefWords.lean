/-
  The reference's words of a block and the places of its rounds, by their text.
-/
import Derived.Test.YtocademajjkecaaTurn
namespace Go.Proofs.Ytocademajjkecaa
open Go.RowKit
/-- four bytes as a word, by sums -/
def sum4 (a b c d : Int) : Int := a + b * 256 + c * 65536 + d * 16777216
theorem word4_sum (a b c d : Int) (ha : 0 ≤ a ∧ a ≤ 255) (hb : 0 ≤ b ∧ b ≤ 255) (hc : 0 ≤ c ∧ c ≤ 255) (hd : 0 ≤ d ∧ d ≤ 255) : word4 a b c d = sum4 a b c d := by
  unfold word4 sum4
  have e1 : bits .or .u32 a (b * 256) = b * 256 + a := or_join' 8 _ _ ⟨by omega, by omega⟩ ⟨by omega, by omega⟩ (by omega) (by omega)
  rw [e1]
  have e2 : bits .or .u32 (b * 256 + a) (c * 65536) = c * 65536 + (b * 256 + a) := or_join' 16 _ _ ⟨by omega, by omega⟩ ⟨by omega, by omega⟩ (by omega) (by omega)
  rw [e2]
  have e3 : bits .or .u32 (c * 65536 + (b * 256 + a)) (d * 16777216) = d * 16777216 + (c * 65536 + (b * 256 + a)) := or_join' 24 _ _ ⟨by omega, by omega⟩ ⟨by omega, by omega⟩ (by omega) (by omega)
  rw [e3]
  omega
theorem refword_any (s : ByteArray) (i : Nat) (h : i + 4 ≤ s.size) (hi : i ≤ 1000) (w : World) :
    Calls Try.prog 22 #[.string s, .int .i64 i] w fun e w' => e = .returned (.int .u32 (word4 (gb s i) (gb s (i + 1)) (gb s (i + 2)) (gb s (i + 3)))) ∧ ∃ n, w' = w.drewN n := by
  have i0 : ∀ W : World, (Instr.index 9 (.string s) (.int .i64 (i : Int))).run Try.prog W = .ok (.int .u8 (gb s i)) W := fun W => index_str W 9 .i64 s i Try.underlying9 (by omega)
  have i1 : ∀ W : World, (Instr.index 9 (.string s) (.int .i64 ((i : Int) + 1))).run Try.prog W = .ok (.int .u8 (gb s (i + 1))) W := fun W => index_str W 9 .i64 s (i + 1) Try.underlying9 (by omega)
  have i2 : ∀ W : World, (Instr.index 9 (.string s) (.int .i64 ((i : Int) + 2))).run Try.prog W = .ok (.int .u8 (gb s (i + 2))) W := fun W => index_str W 9 .i64 s (i + 2) Try.underlying9 (by omega)
  have i3 : ∀ W : World, (Instr.index 9 (.string s) (.int .i64 ((i : Int) + 3))).run Try.prog W = .ok (.int .u8 (gb s (i + 3))) W := fun W => index_str W 9 .i64 s (i + 3) Try.underlying9 (by omega)
  have b0 := gb_bd s i
  have b1 := gb_bd s (i + 1)
  have b2 := gb_bd s (i + 2)
  have b3 := gb_bd s (i + 3)
  have hw := hide (word4_sum _ _ _ _ b0 b1 b2 b3)
  generalize gb s i = x0 at *
  generalize gb s (i + 1) = x1 at *
  generalize gb s (i + 2) = x2 at *
  generalize gb s (i + 3) = x3 at *
  have z0 : (0 : Int) ≤ i := by omega
  have z1 : (i : Int) ≤ 1000 := by omega
  clear h hi
  go_enter Try.func22, Try.ntmps22
  go_wp2_with fail
  go_quiet (fail)
  go_wp2
  go_ret
  rw [hw.out]
  exact ⟨rfl, nq, rfl⟩

/-- what the reference's Words keeps -/
structure BR (w : World) (b0 b1 b2 : Nat) (kb l : List Int) (W : World) : Prop where
  key : Row W b0 23 .u8 kb
  res : Row W b1 42 .u32 (zeros 16)
  now : Row W b2 42 .u32 l
  below : Below w.heap.size w W
  lo : w.heap.size ≤ b0 ∧ w.heap.size ≤ b1 ∧ w.heap.size ≤ b2 ∧ b2 ≠ b0 ∧ b2 ≠ b1
theorem BR.next {w W W' : World} {b0 b1 b2 : Nat} {kb l l' : List Int} (h : BR w b0 b1 b2 kb l W) (hr : Row W' b2 42 .u32 l') (hg : W.grownBy W' (some b2)) : BR w b0 b1 b2 kb l' W' :=
  ⟨h.key.away hg (by have := h.lo; omega), h.res.away hg (by have := h.lo; omega), hr, below_of_grown h.below hg h.below.size h.lo.2.2.1, h.lo⟩
theorem BR.drewN {w W : World} {b0 b1 b2 : Nat} {kb l : List Int} (h : BR w b0 b1 b2 kb l W) (n : Nat) : BR w b0 b1 b2 kb l (W.drewN n) := ⟨h.key, h.res, h.now, below_drewN h.below n, h.lo⟩
theorem BR.store {w W : World} {b0 b1 b2 : Nat} {kb l : List Int} (h : BR w b0 b1 b2 kb l W) (i : Nat) (x : Int) : BR w b0 b1 b2 kb (l.set i x) (W.setCell ⟨b2, i, none⟩ (.int .u32 x)) :=
  h.next (h.now.set_ i x) (Row.grown_set _ _ _ _)
theorem BR.start (w : World) (kb : List Int) (o1 o2 : Obj) (h1 : o1 = .cells (ints .u32 (zeros 16)) 42) (h2 : o2 = .cells (ints .u32 (begK kb 0)) 42) :
    BR w w.heap.size (w.heap.size + 1) (w.heap.size + 1 + 1) kb (begK kb 0) (((w.alloc (.cells (ints .u8 kb) 23)).alloc o1).alloc o2) := by
  subst h1 h2
  exact ⟨heap_at0 _ _ _ _, heap_at1 _ _ _ _, heap_at2 _ _ _ _, (((Below.refl _ _).alloc (Nat.le_refl _) _).alloc (by simp) _).alloc (by simp only [World.size_alloc]; omega) _, by omega⟩
theorem sz42 (o : List Int) (h : o.length = 16) : (Try.prog.info? 42).map (·.size) = some (ints .u32 o).size := by rw [ints_size, h]; kernel_rfl
theorem all_slice23 (b : Nat) (W : World) : (Instr.sliceAt 23 (.pointer (some ⟨b, 0, none⟩)) none none none).run Try.prog W = .ok (.slice (some ⟨b, 0, none⟩) 32 32) W := by
  obtain ⟨i, hi, h1⟩ : ∃ i, Try.prog.info? 5 = some i ∧ i.size = 1 := ⟨_, rfl, by kernel_rfl⟩
  exact slice_all W 23 5 32 i Try.underlying23 hi h1 b (by omega)
theorem kword_key (kb : List Int) (hk : kb.length = 32) (hkb : Bytes kb) (k : Nat) (h : k < 8) : word4 (gb (strOfNums kb) (4 * k)) (gb (strOfNums kb) (4 * k + 1)) (gb (strOfNums kb) (4 * k + 2)) (gb (strOfNums kb) (4 * k + 3)) = kword kb k := by
  rw [gb_nums _ hkb _ (by omega), gb_nums _ hkb _ (by omega), gb_nums _ hkb _ (by omega), gb_nums _ hkb _ (by omega)]
  rfl
set_option maxRecDepth 100000 in
set_option maxHeartbeats 400000 in
theorem refwords_any (kb : List Int) (hk : kb.length = 32) (hkb : Bytes kb) (s : ByteArray) (hs : s.size = 12) (ct : Int) (w : World) :
    Calls Try.prog 17 #[.agg (ints .u8 kb), .string s, .int .u32 ct] w fun e w' => e = .returned (.agg (ints .u32 (beginF kb s ct))) ∧ Below w.heap.size w w' := by
  have WA := hide refword_any
  have HS := hide hs
  have HK := hide hk
  have KW := hide (kword_key kb hk hkb)
  clear hs hk
  go_enter Try.func17, Try.ntmps17
  go_upto_region 2 with fail
  generalize hW : ((w.alloc (.cells (ints .u8 kb) 23)).alloc _).alloc _ = W1
  have hB : BR w w.heap.size (w.heap.size + 1) (w.heap.size + 1 + 1) kb (begK kb 0) W1 := by rw [← hW]; exact BR.start w kb _ _ rfl rfl
  clear hW
  generalize w.heap.size + 1 + 1 = b2 at hB ⊢
  generalize w.heap.size + 1 = b1 at hB ⊢
  obtain ⟨b0, hb0⟩ : ∃ b0, b0 = w.heap.size := ⟨_, rfl⟩
  rw [← hb0] at hB ⊢
  clear hb0
  have sl : ∀ W : World, (Instr.sliceAt 23 (.pointer (some ⟨b0, 0, none⟩)) none none none).run Try.prog W = .ok (.slice (some ⟨b0, 0, none⟩) 32 32) W := fun W => all_slice23 b0 W
  have cv : (convert 46 9 (.slice (some ⟨b0, 0, none⟩) 32 32)).run Try.prog W1 = .ok (.string (strOfNums kb)) W1 :=
    conv_all W1 hB.key Try.underlying46 Try.underlying5 Try.underlying9 32 32 HK.out
  go_wp2
  clear sl cv
  go_loopw [9] (fun i W => ∃ k : Nat, k ≤ 8 ∧ i = .int .i64 k ∧ BR w b0 b1 b2 kb (begK kb k) W) (fun i _ => 8 - (intOf i).toNat)
  case atStart => exact ⟨0, by omega, rfl, hB⟩
  case round =>
    clear hB
    obtain ⟨k, hk, rfl, hB⟩ := hrel
    by_cases hlt : k < 8
    · have KWk := hide (KW.out k hlt)
      have WK := hide (WA.out (strOfNums kb) (4 * k) (by rw [snum_size, HK.out]; omega) (by omega))
      go_wp2_with fail
      refine (WK.out _).mono ?_
      rw [KWk.out]
      rintro e W ⟨rfl, nn, rfl⟩
      have hB2 : BR w b0 b1 b2 kb (begK kb (k + 1)) ((wr.drewN nn).setCell ⟨b2, 4 + k, none⟩ (.int .u32 (kword kb k))) := (hB.drewN nn).store (4 + k) (kword kb k)
      have HB2 := hide hB2
      have c := (hB.drewN nn).now.at_ (i := 4 + k) (by rw [begK_len]; omega)
      have f := (hB.drewN nn).now.free (4 + k)
      have z0 : (0 : Int) ≤ 4 + k := by omega
      have z1 : (4 + k : Int) < 16 := by omega
      clear hB hB2
      go_wp2
      exact ⟨⟨k + 1, by omega, by go_num, HB2.out⟩, by simp [intOf]; omega⟩
    · have hk8 : k = 8 := by omega
      rw [hk8] at hB
      clear hk8
      have hC := hide (hB.store 12 ct)
      have c := hB.now.at_ (i := 12) (by rw [begK_len]; omega)
      have f := hB.now.free 12
      have NL : Hid (((begK kb 8).set 12 ct).length = 16) := by show _ = _; rw [List.length_set, begK_len]
      have N0 : Hid (∀ W, Calls Try.prog 22 #[.string s, .int .i64 0] W fun e w' => e = .returned (.int .u32 (nword s 0)) ∧ ∃ n, w' = W.drewN n) := hide (fun W => WA.out s 0 (by rw [HS.out]; omega) (by omega) W)
      have N1 : Hid (∀ W, Calls Try.prog 22 #[.string s, .int .i64 4] W fun e w' => e = .returned (.int .u32 (nword s 1)) ∧ ∃ n, w' = W.drewN n) := hide (fun W => WA.out s 4 (by rw [HS.out]; omega) (by omega) W)
      have N2 : Hid (∀ W, Calls Try.prog 22 #[.string s, .int .i64 8] W fun e w' => e = .returned (.int .u32 (nword s 2)) ∧ ∃ n, w' = W.drewN n) := hide (fun W => WA.out s 8 (by rw [HS.out]; omega) (by omega) W)
      obtain ⟨lc, hlc⟩ : ∃ lc, lc = (begK kb 8).set 12 ct := ⟨_, rfl⟩
      rw [← hlc] at hC NL
      have HLC := hide hlc
      clear hlc hB
      go_wp2_with fail
      clear c f
      generalize wr.setCell ⟨b2, 12, none⟩ (.int .u32 ct) = W2 at hC ⊢
      refine (N0.out _).mono ?_
      rintro e W ⟨rfl, n0, rfl⟩
      have D1 := hide (hC.out.drewN n0)
      clear hC
      have c := D1.out.now.at_ (i := 13) (by rw [NL.out]; omega)
      have f := D1.out.now.free 13
      go_wp2_with fail
      clear c f
      have hD2 := hide (D1.out.store 13 (nword s 0))
      generalize (W2.drewN n0).setCell ⟨b2, 13, none⟩ (.int .u32 (nword s 0)) = W3 at hD2 ⊢
      refine (N1.out _).mono ?_
      rintro e W ⟨rfl, n1, rfl⟩
      have D2 := hide (hD2.out.drewN n1)
      clear hD2 D1
      have c := D2.out.now.at_ (i := 14) (by rw [List.length_set, NL.out]; omega)
      have f := D2.out.now.free 14
      go_wp2_with fail
      clear c f
      have hD3 := hide (D2.out.store 14 (nword s 1))
      generalize (W3.drewN n1).setCell ⟨b2, 14, none⟩ (.int .u32 (nword s 1)) = W4 at hD3 ⊢
      refine (N2.out _).mono ?_
      rintro e W ⟨rfl, n2, rfl⟩
      have D3 := hide (hD3.out.drewN n2)
      clear hD3 D2
      have c := D3.out.now.at_ (i := 15) (by rw [List.length_set, List.length_set, NL.out]; omega)
      have f := D3.out.now.free 15
      have hD4 : BR w b0 b1 b2 kb (begN s lc 3) ((W4.drewN n2).setCell ⟨b2, 15, none⟩ (.int .u32 (nword s 2))) := D3.out.store 15 (nword s 2)
      obtain ⟨o, ho⟩ : ∃ o, o = begN s lc 3 := ⟨_, rfl⟩
      have ol : o.length = 16 := by rw [ho, begN_len, NL.out]
      rw [← ho] at hD4
      have HO := hide ho
      have I42 := hide (sz42 o ol)
      have Z42 : Hid ((ints .u32 (zeros 16)).size = (ints .u32 o).size) := by show _ = _; rw [ints_size, ints_size, ol]; rfl
      have HN := hide hD4.now
      have HRs := hide hD4.res
      have HBl := hide hD4.below
      have HLo := hide hD4.lo
      clear ho ol hD4 D3
      go_upto_region 11 with fail
      clear c f
      generalize (W4.drewN n2).setCell ⟨b2, 15, none⟩ (.int .u32 (nword s 2)) = W5 at *
      go_wp2_with (first | (refine wpList_load_row rfl 42 _ rfl _ rfl 42 (ints .u32 o) (0, 0) _ HN.out Try.underlying42 rfl I42.out ?_) | (refine wpList_store_row rfl 42 _ _ rfl _ (ints .u32 o) rfl rfl 42 _ HRs.out I42.out Z42.out (ints_one _ _) ?_))
      refine bodyPost_ret (v := .agg (ints .u32 o)) (results_cell_row Try.results17 _ _ b1 42 (ints .u32 o) (0, 0) _ rfl (Row.put HRs.out _) Try.underlying42 rfl I42.out) rfl ⟨by rw [HO.out, HLC.out]; rfl, below_setRow HBl.out HLo.out.2.1 _⟩

def places : List Int := [0, 4, 8, 12, 1, 5, 9, 13, 2, 6, 10, 14, 3, 7, 11, 15, 0, 5, 10, 15, 1, 6, 11, 12, 2, 7, 8, 13, 3, 4, 9, 14]
theorem sz49 : (Try.prog.info? 49).map (·.size) = some (ints .i64 places).size := by rw [ints_size]; kernel_rfl
set_option maxRecDepth 100000 in
set_option maxHeartbeats 400000 in
theorem places_any (w : World) : Calls Try.prog 18 #[] w fun e w' => e = .returned (.agg (ints .i64 places)) ∧ Below w.heap.size w w' := by
  have HS := hide sz49
  go_enter Try.func18, Try.ntmps18
  go_upto_region 1 with fail
  go_wp2_with (first | (refine wpList_store_row rfl 49 _ _ rfl _ (ints .i64 places) rfl rfl 49 _ (heap_alloc_new _ _) HS.out (by rfl) (ints_one _ _) ?_))
  refine bodyPost_ret (v := .agg (ints .i64 places)) (results_cell_row Try.results18 _ _ w.heap.size 49 (ints .i64 places) (0, 0) _ rfl (setRow_heap _ _ _ _ 49 _ (heap_alloc_new _ _)) Try.underlying49 rfl HS.out) rfl ⟨rfl, below_setRow ((Below.refl _ _).alloc (Nat.le_refl _) _) (Nat.le_refl _) _⟩
end Go.Proofs.Ytocademajjkecaa
