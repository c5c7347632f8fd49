/-
  word and begin, by their text: a block's words ahead of all rounds.
-/
import Derived.Test.YtocademajjkecaaMixed
import Derived.Test.YtocademajjkecaaStr
namespace Go.Proofs.Ytocademajjkecaa
open Go.RowKit
/-- four bytes as a word, the lowest first, as the text reckons it -/
def word4 (a b c d : Int) : Int := bits .or .u32 (bits .or .u32 (bits .or .u32 a (b * 256)) (c * 65536)) (d * 16777216)
theorem word_any (s : ByteArray) (h : 4 ≤ s.size) (w : World) :
    Calls Try.prog 20 #[.string s] w fun e w' => e = .returned (.int .u32 (word4 (gb s 0) (gb s 1) (gb s 2) (gb s 3))) ∧ ∃ n, w' = w.drewN n := by
  have i0 : ∀ W : World, (Instr.index 9 (.string s) (.int .i64 0)).run Try.prog W = .ok (.int .u8 (gb s 0)) W := fun W => index_str W 9 .i64 s 0 Try.underlying9 (by omega)
  have i1 : ∀ W : World, (Instr.index 9 (.string s) (.int .i64 1)).run Try.prog W = .ok (.int .u8 (gb s 1)) W := fun W => index_str W 9 .i64 s 1 Try.underlying9 (by omega)
  have i2 : ∀ W : World, (Instr.index 9 (.string s) (.int .i64 2)).run Try.prog W = .ok (.int .u8 (gb s 2)) W := fun W => index_str W 9 .i64 s 2 Try.underlying9 (by omega)
  have i3 : ∀ W : World, (Instr.index 9 (.string s) (.int .i64 3)).run Try.prog W = .ok (.int .u8 (gb s 3)) W := fun W => index_str W 9 .i64 s 3 Try.underlying9 (by omega)
  have b0 := gb_bd s 0
  have b1 := gb_bd s 1
  have b2 := gb_bd s 2
  have b3 := gb_bd s 3
  clear h
  go_enter Try.func20, Try.ntmps20
  go_wp2_with fail
  go_quiet (fail)
  go_wp2
  go_ret
  exact ⟨rfl, nq, rfl⟩

def kword (kb : List Int) (i : Nat) : Int := word4 (gi kb (4 * i)) (gi kb (4 * i + 1)) (gi kb (4 * i + 2)) (gi kb (4 * i + 3))
def begK (kb : List Int) : Nat → List Int
  | 0 => [1634760805, 857760878, 2036477234, 1797285236, 0, 0, 0, 0, 0, 0, 0, 0, 0, 0, 0, 0]
  | k + 1 => (begK kb k).set (4 + k) (kword kb k)
/-- what begin keeps: the key, the result's cells, the words -/
structure BG (w : World) (b0 b1 b2 : Nat) (kb l : List Int) (W : World) : Prop where
  key : Row W b0 23 .u8 kb
  res : Row W b1 43 .u32 (zeros 16)
  now : Row W b2 43 .u32 l
  below : Below w.heap.size w W
  lo : w.heap.size ≤ b0 ∧ w.heap.size ≤ b1 ∧ w.heap.size ≤ b2 ∧ b2 ≠ b0 ∧ b2 ≠ b1
theorem BG.next {w W W' : World} {b0 b1 b2 : Nat} {kb l l' : List Int} (h : BG w b0 b1 b2 kb l W) (hr : Row W' b2 43 .u32 l') (hg : W.grownBy W' (some b2)) : BG w b0 b1 b2 kb l' W' :=
  ⟨h.key.away hg (by have := h.lo; omega), h.res.away hg (by have := h.lo; omega), hr, below_of_grown h.below hg h.below.size h.lo.2.2.1, h.lo⟩
theorem BG.drewN {w W : World} {b0 b1 b2 : Nat} {kb l : List Int} (h : BG w b0 b1 b2 kb l W) (n : Nat) : BG w b0 b1 b2 kb l (W.drewN n) := ⟨h.key, h.res, h.now, below_drewN h.below n, h.lo⟩
theorem BG.store {w W : World} {b0 b1 b2 : Nat} {kb l : List Int} (h : BG w b0 b1 b2 kb l W) (i : Nat) (x : Int) : BG w b0 b1 b2 kb (l.set i x) (W.setCell ⟨b2, i, none⟩ (.int .u32 x)) :=
  h.next (h.now.set_ i x) (Row.grown_set _ _ _ _)
theorem BG.start (w : World) (kb : List Int) (o1 o2 : Obj) (h1 : o1 = .cells (ints .u32 (zeros 16)) 43) (h2 : o2 = .cells (ints .u32 (begK kb 0)) 43) :
    BG w w.heap.size (w.heap.size + 1) (w.heap.size + 1 + 1) kb (begK kb 0) (((w.alloc (.cells (ints .u8 kb) 23)).alloc o1).alloc o2) := by
  subst h1 h2
  exact ⟨heap_at0 _ _ _ _, heap_at1 _ _ _ _, heap_at2 _ _ _ _, (((Below.refl _ _).alloc (Nat.le_refl _) _).alloc (by simp) _).alloc (by simp only [World.size_alloc]; omega) _, by omega⟩
theorem begK_len (kb : List Int) (k : Nat) : (begK kb k).length = 16 := by
  induction k with
  | zero => rfl
  | succ k ih => simp [begK, ih]
def nword (s : ByteArray) (i : Nat) : Int := word4 (gb s (4 * i)) (gb s (4 * i + 1)) (gb s (4 * i + 2)) (gb s (4 * i + 3))
def begN (s : ByteArray) (l : List Int) : Nat → List Int
  | 0 => l
  | k + 1 => (begN s l k).set (13 + k) (nword s k)
theorem begN_len (s : ByteArray) (l : List Int) (k : Nat) : (begN s l k).length = l.length := by
  induction k with
  | zero => rfl
  | succ k ih => simp [begN, ih]
/-- a block's words ahead of all rounds -/
def beginF (kb : List Int) (s : ByteArray) (ct : Int) : List Int := begN s ((begK kb 8).set 12 ct) 3
theorem key_slice (b0 k : Nat) (hlt : k < 8) (W : World) : (Instr.sliceAt 23 (.pointer (some ⟨b0, 0, none⟩)) (some (.int .i64 (4 * (k : Int)))) (some (.int .i64 (4 * (k : Int) + 4))) none).run Try.prog W = .ok (.slice (some ⟨b0, 4 * k, none⟩) 4 (32 - 4 * k)) W := by
  obtain ⟨i, hi, h1⟩ : ∃ i, Try.prog.info? 5 = some i ∧ i.size = 1 := ⟨_, rfl, by kernel_rfl⟩
  have h := slice_row W 23 5 32 i Try.underlying23 hi h1 .i64 .i64 b0 (4 * k) (4 * k + 4) _ _ rfl rfl (by omega) (by omega) (by omega)
  rw [show 4 * k + 4 - 4 * k = 4 by omega] at h
  exact h
set_option maxRecDepth 100000 in
set_option maxHeartbeats 400000 in
theorem begin_any (kb : List Int) (hk : kb.length = 32) (hkb : Bytes kb) (s : ByteArray) (hs : s.size = 12) (ct : Int) (w : World) :
    Calls Try.prog 15 #[.agg (ints .u8 kb), .string s, .int .u32 ct] w fun e w' => e = .returned (.agg (ints .u32 (beginF kb s ct))) ∧ Below w.heap.size w w' := by
  have WA := hide word_any
  have HS := hide hs
  have HK := hide hk
  clear hs hk
  go_enter Try.func15, Try.ntmps15
  go_upto_region 2 with fail
  generalize hW : ((w.alloc (.cells (ints .u8 kb) 23)).alloc _).alloc _ = W1
  have hB : BG w w.heap.size (w.heap.size + 1) (w.heap.size + 1 + 1) kb (begK kb 0) W1 := by rw [← hW]; exact BG.start w kb _ _ rfl rfl
  clear hW
  generalize w.heap.size + 1 + 1 = b2 at hB ⊢
  generalize w.heap.size + 1 = b1 at hB ⊢
  obtain ⟨b0, hb0⟩ : ∃ b0, b0 = w.heap.size := ⟨_, rfl⟩
  rw [← hb0] at hB ⊢
  clear hb0
  go_wp2
  go_loopw [11] (fun i W => ∃ k : Nat, k ≤ 8 ∧ i = .int .i64 k ∧ BG w b0 b1 b2 kb (begK kb k) W) (fun i _ => 8 - (intOf i).toNat)
  case atStart => exact ⟨0, by omega, rfl, hB⟩
  case round =>
    clear hB
    obtain ⟨k, hk, rfl, hB⟩ := hrel
    by_cases hlt : k < 8
    · have sl : ∀ W : World, (Instr.sliceAt 23 (.pointer (some ⟨b0, 0, none⟩)) (some (.int .i64 (4 * (k : Int)))) (some (.int .i64 (4 * (k : Int) + 4))) none).run Try.prog W = .ok (.slice (some ⟨b0, 4 * k, none⟩) 4 (32 - 4 * k)) W := fun W => key_slice b0 k hlt W
      have cv : (convert 46 9 (.slice (some ⟨b0, 4 * k, none⟩) 4 (32 - 4 * k))).run Try.prog wr = .ok (.string (strOfNums (part kb (4 * k) 4))) wr :=
        conv_row wr hB.key Try.underlying46 Try.underlying5 Try.underlying9 (4 * k) 4 _ (by rw [HK.out]; omega)
      go_wp2_with fail
      refine (WA.out _ (by rw [snum_size, part_len kb (4 * k) 4 (by rw [HK.out]; omega)]; omega) _).mono ?_
      rw [gb_nums _ (bytes_part hkb _ _ (by rw [HK.out]; omega)) 0 (by rw [part_len kb (4 * k) 4 (by rw [HK.out]; omega)]; omega), gb_nums _ (bytes_part hkb _ _ (by rw [HK.out]; omega)) 1 (by rw [part_len kb (4 * k) 4 (by rw [HK.out]; omega)]; omega),
        gb_nums _ (bytes_part hkb _ _ (by rw [HK.out]; omega)) 2 (by rw [part_len kb (4 * k) 4 (by rw [HK.out]; omega)]; omega), gb_nums _ (bytes_part hkb _ _ (by rw [HK.out]; omega)) 3 (by rw [part_len kb (4 * k) 4 (by rw [HK.out]; omega)]; omega),
        gi_part _ _ _ _ (by omega), gi_part _ _ _ _ (by omega), gi_part _ _ _ _ (by omega), gi_part _ _ _ _ (by omega)]
      rintro e W ⟨rfl, nn, rfl⟩
      have hB2 : BG w b0 b1 b2 kb (begK kb (k + 1)) ((wr.drewN nn).setCell ⟨b2, 4 + k, none⟩ (.int .u32 (kword kb k))) := (hB.drewN nn).store (4 + k) (kword kb k)
      have HB2 := hide hB2
      have c := (hB.drewN nn).now.at_ (i := 4 + k) (by rw [begK_len]; omega)
      have f := (hB.drewN nn).now.free (4 + k)
      have z0 : (0 : Int) ≤ 4 + k := by omega
      have z1 : (4 + k : Int) < 16 := by omega
      clear sl cv hB hB2
      go_wp2
      exact ⟨⟨k + 1, by omega, by go_num, HB2.out⟩, by simp [intOf]; omega⟩
    · have hk8 : k = 8 := by omega
      rw [hk8] at hB
      clear hk8
      have hC := hide (hB.store 12 ct)
      have c := hB.now.at_ (i := 12) (by rw [begK_len]; omega)
      have f := hB.now.free 12
      have NL : Hid (((begK kb 8).set 12 ct).length = 16) := by show _ = _; rw [List.length_set, begK_len]
      clear hB
      go_wp2
      clear c f
      generalize wr.setCell ⟨b2, 12, none⟩ (.int .u32 ct) = W2 at hC ⊢
      obtain ⟨lc, hlc⟩ : ∃ lc, lc = (begK kb 8).set 12 ct := ⟨_, rfl⟩
      rw [← hlc] at hC NL
      have HLC := hide hlc
      clear hlc
      go_loopw [28] (fun i W => ∃ k : Nat, k ≤ 3 ∧ i = .int .i64 k ∧ BG w b0 b1 b2 kb (begN s lc k) W) (fun i _ => 3 - (intOf i).toNat)
      case atStart => exact ⟨0, by omega, rfl, hC.out⟩
      case round =>
        clear hC
        obtain ⟨q, hq, rfl, hB⟩ := hrel
        by_cases hlt3 : q < 3
        · have hs4 : 4 * (q : Int) ≤ s.size := by rw [HS.out]; omega
          go_wp2_with fail
          have es : s.size ≤ s.size := by omega
          refine (WA.out _ (by rw [ByteArray.size_extract, HS.out]; omega) _).mono ?_
          rw [gb_extract _ _ _ _ (by rw [HS.out]; omega) es, gb_extract _ _ _ _ (by rw [HS.out]; omega) es, gb_extract _ _ _ _ (by rw [HS.out]; omega) es, gb_extract _ _ _ _ (by rw [HS.out]; omega) es]
          rintro e W ⟨rfl, nn, rfl⟩
          have hB2 : BG w b0 b1 b2 kb (begN s lc (q + 1)) ((wr.drewN nn).setCell ⟨b2, 13 + q, none⟩ (.int .u32 (nword s q))) := (hB.drewN nn).store (13 + q) (nword s q)
          have HB2 := hide hB2
          have c := (hB.drewN nn).now.at_ (i := 13 + q) (by rw [begN_len, NL.out]; omega)
          have f := (hB.drewN nn).now.free (13 + q)
          have z0 : (0 : Int) ≤ 13 + q := by omega
          have z1 : (13 + q : Int) < 16 := by omega
          clear hB hB2 es
          go_wp2
          exact ⟨⟨q + 1, by omega, by go_num, HB2.out⟩, by simp [intOf]; omega⟩
        · have hq3 : q = 3 := by omega
          rw [hq3] at hB
          clear hq3
          obtain ⟨o, ho⟩ : ∃ o, o = begN s lc 3 := ⟨_, rfl⟩
          have ol : o.length = 16 := by rw [ho, begN_len, NL.out]
          rw [← ho] at hB
          have HO := hide ho
          have I43 := hide (sz43 o ol)
          have Z43 : Hid ((ints .u32 (zeros 16)).size = (ints .u32 o).size) := by show _ = _; rw [ints_size, ints_size, ol]; rfl
          have HN := hide hB.now
          have HRs := hide hB.res
          have HBl := hide hB.below
          have HLo := hide hB.lo
          clear ho ol hB
          go_upto_region 13 with fail
          go_wp2_with (first | (refine wpList_load_row rfl 43 _ rfl _ rfl 43 (ints .u32 o) (0, 0) _ HN.out Try.underlying43 rfl I43.out ?_) | (refine wpList_store_row rfl 43 _ _ rfl _ (ints .u32 o) rfl rfl 43 _ HRs.out I43.out Z43.out (ints_one _ _) ?_))
          refine bodyPost_ret (v := .agg (ints .u32 o)) (results_cell_row Try.results15 _ _ b1 43 (ints .u32 o) (0, 0) _ rfl (Row.put HRs.out _) Try.underlying43 rfl I43.out) rfl ⟨by rw [HO.out, HLC.out]; rfl, below_setRow HBl.out HLo.out.2.1 _⟩
end Go.Proofs.Ytocademajjkecaa
