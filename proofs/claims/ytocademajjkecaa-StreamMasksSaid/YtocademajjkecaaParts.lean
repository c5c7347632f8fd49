/-
  StreamParts, by the statement text: the parts of a mask.
-/
import Derived.Test.YtocademajjkecaaBack
import Derived.Deep.RegionHeld3
import Derived.Deep.MidRow
namespace Go.Proofs.Ytocademajjkecaa
open Go.RowKit
/-- the words of a block without a counter -/
theorem beginF_set (kb : List Int) (s : ByteArray) (ct x : Int) : (beginF kb s ct).set 12 x = beginF kb s x := by
  unfold beginF
  simp only [begN]
  rw [List.set_comm _ _ (show 13 + 2 ≠ 12 by omega), List.set_comm _ _ (show 13 + 1 ≠ 12 by omega), List.set_comm _ _ (show 13 + 0 ≠ 12 by omega), List.set_set]
theorem ks_shift (kb : List Int) (s : ByteArray) (ct : Int) (j i : Nat) : ks kb s (ct + j) i = ks kb s ct (64 * j + i) := by
  unfold ks
  rw [show (64 * j + i) / 64 = j + i / 64 by omega, show (64 * j + i) % 64 = i % 64 by omega]
  unfold blk
  rw [beginF_set, beginF_set]
  congr 3
  omega
theorem maskF_at (kb : List Int) (s : ByteArray) (ct : Int) (text : ByteArray) (i : Nat) (h : i < text.size) : gi (nums (maskF kb s ct text)) i = bits .xor .u8 (gb text i) (ks kb s ct i) := by
  rw [maskF_nums, mskTo_done _ _ _ i h (by rw [nums_len]; omega), gi_nums text i h]
theorem str_ext {a b : ByteArray} (hs : a.size = b.size) (h : ∀ i, i < a.size → gi (nums a) i = gi (nums b) i) : a = b := by
  rw [← of_nums a, ← of_nums b]
  congr 1
  apply list_ext_gi
  · rw [nums_len, nums_len, hs]
  · intro i hi; rw [nums_len] at hi; exact h i hi
theorem mask_front (kb : List Int) (s : ByteArray) (ct : Int) (text : ByteArray) (n : Nat) (hn : n ≤ text.size) : maskF kb s ct (text.extract 0 n) = (maskF kb s ct text).extract 0 n := by
  apply str_ext
  · rw [maskF_size, ByteArray.size_extract, ByteArray.size_extract, maskF_size]
  · intro i hi
    rw [maskF_size, ByteArray.size_extract] at hi
    rw [maskF_at _ _ _ _ _ (by rw [ByteArray.size_extract]; omega), gb_extract _ _ _ _ (by omega) (by omega), gi_nums _ _ (by rw [ByteArray.size_extract, maskF_size]; omega), gb_extract _ _ _ _ (by omega) (by rw [maskF_size]; omega),
      ← gi_nums (maskF kb s ct text) _ (by rw [maskF_size]; omega), maskF_at _ _ _ _ _ (by omega)]
    simp
theorem mask_behind (kb : List Int) (s : ByteArray) (ct : Int) (text : ByteArray) (j : Nat) (_ : 64 * j ≤ text.size) : maskF kb s (ct + j) (text.extract (64 * j) text.size) = (maskF kb s ct text).extract (64 * j) (maskF kb s ct text).size := by
  apply str_ext
  · rw [maskF_size, ByteArray.size_extract, ByteArray.size_extract, maskF_size]
  · intro i hi
    rw [maskF_size, ByteArray.size_extract] at hi
    rw [maskF_at _ _ _ _ _ (by rw [ByteArray.size_extract]; omega), gb_extract _ _ _ _ (by omega) (by omega), gi_nums _ _ (by rw [ByteArray.size_extract, maskF_size]; omega), gb_extract _ _ _ _ (by rw [maskF_size]; omega) (by omega),
      ← gi_nums (maskF kb s ct text) _ (by rw [maskF_size]; omega), maskF_at _ _ _ _ _ (by omega), ks_shift]
theorem ints_is (k : IntKind) (l : List Int) : (List.map (Value.int k) l).toArray = ints k l := rfl
theorem KB.drew {w W : World} {kb : List Int} (h : KB w kb W) : KB w kb W.drew := ⟨h.row, h.below.drew⟩
theorem Row.range {w : World} {b : Nat} {t : TypeId} {k : IntKind} {l : List Int} (h : Row w b t k l) : w.rangeAt b 0 (l.map (Value.int k)) := by
  intro j v hv
  have h' : w.heap[b]? = some (.cells (ints k l) t (0, 0)) := h
  simp only [World.cell?, h', ints, Nat.zero_add]
  simpa using hv
set_option maxRecDepth 100000 in
set_option maxHeartbeats 400000 in
theorem parts_out (kb : List Int) (s : ByteArray) (ct : Int) (text : ByteArray) (bl at_ : Int) (h : 2000 < text.size ∨ s.size ≠ 12) (w : World) :
    Calls Try.prog 6 #[.agg (ints .u8 kb), .string s, .int .u32 ct, .string text, .int .u8 bl, .int .u16 at_] w fun e w' => e = .returned (.bool true) ∧ Below w.heap.size w w' := by
  have A := hide alive_any
  have S := hide (KB.start w kb)
  by_cases h1 : 2000 < text.size
  · have h2 : (2000 : Int) < text.size := by omega
    clear h h1
    go_enter Try.func6, Try.ntmps6
    go_wp2_with fail
    refine (A.out _).mono ?_
    rintro e w1 ⟨rfl, hb1⟩
    have K1 := hide (S.out.next hb1)
    clear hb1 S
    go_wp2_with fail
    refine (A.out _).mono ?_
    rintro e w2 ⟨rfl, hb2⟩
    have K2 := hide (K1.out.next hb2)
    clear hb2 K1
    go_wp2
    go_ret
    exact ⟨rfl, K2.out.below⟩
  · have h2 : ¬ (2000 : Int) < text.size := by omega
    have h3 : ((s.size : Int) == 12) = false := by simp; omega
    have h4 : ((s.size : Int) != 12) = true := by simp; omega
    clear h h1
    go_enter Try.func6, Try.ntmps6
    go_wp2_with fail
    refine (A.out _).mono ?_
    rintro e w1 ⟨rfl, hb1⟩
    have K1 := hide (S.out.next hb1)
    clear hb1 S
    go_wp2_with fail
    refine (A.out _).mono ?_
    rintro e w2 ⟨rfl, hb2⟩
    have K2 := hide (K1.out.next hb2)
    clear hb2 K1
    go_wp2
    go_ret
    exact ⟨rfl, K2.out.below⟩

set_option maxRecDepth 100000 in
set_option maxHeartbeats 400000 in
theorem parts_no (kb : List Int) (hk : kb.length = 32) (s : ByteArray) (hs : s.size = 12) (ct : Int) (text : ByteArray) (ht : text.size ≤ 2000) (bl at_ : Int)
    (hm : ∀ W, Calls Try.prog 11 #[.agg (ints .u8 kb), .string s, .int .u32 ct, .string text] W fun e w' => e = .returned (.tuple #[.string ByteArray.empty, .int .i64 1]) ∧ Below W.heap.size W w') (w : World) :
    Calls Try.prog 6 #[.agg (ints .u8 kb), .string s, .int .u32 ct, .string text, .int .u8 bl, .int .u16 at_] w fun e w' => e = .returned (.bool true) ∧ Below w.heap.size w w' := by
  have A := hide alive_any
  have S := hide (KB.start w kb)
  have K23 : Hid ((Try.prog.info? 23).map (·.size) = some (ints .u8 kb).size) := by show _ = _; rw [ints_size, hk]; kernel_rfl
  have M := hide hm
  have h1 : ¬ (2000 : Int) < text.size := by omega
  have h2 : (s.size : Int) = 12 := by omega
  clear hm hk hs ht
  go_enter Try.func6, Try.ntmps6
  go_wp2_with fail
  refine (A.out _).mono ?_
  rintro e w1 ⟨rfl, hb1⟩
  have K1 := hide (S.out.next hb1)
  clear hb1 S
  have R1 := hide K1.out.row
  go_wp2_with (refine wpList_load_row rfl 23 _ rfl _ rfl 23 (ints .u8 kb) (0, 0) _ R1.out Try.underlying23 rfl K23.out ?_)
  refine (M.out _).mono ?_
  rintro e w2 ⟨rfl, hb2⟩
  have K2 := hide (K1.out.next hb2)
  clear hb2 K1
  go_wp2_with fail
  refine (A.out _).mono ?_
  rintro e w3 ⟨rfl, hb3⟩
  have K3 := hide (K2.out.next hb3)
  clear hb3 K2
  go_wp2
  go_ret
  exact ⟨rfl, K3.out.below⟩

set_option maxRecDepth 100000 in
set_option maxHeartbeats 800000 in
theorem parts_yes (kb : List Int) (hk : kb.length = 32) (s : ByteArray) (hs : s.size = 12) (ct : Int) (c0 : 0 ≤ ct) (text out : ByteArray) (ht : text.size ≤ 2000) (ho : out.size = text.size) (bl at_ : Int) (hbl : 0 ≤ bl ∧ bl ≤ 255) (hat : 0 ≤ at_ ∧ at_ ≤ 65535) (n j k : Nat)
    (hn : at_ % ((text.size : Int) + 1) = n) (hj : bl % 8 = j) (hkj : (64 : Int) * (j : Int) = (k : Int)) (hn2 : n ≤ text.size) (_ : j < 8) (hcj : k < text.size → ct + j ≤ 4294967295)
    (hm : ∀ W, Calls Try.prog 11 #[.agg (ints .u8 kb), .string s, .int .u32 ct, .string text] W fun e w' => e = .returned (.tuple #[.string out, .int .i64 0]) ∧ Below W.heap.size W w')
    (hm2 : ∀ W, Calls Try.prog 11 #[.agg (ints .u8 kb), .string s, .int .u32 ct, .string (text.extract 0 n)] W fun e w' => e = .returned (.tuple #[.string (out.extract 0 n), .int .i64 0]) ∧ Below W.heap.size W w')
    (hm3 : k < text.size → ∀ W, Calls Try.prog 11 #[.agg (ints .u8 kb), .string s, .int .u32 (ct + j), .string (text.extract k text.size)] W fun e w' => e = .returned (.tuple #[.string (out.extract k out.size), .int .i64 0]) ∧ Below W.heap.size W w') (w : World) :
    Calls Try.prog 6 #[.agg (ints .u8 kb), .string s, .int .u32 ct, .string text, .int .u8 bl, .int .u16 at_] w fun e w' => e = .returned (.bool true) ∧ Below w.heap.size w w' := by
  have A := hide alive_any
  have S := hide (KB.start w kb)
  have K23 : Hid ((Try.prog.info? 23).map (·.size) = some (ints .u8 kb).size) := by show _ = _; rw [ints_size, hk]; kernel_rfl
  have M := hide hm
  have M2 := hide hm2
  have M3 := hide hm3
  have h1 : ¬ (2000 : Int) < text.size := by omega
  have h2 : (s.size : Int) = 12 := by omega
  have h3 : (n : Int) ≤ text.size := by omega
  have h4 : (n : Int) ≤ out.size := by omega
  have HCJ := hide hcj
  have b1 := hbl.1
  have b2 := hbl.2
  have a1 := hat.1
  have a2 := hat.2
  have HO := hide ho
  clear hm hm2 hm3 hk hs hbl hat hcj ho
  go_enter Try.func6, Try.ntmps6
  go_wp2_with fail
  refine (A.out _).mono ?_
  rintro e w1 ⟨rfl, hb1⟩
  have K1 := hide (S.out.next hb1)
  clear hb1 S
  have R1 := hide K1.out.row
  go_wp2_with (refine wpList_load_row rfl 23 _ rfl _ rfl 23 (ints .u8 kb) (0, 0) _ R1.out Try.underlying23 rfl K23.out ?_)
  refine (M.out _).mono ?_
  rintro e w2 ⟨rfl, hb2⟩
  have K2 := hide (K1.out.next hb2)
  clear hb2 K1 R1
  have R2 := hide (Row.range K2.out.row.drew)
  have KI : Hid ((Try.prog.info? 23).map (·.size) = some (kb.map (Value.int .u8)).length) := by show _ = _; have := K23.out; rw [ints_size] at this; rw [List.length_map]; exact this
  go_wp2_with fail
  have K2d := hide K2.out.drew
  have hu1 := Try.underlying23
  have hi1 := KI.out
  go_region_held3 (fun W => W.rangeAt w.heap.size 0 (kb.map (Value.int .u8))) (first | exact R2.out | exact Row.range (by assumption)) (first | (go_at_call 11; rw [ints_is]; with_reducible refine (M2.out _).mono ?_; rintro e w3 ⟨rfl, hb3⟩; have R3 := (KB.next K2d.out hb3).row))
  clear hu1 hi1 R2 K2
  try clear R3
  have K4 := hide (KB.next K2d.out hb3)
  clear K2d hb3
  by_cases g1 : (text.size : Int) ≤ (k : Int)
  · go_wp2_with fail
    refine (A.out _).mono ?_
    rintro e w4 ⟨rfl, hb4⟩
    have K5 := hide (K4.out.next hb4)
    clear hb4 K4
    go_wp2
    go_ret
    exact ⟨rfl, K5.out.below⟩
  · have g2 : (k : Int) ≤ text.size := by omega
    have g3 : (k : Int) ≤ out.size := by have := HO.out; omega
    have g4 := HCJ.out (by omega)
    have hwj : IntKind.u32.wrap (bl.tmod 8) = (j : Int) := by rw [Int.tmod_eq_emod_of_nonneg b1, hj]; simp only [IntKind.wrap, IntKind.signed, IntKind.bits]; simp; omega
    have hwc : IntKind.u32.wrap (ct + (j : Int)) = ct + (j : Int) := by simp only [IntKind.wrap, IntKind.signed, IntKind.bits]; simp; omega
    have HW := hide (And.intro hwj hwc)
    clear hwj hwc
    have g5 : 0 ≤ ct + (j : Int) := by omega
    have M4 := hide (M3.out (by omega))
    have g7 : (out.size : Int) = text.size := by rw [HO.out]
    clear M3 HCJ
    go_wp2_with fail
    have R2 := hide (Row.range K4.out.row.drew)
    have K2d := hide K4.out.drew
    have hu1 := Try.underlying23
    have hi1 := KI.out
    go_region_held3 (fun W => W.rangeAt w.heap.size 0 (kb.map (Value.int .u8))) (first | exact R2.out | exact Row.range (by assumption)) (first | (go_at_call 11; rw [ints_is, HW.out.1, HW.out.2]; with_reducible refine (M4.out _).mono ?_; rintro e w4 ⟨rfl, hb4⟩; have R4 := (KB.next K2d.out hb4).row))
    clear hu1 hi1 R2 K4
    try clear R4
    have K5 := hide (KB.next K2d.out hb4)
    clear K2d hb4
    go_wp2_with fail
    refine (A.out _).mono ?_
    rintro e w5 ⟨rfl, hb5⟩
    have K6 := hide (K5.out.next hb5)
    clear hb5 K5
    go_wp2
    go_ret
    exact ⟨rfl, K6.out.below⟩

theorem parts_law (kb : List Int) (hk : kb.length = 32) (hkb : Bytes kb) (s : ByteArray) (ct : Int) (hct : W32 ct) (text : ByteArray) (bl at_ : Int) (hbl : 0 ≤ bl ∧ bl ≤ 255) (hat : 0 ≤ at_ ∧ at_ ≤ 65535) (w : World) :
    Calls Try.prog 6 #[.agg (ints .u8 kb), .string s, .int .u32 ct, .string text, .int .u8 bl, .int .u16 at_] w fun e w' => e = .returned (.bool true) ∧ Below w.heap.size w w' := by
  have c1 := hct.1
  have c2 := hct.2
  by_cases ho : 2000 < text.size ∨ s.size ≠ 12
  · exact parts_out kb s ct text bl at_ ho w
  · have ht : text.size ≤ 2000 := by omega
    have hs : s.size = 12 := by omega
    by_cases hfit : ct + (text.size + 63) / 64 ≤ 4294967296
    · have hn : at_ % ((text.size : Int) + 1) = ((at_ % ((text.size : Int) + 1)).toNat : Int) := by
        have := Int.emod_nonneg at_ (show (text.size : Int) + 1 ≠ 0 by omega); omega
      have hn2 : (at_ % ((text.size : Int) + 1)).toNat ≤ text.size := by
        have := Int.emod_lt_of_pos at_ (show 0 < (text.size : Int) + 1 by omega); omega
      have hj : bl % 8 = ((bl % 8).toNat : Int) := by omega
      have hj2 : (bl % 8).toNat < 8 := by omega
      generalize (at_ % ((text.size : Int) + 1)).toNat = n at hn hn2
      generalize (bl % 8).toNat = j at hj hj2
      refine parts_yes kb hk s hs ct c1 text (maskF kb s ct text) ht (maskF_size _ _ _ _) bl at_ hbl hat n j (64 * j) hn hj (by omega) hn2 hj2 (fun _ => by omega) (fun W => mask_yes kb hk hkb s hs ct hct text ht hfit W) (fun W => ?_) (fun hlt W => ?_) w
      · have z : (text.extract 0 n).size = n := by rw [ByteArray.size_extract]; omega
        have h := mask_yes kb hk hkb s hs ct hct (text.extract 0 n) (by omega) (by omega) W
        have e : strOfNums (mskTo (ks kb s ct) (nums (text.extract 0 n)) (text.extract 0 n).size) = (maskF kb s ct text).extract 0 n := mask_front kb s ct text n hn2
        rwa [e] at h
      · have z : (text.extract (64 * j) text.size).size = text.size - 64 * j := by rw [ByteArray.size_extract]; omega
        have h := mask_yes kb hk hkb s hs (ct + j) ⟨by omega, by omega⟩ (text.extract (64 * j) text.size) (by omega) (by omega) W
        have e : strOfNums (mskTo (ks kb s (ct + j)) (nums (text.extract (64 * j) text.size)) (text.extract (64 * j) text.size).size) = (maskF kb s ct text).extract (64 * j) (maskF kb s ct text).size := mask_behind kb s ct text j (by omega)
        rwa [e] at h
    · exact parts_no kb hk s hs ct text ht bl at_ (fun W => mask_far kb s ct hct text hs ht hfit W) w
end Go.Proofs.Ytocademajjkecaa
