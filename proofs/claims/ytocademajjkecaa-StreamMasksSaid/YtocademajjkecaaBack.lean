/-
  StreamBack, by the statement text: a text masked twice is itself.
-/
import Derived.Test.YtocademajjkecaaMask
namespace Go.Proofs.Ytocademajjkecaa
open Go.RowKit
theorem outTo_bytes (m l : List Int) (k : Nat) : Bytes (outTo m l k) := by
  induction k with
  | zero =>
    intro i hi
    have : gi (outTo m l 0) i = 0 := by
      show (zeros 64).getD i 0 = 0
      unfold zeros
      rw [List.getD_eq_getElem?_getD, List.getElem?_replicate]
      split <;> rfl
    omega
  | succ k ih => exact bytes_set (bytes_set (bytes_set (bytes_set ih _ _ (by omega)) _ _ (by omega)) _ _ (by omega)) _ _ (by omega)
theorem mixF_bytes (l : List Int) : Bytes (mixF l) := outTo_bytes _ _ _
theorem ks_bd (kb : List Int) (s : ByteArray) (ct : Int) (k : Nat) : 0 ≤ ks kb s ct k ∧ ks kb s ct k ≤ 255 := mixF_bytes _ _ (by rw [mixF_len]; omega)
theorem xor8_bd (x y : Int) (hx : 0 ≤ x ∧ x ≤ 255) (hy : 0 ≤ y ∧ y ≤ 255) : 0 ≤ bits .xor .u8 x y ∧ bits .xor .u8 x y ≤ 255 := by
  rw [u8_xor x y hx.1 (by omega) hy.1 (by omega)]
  have : x.toNat ^^^ y.toNat < 2 ^ 8 := Nat.xor_lt_two_pow (by omega) (by omega)
  omega
theorem xor8_back (x y : Int) (hx : 0 ≤ x ∧ x ≤ 255) (hy : 0 ≤ y ∧ y ≤ 255) : bits .xor .u8 (bits .xor .u8 x y) y = x := by
  have hw := xor8_bd x y hx hy
  rw [u8_xor _ y hw.1 (by omega) hy.1 (by omega), u8_xor x y hx.1 (by omega) hy.1 (by omega)]
  rw [Int.toNat_natCast, Nat.xor_assoc, Nat.xor_self, Nat.xor_zero]
  exact Int.toNat_of_nonneg hx.1
theorem msk_bytes {f : Nat → Int} (hf : ∀ k, 0 ≤ f k ∧ f k ≤ 255) {l : List Int} (hl : Bytes l) (k : Nat) (hk : k ≤ l.length) : Bytes (mskTo f l k) := by
  induction k with
  | zero => exact hl
  | succ k ih => exact bytes_set (ih (by omega)) _ _ (xor8_bd _ _ (hl k (by omega)) (hf k))
theorem msk_back {f : Nat → Int} (hf : ∀ k, 0 ≤ f k ∧ f k ≤ 255) {l : List Int} (hl : Bytes l) : mskTo f (mskTo f l l.length) l.length = l := by
  apply list_ext_gi
  · rw [mskTo_len, mskTo_len]
  · intro i hi
    rw [mskTo_len, mskTo_len] at hi
    rw [mskTo_done f _ _ i hi (by rw [mskTo_len]; omega), mskTo_done f l _ i hi (Nat.le_refl _), xor8_back _ _ (hl i hi) (hf i)]

/-- a masked text -/
def maskF (kb : List Int) (s : ByteArray) (ct : Int) (text : ByteArray) : ByteArray := strOfNums (mskTo (ks kb s ct) (nums text) text.size)
theorem maskF_size (kb : List Int) (s : ByteArray) (ct : Int) (text : ByteArray) : (maskF kb s ct text).size = text.size := by rw [maskF, snum_size, mskTo_len, nums_len]
theorem maskF_nums (kb : List Int) (s : ByteArray) (ct : Int) (text : ByteArray) : nums (maskF kb s ct text) = mskTo (ks kb s ct) (nums text) text.size :=
  nums_of _ (msk_bytes (ks_bd kb s ct) (nums_bytes text) _ (by rw [nums_len]; omega))
theorem maskF_back (kb : List Int) (s : ByteArray) (ct : Int) (text : ByteArray) : maskF kb s ct (maskF kb s ct text) = text := by
  have h := msk_back (ks_bd kb s ct) (nums_bytes text)
  rw [nums_len] at h
  rw [maskF, maskF_nums, maskF_size, h, of_nums]

/-- the statement's box of the key, and what was there -/
structure KB (w : World) (kb : List Int) (W : World) : Prop where
  row : Row W w.heap.size 23 .u8 kb
  below : Below w.heap.size w W
theorem KB.next {w W W' : World} {kb : List Int} (h : KB w kb W) (hb : Below W.heap.size W W') : KB w kb W' := ⟨h.row.below hb h.row.lt, h.below.trans (hb.mono h.below.size)⟩
theorem KB.start (w : World) (kb : List Int) : KB w kb (w.alloc (.cells (ints .u8 kb) 23)) := ⟨Row.new _ _ _ _, (Below.refl _ _).alloc (Nat.le_refl _) _⟩

set_option maxRecDepth 100000 in
set_option maxHeartbeats 400000 in
theorem back_long (kb : List Int) (s : ByteArray) (ct : Int) (text : ByteArray) (ht : 2000 < text.size) (w : World) :
    Calls Try.prog 5 #[.agg (ints .u8 kb), .string s, .int .u32 ct, .string text] w fun e w' => e = .returned (.bool true) ∧ Below w.heap.size w w' := by
  have A := hide alive_any
  have h1 : (2000 : Int) < text.size := by omega
  have S := hide (KB.start w kb)
  go_enter Try.func5, Try.ntmps5
  go_wp2_with fail
  refine (A.out _).mono ?_
  rintro e w1 ⟨rfl, hb1⟩
  have K1 := hide (S.out.next hb1)
  clear hb1 S
  go_wp2_with fail
  refine (A.out _).mono ?_
  rintro e w2 ⟨rfl, hb2⟩
  have K2 := hide (K1.out.next hb2)
  clear hb2 K1
  go_wp2
  go_ret
  exact ⟨rfl, K2.out.below⟩

set_option maxRecDepth 100000 in
set_option maxHeartbeats 400000 in
theorem back_no (kb : List Int) (hk : kb.length = 32) (s : ByteArray) (ct : Int) (text : ByteArray) (ht : text.size ≤ 2000)
    (hm : ∀ W, Calls Try.prog 11 #[.agg (ints .u8 kb), .string s, .int .u32 ct, .string text] W fun e w' => e = .returned (.tuple #[.string ByteArray.empty, .int .i64 1]) ∧ Below W.heap.size W w') (w : World) :
    Calls Try.prog 5 #[.agg (ints .u8 kb), .string s, .int .u32 ct, .string text] w fun e w' => e = .returned (.bool true) ∧ Below w.heap.size w w' := by
  have A := hide alive_any
  have M := hide hm
  have h1 : ¬ (2000 : Int) < text.size := by omega
  have S := hide (KB.start w kb)
  have K23 : Hid ((Try.prog.info? 23).map (·.size) = some (ints .u8 kb).size) := by show _ = _; rw [ints_size, hk]; kernel_rfl
  have qe : ByteArray.empty.toList = [] := by rw [ByteArray.toList_eq]; rfl
  clear hm hk
  go_enter Try.func5, Try.ntmps5
  go_wp2_with fail
  refine (A.out _).mono ?_
  rintro e w1 ⟨rfl, hb1⟩
  have K1 := hide (S.out.next hb1)
  clear hb1 S
  have R1 := hide K1.out.row
  go_wp2_with (refine wpList_load_row rfl 23 _ rfl _ rfl 23 (ints .u8 kb) (0, 0) _ R1.out Try.underlying23 rfl K23.out ?_)
  refine (M.out _).mono ?_
  rintro e w2 ⟨rfl, hb2⟩
  have K2 := hide (K1.out.next hb2)
  clear hb2 K1
  go_wp2_with fail
  refine (A.out _).mono ?_
  rintro e w3 ⟨rfl, hb3⟩
  have K3 := hide (K2.out.next hb3)
  clear hb3 K2
  go_wp2
  go_ret
  exact ⟨rfl, K3.out.below⟩

set_option maxRecDepth 100000 in
set_option maxHeartbeats 400000 in
theorem back_yes (kb : List Int) (hk : kb.length = 32) (s : ByteArray) (ct : Int) (text out : ByteArray) (ht : text.size ≤ 2000) (hz : out.size = text.size)
    (hm : ∀ W, Calls Try.prog 11 #[.agg (ints .u8 kb), .string s, .int .u32 ct, .string text] W fun e w' => e = .returned (.tuple #[.string out, .int .i64 0]) ∧ Below W.heap.size W w')
    (hm2 : ∀ W, Calls Try.prog 11 #[.agg (ints .u8 kb), .string s, .int .u32 ct, .string out] W fun e w' => e = .returned (.tuple #[.string text, .int .i64 0]) ∧ Below W.heap.size W w') (w : World) :
    Calls Try.prog 5 #[.agg (ints .u8 kb), .string s, .int .u32 ct, .string text] w fun e w' => e = .returned (.bool true) ∧ Below w.heap.size w w' := by
  have A := hide alive_any
  have M := hide hm
  have M2 := hide hm2
  have h1 : ¬ (2000 : Int) < text.size := by omega
  have S := hide (KB.start w kb)
  have K23 : Hid ((Try.prog.info? 23).map (·.size) = some (ints .u8 kb).size) := by show _ = _; rw [ints_size, hk]; kernel_rfl
  have hz' : (out.size : Int) = text.size := by omega
  clear hm hm2 hk hz
  go_enter Try.func5, Try.ntmps5
  go_wp2_with fail
  refine (A.out _).mono ?_
  rintro e w1 ⟨rfl, hb1⟩
  have K1 := hide (S.out.next hb1)
  clear hb1 S
  have R1 := hide K1.out.row
  go_wp2_with (refine wpList_load_row rfl 23 _ rfl _ rfl 23 (ints .u8 kb) (0, 0) _ R1.out Try.underlying23 rfl K23.out ?_)
  refine (M.out _).mono ?_
  rintro e w2 ⟨rfl, hb2⟩
  have K2 := hide (K1.out.next hb2)
  clear hb2 K1 R1
  have R2 := hide K2.out.row
  go_wp2_with (refine wpList_load_row rfl 23 _ rfl _ rfl 23 (ints .u8 kb) (0, 0) _ R2.out Try.underlying23 rfl K23.out ?_)
  refine (M2.out _).mono ?_
  rintro e w3 ⟨rfl, hb3⟩
  have K3 := hide (K2.out.next hb3)
  clear hb3 K2 R2
  go_wp2_with fail
  refine (A.out _).mono ?_
  rintro e w4 ⟨rfl, hb4⟩
  have K4 := hide (K3.out.next hb4)
  clear hb4 K3
  go_wp2
  go_ret
  exact ⟨rfl, K4.out.below⟩

theorem back_law (kb : List Int) (hk : kb.length = 32) (hkb : Bytes kb) (s : ByteArray) (ct : Int) (hct : W32 ct) (text : ByteArray) (w : World) :
    Calls Try.prog 5 #[.agg (ints .u8 kb), .string s, .int .u32 ct, .string text] w fun e w' => e = .returned (.bool true) ∧ Below w.heap.size w w' := by
  by_cases ht : text.size ≤ 2000
  · by_cases hs : s.size = 12
    · by_cases hfit : ct + (text.size + 63) / 64 ≤ 4294967296
      · refine back_yes kb hk s ct text (maskF kb s ct text) ht (maskF_size _ _ _ _) (fun W => mask_yes kb hk hkb s hs ct hct text ht hfit W) (fun W => ?_) w
        have h := mask_yes kb hk hkb s hs ct hct (maskF kb s ct text) (by rw [maskF_size]; exact ht) (by rw [maskF_size]; exact hfit) W
        have e : strOfNums (mskTo (ks kb s ct) (nums (maskF kb s ct text)) (maskF kb s ct text).size) = text := maskF_back kb s ct text
        rwa [e] at h
      · exact back_no kb hk s ct text ht (fun W => mask_far kb s ct hct text hs ht hfit W) w
    · exact back_no kb hk s ct text ht (fun W => mask_nonce kb s ct text hs ht W) w
  · exact back_long kb s ct text (by omega) w
end Go.Proofs.Ytocademajjkecaa
