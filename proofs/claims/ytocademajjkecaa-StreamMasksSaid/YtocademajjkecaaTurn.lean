/-
  The quarter round undone: turns, sums and exclusive sums by their numbers; the reference's quarter round and the statement's function by their text.
-/
import Derived.Test.YtocademajjkecaaAlive
namespace Go.Proofs.Ytocademajjkecaa
open Go.RowKit
def W32 (x : Int) : Prop := 0 ≤ x ∧ x ≤ 4294967295
theorem or_join (i : Nat) (x y : Int) (hx : W32 x) (hy : W32 y) (h1 : x % (2 ^ i : Nat) = 0) (h2 : y < (2 ^ i : Nat)) : bits .or .u32 x y = x + y := by
  rw [u32_or x y hx.1 (by have := hx.2; omega) hy.1 (by have := hy.2; omega)]
  obtain ⟨a, rfl⟩ := Int.eq_ofNat_of_zero_le hx.1
  obtain ⟨b, rfl⟩ := Int.eq_ofNat_of_zero_le hy.1
  simp only [Int.toNat_natCast]
  rw [nat_join i a b (by exact_mod_cast h1) (by exact_mod_cast h2)]
  simp
theorem or_join' (i : Nat) (x y : Int) (hx : W32 x) (hy : W32 y) (h1 : x % (2 ^ i : Nat) = 0) (h2 : y < (2 ^ i : Nat)) : bits .or .u32 y x = x + y := by
  rw [u32_or y x hy.1 (by have := hy.2; omega) hx.1 (by have := hx.2; omega)]
  obtain ⟨a, rfl⟩ := Int.eq_ofNat_of_zero_le hx.1
  obtain ⟨b, rfl⟩ := Int.eq_ofNat_of_zero_le hy.1
  simp only [Int.toNat_natCast]
  rw [Nat.or_comm, nat_join i a b (by exact_mod_cast h1) (by exact_mod_cast h2)]
  simp
theorem rotl7 (x : Int) (h : W32 x) : rotl x 7 = x * 128 % 4294967296 + x / 33554432 := or_join 7 _ _ ⟨by simp only [IntKind.wrap_u32']; omega, by simp only [IntKind.wrap_u32']; omega⟩ ⟨by have := h.1; omega, by have := h.2; omega⟩ (by simp only [IntKind.wrap_u32']; omega) (by have := h.2; omega)
theorem rotl8 (x : Int) (h : W32 x) : rotl x 8 = x * 256 % 4294967296 + x / 16777216 := or_join 8 _ _ ⟨by simp only [IntKind.wrap_u32']; omega, by simp only [IntKind.wrap_u32']; omega⟩ ⟨by have := h.1; omega, by have := h.2; omega⟩ (by simp only [IntKind.wrap_u32']; omega) (by have := h.2; omega)
theorem rotl12 (x : Int) (h : W32 x) : rotl x 12 = x * 4096 % 4294967296 + x / 1048576 := or_join 12 _ _ ⟨by simp only [IntKind.wrap_u32']; omega, by simp only [IntKind.wrap_u32']; omega⟩ ⟨by have := h.1; omega, by have := h.2; omega⟩ (by simp only [IntKind.wrap_u32']; omega) (by have := h.2; omega)
theorem rotl16 (x : Int) (h : W32 x) : rotl x 16 = x * 65536 % 4294967296 + x / 65536 := or_join 16 _ _ ⟨by simp only [IntKind.wrap_u32']; omega, by simp only [IntKind.wrap_u32']; omega⟩ ⟨by have := h.1; omega, by have := h.2; omega⟩ (by simp only [IntKind.wrap_u32']; omega) (by have := h.2; omega)
theorem rotl_w (x : Int) (n : Nat) (h : W32 x) (hn : n = 7 ∨ n = 8 ∨ n = 12 ∨ n = 16) : W32 (rotl x n) := by
  have h1 := h.1
  have h2 := h.2
  rcases hn with rfl | rfl | rfl | rfl
  · rw [rotl7 x h]; constructor <;> omega
  · rw [rotl8 x h]; constructor <;> omega
  · rw [rotl12 x h]; constructor <;> omega
  · rw [rotl16 x h]; constructor <;> omega
theorem back7 (x : Int) (h : W32 x) : bits .or .u32 (rotl x 7 / 128) (rotl x 7 * 33554432 % 4294967296) = x := by
  have hw := rotl_w x 7 h (by omega)
  have h1 := h.1; have h2 := h.2; have w1 := hw.1; have w2 := hw.2
  rw [or_join' 25 _ _ ⟨by omega, by omega⟩ ⟨by omega, by omega⟩ (by omega) (by omega), rotl7 x h]
  obtain ⟨q, hq⟩ : ∃ q, q = x / 33554432 := ⟨_, rfl⟩
  obtain ⟨r, hr⟩ : ∃ r, r = x % 33554432 := ⟨_, rfl⟩
  have e1 : x * 128 % 4294967296 = r * 128 := by omega
  rw [e1, ← hq]
  have e2 : (r * 128 + q) / 128 = r := by omega
  have e3 : (r * 128 + q) * 33554432 % 4294967296 = q * 33554432 := by omega
  rw [e2, e3]
  omega
theorem back8 (x : Int) (h : W32 x) : bits .or .u32 (rotl x 8 / 256) (rotl x 8 * 16777216 % 4294967296) = x := by
  have hw := rotl_w x 8 h (by omega)
  have h1 := h.1; have h2 := h.2; have w1 := hw.1; have w2 := hw.2
  rw [or_join' 24 _ _ ⟨by omega, by omega⟩ ⟨by omega, by omega⟩ (by omega) (by omega), rotl8 x h]
  obtain ⟨q, hq⟩ : ∃ q, q = x / 16777216 := ⟨_, rfl⟩
  obtain ⟨r, hr⟩ : ∃ r, r = x % 16777216 := ⟨_, rfl⟩
  have e1 : x * 256 % 4294967296 = r * 256 := by omega
  rw [e1, ← hq]
  have e2 : (r * 256 + q) / 256 = r := by omega
  have e3 : (r * 256 + q) * 16777216 % 4294967296 = q * 16777216 := by omega
  rw [e2, e3]
  omega
theorem back12 (x : Int) (h : W32 x) : bits .or .u32 (rotl x 12 / 4096) (rotl x 12 * 1048576 % 4294967296) = x := by
  have hw := rotl_w x 12 h (by omega)
  have h1 := h.1; have h2 := h.2; have w1 := hw.1; have w2 := hw.2
  rw [or_join' 20 _ _ ⟨by omega, by omega⟩ ⟨by omega, by omega⟩ (by omega) (by omega), rotl12 x h]
  obtain ⟨q, hq⟩ : ∃ q, q = x / 1048576 := ⟨_, rfl⟩
  obtain ⟨r, hr⟩ : ∃ r, r = x % 1048576 := ⟨_, rfl⟩
  have e1 : x * 4096 % 4294967296 = r * 4096 := by omega
  rw [e1, ← hq]
  have e2 : (r * 4096 + q) / 4096 = r := by omega
  have e3 : (r * 4096 + q) * 1048576 % 4294967296 = q * 1048576 := by omega
  rw [e2, e3]
  omega
theorem back16 (x : Int) (h : W32 x) : bits .or .u32 (rotl x 16 / 65536) (rotl x 16 * 65536 % 4294967296) = x := by
  have hw := rotl_w x 16 h (by omega)
  have h1 := h.1; have h2 := h.2; have w1 := hw.1; have w2 := hw.2
  rw [or_join' 16 _ _ ⟨by omega, by omega⟩ ⟨by omega, by omega⟩ (by omega) (by omega), rotl16 x h]
  obtain ⟨q, hq⟩ : ∃ q, q = x / 65536 := ⟨_, rfl⟩
  obtain ⟨r, hr⟩ : ∃ r, r = x % 65536 := ⟨_, rfl⟩
  have e1 : x * 65536 % 4294967296 = r * 65536 := by omega
  rw [e1, ← hq]
  have e2 : (r * 65536 + q) / 65536 = r := by omega
  have e3 : (r * 65536 + q) * 65536 % 4294967296 = q * 65536 := by omega
  rw [e2, e3]
  omega
theorem xor_w (x y : Int) (hx : W32 x) (hy : W32 y) : W32 (bits .xor .u32 x y) := by
  rw [u32_xor x y hx.1 (by have := hx.2; omega) hy.1 (by have := hy.2; omega)]
  have : x.toNat ^^^ y.toNat < 2 ^ 32 := Nat.xor_lt_two_pow (by have := hx.2; omega) (by have := hy.2; omega)
  constructor <;> omega
theorem xor_back (x y : Int) (hx : W32 x) (hy : W32 y) : bits .xor .u32 (bits .xor .u32 x y) y = x := by
  have hw := xor_w x y hx hy
  rw [u32_xor _ y hw.1 (by have := hw.2; omega) hy.1 (by have := hy.2; omega), u32_xor x y hx.1 (by have := hx.2; omega) hy.1 (by have := hy.2; omega)]
  rw [Int.toNat_natCast, Nat.xor_assoc, Nat.xor_self, Nat.xor_zero]
  exact Int.toNat_of_nonneg hx.1
theorem add_w (x y : Int) : W32 (addU x y) := by unfold addU; constructor <;> omega
theorem sub_back (x y : Int) (hx : W32 x) : (addU x y - y) % 4294967296 = x := by unfold addU; have := hx.1; have := hx.2; omega
theorem left16 (x : Int) (w : World) : Calls Try.prog 19 #[.int .u32 x, .int .u64 16] w fun e w' => e = .returned (.int .u32 (rotl x 16)) ∧ w = w' := by
  go_enter Try.func19, Try.ntmps19
  go_wp2
  go_ret
  exact ⟨rfl, rfl⟩
theorem left12 (x : Int) (w : World) : Calls Try.prog 19 #[.int .u32 x, .int .u64 12] w fun e w' => e = .returned (.int .u32 (rotl x 12)) ∧ w = w' := by
  go_enter Try.func19, Try.ntmps19
  go_wp2
  go_ret
  exact ⟨rfl, rfl⟩
theorem left8 (x : Int) (w : World) : Calls Try.prog 19 #[.int .u32 x, .int .u64 8] w fun e w' => e = .returned (.int .u32 (rotl x 8)) ∧ w = w' := by
  go_enter Try.func19, Try.ntmps19
  go_wp2
  go_ret
  exact ⟨rfl, rfl⟩
theorem left7 (x : Int) (w : World) : Calls Try.prog 19 #[.int .u32 x, .int .u64 7] w fun e w' => e = .returned (.int .u32 (rotl x 7)) ∧ w = w' := by
  go_enter Try.func19, Try.ntmps19
  go_wp2
  go_ret
  exact ⟨rfl, rfl⟩
/-- what the reference's quarter round makes of four words -/
def q1a (a b : Int) : Int := addU a b
def q1d (a b d : Int) : Int := rotl (xorU d (q1a a b)) 16
def q1c (a b c d : Int) : Int := addU c (q1d a b d)
def q1b (a b c d : Int) : Int := rotl (xorU b (q1c a b c d)) 12
def q2a (a b c d : Int) : Int := addU (q1a a b) (q1b a b c d)
def q2d (a b c d : Int) : Int := rotl (xorU (q1d a b d) (q2a a b c d)) 8
def q2c (a b c d : Int) : Int := addU (q1c a b c d) (q2d a b c d)
def q2b (a b c d : Int) : Int := rotl (xorU (q1b a b c d) (q2c a b c d)) 7
theorem results_four {fn : Func} {t u v x : Tmp} (h : fn.results = #[.tmp t, .tmp u, .tmp v, .tmp x]) (tmps : Array Value) (P : Program) (w : World) :
    (results fn tmps).run P w = .ok (.tuple #[tmps.getD t undef, tmps.getD u undef, tmps.getD v undef, tmps.getD x undef]) w := by simp [results, h]
theorem refQuarter (a b c d : Int) (w : World) : Calls Try.prog 14 #[.int .u32 a, .int .u32 b, .int .u32 c, .int .u32 d] w fun e w' =>
    e = .returned (.tuple #[.int .u32 (q2a a b c d), .int .u32 (q2b a b c d), .int .u32 (q2c a b c d), .int .u32 (q2d a b c d)]) ∧ w = w' := by
  have L16 := hide left16
  have L12 := hide left12
  have L8 := hide left8
  have L7 := hide left7
  have e1 : (a + b) % 4294967296 = q1a a b := rfl
  have e2 : rotl (bits .xor .u32 d (q1a a b)) 16 = q1d a b d := rfl
  have e3 : (c + q1d a b d) % 4294967296 = q1c a b c d := rfl
  have e4 : rotl (bits .xor .u32 b (q1c a b c d)) 12 = q1b a b c d := rfl
  have e5 : (q1a a b + q1b a b c d) % 4294967296 = q2a a b c d := rfl
  have e6 : rotl (bits .xor .u32 (q1d a b d) (q2a a b c d)) 8 = q2d a b c d := rfl
  have e7 : (q1c a b c d + q2d a b c d) % 4294967296 = q2c a b c d := rfl
  have e8 : rotl (bits .xor .u32 (q1b a b c d) (q2c a b c d)) 7 = q2b a b c d := rfl
  go_enter Try.func14, Try.ntmps14
  go_wp2_with (first
    | (go_at_call 19; with_reducible refine (L16.out _ _).mono ?_; rintro e w' ⟨rfl, rfl⟩)
    | (go_at_call 19; with_reducible refine (L12.out _ _).mono ?_; rintro e w' ⟨rfl, rfl⟩)
    | (go_at_call 19; with_reducible refine (L8.out _ _).mono ?_; rintro e w' ⟨rfl, rfl⟩)
    | (go_at_call 19; with_reducible refine (L7.out _ _).mono ?_; rintro e w' ⟨rfl, rfl⟩))
  exact bodyPost_ret (results_four Try.results14 _ _ _) rfl ⟨rfl, rfl⟩

set_option maxHeartbeats 400000 in
theorem quarter_law (a b c d : Int) (ha : W32 a) (hb : W32 b) (hc : W32 c) (hd : W32 d) (w : World) : Calls Try.prog 7 #[.int .u32 a, .int .u32 b, .int .u32 c, .int .u32 d] w fun e w' => e = .returned (.bool true) ∧ Below w.heap.size w w' := by
  have Q := hide (refQuarter a b c d)
  have w1a : W32 (q1a a b) := add_w _ _
  have w1d : W32 (q1d a b d) := rotl_w _ 16 (xor_w _ _ hd w1a) (by omega)
  have w1c : W32 (q1c a b c d) := add_w _ _
  have w1b : W32 (q1b a b c d) := rotl_w _ 12 (xor_w _ _ hb w1c) (by omega)
  have w2a : W32 (q2a a b c d) := add_w _ _
  have w2d : W32 (q2d a b c d) := rotl_w _ 8 (xor_w _ _ w1d w2a) (by omega)
  have w2c : W32 (q2c a b c d) := add_w _ _
  have r1 : bits .or .u32 (q2b a b c d / 128) (q2b a b c d * 33554432 % 4294967296) = xorU (q1b a b c d) (q2c a b c d) := back7 _ (xor_w _ _ w1b w2c)
  have r2 : bits .xor .u32 (xorU (q1b a b c d) (q2c a b c d)) (q2c a b c d) = q1b a b c d := xor_back _ _ w1b w2c
  have r3 : (q2c a b c d - q2d a b c d) % 4294967296 = q1c a b c d := sub_back _ _ w1c
  have r4 : bits .or .u32 (q2d a b c d / 256) (q2d a b c d * 16777216 % 4294967296) = xorU (q1d a b d) (q2a a b c d) := back8 _ (xor_w _ _ w1d w2a)
  have r5 : bits .xor .u32 (xorU (q1d a b d) (q2a a b c d)) (q2a a b c d) = q1d a b d := xor_back _ _ w1d w2a
  have r6 : (q2a a b c d - q1b a b c d) % 4294967296 = q1a a b := sub_back _ _ w1a
  have r7 : bits .or .u32 (q1b a b c d / 4096) (q1b a b c d * 1048576 % 4294967296) = xorU b (q1c a b c d) := back12 _ (xor_w _ _ hb w1c)
  have r8 : bits .xor .u32 (xorU b (q1c a b c d)) (q1c a b c d) = b := xor_back _ _ hb w1c
  have r9 : (q1c a b c d - q1d a b d) % 4294967296 = c := sub_back _ _ hc
  have r10 : bits .or .u32 (q1d a b d / 65536) (q1d a b d * 65536 % 4294967296) = xorU d (q1a a b) := back16 _ (xor_w _ _ hd w1a)
  have r11 : bits .xor .u32 (xorU d (q1a a b)) (q1a a b) = d := xor_back _ _ hd w1a
  have r12 : (q1a a b - b) % 4294967296 = a := sub_back _ _ ha
  clear ha hb hc hd w1a w1d w1c w1b w2a w2d w2c
  have A := hide alive_any
  generalize q2a a b c d = a2 at *
  generalize q2b a b c d = b2 at *
  generalize q2c a b c d = c2 at *
  generalize q2d a b c d = d2 at *
  generalize q1a a b = a1 at *
  generalize q1b a b c d = b1 at *
  generalize q1c a b c d = c1 at *
  generalize q1d a b d = d1 at *
  go_enter Try.func7, Try.ntmps7
  go_wp2_with fail
  refine (A.out _).mono ?_
  rintro e w1 ⟨rfl, hb1⟩
  have HB1 := hide hb1
  clear hb1
  go_wp2_with fail
  refine (Q.out _).mono ?_
  rintro e w2 ⟨rfl, rfl⟩
  go_wp2_with fail
  refine (A.out _).mono ?_
  rintro e w2 ⟨rfl, hb2⟩
  have HB2 := hide hb2
  clear hb2
  go_wp2
  go_ret
  exact ⟨rfl, HB1.out.trans (HB2.out.mono HB1.out.size)⟩
theorem w32_of {x : Int} (h : (Lit.int .u32 x).wf = true) : W32 x := by
  simpa [W32, Lit.wf, IntKind.min, IntKind.max, IntKind.signed, IntKind.bits] using h
end Go.Proofs.Ytocademajjkecaa
