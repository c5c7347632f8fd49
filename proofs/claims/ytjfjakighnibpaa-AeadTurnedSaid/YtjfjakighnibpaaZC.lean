/-
  The stream, by its text.
-/
import Derived.Deep.DeepCutAuto
import Derived.Deep.RegionHeld3
import Derived.Deep.MidRow
import Derived.Test.YtjfjakighnibpaaZB
set_option linter.unusedVariables false
set_option linter.unusedSimpArgs false
set_option maxRecDepth 100000
namespace Go.Proofs.Ytjfjakighnibpaa.St
open Go.Proofs.Ytjfjakighnibpaa
section
open Go.RowKit
def upTo : Nat → List Int
  | 0 => zeros 32
  | k + 1 => (upTo k).set k (k : Int)
def aliveNonce : ByteArray := ⟨#[0, 0, 0, 9, 0, 0, 0, 74, 0, 0, 0, 0]⟩
set_option maxRecDepth 100000 in
theorem alive_kat : (mixF (beginF (upTo 32) aliveNonce 1)).take 4 = [16, 241, 231, 228] := by decide +kernel
theorem upTo_len (k : Nat) : (upTo k).length = 32 := by
  induction k with
  | zero => rfl
  | succ k ih => simp [upTo, ih]
theorem upTo_bytes (k : Nat) (hk : k ≤ 32) : Bytes (upTo k) := by
  induction k with
  | zero =>
    intro i hi
    have : gi (upTo 0) i = 0 := by
      show (zeros 32).getD i 0 = 0
      unfold zeros
      rw [List.getD_eq_getElem?_getD, List.getElem?_replicate]
      split <;> rfl
    omega
  | succ k ih => exact bytes_set (ih (by omega)) _ _ (by omega)
end

section
open Go.RowKit
def W32 (x : Int) : Prop := 0 ≤ x ∧ x ≤ 4294967295
theorem or_join (i : Nat) (x y : Int) (hx : W32 x) (hy : W32 y) (h1 : x % (2 ^ i : Nat) = 0) (h2 : y < (2 ^ i : Nat)) : bits .or .u32 x y = x + y := by
  rw [u32_or x y hx.1 (by have := hx.2; omega) hy.1 (by have := hy.2; omega)]
  obtain ⟨a, rfl⟩ := Int.eq_ofNat_of_zero_le hx.1
  obtain ⟨b, rfl⟩ := Int.eq_ofNat_of_zero_le hy.1
  simp only [Int.toNat_natCast]
  rw [nat_join i a b (by exact_mod_cast h1) (by exact_mod_cast h2)]
  simp
theorem or_join' (i : Nat) (x y : Int) (hx : W32 x) (hy : W32 y) (h1 : x % (2 ^ i : Nat) = 0) (h2 : y < (2 ^ i : Nat)) : bits .or .u32 y x = x + y := by
  rw [u32_or y x hy.1 (by have := hy.2; omega) hx.1 (by have := hx.2; omega)]
  obtain ⟨a, rfl⟩ := Int.eq_ofNat_of_zero_le hx.1
  obtain ⟨b, rfl⟩ := Int.eq_ofNat_of_zero_le hy.1
  simp only [Int.toNat_natCast]
  rw [Nat.or_comm, nat_join i a b (by exact_mod_cast h1) (by exact_mod_cast h2)]
  simp
theorem rotl7 (x : Int) (h : W32 x) : rotl x 7 = x * 128 % 4294967296 + x / 33554432 := or_join 7 _ _ ⟨by simp only [IntKind.wrap_u32']; omega, by simp only [IntKind.wrap_u32']; omega⟩ ⟨by have := h.1; omega, by have := h.2; omega⟩ (by simp only [IntKind.wrap_u32']; omega) (by have := h.2; omega)
theorem rotl8 (x : Int) (h : W32 x) : rotl x 8 = x * 256 % 4294967296 + x / 16777216 := or_join 8 _ _ ⟨by simp only [IntKind.wrap_u32']; omega, by simp only [IntKind.wrap_u32']; omega⟩ ⟨by have := h.1; omega, by have := h.2; omega⟩ (by simp only [IntKind.wrap_u32']; omega) (by have := h.2; omega)
theorem rotl12 (x : Int) (h : W32 x) : rotl x 12 = x * 4096 % 4294967296 + x / 1048576 := or_join 12 _ _ ⟨by simp only [IntKind.wrap_u32']; omega, by simp only [IntKind.wrap_u32']; omega⟩ ⟨by have := h.1; omega, by have := h.2; omega⟩ (by simp only [IntKind.wrap_u32']; omega) (by have := h.2; omega)
theorem rotl16 (x : Int) (h : W32 x) : rotl x 16 = x * 65536 % 4294967296 + x / 65536 := or_join 16 _ _ ⟨by simp only [IntKind.wrap_u32']; omega, by simp only [IntKind.wrap_u32']; omega⟩ ⟨by have := h.1; omega, by have := h.2; omega⟩ (by simp only [IntKind.wrap_u32']; omega) (by have := h.2; omega)
theorem rotl_w (x : Int) (n : Nat) (h : W32 x) (hn : n = 7 ∨ n = 8 ∨ n = 12 ∨ n = 16) : W32 (rotl x n) := by
  have h1 := h.1
  have h2 := h.2
  rcases hn with rfl | rfl | rfl | rfl
  · rw [rotl7 x h]; constructor <;> omega
  · rw [rotl8 x h]; constructor <;> omega
  · rw [rotl12 x h]; constructor <;> omega
  · rw [rotl16 x h]; constructor <;> omega
theorem back7 (x : Int) (h : W32 x) : bits .or .u32 (rotl x 7 / 128) (rotl x 7 * 33554432 % 4294967296) = x := by
  have hw := rotl_w x 7 h (by omega)
  have h1 := h.1; have h2 := h.2; have w1 := hw.1; have w2 := hw.2
  rw [or_join' 25 _ _ ⟨by omega, by omega⟩ ⟨by omega, by omega⟩ (by omega) (by omega), rotl7 x h]
  obtain ⟨q, hq⟩ : ∃ q, q = x / 33554432 := ⟨_, rfl⟩
  obtain ⟨r, hr⟩ : ∃ r, r = x % 33554432 := ⟨_, rfl⟩
  have e1 : x * 128 % 4294967296 = r * 128 := by omega
  rw [e1, ← hq]
  have e2 : (r * 128 + q) / 128 = r := by omega
  have e3 : (r * 128 + q) * 33554432 % 4294967296 = q * 33554432 := by omega
  rw [e2, e3]
  omega
theorem back8 (x : Int) (h : W32 x) : bits .or .u32 (rotl x 8 / 256) (rotl x 8 * 16777216 % 4294967296) = x := by
  have hw := rotl_w x 8 h (by omega)
  have h1 := h.1; have h2 := h.2; have w1 := hw.1; have w2 := hw.2
  rw [or_join' 24 _ _ ⟨by omega, by omega⟩ ⟨by omega, by omega⟩ (by omega) (by omega), rotl8 x h]
  obtain ⟨q, hq⟩ : ∃ q, q = x / 16777216 := ⟨_, rfl⟩
  obtain ⟨r, hr⟩ : ∃ r, r = x % 16777216 := ⟨_, rfl⟩
  have e1 : x * 256 % 4294967296 = r * 256 := by omega
  rw [e1, ← hq]
  have e2 : (r * 256 + q) / 256 = r := by omega
  have e3 : (r * 256 + q) * 16777216 % 4294967296 = q * 16777216 := by omega
  rw [e2, e3]
  omega
theorem back12 (x : Int) (h : W32 x) : bits .or .u32 (rotl x 12 / 4096) (rotl x 12 * 1048576 % 4294967296) = x := by
  have hw := rotl_w x 12 h (by omega)
  have h1 := h.1; have h2 := h.2; have w1 := hw.1; have w2 := hw.2
  rw [or_join' 20 _ _ ⟨by omega, by omega⟩ ⟨by omega, by omega⟩ (by omega) (by omega), rotl12 x h]
  obtain ⟨q, hq⟩ : ∃ q, q = x / 1048576 := ⟨_, rfl⟩
  obtain ⟨r, hr⟩ : ∃ r, r = x % 1048576 := ⟨_, rfl⟩
  have e1 : x * 4096 % 4294967296 = r * 4096 := by omega
  rw [e1, ← hq]
  have e2 : (r * 4096 + q) / 4096 = r := by omega
  have e3 : (r * 4096 + q) * 1048576 % 4294967296 = q * 1048576 := by omega
  rw [e2, e3]
  omega
theorem back16 (x : Int) (h : W32 x) : bits .or .u32 (rotl x 16 / 65536) (rotl x 16 * 65536 % 4294967296) = x := by
  have hw := rotl_w x 16 h (by omega)
  have h1 := h.1; have h2 := h.2; have w1 := hw.1; have w2 := hw.2
  rw [or_join' 16 _ _ ⟨by omega, by omega⟩ ⟨by omega, by omega⟩ (by omega) (by omega), rotl16 x h]
  obtain ⟨q, hq⟩ : ∃ q, q = x / 65536 := ⟨_, rfl⟩
  obtain ⟨r, hr⟩ : ∃ r, r = x % 65536 := ⟨_, rfl⟩
  have e1 : x * 65536 % 4294967296 = r * 65536 := by omega
  rw [e1, ← hq]
  have e2 : (r * 65536 + q) / 65536 = r := by omega
  have e3 : (r * 65536 + q) * 65536 % 4294967296 = q * 65536 := by omega
  rw [e2, e3]
  omega
theorem xor_w (x y : Int) (hx : W32 x) (hy : W32 y) : W32 (bits .xor .u32 x y) := by
  rw [u32_xor x y hx.1 (by have := hx.2; omega) hy.1 (by have := hy.2; omega)]
  have : x.toNat ^^^ y.toNat < 2 ^ 32 := Nat.xor_lt_two_pow (by have := hx.2; omega) (by have := hy.2; omega)
  constructor <;> omega
theorem xor_back (x y : Int) (hx : W32 x) (hy : W32 y) : bits .xor .u32 (bits .xor .u32 x y) y = x := by
  have hw := xor_w x y hx hy
  rw [u32_xor _ y hw.1 (by have := hw.2; omega) hy.1 (by have := hy.2; omega), u32_xor x y hx.1 (by have := hx.2; omega) hy.1 (by have := hy.2; omega)]
  rw [Int.toNat_natCast, Nat.xor_assoc, Nat.xor_self, Nat.xor_zero]
  exact Int.toNat_of_nonneg hx.1
theorem add_w (x y : Int) : W32 (addU x y) := by unfold addU; constructor <;> omega
theorem sub_back (x y : Int) (hx : W32 x) : (addU x y - y) % 4294967296 = x := by unfold addU; have := hx.1; have := hx.2; omega
theorem left16 (x : Int) (w : World) : Calls Try.prog 57 #[.int .u32 x, .int .u64 16] w fun e w' => e = .returned (.int .u32 (rotl x 16)) ∧ w = w' := by
  go_enter Try.func57, Try.ntmps57
  go_wp2
  go_ret
  exact ⟨rfl, rfl⟩
theorem left12 (x : Int) (w : World) : Calls Try.prog 57 #[.int .u32 x, .int .u64 12] w fun e w' => e = .returned (.int .u32 (rotl x 12)) ∧ w = w' := by
  go_enter Try.func57, Try.ntmps57
  go_wp2
  go_ret
  exact ⟨rfl, rfl⟩
theorem left8 (x : Int) (w : World) : Calls Try.prog 57 #[.int .u32 x, .int .u64 8] w fun e w' => e = .returned (.int .u32 (rotl x 8)) ∧ w = w' := by
  go_enter Try.func57, Try.ntmps57
  go_wp2
  go_ret
  exact ⟨rfl, rfl⟩
theorem left7 (x : Int) (w : World) : Calls Try.prog 57 #[.int .u32 x, .int .u64 7] w fun e w' => e = .returned (.int .u32 (rotl x 7)) ∧ w = w' := by
  go_enter Try.func57, Try.ntmps57
  go_wp2
  go_ret
  exact ⟨rfl, rfl⟩
/-- what the reference's quarter round makes of four words -/
def q1a (a b : Int) : Int := addU a b
def q1d (a b d : Int) : Int := rotl (xorU d (q1a a b)) 16
def q1c (a b c d : Int) : Int := addU c (q1d a b d)
def q1b (a b c d : Int) : Int := rotl (xorU b (q1c a b c d)) 12
def q2a (a b c d : Int) : Int := addU (q1a a b) (q1b a b c d)
def q2d (a b c d : Int) : Int := rotl (xorU (q1d a b d) (q2a a b c d)) 8
def q2c (a b c d : Int) : Int := addU (q1c a b c d) (q2d a b c d)
def q2b (a b c d : Int) : Int := rotl (xorU (q1b a b c d) (q2c a b c d)) 7
theorem results_four {fn : Func} {t u v x : Tmp} (h : fn.results = #[.tmp t, .tmp u, .tmp v, .tmp x]) (tmps : Array Value) (P : Program) (w : World) :
    (results fn tmps).run P w = .ok (.tuple #[tmps.getD t undef, tmps.getD u undef, tmps.getD v undef, tmps.getD x undef]) w := by simp [results, h]
theorem refQuarter (a b c d : Int) (w : World) : Calls Try.prog 43 #[.int .u32 a, .int .u32 b, .int .u32 c, .int .u32 d] w fun e w' =>
    e = .returned (.tuple #[.int .u32 (q2a a b c d), .int .u32 (q2b a b c d), .int .u32 (q2c a b c d), .int .u32 (q2d a b c d)]) ∧ w = w' := by
  have L16 := hide left16
  have L12 := hide left12
  have L8 := hide left8
  have L7 := hide left7
  have e1 : (a + b) % 4294967296 = q1a a b := rfl
  have e2 : rotl (bits .xor .u32 d (q1a a b)) 16 = q1d a b d := rfl
  have e3 : (c + q1d a b d) % 4294967296 = q1c a b c d := rfl
  have e4 : rotl (bits .xor .u32 b (q1c a b c d)) 12 = q1b a b c d := rfl
  have e5 : (q1a a b + q1b a b c d) % 4294967296 = q2a a b c d := rfl
  have e6 : rotl (bits .xor .u32 (q1d a b d) (q2a a b c d)) 8 = q2d a b c d := rfl
  have e7 : (q1c a b c d + q2d a b c d) % 4294967296 = q2c a b c d := rfl
  have e8 : rotl (bits .xor .u32 (q1b a b c d) (q2c a b c d)) 7 = q2b a b c d := rfl
  go_enter Try.func43, Try.ntmps43
  go_wp2_with (first
    | (go_at_call 57; with_reducible refine (L16.out _ _).mono ?_; rintro e w' ⟨rfl, rfl⟩)
    | (go_at_call 57; with_reducible refine (L12.out _ _).mono ?_; rintro e w' ⟨rfl, rfl⟩)
    | (go_at_call 57; with_reducible refine (L8.out _ _).mono ?_; rintro e w' ⟨rfl, rfl⟩)
    | (go_at_call 57; with_reducible refine (L7.out _ _).mono ?_; rintro e w' ⟨rfl, rfl⟩))
  exact bodyPost_ret (results_four Try.results43 _ _ _) rfl ⟨rfl, rfl⟩

theorem w32_of {x : Int} (h : (Lit.int .u32 x).wf = true) : W32 x := by
  simpa [W32, Lit.wf, IntKind.min, IntKind.max, IntKind.signed, IntKind.bits] using h
end

section
open Go.RowKit
/-- the words of the block with this number, ahead of all rounds -/
def blk (kb : List Int) (s : ByteArray) (ct : Int) (j : Nat) : List Int := (beginF kb s ct).set 12 ((ct + j) % 4294967296)
theorem blk_len (kb : List Int) (s : ByteArray) (ct : Int) (j : Nat) : (blk kb s ct j).length = 16 := by rw [blk, List.length_set, beginF_len]
theorem blk_zero (kb : List Int) (s : ByteArray) (ct : Int) (h : W32 ct) : blk kb s ct 0 = beginF kb s ct := by
  apply list_ext_gi
  · rw [blk_len, beginF_len]
  · intro i hi
    rw [blk, gi_set _ _ _ _ (by rw [beginF_len]; omega)]
    split
    · rename_i e
      subst e
      have e1 : gi (beginF kb s ct) 12 = ct := by
        unfold beginF
        simp only [begN]
        rw [gi_set_other _ _ _ _ (by omega), gi_set_other _ _ _ _ (by omega), gi_set_other _ _ _ _ (by omega), gi_set_same _ _ _ (by rw [begK_len]; omega)]
      rw [e1]
      have := h.1
      have := h.2
      omega
    · rfl
theorem blk_succ (kb : List Int) (s : ByteArray) (ct : Int) (j : Nat) : blk kb s ct (j + 1) = (blk kb s ct j).set 12 ((gi (blk kb s ct j) 12 + 1) % 4294967296) := by
  have e : gi (blk kb s ct j) 12 = (ct + j) % 4294967296 := gi_set_same _ _ _ (by rw [beginF_len]; omega)
  rw [e]
  unfold blk
  rw [List.set_set]
  congr 1
  omega
/-- the stream's byte at a place -/
def ks (kb : List Int) (s : ByteArray) (ct : Int) (k : Nat) : Int := gi (mixF (blk kb s ct (k / 64))) (k % 64)
/-- the first k bytes masked -/
def mskTo (f : Nat → Int) (l : List Int) : Nat → List Int
  | 0 => l
  | k + 1 => (mskTo f l k).set k (bits .xor .u8 (gi l k) (f k))
theorem mskTo_len (f : Nat → Int) (l : List Int) (k : Nat) : (mskTo f l k).length = l.length := by induction k <;> simp_all [mskTo]
theorem mskTo_at (f : Nat → Int) (l : List Int) (k i : Nat) (h : k ≤ i) : gi (mskTo f l k) i = gi l i := by
  induction k with
  | zero => rfl
  | succ k ih => rw [mskTo, gi_set_other _ _ _ _ (by omega), ih (by omega)]
theorem mskTo_done (f : Nat → Int) (l : List Int) (k i : Nat) (h : i < k) (hk : k ≤ l.length) : gi (mskTo f l k) i = bits .xor .u8 (gi l i) (f i) := by
  induction k with
  | zero => omega
  | succ k ih =>
    rw [mskTo]
    by_cases e : k = i
    · subst e; rw [gi_set_same _ _ _ (by rw [mskTo_len]; omega)]
    · rw [gi_set_other _ _ _ _ e, ih (by omega) (by omega)]
/-- what Mask keeps -/
structure MK (w : World) (bo bf : Nat) (o m : List Int) (W : World) : Prop where
  out : Buf W bo 5 o
  first : Row W bf 47 .u32 m
  below : Below w.heap.size w W
  lo : w.heap.size ≤ bo ∧ w.heap.size ≤ bf ∧ bo ≠ bf
theorem MK.below_ {w W W' : World} {bo bf : Nat} {o m : List Int} (h : MK w bo bf o m W) (hb : Below W.heap.size W W') : MK w bo bf o m W' :=
  ⟨h.out.below hb h.out.lt, h.first.below hb h.first.lt, h.below.trans (hb.mono h.below.size), h.lo⟩
theorem MK.put {w W : World} {bo bf : Nat} {o m : List Int} (h : MK w bo bf o m W) {i : Nat} (hi : i < o.length) (x : Int) : MK w bo bf (o.set i x) m (W.setCell ⟨bo, i, none⟩ (.int .u8 x)) :=
  ⟨h.out.set_ hi x, h.first.far (by have := h.lo; simp; omega) _, h.below.setCell h.lo.1 _, h.lo⟩
theorem MK.count {w W : World} {bo bf : Nat} {o m : List Int} (h : MK w bo bf o m W) (i : Nat) (x : Int) : MK w bo bf o (m.set i x) (W.setCell ⟨bf, i, none⟩ (.int .u32 x)) :=
  ⟨h.out.far (by have := h.lo; simp; omega) _, h.first.set_ i x, h.below.setCell h.lo.2.1 _, h.lo⟩
/-- the same with a block's bytes -/
structure MN (w : World) (bo bf bs : Nat) (o m st : List Int) (W : World) : Prop where
  k : MK w bo bf o m W
  str : Row W bs 49 .u8 st
  lo : w.heap.size ≤ bs ∧ bs ≠ bo ∧ bs ≠ bf
theorem MN.start {w W : World} {bo bf : Nat} {o m : List Int} (h : MK w bo bf o m W) (old : Array Value) (st : List Int) : MN w bo bf W.heap.size o m st ((W.alloc (.cells old 49)).setRow W.heap.size (ints .u8 st)) := by
  have l1 := h.out.lt
  have l2 := h.first.lt
  have l3 := h.below.size
  exact ⟨⟨(h.out.alloc _).farRow (by omega) _, (h.first.alloc _).farRow (by omega) _, below_setRow (h.below.alloc l3 _) l3 _, h.lo⟩, setRow_heap _ _ _ _ 49 _ (heap_alloc_new _ _), by omega⟩
theorem MN.put {w W : World} {bo bf bs : Nat} {o m st : List Int} (h : MN w bo bf bs o m st W) {i : Nat} (hi : i < o.length) (x : Int) : MN w bo bf bs (o.set i x) m st (W.setCell ⟨bo, i, none⟩ (.int .u8 x)) :=
  ⟨h.k.put hi x, h.str.far h.lo.2.1 _, h.lo⟩
theorem MN.drew {w W : World} {bo bf bs : Nat} {o m st : List Int} (h : MN w bo bf bs o m st W) : MN w bo bf bs o m st W.drew := ⟨⟨h.k.out, h.k.first, h.k.below.drew, h.k.lo⟩, h.str, h.lo⟩
set_option maxRecDepth 100000 in
set_option maxHeartbeats 1000000 in
theorem mask_yes (kb : List Int) (hk : kb.length = 32) (hkb : Bytes kb) (s : ByteArray) (hs : s.size = 12) (ct : Int) (hct : W32 ct) (text : ByteArray) (ht : text.size ≤ 2000) (hfit : ct + (text.size + 63) / 64 ≤ 4294967296) (w : World) :
    Calls Try.prog 15 #[.agg (ints .u8 kb), .string s, .int .u32 ct, .string text] w fun e w' => e = .returned (.tuple #[.string (strOfNums (mskTo (ks kb s ct) (nums text) text.size)), .int .i64 0]) ∧ Below w.heap.size w w' := by
  have B := hide (begin_any kb hk hkb s hs ct)
  have M := hide mixed_any
  have hs' : (s.size : Int) = 12 := by omega
  have c1 := hct.1
  have c2 := hct.2
  have hfit' : ct + ((text.size : Int) + 64 - 1) / 64 ≤ 4294967296 := by omega
  have cv := fun W => Lib.run_convert_string_bytes (P := Try.prog) W 9 38 5 text Try.underlying9 Try.underlying38 Try.underlying5
  have K23 : Hid ((Try.prog.info? 23).map (·.size) = some (ints .u8 kb).size) := by show _ = _; rw [ints_size, hk]; kernel_rfl
  have r0 : Row (w.alloc (.cells (ints .u8 kb) 23)) w.heap.size 23 .u8 kb := Row.new _ _ _ _
  have R0 := hide r0
  have F := hide hfit
  clear hs hfit hk r0
  go_enter Try.func15, Try.ntmps15
  go_upto_region 5 with fail
  clear cv hfit'
  generalize hcap : grownCap (w.alloc (.cells (ints .u8 kb) 23)) text.size 0 5 = cap
  clear hcap
  generalize hW1 : Lib.bytesWorld (w.alloc (.cells (ints .u8 kb) 23)) 5 text = W1
  have hb1 : Below w.heap.size w W1 := by rw [← hW1]; exact bytesWorld_below ((Below.refl _ _).alloc (Nat.le_refl _) _) (by simp) _ _
  have hk1 : Row W1 w.heap.size 23 .u8 kb := by rw [← hW1]; exact (Lib.bytesWorld_at_old _ _ _ _ (by simp)).trans R0.out
  have ho1 : Buf W1 (w.heap.size + 1) 5 (nums text) := by rw [← hW1]; have h := buf_new (w.alloc (.cells (ints .u8 kb) 23)) 5 text; simpa only [World.size_alloc] using h
  clear hW1 R0
  have HK1 := hide hk1
  have HB1 := hide hb1
  have HO1 := hide ho1
  clear hk1 hb1 ho1
  go_wp2_with (refine wpList_load_row rfl 23 _ rfl _ rfl 23 (ints .u8 kb) (0, 0) _ HK1.out Try.underlying23 rfl K23.out ?_)
  refine (B.out _).mono ?_
  rintro e W2 ⟨rfl, hb2⟩
  have hM0 : Buf W2 (w.heap.size + 1) 5 (nums text) := HO1.out.below hb2 HO1.out.lt
  have hB2 : Below w.heap.size w W2 := HB1.out.trans (hb2.mono HB1.out.size)
  clear hb2 HK1 HB1 HO1
  obtain ⟨m, hm⟩ : ∃ m, m = beginF kb s ct := ⟨_, rfl⟩
  have ml : m.length = 16 := by rw [hm, beginF_len]
  rw [← hm]
  have HM := hide hm
  have I43 := hide (sz43 m ml)
  have Z43 : Hid ((ints .u32 (zeros 16)).size = (ints .u32 m).size) := by show _ = _; rw [ints_size, ints_size, ml]; rfl
  have ML := hide ml
  have HB2 := hide hB2
  have HM0 := hide hM0
  clear hm ml hB2 hM0
  go_upto_region 6 with (refine wpList_store_row rfl 47 _ _ rfl _ (ints .u32 m) rfl rfl 47 _ (heap_alloc_new _ _) I43.out Z43.out (ints_one _ _) ?_)
  generalize hW3 : (W2.alloc _).setRow W2.heap.size _ = W3
  have hK : MK w (w.heap.size + 1) W2.heap.size (nums text) m W3 := by
    rw [← hW3]
    have hlt := HM0.out.lt
    exact ⟨(HM0.out.alloc _).farRow (by omega) _, setRow_heap _ _ _ _ 47 _ (heap_alloc_new _ _), below_setRow (HB2.out.alloc HB2.out.size _) HB2.out.size _, by have := HB2.out.size; omega⟩
  clear hW3 HM0 HB2
  generalize w.heap.size + 1 = bo at hK ⊢
  generalize W2.heap.size = bf at hK ⊢
  obtain ⟨fk, hfk⟩ : ∃ fk, fk = ks kb s ct := ⟨_, rfl⟩
  have hb0 : m = blk kb s ct 0 := by rw [HM.out, blk_zero kb s ct hct]
  have HF := hide hfk
  have hK0 : MK w bo bf (mskTo fk (nums text) 0) (blk kb s ct 0) W3 := by rw [← hb0]; exact hK
  have NN := hide (nums_len text)
  clear hK hfk hb0 I43 Z43 HM
  obtain ⟨nt, hnt⟩ : ∃ nt, nt = nums text := ⟨_, rfl⟩
  rw [← hnt] at hK0 NN
  have HNT := hide hnt
  clear hnt
  go_wp2
  go_loopw [13] (fun i W => ∃ j : Nat, 64 * j ≤ text.size + 63 ∧ i = .int .i64 (64 * j : Nat) ∧ MK w bo bf (mskTo fk nt (min (64 * j) text.size)) (blk kb s ct j) W) (fun i _ => text.size + 64 - (intOf i).toNat)
  case atStart => exact ⟨0, by omega, rfl, by simpa using hK0⟩
  case round =>
    clear hK0
    obtain ⟨j, hj, rfl, hK⟩ := hrel
    by_cases hlt : 64 * j < text.size
    · have e0 : min (64 * j) text.size = 64 * j := by omega
      rw [e0] at hK
      have L43 := hide (sz43 (blk kb s ct j) (blk_len kb s ct j))
      have FR := hide hK.first
      have BL := hide (blk_len kb s ct j)
      have HK := hide hK
      clear e0 hK
      go_wp2_with (refine wpList_load_row rfl 47 _ rfl _ rfl 47 (ints .u32 (blk kb s ct j)) (0, 0) _ FR.out Try.underlying47 rfl L43.out ?_)
      refine (M.out _ BL.out _).mono ?_
      rintro e W4 ⟨rfl, hb4⟩
      have hK4 := HK.out.below_ hb4
      clear hb4 HK FR L43
      obtain ⟨st, hst⟩ : ∃ st, st = mixF (blk kb s ct j) := ⟨_, rfl⟩
      have stl : st.length = 64 := by rw [hst, mixF_len]
      rw [← hst]
      have HS := hide hst
      have I41 := hide (sz41 st stl)
      have Z41 : Hid ((ints .u8 (zeros 64)).size = (ints .u8 st).size) := by show _ = _; rw [ints_size, ints_size, stl]; rfl
      have SL := hide stl
      have HK4 := hide hK4
      clear hst stl hK4
      go_upto_region 10 with (refine wpList_store_row rfl 49 _ _ rfl _ (ints .u8 st) rfl rfl 49 _ (heap_alloc_new _ _) I41.out Z41.out (ints_one _ _) ?_)
      generalize hW5 : (W4.alloc _).setRow W4.heap.size _ = W5
      have hN : MN w bo bf W4.heap.size (mskTo fk nt (64 * j)) (blk kb s ct j) st W5 := by
        rw [← hW5]
        exact MN.start HK4.out _ _
      clear hW5 HK4
      generalize W4.heap.size = bs at hN ⊢
      have hj1 : (64 : Int) * j ≤ text.size := by omega
      simp only [Act.put]
      go_cut [50, 51] (fun s50 s51 wx => s50 = .int .i64 ((min 64 (text.size - 64 * j) : Nat) : Int) ∧ s51 = .int .i64 ((0 : Nat) : Int) ∧ wx = W5)
      case first =>
        go_wp2
        all_goals (go_meet; exact ⟨by congr 1; omega, rfl, rfl⟩)
      case rest =>
        obtain ⟨rfl, rfl, rfl⟩ := hcut
        clear hj1
        obtain ⟨e, he⟩ : ∃ e, e = min 64 (text.size - 64 * j) := ⟨_, rfl⟩
        rw [← he]
        have he1 : e ≤ 64 := by omega
        have he2 : 64 * j + e ≤ text.size := by omega
        have HE := hide he
        clear he
        have hb51 : ((64 : Int) * j) < text.size := by omega
        go_wp2
        go_loopw [51] (fun i W => ∃ q : Nat, q ≤ e ∧ i = .int .i64 q ∧ MN w bo bf bs (mskTo fk nt (64 * j + q)) (blk kb s ct j) st W) (fun i _ => e - (intOf i).toNat)
        case atStart => exact ⟨0, by omega, by simp, hN⟩
        case round =>
          clear hN
          obtain ⟨q, hq, rfl, hN⟩ := hrel
          by_cases hlq : q < e
          · have p0 : (0 : Int) ≤ 64 * (j : Int) + q := by omega
            have p1 : (64 * (j : Int) + q) < text.size := by omega
            have q0 : (0 : Int) ≤ q := by omega
            have q1 : (q : Int) < 64 := by omega
            have lq : 64 * j + q < (mskTo fk nt (64 * j + q)).length := by rw [mskTo_len, NN.out]; omega
            have d1 := hN.k.out.at_ lq
            have d2 := hN.str.at_ (i := q) (by rw [SL.out]; omega)
            have d3 := hN.k.out.free lq
            have HN := hide hN
            have LQ := hide lq
            clear hN lq
            go_wp2_with fail
            go_region
            go_wp2
            refine ⟨⟨q + 1, by omega, by go_num, ?_⟩, by simp [intOf]; omega⟩
            have e1 : gi st q = fk (64 * j + q) := by
              rw [HF.out, HS.out]
              unfold ks
              rw [show (64 * j + q) / 64 = j by omega, show (64 * j + q) % 64 = q by omega]
            rw [mskTo_at fk nt _ _ (Nat.le_refl _), e1]
            exact (HN.out.put LQ.out _).drew
          · have hqe : q = e := by omega
            rw [hqe] at hN
            clear hqe
            have hK5 := hN.k.count 12 ((gi (blk kb s ct j) 12 + 1) % 4294967296)
            rw [← blk_succ] at hK5
            have g1 := hN.k.first.at_ (i := 12) (by rw [BL.out]; omega)
            have g2 := hN.k.first.free 12
            have HK5 := hide hK5
            clear hN hK5
            go_wp2
            refine ⟨⟨j + 1, by omega, by congr 1, ?_⟩, ?_⟩
            · have e2 : min (64 * (j + 1)) text.size = 64 * j + e := by have := HE.out; omega
              rw [e2]
              exact HK5.out
            · simp [intOf]; omega
    · have e0 : min (64 * j) text.size = text.size := by omega
      rw [e0] at hK
      have cv : (convert 38 9 (.slice (some ⟨bo, 0, none⟩) text.size cap)).run Try.prog wr = .ok (.string (strOfNums (mskTo fk nt text.size))) wr :=
        hK.out.conv Try.underlying38 Try.underlying5 Try.underlying9 text.size cap (by rw [mskTo_len, NN.out])
      have HB := hide hK.below
      clear hK e0
      go_wp2
      go_ret2
      exact ⟨by rw [HF.out, HNT.out]; rfl, HB.out⟩

set_option maxRecDepth 100000 in
set_option maxHeartbeats 400000 in
theorem mask_nonce (kb : List Int) (s : ByteArray) (ct : Int) (text : ByteArray) (hs : s.size ≠ 12) (ht : text.size ≤ 2000) (w : World) :
    Calls Try.prog 15 #[.agg (ints .u8 kb), .string s, .int .u32 ct, .string text] w fun e w' => e = .returned (.tuple #[.string ByteArray.empty, .int .i64 1]) ∧ Below w.heap.size w w' := by
  have h1 : ((s.size : Int) == 12) = false := by simp; omega
  have h2 : ((s.size : Int) != 12) = true := by simp; omega
  clear hs
  go_enter Try.func15, Try.ntmps15
  go_wp2
  go_ret2
  exact ⟨rfl, (Below.refl _ _).alloc (Nat.le_refl _) _⟩
set_option maxRecDepth 100000 in
set_option maxHeartbeats 400000 in
theorem mask_far (kb : List Int) (s : ByteArray) (ct : Int) (hct : W32 ct) (text : ByteArray) (hs : s.size = 12) (ht : text.size ≤ 2000) (hfit : ¬ ct + (text.size + 63) / 64 ≤ 4294967296) (w : World) :
    Calls Try.prog 15 #[.agg (ints .u8 kb), .string s, .int .u32 ct, .string text] w fun e w' => e = .returned (.tuple #[.string ByteArray.empty, .int .i64 1]) ∧ Below w.heap.size w w' := by
  have hs' : (s.size : Int) = 12 := by omega
  have c1 := hct.1
  have c2 := hct.2
  have hfit' : 4294967296 < ct + ((text.size : Int) + 64 - 1) / 64 := by omega
  clear hs hfit hct
  go_enter Try.func15, Try.ntmps15
  go_wp2
  go_ret2
  exact ⟨rfl, (Below.refl _ _).alloc (Nat.le_refl _) _⟩
end

section
open Go.RowKit
theorem outTo_bytes (m l : List Int) (k : Nat) : Bytes (outTo m l k) := by
  induction k with
  | zero =>
    intro i hi
    have : gi (outTo m l 0) i = 0 := by
      show (zeros 64).getD i 0 = 0
      unfold zeros
      rw [List.getD_eq_getElem?_getD, List.getElem?_replicate]
      split <;> rfl
    omega
  | succ k ih => exact bytes_set (bytes_set (bytes_set (bytes_set ih _ _ (by omega)) _ _ (by omega)) _ _ (by omega)) _ _ (by omega)
theorem mixF_bytes (l : List Int) : Bytes (mixF l) := outTo_bytes _ _ _
theorem ks_bd (kb : List Int) (s : ByteArray) (ct : Int) (k : Nat) : 0 ≤ ks kb s ct k ∧ ks kb s ct k ≤ 255 := mixF_bytes _ _ (by rw [mixF_len]; omega)
theorem xor8_bd (x y : Int) (hx : 0 ≤ x ∧ x ≤ 255) (hy : 0 ≤ y ∧ y ≤ 255) : 0 ≤ bits .xor .u8 x y ∧ bits .xor .u8 x y ≤ 255 := by
  rw [u8_xor x y hx.1 (by omega) hy.1 (by omega)]
  have : x.toNat ^^^ y.toNat < 2 ^ 8 := Nat.xor_lt_two_pow (by omega) (by omega)
  omega
theorem xor8_back (x y : Int) (hx : 0 ≤ x ∧ x ≤ 255) (hy : 0 ≤ y ∧ y ≤ 255) : bits .xor .u8 (bits .xor .u8 x y) y = x := by
  have hw := xor8_bd x y hx hy
  rw [u8_xor _ y hw.1 (by omega) hy.1 (by omega), u8_xor x y hx.1 (by omega) hy.1 (by omega)]
  rw [Int.toNat_natCast, Nat.xor_assoc, Nat.xor_self, Nat.xor_zero]
  exact Int.toNat_of_nonneg hx.1
theorem msk_bytes {f : Nat → Int} (hf : ∀ k, 0 ≤ f k ∧ f k ≤ 255) {l : List Int} (hl : Bytes l) (k : Nat) (hk : k ≤ l.length) : Bytes (mskTo f l k) := by
  induction k with
  | zero => exact hl
  | succ k ih => exact bytes_set (ih (by omega)) _ _ (xor8_bd _ _ (hl k (by omega)) (hf k))
theorem msk_back {f : Nat → Int} (hf : ∀ k, 0 ≤ f k ∧ f k ≤ 255) {l : List Int} (hl : Bytes l) : mskTo f (mskTo f l l.length) l.length = l := by
  apply list_ext_gi
  · rw [mskTo_len, mskTo_len]
  · intro i hi
    rw [mskTo_len, mskTo_len] at hi
    rw [mskTo_done f _ _ i hi (by rw [mskTo_len]; omega), mskTo_done f l _ i hi (Nat.le_refl _), xor8_back _ _ (hl i hi) (hf i)]

/-- a masked text -/
def maskF (kb : List Int) (s : ByteArray) (ct : Int) (text : ByteArray) : ByteArray := strOfNums (mskTo (ks kb s ct) (nums text) text.size)
theorem maskF_size (kb : List Int) (s : ByteArray) (ct : Int) (text : ByteArray) : (maskF kb s ct text).size = text.size := by rw [maskF, snum_size, mskTo_len, nums_len]
theorem maskF_nums (kb : List Int) (s : ByteArray) (ct : Int) (text : ByteArray) : nums (maskF kb s ct text) = mskTo (ks kb s ct) (nums text) text.size :=
  nums_of _ (msk_bytes (ks_bd kb s ct) (nums_bytes text) _ (by rw [nums_len]; omega))
theorem maskF_back (kb : List Int) (s : ByteArray) (ct : Int) (text : ByteArray) : maskF kb s ct (maskF kb s ct text) = text := by
  have h := msk_back (ks_bd kb s ct) (nums_bytes text)
  rw [nums_len] at h
  rw [maskF, maskF_nums, maskF_size, h, of_nums]

/-- the statement's box of the key, and what was there -/
structure KB (w : World) (kb : List Int) (W : World) : Prop where
  row : Row W w.heap.size 23 .u8 kb
  below : Below w.heap.size w W
theorem KB.next {w W W' : World} {kb : List Int} (h : KB w kb W) (hb : Below W.heap.size W W') : KB w kb W' := ⟨h.row.below hb h.row.lt, h.below.trans (hb.mono h.below.size)⟩
theorem KB.start (w : World) (kb : List Int) : KB w kb (w.alloc (.cells (ints .u8 kb) 23)) := ⟨Row.new _ _ _ _, (Below.refl _ _).alloc (Nat.le_refl _) _⟩
end

section
open Go.RowKit
/-- the words of a block without a counter -/
theorem beginF_set (kb : List Int) (s : ByteArray) (ct x : Int) : (beginF kb s ct).set 12 x = beginF kb s x := by
  unfold beginF
  simp only [begN]
  rw [List.set_comm _ _ (show 13 + 2 ≠ 12 by omega), List.set_comm _ _ (show 13 + 1 ≠ 12 by omega), List.set_comm _ _ (show 13 + 0 ≠ 12 by omega), List.set_set]
theorem ks_shift (kb : List Int) (s : ByteArray) (ct : Int) (j i : Nat) : ks kb s (ct + j) i = ks kb s ct (64 * j + i) := by
  unfold ks
  rw [show (64 * j + i) / 64 = j + i / 64 by omega, show (64 * j + i) % 64 = i % 64 by omega]
  unfold blk
  rw [beginF_set, beginF_set]
  congr 3
  omega
theorem maskF_at (kb : List Int) (s : ByteArray) (ct : Int) (text : ByteArray) (i : Nat) (h : i < text.size) : gi (nums (maskF kb s ct text)) i = bits .xor .u8 (gb text i) (ks kb s ct i) := by
  rw [maskF_nums, mskTo_done _ _ _ i h (by rw [nums_len]; omega), gi_nums text i h]
theorem str_ext {a b : ByteArray} (hs : a.size = b.size) (h : ∀ i, i < a.size → gi (nums a) i = gi (nums b) i) : a = b := by
  rw [← of_nums a, ← of_nums b]
  congr 1
  apply list_ext_gi
  · rw [nums_len, nums_len, hs]
  · intro i hi; rw [nums_len] at hi; exact h i hi
theorem mask_front (kb : List Int) (s : ByteArray) (ct : Int) (text : ByteArray) (n : Nat) (hn : n ≤ text.size) : maskF kb s ct (text.extract 0 n) = (maskF kb s ct text).extract 0 n := by
  apply str_ext
  · rw [maskF_size, ByteArray.size_extract, ByteArray.size_extract, maskF_size]
  · intro i hi
    rw [maskF_size, ByteArray.size_extract] at hi
    rw [maskF_at _ _ _ _ _ (by rw [ByteArray.size_extract]; omega), gb_extract _ _ _ _ (by omega) (by omega), gi_nums _ _ (by rw [ByteArray.size_extract, maskF_size]; omega), gb_extract _ _ _ _ (by omega) (by rw [maskF_size]; omega),
      ← gi_nums (maskF kb s ct text) _ (by rw [maskF_size]; omega), maskF_at _ _ _ _ _ (by omega)]
    simp
theorem mask_behind (kb : List Int) (s : ByteArray) (ct : Int) (text : ByteArray) (j : Nat) (_ : 64 * j ≤ text.size) : maskF kb s (ct + j) (text.extract (64 * j) text.size) = (maskF kb s ct text).extract (64 * j) (maskF kb s ct text).size := by
  apply str_ext
  · rw [maskF_size, ByteArray.size_extract, ByteArray.size_extract, maskF_size]
  · intro i hi
    rw [maskF_size, ByteArray.size_extract] at hi
    rw [maskF_at _ _ _ _ _ (by rw [ByteArray.size_extract]; omega), gb_extract _ _ _ _ (by omega) (by omega), gi_nums _ _ (by rw [ByteArray.size_extract, maskF_size]; omega), gb_extract _ _ _ _ (by rw [maskF_size]; omega) (by omega),
      ← gi_nums (maskF kb s ct text) _ (by rw [maskF_size]; omega), maskF_at _ _ _ _ _ (by omega), ks_shift]
theorem ints_is (k : IntKind) (l : List Int) : (List.map (Value.int k) l).toArray = ints k l := rfl
theorem KB.drew {w W : World} {kb : List Int} (h : KB w kb W) : KB w kb W.drew := ⟨h.row, h.below.drew⟩
theorem Row.range {w : World} {b : Nat} {t : TypeId} {k : IntKind} {l : List Int} (h : Row w b t k l) : w.rangeAt b 0 (l.map (Value.int k)) := by
  intro j v hv
  have h' : w.heap[b]? = some (.cells (ints k l) t (0, 0)) := h
  simp only [World.cell?, h', ints, Nat.zero_add]
  simpa using hv
end
end Go.Proofs.Ytjfjakighnibpaa.St
