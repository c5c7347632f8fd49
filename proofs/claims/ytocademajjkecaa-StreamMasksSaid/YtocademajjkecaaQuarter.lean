/-
  The quarter round of the stream, by its text: the words of a row, turned in place.
-/
import Derived.Test.YtocademajjkecaaRow
import Derived.Test.YtocademajjkecaaProg
import Derived.WalkLawsBesides
namespace Go.Proofs.Ytocademajjkecaa
open Go.RowKit
def rotl (x : Int) (n : Nat) : Int := bits .or .u32 (IntKind.u32.wrap (x * 2 ^ n)) (x / 2 ^ (32 - n))
def Turns (n : Nat) : Prop := ∀ (x : Int) (w : World), Calls Try.prog 24 #[.int .u32 x, .int .i64 n] w fun e w' => e = .returned (.int .u32 (rotl x n)) ∧ w = w'
def addU (x y : Int) : Int := (x + y) % 4294967296
def xorU (x y : Int) : Int := bits .xor .u32 x y
def addTo (l : List Int) (i j : Nat) : List Int := l.set i (addU (gi l i) (gi l j))
def turnBy (l : List Int) (i k n : Nat) : List Int := l.set k (rotl (xorU (gi l k) (gi l i)) n)
theorem rot16 : Turns 16 := by
  intro x w
  have h : bits BinOp.and IntKind.u64 16 31 = 16 := by decide
  show Calls Try.prog 24 #[.int .u32 x, .int .i64 16] w _
  go_enter Try.func24, Try.ntmps24
  go_wp2
  go_ret
  exact ⟨rfl, rfl⟩
theorem rot12 : Turns 12 := by
  intro x w
  have h : bits BinOp.and IntKind.u64 12 31 = 12 := by decide
  show Calls Try.prog 24 #[.int .u32 x, .int .i64 12] w _
  go_enter Try.func24, Try.ntmps24
  go_wp2
  go_ret
  exact ⟨rfl, rfl⟩
theorem rot8 : Turns 8 := by
  intro x w
  have h : bits BinOp.and IntKind.u64 8 31 = 8 := by decide
  show Calls Try.prog 24 #[.int .u32 x, .int .i64 8] w _
  go_enter Try.func24, Try.ntmps24
  go_wp2
  go_ret
  exact ⟨rfl, rfl⟩
theorem rot7 : Turns 7 := by
  intro x w
  have h : bits BinOp.and IntKind.u64 7 31 = 7 := by decide
  show Calls Try.prog 24 #[.int .u32 x, .int .i64 7] w _
  go_enter Try.func24, Try.ntmps24
  go_wp2
  go_ret
  exact ⟨rfl, rfl⟩
theorem addTo_len (l : List Int) (i j : Nat) : (addTo l i j).length = l.length := by simp [addTo]
theorem turnBy_len (l : List Int) (i j n : Nat) : (turnBy l i j n).length = l.length := by simp [turnBy]
theorem add_any (n : Nat) (hn : Turns n) (b : Nat) (l : List Int) (hl : l.length = 16) (i j k : Nat) (hi : i < 16) (hj : j < 16) (hk : k < 16) (w : World) (hr : Row w b 43 .u32 l) :
    Calls Try.prog 23 #[.pointer (some ⟨b, 0, none⟩), .int .i64 i, .int .i64 j, .int .i64 k, .int .i64 n] w fun e w' => e = .returned (.tuple #[]) ∧ Row w' b 43 .u32 (turnBy (addTo l i j) i k n) ∧ w.grownBy w' (some b) := by
  have h0i : (0 : Int) ≤ i := by omega
  have h0j : (0 : Int) ≤ j := by omega
  have h0k : (0 : Int) ≤ k := by omega
  have hi' : (i : Int) < 16 := by omega
  have hj' : (j : Int) < 16 := by omega
  have hk' : (k : Int) < 16 := by omega
  have ci := hr.at_ (i := i) (by omega)
  have cj := hr.at_ (i := j) (by omega)
  have fi := hr.free i
  have HR : Hid (Row (w.setCell ⟨b, i, none⟩ (.int .u32 ((gi l i + gi l j) % 4294967296))).drew b 43 .u32 (addTo l i j)) := (hr.set_ i _).drew
  have HG : Hid (w.grownBy (w.setCell ⟨b, i, none⟩ (.int .u32 ((gi l i + gi l j) % 4294967296))).drew (some b)) := grown_drew (Row.grown_set _ _ _ _)
  have hl1 := addTo_len l i j
  rw [hl] at hl1
  clear hr hl
  go_enter Try.func23, Try.ntmps23
  go_wp2_with fail
  go_region
  clear ci cj fi
  generalize (w.setCell ⟨b, i, none⟩ (.int .u32 ((gi l i + gi l j) % 4294967296))).drew = w1 at HR HG ⊢
  have ci := HR.out.at_ (i := i) (by omega)
  have ck := HR.out.at_ (i := k) (by omega)
  have fk := HR.out.free k
  have HL := hide hl1
  clear hl1
  go_wp2_with fail
  go_region_with (go_at_call 24; refine (hn _ _).mono ?_; rintro e w2 ⟨rfl, rfl⟩)
  all_goals go_end0
  all_goals exact ⟨rfl, (HR.out.set_ k _).drew, grown_comp HG.out (grown_drew (Row.grown_set _ _ _ _))⟩

/-- A quarter round of the words at four places. -/
def quarter (l : List Int) (a b c d : Nat) : List Int :=
  let l1 := turnBy (addTo l a b) a d 16
  let l2 := turnBy (addTo l1 c d) c b 12
  let l3 := turnBy (addTo l2 a b) a d 8
  turnBy (addTo l3 c d) c b 7
theorem quarter_len (l : List Int) (a b c d : Nat) : (quarter l a b c d).length = l.length := by simp [quarter, turnBy_len, addTo_len]

theorem quarter_any (g : Nat) (l : List Int) (hl : l.length = 16) (a b c d : Nat) (ha : a < 16) (hb : b < 16) (hc : c < 16) (hd : d < 16) (w : World) (hr : Row w g 43 .u32 l) :
    Calls Try.prog 21 #[.pointer (some ⟨g, 0, none⟩), .int .i64 a, .int .i64 b, .int .i64 c, .int .i64 d] w fun e w' => e = .returned (.tuple #[]) ∧ Row w' g 43 .u32 (quarter l a b c d) ∧ w.grownBy w' (some g) := by
  have A16 := hide (add_any 16 rot16)
  have A12 := hide (add_any 12 rot12)
  have A8 := hide (add_any 8 rot8)
  have A7 := hide (add_any 7 rot7)
  have HL := hide hl
  have HR := hide hr
  clear hl hr
  go_enter Try.func21, Try.ntmps21
  go_wp2_with fail
  refine (A16.out g l HL.out a b d ha hb hd _ HR.out).mono ?_
  rintro e w1 ⟨rfl, hr1, hg1⟩
  replace hr1 := hide hr1
  replace hg1 := hide hg1
  go_wp2_with fail
  refine (A12.out g _ (by simp [turnBy_len, addTo_len, HL.out]) c d b hc hd hb _ hr1.out).mono ?_
  rintro e w2 ⟨rfl, hr2, hg2⟩
  replace hr2 := hide hr2
  replace hg2 := hide hg2
  go_wp2_with fail
  refine (A8.out g _ (by simp [turnBy_len, addTo_len, HL.out]) a b d ha hb hd _ hr2.out).mono ?_
  rintro e w3 ⟨rfl, hr3, hg3⟩
  replace hr3 := hide hr3
  replace hg3 := hide hg3
  go_wp2_with fail
  refine (A7.out g _ (by simp [turnBy_len, addTo_len, HL.out]) c d b hc hd hb _ hr3.out).mono ?_
  rintro e w4 ⟨rfl, hr4, hg4⟩
  replace hr4 := hide hr4
  replace hg4 := hide hg4
  go_wp2
  go_end0
  exact ⟨rfl, hr4.out, grown_comp (grown_comp (grown_comp hg1.out hg2.out) hg3.out) hg4.out⟩
end Go.Proofs.Ytocademajjkecaa
