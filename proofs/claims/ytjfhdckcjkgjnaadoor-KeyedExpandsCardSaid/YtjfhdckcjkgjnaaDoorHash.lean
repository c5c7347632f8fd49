/-
  A hash under way, byte by byte, as a plain function of lists.
-/
import Derived.Test.YtjfhdckcjkgjnaaDoorPut
import Derived.Test.YtjfhdckcjkgjnaaDoorXz
import Derived.Lib.Strings
namespace Go.Proofs.YtjfhdckcjkgjnaaDoor
open Go Go.RowKit
set_option linter.unusedSimpArgs false
set_option linter.unusedVariables false
set_option maxRecDepth 100000
set_option maxHeartbeats 1000000

/-- State, block, size. -/
structure HS where
  st : List Int
  rs : List Int
  n : Int
def hc [Tl] (s : HS) : List Value := hcells s.st s.rs s.n
def stepB (s : HS) (x : Int) : HS :=
  if IntKind.u64.wrap (s.n + 1) % 64 = 0 then ⟨compF s.st (s.rs.set (s.n % 64).toNat x) (IntKind.u64.wrap (s.n + 1)), s.rs.set (s.n % 64).toNat x, IntKind.u64.wrap (s.n + 1)⟩
  else ⟨s.st, s.rs.set (s.n % 64).toNat x, IntKind.u64.wrap (s.n + 1)⟩
def takeB (s : HS) (l : List Int) : HS := l.foldl stepB s
theorem takeB_nil (s : HS) : takeB s [] = s := rfl
theorem takeB_cons (s : HS) (x : Int) (l : List Int) : takeB s (x :: l) = takeB (stepB s x) l := rfl
theorem takeB_append (s : HS) (l r : List Int) : takeB s (l ++ r) = takeB (takeB s l) r := by unfold takeB; rw [List.foldl_append]
structure HS.wf (s : HS) : Prop where
  hs : s.st.length = 8
  hr : s.rs.length = 64
  hb : ∀ p, 0 ≤ s.rs.getD p 0 ∧ s.rs.getD p 0 ≤ 255
  hn : 0 ≤ s.n ∧ s.n < 18446744073709551616
theorem getD_set (l : List Int) (i : Nat) (x : Int) (p : Nat) : (l.set i x).getD p 0 = if i = p ∧ p < l.length then x else l.getD p 0 := by
  rw [List.getD_eq_getElem?_getD, List.getElem?_set, List.getD_eq_getElem?_getD]
  by_cases h : i = p
  · subst h
    by_cases h2 : i < l.length
    · simp [h2]
    · simp [h2]
  · simp [h]
theorem stepB_wf (s : HS) (x : Int) (h : s.wf) (hx : 0 ≤ x ∧ x ≤ 255) : (stepB s x).wf := by
  have hb : ∀ p, 0 ≤ (s.rs.set (s.n % 64).toNat x).getD p 0 ∧ (s.rs.set (s.n % 64).toNat x).getD p 0 ≤ 255 := by
    intro p
    rw [getD_set]
    split
    · exact hx
    · exact h.hb p
  have hn : 0 ≤ IntKind.u64.wrap (s.n + 1) ∧ IntKind.u64.wrap (s.n + 1) < 18446744073709551616 := by rw [wrapU64]; omega
  unfold stepB
  split
  · exact ⟨compF_len _ _ _ h.hs, by simp [h.hr], hb, hn⟩
  · exact ⟨h.hs, by simp [h.hr], hb, hn⟩
theorem takeB_wf (l : List Int) : ∀ (s : HS), s.wf → (∀ x ∈ l, 0 ≤ x ∧ x ≤ 255) → (takeB s l).wf := by
  induction l with
  | nil => intro s h _; exact h
  | cons x l ih => intro s h hl; exact ih _ (stepB_wf s x h (hl x (by simp))) fun y hy => hl y (by simp [hy])
/-- Numbers laid over others from a place on. -/
def setI : List Int → Nat → List Int → List Int
  | l, _, [] => l
  | l, i, x :: xs => setI (l.set i x) (i + 1) xs
theorem iv_setI (k : IntKind) (xs : List Int) : ∀ (l : List Int) (i : Nat), setR (iv k l) i (iv k xs) = iv k (setI l i xs) := by
  induction xs with
  | nil => intro l i; rfl
  | cons x xs ih =>
    intro l i
    show setR ((iv k l).set i (.int k x)) (i + 1) (iv k xs) = _
    rw [iv_set, ih]
    rfl
theorem setI_len (xs : List Int) : ∀ (l : List Int) (i : Nat), (setI l i xs).length = l.length := by
  induction xs with
  | nil => intro l i; rfl
  | cons x xs ih => intro l i; show (setI (l.set i x) (i + 1) xs).length = _; rw [ih]; simp
/-- A piece that fits into the block. -/
theorem takeB_chunk (l : List Int) : ∀ (s : HS), (0 ≤ s.n ∧ s.n < 18446744073709551616) → 0 < l.length → (s.n % 64).toNat + l.length ≤ 64 →
    takeB s l = if IntKind.u64.wrap (s.n + l.length) % 64 = 0 then ⟨compF s.st (setI s.rs (s.n % 64).toNat l) (IntKind.u64.wrap (s.n + l.length)), setI s.rs (s.n % 64).toNat l, IntKind.u64.wrap (s.n + l.length)⟩
      else ⟨s.st, setI s.rs (s.n % 64).toNat l, IntKind.u64.wrap (s.n + l.length)⟩ := by
  induction l with
  | nil => intro s _ h; simp at h
  | cons x t ih =>
    intro s hn _ hl
    rw [takeB_cons]
    cases t with
    | nil => simp only [takeB_nil, List.length_cons, List.length_nil]; rfl
    | cons y t =>
      simp only [List.length_cons] at hl
      have hne : ¬ IntKind.u64.wrap (s.n + 1) % 64 = 0 := by rw [wrapU64]; omega
      have e : stepB s x = ⟨s.st, s.rs.set (s.n % 64).toNat x, IntKind.u64.wrap (s.n + 1)⟩ := by unfold stepB; rw [if_neg hne]
      have e1 : (IntKind.u64.wrap (s.n + 1) % 64).toNat = (s.n % 64).toNat + 1 := by rw [wrapU64]; omega
      have e2 : IntKind.u64.wrap (IntKind.u64.wrap (s.n + 1) + ((y :: t).length : Nat)) = IntKind.u64.wrap (s.n + ((x :: y :: t).length : Nat)) := by
        simp only [wrapU64, List.length_cons]; omega
      rw [e]
      rw [ih _ (by simp only [wrapU64]; omega) (by simp) (by simp only [e1, List.length_cons]; omega)]
      simp only [e1, e2]
      rfl
/-- The bytes of a text. -/
theorem nums_extract (s : ByteArray) (a b : Nat) : nums (s.extract a b) = ((nums s).drop a).take (b - a) := by
  unfold nums
  rw [Lib.extract_data, List.map_take, List.map_drop]
theorem nums_drop (s : ByteArray) (a : Nat) : nums (s.extract a s.size) = (nums s).drop a := by
  rw [nums_extract, List.take_of_length_le (by rw [List.length_drop, nums_len]; omega)]
/-- Parts as one text. -/
def cat : List ByteArray → List Int
  | [] => []
  | p :: r => nums p ++ cat r
theorem cat_append (l r : List ByteArray) : cat (l ++ r) = cat l ++ cat r := by
  induction l with
  | nil => rfl
  | cons p l ih => show nums p ++ cat (l ++ r) = nums p ++ cat l ++ cat r; rw [ih, List.append_assoc]
theorem cat_bd (l : List ByteArray) : ∀ x ∈ cat l, 0 ≤ x ∧ x ≤ 255 := by
  induction l with
  | nil => intro x hx; cases hx
  | cons p l ih =>
    intro x hx
    rcases List.mem_append.1 hx with h | h
    · exact nums_bd p x h
    · exact ih x h
end Go.Proofs.YtjfhdckcjkgjnaaDoor
