/-
  Two disks side by side: the program's and the reference's. What the acts are.
-/
import Derived.Test.YtadbgdhbamdiaaaDx
import Derived.Test.YtadbgdhbamdiaaaXrw
import Derived.Test.YtadbgdhbamdiaaaXcl
namespace Go.Proofs.Ytadbgdhbamdiaaa
open Go Go.RowKit
set_option linter.unusedVariables false
set_option linter.unusedSimpArgs false

/-- Two disks, apart, above lo; and blocks S that stay as they are in HL. -/
structure Two (S : Nat → Bool) (HL : AH) (lo p q : Nat) (G : AH) (F F2 : List Nat) (D E : DM) : Prop where
  dk : Dk G p F D
  rk : Rk G q F2 E
  lo1 : ∀ j ∈ F, lo ≤ j
  lo2 : ∀ j ∈ F2, lo ≤ j
  dis : ∀ j ∈ F, j ∉ F2
  st : ∀ j, S j = true → j < G.length ∧ j ∉ F ∧ j ∉ F2 ∧ hget G j = hget HL j
  len : lo ≤ G.length
section
variable {S : Nat → Bool} {HL G G' : AH} {lo p q : Nat} {F F2 F' : List Nat} {D E D' : DM}
theorem Two.l (h : Two S HL lo p q G F F2 D E) (hf : Fr G G' F F') (hd : Dk G' p F' D') : Two S HL lo p q G' F' F2 D' E := by
  have hlt := h.rk.lt
  refine ⟨hd, h.rk.low (fun j hj => hf.out j (hlt j hj) (fun hm => h.dis j hm hj)), fun j hj => ?_, h.lo2, fun j hj hj2 => ?_, fun j hs => ?_, Nat.le_trans h.len hf.len⟩
  · rcases hf.new j hj with h1 | h1
    · exact h.lo1 j h1
    · have := h.len; omega
  · rcases hf.new j hj with h1 | h1
    · exact h.dis j h1 hj2
    · have := hlt j hj2; omega
  · obtain ⟨h1, h2, h3, h4⟩ := h.st j hs
    refine ⟨Nat.lt_of_lt_of_le h1 hf.len, fun hm => ?_, h3, by rw [hf.out j h1 h2]; exact h4⟩
    rcases hf.new j hm with h5 | h5
    · exact h2 h5
    · omega
theorem Two.r (h : Two S HL lo p q G F F2 D E) (hf : Fr G G' F2 F') (hd : Rk G' q F' D') : Two S HL lo p q G' F F' D D' := by
  have hlt := h.dk.lt
  refine ⟨h.dk.low (fun j hj => hf.out j (hlt j hj) (fun hm => h.dis j hj hm)), hd, h.lo1, fun j hj => ?_, fun j hj hj2 => ?_, fun j hs => ?_, Nat.le_trans h.len hf.len⟩
  · rcases hf.new j hj with h1 | h1
    · exact h.lo2 j h1
    · have := h.len; omega
  · rcases hf.new j hj2 with h1 | h1
    · exact h.dis j hj h1
    · have := hlt j hj; omega
  · obtain ⟨h1, h2, h3, h4⟩ := h.st j hs
    refine ⟨Nat.lt_of_lt_of_le h1 hf.len, h2, fun hm => ?_, by rw [hf.out j h1 h3]; exact h4⟩
    rcases hf.new j hm with h5 | h5
    · exact h3 h5
    · omega
theorem Two.push (h : Two S HL lo p q G F F2 D E) (L : AH) : Two S HL lo p q (G ++ L) F F2 D E :=
  ⟨h.dk.low (fun j hj => hget_left (h.dk.lt j hj)), h.rk.low (fun j hj => hget_left (h.rk.lt j hj)), h.lo1, h.lo2, h.dis, fun j hs => by
    obtain ⟨h1, h2, h3, h4⟩ := h.st j hs
    exact ⟨by simp; omega, h2, h3, by rw [hget_left h1]; exact h4⟩, by have := h.len; simp; omega⟩
/-- One block more that stays; all of it as it is now. -/
theorem Two.more (h : Two S HL lo p q G F F2 D E) (X : Option Blk) : Two (fun j => S j || j == G.length) (G ++ [X]) lo p q (G ++ [X]) F F2 D E :=
  ⟨h.dk.low (fun j hj => hget_left (h.dk.lt j hj)), h.rk.low (fun j hj => hget_left (h.rk.lt j hj)), h.lo1, h.lo2, h.dis, fun j hs => by
    simp only [Bool.or_eq_true, beq_iff_eq] at hs
    rcases hs with hs | rfl
    · obtain ⟨h1, h2, h3, h4⟩ := h.st j hs
      exact ⟨by simp; omega, h2, h3, rfl⟩
    · exact ⟨by simp, fun hm => by have := h.dk.lt _ hm; omega, fun hm => by have := h.rk.lt _ hm; omega, rfl⟩, by have := h.len; simp; omega⟩
/-- Fewer that stay, as in another heap that has the same there. -/
theorem Two.less (h : Two S HL lo p q G F F2 D E) {S' : Nat → Bool} {HL' : AH} (hs : ∀ j, S' j = true → S j = true ∧ hget HL j = hget HL' j) : Two S' HL' lo p q G F F2 D E :=
  ⟨h.dk, h.rk, h.lo1, h.lo2, h.dis, fun j hj => by
    obtain ⟨h1, h2, h3, h4⟩ := h.st j (hs j hj).1
    exact ⟨h1, h2, h3, h4.trans (hs j hj).2⟩, h.len⟩
end

def fdI : FD → Int
  | .int _ z => z
  | _ => 0
def fdL : FD → List Int
  | .isl _ zs => zs
  | _ => []
def fdAt (rows : List (List FD)) (i c : Nat) : FD := (rows.getD i []).getD c (.int .i64 0)
def aKind (rows : List (List FD)) (i : Nat) : Int := fdI (fdAt rows i 0)
def aAt (rows : List (List FD)) (i : Nat) : Int := fdI (fdAt rows i 1)
def aN (rows : List (List FD)) (i : Nat) : Int := fdI (fdAt rows i 2)
def aB (rows : List (List FD)) (i : Nat) : Int := fdI (fdAt rows i 3)
def aLong (rows : List (List FD)) (i : Nat) : Int := fdI (fdAt rows i 4)
def aKeep (rows : List (List FD)) (i : Nat) : List Int := fdL (fdAt rows i 5)
def actK : List FK := [.int .i64, .int .i64, .int .i64, .int .u8, .int .i8, .isl .u8]
def RowsOk (rows : List (List FD)) : Prop := ∀ row ∈ rows, row.length = actK.length ∧ ∀ (c : Nat) (dd : FD) (k : FK), row[c]? = some dd → actK[c]? = some k → FD.ok k dd
theorem i8_of {x : Int} (h : (Lit.int .i8 x).wf = true) : -128 ≤ x ∧ x ≤ 127 := bounds_i8 h
theorem i64_of {x : Int} (h : (Lit.int .i64 x).wf = true) : -9223372036854775808 ≤ x ∧ x ≤ 9223372036854775807 := by
  simpa [Lit.wf, IntKind.min, IntKind.max, IntKind.signed, IntKind.bits] using h
/-- An act, as it lies. -/
theorem act_at {H : AH} {v : Value} {rows : List (List FD)} (h : SlR 6 H v rows) (hok : RowsOk rows) {i : Nat} (hi : i < rows.length) :
    ∃ j k kv, v = .slice (some ⟨j, 0, none⟩) rows.length rows.length ∧ j < H.length ∧ hget H j = some k ∧ rows.length * 6 ≤ k.cells.length ∧
      (k.cells.drop (i * 6)).take 6 = [.int .i64 (aKind rows i), .int .i64 (aAt rows i), .int .i64 (aN rows i), .int .u8 (aB rows i), .int .i8 (aLong rows i), kv] ∧
      k.cells[i * 6 + 1]? = some (.int .i64 (aAt rows i)) ∧ k.cells[i * 6 + 3]? = some (.int .u8 (aB rows i)) ∧ SlV H kv (iv .u8 (aKeep rows i)) ∧
      (-9223372036854775808 ≤ aKind rows i ∧ aKind rows i ≤ 9223372036854775807) ∧ (-9223372036854775808 ≤ aAt rows i ∧ aAt rows i ≤ 9223372036854775807) ∧ (-9223372036854775808 ≤ aN rows i ∧ aN rows i ≤ 9223372036854775807) ∧ (0 ≤ aB rows i ∧ aB rows i ≤ 255) ∧ (-128 ≤ aLong rows i ∧ aLong rows i ≤ 127) ∧ By (aKeep rows i) := by
  obtain ⟨row, hrow⟩ : ∃ row, rows[i]? = some row := ⟨_, List.getElem?_eq_getElem hi⟩
  have hrg : rows.getD i [] = row := by rw [List.getD_eq_getElem?_getD, hrow]; rfl
  rcases h with ⟨a, _, h0⟩ | ⟨j, k, rfl, hk, hl, hc⟩
  · rw [h0] at hi; simp at hi
  obtain ⟨hr6, hcell⟩ := hc i row hrow
  obtain ⟨_, hkind⟩ := hok row (List.mem_of_getElem? hrow)
  have get : ∀ c, c < 6 → ∃ x, row[c]? = some (fdAt rows i c) ∧ k.cells[i * 6 + c]? = some x ∧ (fdAt rows i c).val H x ∧ ∀ kk, actK[c]? = some kk → FD.ok kk (fdAt rows i c) := fun c hcl => by
    have h1 : row[c]? = some (fdAt rows i c) := by
      unfold fdAt
      rw [hrg, List.getD_eq_getElem?_getD, List.getElem?_eq_getElem (by omega)]
      rfl
    obtain ⟨x, h2, h3⟩ := hcell c _ h1
    exact ⟨x, h1, h2, h3, fun kk hkk => hkind c _ kk h1 hkk⟩
  have gi : ∀ c kd, c < 6 → actK[c]? = some (.int kd) → k.cells[i * 6 + c]? = some (.int kd (fdI (fdAt rows i c))) ∧ (Lit.int kd (fdI (fdAt rows i c))).wf = true := fun c kd hcl hkk => by
    obtain ⟨x, _, h2, h3, h4⟩ := get c hcl
    have h5 := h4 _ hkk
    revert h3 h5
    cases fdAt rows i c with
    | int kd' z =>
      intro h3 h5
      obtain ⟨rfl, hw⟩ := h5
      exact ⟨by rw [h2]; congr 1, hw⟩
    | _ => intro _ h5; exact h5.elim
  obtain ⟨c0, w0⟩ := gi 0 .i64 (by omega) rfl
  obtain ⟨c1, w1⟩ := gi 1 .i64 (by omega) rfl
  obtain ⟨c2, w2⟩ := gi 2 .i64 (by omega) rfl
  obtain ⟨c3, w3⟩ := gi 3 .u8 (by omega) rfl
  obtain ⟨c4, w4⟩ := gi 4 .i8 (by omega) rfl
  obtain ⟨kv, _, c5, v5, k5⟩ := get 5 (by omega)
  have k5 := k5 _ rfl
  have h5 : SlV H kv (iv .u8 (aKeep rows i)) ∧ By (aKeep rows i) := by
    unfold aKeep
    revert v5 k5
    cases fdAt rows i 5 with
    | isl kd zs =>
      intro v5 k5
      obtain ⟨rfl, hw, _⟩ := k5
      exact ⟨v5, fun x hx => u8_of (hw x hx)⟩
    | _ => intro _ k5; exact k5.elim
  refine ⟨j, k, kv, rfl, hget_lt hk, hk, hl, ?_, c1, c3, h5.1, i64_of w0, i64_of w1, i64_of w2, u8_of w3, i8_of w4, h5.2⟩
  apply List.ext_getElem?
  intro c
  rcases Nat.lt_or_ge c 6 with hc6 | hc6
  · rw [List.getElem?_take_of_lt hc6, List.getElem?_drop]
    match c, hc6 with
    | 0, _ => exact c0
    | 1, _ => exact c1
    | 2, _ => exact c2
    | 3, _ => exact c3
    | 4, _ => exact c4
    | 5, _ => exact c5
  · rw [List.getElem?_eq_none (by simp; omega), List.getElem?_eq_none (by simp; omega)]
end Go.Proofs.Ytadbgdhbamdiaaa
