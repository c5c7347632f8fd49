/-
  Two relays side by side; what the acts are.
-/
import Derived.Test.YteldoimjachbbaaRh
namespace Go.Proofs.Yteldoimjachbbaa
open Go Go.RowKit
set_option linter.unusedVariables false
set_option linter.unusedSimpArgs false

structure Pr (S : Nat → Prop) (HL : AH) (lo p q : Nat) (T1 T2 : TypeId) (G : AH) (L M : Nat → List ByteArray) : Prop where
  a : Rl T1 [p, q] G p L
  b : Rl T2 [p, q] G q M
  lo1 : lo ≤ p
  lo2 : lo ≤ q
  ne : p ≠ q
  st : ∀ j, S j → j < G.length ∧ j ≠ p ∧ j ≠ q ∧ hget G j = hget HL j
  len : lo ≤ G.length
section
variable {S : Nat → Prop} {HL G G' : AH} {lo p q : Nat} {T1 T2 : TypeId} {L M L' : Nat → List ByteArray}
theorem Rl.lt {T : TypeId} {X : List Nat} {H : AH} {p : Nat} {L : Nat → List ByteArray} (h : Rl T X H p L) : p < H.length := by
  obtain ⟨Ms, h⟩ := h
  exact hget_lt h.cells
theorem Pr.hX (h : Pr S HL lo p q T1 T2 G L M) : ∀ j ∈ [p, q], j < G.length := fun j hj => by
  have h1 := h.a.lt
  have h2 := h.b.lt
  simp only [List.mem_cons, List.not_mem_nil, or_false] at hj
  rcases hj with rfl | rfl <;> assumption
theorem Pr.l (h : Pr S HL lo p q T1 T2 G L M) (hr : Rl T1 [p, q] G' p L') (hf : Fr G G' [p] [p]) : Pr S HL lo p q T1 T2 G' L' M :=
  ⟨hr, h.b.fr hf (by simp [Ne.symm h.ne]) (by simp), h.lo1, h.lo2, h.ne, fun j hj => by
    obtain ⟨h1, h2, h3, h4⟩ := h.st j hj
    exact ⟨Nat.lt_of_lt_of_le h1 hf.len, h2, h3, (hf.out j h1 (by simpa using h2)).trans h4⟩, Nat.le_trans h.len hf.len⟩
theorem Pr.r (h : Pr S HL lo p q T1 T2 G L M) (hr : Rl T2 [p, q] G' q L') (hf : Fr G G' [q] [q]) : Pr S HL lo p q T1 T2 G' L L' :=
  ⟨h.a.fr hf (by simp [h.ne]) (by simp), hr, h.lo1, h.lo2, h.ne, fun j hj => by
    obtain ⟨h1, h2, h3, h4⟩ := h.st j hj
    exact ⟨Nat.lt_of_lt_of_le h1 hf.len, h2, h3, (hf.out j h1 (by simpa using h3)).trans h4⟩, Nat.le_trans h.len hf.len⟩
theorem Pr.ext (h : Pr S HL lo p q T1 T2 G L M) (hl : G.length ≤ G'.length) (hk : ∀ j, j < G.length → hget G' j = hget G j) : Pr S HL lo p q T1 T2 G' L M :=
  have hf : Fr G G' [] [] := ⟨hl, fun j hj _ => hk j hj, fun j hj => .inl hj⟩
  ⟨h.a.fr hf (by simp) (by simp), h.b.fr hf (by simp) (by simp), h.lo1, h.lo2, h.ne, fun j hj => by
    obtain ⟨h1, h2, h3, h4⟩ := h.st j hj
    exact ⟨Nat.lt_of_lt_of_le h1 hl, h2, h3, (hk j h1).trans h4⟩, Nat.le_trans h.len hl⟩
theorem Pr.more (h : Pr S HL lo p q T1 T2 G L M) (X : Option Blk) : Pr (fun j => S j ∨ j = G.length) (G ++ [X]) lo p q T1 T2 (G ++ [X]) L M := by
  have h' := h.ext (G' := G ++ [X]) (by simp) (fun j hj => hget_left hj)
  refine ⟨h'.a, h'.b, h.lo1, h.lo2, h.ne, fun j hj => ?_, h'.len⟩
  have h1 := h.a.lt
  have h2 := h.b.lt
  rcases hj with hj | rfl
  · obtain ⟨h3, h4, h5, _⟩ := h'.st j hj
    exact ⟨h3, h4, h5, rfl⟩
  · exact ⟨by simp, by omega, by omega, rfl⟩
theorem Pr.less (h : Pr S HL lo p q T1 T2 G L M) {S' : Nat → Prop} {HL' : AH} (hs : ∀ j, S' j → S j ∧ hget HL j = hget HL' j) : Pr S' HL' lo p q T1 T2 G L M :=
  ⟨h.a, h.b, h.lo1, h.lo2, h.ne, fun j hj => by
    obtain ⟨h1, h2, h3, h4⟩ := h.st j (hs j hj).1
    exact ⟨h1, h2, h3, h4.trans (hs j hj).2⟩, h.len⟩
theorem Pr.start {cs1 cs2 : List Value} {H : AH} (h1 : cs1 = (List.range 8).map fun _ => Value.slice none 0 0) (h2 : cs2 = (List.range 8).map fun _ => Value.slice none 0 0) :
    Pr (fun j => j < H.length) H H.length H.length (H.length + 1) T1 T2 (H ++ [some ⟨cs1, T1, none⟩, some ⟨cs2, T2, none⟩]) eL eL := by
  have e : H ++ [some ⟨cs1, T1, none⟩, some ⟨cs2, T2, none⟩] = (H ++ [some ⟨cs1, T1, none⟩]) ++ [some ⟨cs2, T2, none⟩] := by simp
  have ha : Rl T1 [H.length, H.length + 1] (H ++ [some ⟨cs1, T1, none⟩]) H.length eL := rl_new h1 (by simp)
  have hlen : List.length (α := Option Blk) (H ++ [some ⟨cs1, T1, none⟩]) = H.length + 1 := by rw [List.length_append]; rfl
  have hb : Rl T2 [H.length, H.length + 1] ((H ++ [some ⟨cs1, T1, none⟩]) ++ [some ⟨cs2, T2, none⟩]) (H.length + 1) eL := by
    have h := rl_new (T := T2) (H := H ++ [some ⟨cs1, T1, none⟩]) (X := [H.length, H.length + 1]) h2 (by rw [hlen]; simp)
    rwa [hlen] at h
  rw [e]
  have hf : Fr (H ++ [some ⟨cs1, T1, none⟩]) ((H ++ [some ⟨cs1, T1, none⟩]) ++ [some ⟨cs2, T2, none⟩]) [] [] := Fr.mk (by simp only [List.length_append]; omega) (fun j hj _ => hget_left hj) (fun j hj => .inl hj)
  refine ⟨ha.fr hf (by simp) (by simp), hb, Nat.le_refl _, by omega, by omega, fun j hj => ⟨by simp; omega, by omega, by omega, ?_⟩, by simp⟩
  rw [hget_left (by simp; omega), hget_left hj]
end

def fdI : FD → Int
  | .int _ z => z
  | _ => 0
def fdS : FD → ByteArray
  | .str s => s
  | _ => ByteArray.empty
def fdAt (rows : List (List FD)) (i c : Nat) : FD := (rows.getD i []).getD c (.int .i64 0)
def aKind (rows : List (List FD)) (i : Nat) : Int := fdI (fdAt rows i 0)
def aTo (rows : List (List FD)) (i : Nat) : Int := fdI (fdAt rows i 1)
def aI (rows : List (List FD)) (i : Nat) : Int := fdI (fdAt rows i 2)
def aK (rows : List (List FD)) (i : Nat) : Int := fdI (fdAt rows i 3)
def aTx (rows : List (List FD)) (i : Nat) : ByteArray := fdS (fdAt rows i 4)
def actK : List FK := [.int .i64, .int .i64, .int .i64, .int .i64, .str]
def RowsOk (rows : List (List FD)) : Prop := ∀ row ∈ rows, row.length = actK.length ∧ ∀ (c : Nat) (dd : FD) (k : FK), row[c]? = some dd → actK[c]? = some k → FD.ok k dd
/-- An act, as it lies. -/
theorem act_at {H : AH} {v : Value} {rows : List (List FD)} (h : SlR 5 H v rows) (hok : RowsOk rows) {i : Nat} (hi : i < rows.length) :
    ∃ j k, v = .slice (some ⟨j, 0, none⟩) rows.length rows.length ∧ j < H.length ∧ hget H j = some k ∧ rows.length * 5 ≤ k.cells.length ∧
      (k.cells.drop (i * 5)).take 5 = [.int .i64 (aKind rows i), .int .i64 (aTo rows i), .int .i64 (aI rows i), .int .i64 (aK rows i), .string (aTx rows i)] ∧
      k.cells[i * 5 + 1]? = some (.int .i64 (aTo rows i)) ∧ k.cells[i * 5 + 4]? = some (.string (aTx rows i)) := by
  obtain ⟨row, hrow⟩ : ∃ row, rows[i]? = some row := ⟨_, List.getElem?_eq_getElem hi⟩
  have hrg : rows.getD i [] = row := by rw [List.getD_eq_getElem?_getD, hrow]; rfl
  rcases h with ⟨a, _, h0⟩ | ⟨j, k, rfl, hk, hl, hc⟩
  · rw [h0] at hi; simp at hi
  obtain ⟨hr6, hcell⟩ := hc i row hrow
  obtain ⟨_, hkind⟩ := hok row (List.mem_of_getElem? hrow)
  have get : ∀ c, c < 5 → ∃ x, k.cells[i * 5 + c]? = some x ∧ (fdAt rows i c).val H x ∧ ∀ kk, actK[c]? = some kk → FD.ok kk (fdAt rows i c) := fun c hcl => by
    have h1 : row[c]? = some (fdAt rows i c) := by
      unfold fdAt
      rw [hrg, List.getD_eq_getElem?_getD, List.getElem?_eq_getElem (by omega)]
      rfl
    obtain ⟨x, h2, h3⟩ := hcell c _ h1
    exact ⟨x, h2, h3, fun kk hkk => hkind c _ kk h1 hkk⟩
  have gi : ∀ c kd, c < 5 → actK[c]? = some (.int kd) → k.cells[i * 5 + c]? = some (.int kd (fdI (fdAt rows i c))) := fun c kd hcl hkk => by
    obtain ⟨x, h2, h3, h4⟩ := get c hcl
    have h5 := h4 _ hkk
    revert h3 h5
    cases fdAt rows i c with
    | int kd' z =>
      intro h3 h5
      obtain ⟨rfl, hw⟩ := h5
      rw [h2]; congr 1
    | _ => intro _ h5; exact h5.elim
  have c0 := gi 0 .i64 (by omega) rfl
  have c1 := gi 1 .i64 (by omega) rfl
  have c2 := gi 2 .i64 (by omega) rfl
  have c3 := gi 3 .i64 (by omega) rfl
  have c4 : k.cells[i * 5 + 4]? = some (.string (aTx rows i)) := by
    obtain ⟨x, h2, h3, h4⟩ := get 4 (by omega)
    have h5 := h4 _ rfl
    unfold aTx
    revert h3 h5
    cases fdAt rows i 4 with
    | str s =>
      intro h3 h5
      rw [h2]; congr 1
    | _ => intro _ h5; exact h5.elim
  refine ⟨j, k, rfl, hget_lt hk, hk, hl, ?_, c1, c4⟩
  apply List.ext_getElem?
  intro c
  rcases Nat.lt_or_ge c 5 with hc6 | hc6
  · rw [List.getElem?_take_of_lt hc6, List.getElem?_drop]
    match c, hc6 with
    | 0, _ => exact c0
    | 1, _ => exact c1
    | 2, _ => exact c2
    | 3, _ => exact c3
    | 4, _ => exact c4
  · rw [List.getElem?_eq_none (by simp; omega), List.getElem?_eq_none (by simp; omega)]
end Go.Proofs.Yteldoimjachbbaa
