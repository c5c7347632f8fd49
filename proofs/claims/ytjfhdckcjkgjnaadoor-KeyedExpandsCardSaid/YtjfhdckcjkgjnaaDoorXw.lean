/-
  Operations that make or write memory, of the machine: slices made, appended to, copied; and all of them in one. Over any program.
-/
import Derived.Test.YtjfhdckcjkgjnaaDoorXe
namespace Go.Proofs.YtjfhdckcjkgjnaaDoor
open Go Go.RowKit
set_option linter.unusedVariables false
section
variable {P : Program} {nro n base : Nat} {γ : Nat → Option Nat} {m : List Ent} {H : AH} {α : Fm} {a : Act} {w : World}

theorem zeros_eq (z : Array Value) (N : Nat) (hz : 0 < z.size) : ((Array.range N).map (fun j => z[j % z.size]!)).toList = (List.range N).map fun j => z.toList.getD (j % z.size) undef := by
  rw [Array.toList_map, Array.toList_range]
  apply List.map_congr_left
  intro j _
  have : j % z.size < z.size := Nat.mod_lt _ hz
  simp [this]
theorem zeros_plain (z : List Value) (N k : Nat) (hk : 0 < k) (hl : z.length = k) (h : z.all plain1 = true) : ((List.range N).map fun j => z.getD (j % k) undef).all plain1 = true := by
  rw [List.all_map, List.all_eq_true]
  intro j _
  have : j % k < z.length := by rw [hl]; exact Nat.mod_lt _ hk
  simp only [Function.comp, List.getD_eq_getElem?_getD, List.getElem?_eq_getElem this, Option.getD_some]
  exact List.all_eq_true.1 h _ (List.getElem_mem this)
theorem run_newRow (e : TypeId) (cs : Array Value) (w : World) : (newRow e cs).run P w = .ok ⟨w.heap.size, 0, none⟩ (w.alloc (.cells cs e)) := rfl
theorem buildSlice_run (hR : Rel nro base γ m H w) {t e : TypeId} {len : Nat} {parts parts' : List (Nat × Value)} {z : Value} {cs : List Value} (hu : und P t = .slice e) (hz : zer P e = some z)
    (h0 : 0 < szt P e) (hzs : z.cells.size = szt P e) (hp : z.cells.toList.all plain1 = true) (hlen : len * szt P e ≤ 16777216) (hn : (parts.all fun p => notTuple p.2) = true)
    (hl : parts'.length = parts.length) (hpp : ∀ (j : Nat) (p : Nat × Value), parts[j]? = some p → ∃ p' : Nat × Value, parts'[j]? = some p' ∧ p'.1 = p.1 ∧ V m p.2 p'.2)
    (h : xfill (fun i => some (i * szt P e, szt P e)) ((List.range (len * szt P e)).map fun j => z.cells.toList.getD (j % szt P e) undef) parts = some cs) :
    ∃ m' v' w', (Instr.buildSlice t len parts'.toArray).run P w = .ok v' w' ∧ m <+: m' ∧ V m' (.slice (some ⟨H.length, 0, none⟩) len len) v' ∧ Rel nro base γ m' (H ++ [some ⟨cs, e, some (szt P e)⟩]) w' ∧ Below base w w' := by
  have hzeros : ((Array.range (len * szt P e)).map (fun j => z.cells[j % z.cells.size]!)).toList = (List.range (len * szt P e)).map fun j => z.cells.toList.getD (j % szt P e) undef := by
    rw [zeros_eq _ _ (by omega), hzs]
  obtain ⟨c', h1, h2⟩ := fill_run (m := m) parts parts' _ ((Array.range (len * szt P e)).map (fun j => z.cells[j % z.cells.size]!)) cs hl (fun j p hj => by
      obtain ⟨p', a, b, c⟩ := hpp j p hj
      exact ⟨p', a, b, c.v2 (List.all_eq_true.1 hn p (List.mem_of_getElem? hj))⟩) hn (by rw [hzeros]; exact plain_Vs (zeros_plain _ _ _ h0 (by simpa using hzs) hp)) h
  have hcl : c'.size = len * szt P e := by
    have e1 : ∀ (pl : Nat → Option (Nat × Nat)) (ps : List (Nat × Value)) (l l' : List Value), xfill pl l ps = some l' → l'.length = l.length := by
      intro pl ps
      induction ps with
      | nil => intro l l' h; cases h; rfl
      | cons p ps ih =>
        intro l l' h
        obtain ⟨i, v⟩ := p
        unfold xfill at h
        split at h
        · cases h
        · split at h
          · rw [ih _ _ h, setR_length]
          · cases h
    have := e1 _ _ _ _ h
    have h3 := h2.1
    simp at this
    simp at h3
    omega
  refine ⟨_, .slice (some ⟨w.heap.size, 0, none⟩) len len, _, ?_, pre_app m ⟨w.heap.size, 0, c'.size, some (szt P e)⟩, ?_, hR.alloc c' e (some (szt P e)) h2, (Below.refl _ _).alloc hR.base_le _⟩
  · have hsm : ¬ (len * szt P e > 2 ^ 24) := by omega
    simp only [Instr.buildSlice, Sem.run_bind, run_underlying (und_some hu (by simp)), Result.andThen_ok, run_sizeOf h0]
    rw [if_neg hsm]
    by_cases hl0 : len * szt P e = 0
    · rw [if_pos hl0]
      have hr : Instr.fill (fun i => some (i * szt P e, szt P e)) (Array.map (fun _ => (default : Value)) (Array.range (len * szt P e))) parts' = some c' := by
        rw [← h1, hl0]; congr 1; apply Array.ext <;> simp
      simp [hr, run_newRow]
    · rw [if_neg hl0]
      simp [run_zero hz, h1, run_newRow]
  · have hlen2 : m.length = H.length := hR.len
    have : V (m ++ [⟨w.heap.size, 0, c'.size, some (szt P e)⟩]) (.slice (some ⟨H.length, 0, none⟩) len len) (.slice (some ⟨w.heap.size, 0 + 0, none⟩) len len) := by
      refine .one (.sl (e := ⟨w.heap.size, 0, c'.size, some (szt P e)⟩) (by rw [← hlen2]; simp) (Nat.le_refl _) (fun _ s hs => ?_))
      cases hs
      refine ⟨hcl.symm, ?_⟩
      have : len ≤ len * szt P e := Nat.le_mul_of_pos_right _ h0
      simp only [maxLen]
      omega
    simpa using this
theorem makeSlice_run (hR : Rel nro base γ m H w) {t e : TypeId} {l c : Int} {k k' : IntKind} {z : Value} (hu : und P t = .slice e) (hz : zer P e = some z)
    (h0 : 0 < szt P e) (hzs : z.cells.size = szt P e) (hp : z.cells.toList.all plain1 = true) (hl0 : 0 ≤ l) (hlc : l ≤ c) (hb : c * byt P e ≤ 140737488355328) (hm : c ≤ maxLen) :
    ∃ m' v' w', (Instr.makeSlice t (.int k l) (.int k' c)).run P w = .ok v' w' ∧ m <+: m' ∧ V m' (.slice (some ⟨H.length, 0, none⟩) l.toNat l.toNat) v' ∧
      Rel nro base γ m' (H ++ [some ⟨(List.range (c.toNat * szt P e)).map fun j => z.cells.toList.getD (j % szt P e) undef, e, some (szt P e)⟩]) w' ∧ Below base w w' := by
  obtain ⟨i, hi, hisz⟩ := szt_info h0
  have hby : byt P e = i.bytes := by simp [byt, hi]
  rw [hby] at hb
  have hm' : c ≤ 9223372036854775807 := by simp only [maxLen] at hm; omega
  have hwl : IntKind.i64.wrap l = l := Go.IntWalk.i64_in _ (by omega)
  have hwc : IntKind.i64.wrap c = c := Go.IntWalk.i64_in _ (by omega)
  have hzeros : ((Array.range (c.toNat * szt P e)).map (fun j => z.cells[j % z.cells.size]!)).toList = (List.range (c.toNat * szt P e)).map fun j => z.cells.toList.getD (j % szt P e) undef := by
    rw [zeros_eq _ _ (by omega), hzs]
  obtain ⟨cs, hcs⟩ : ∃ cs, cs = (Array.range (c.toNat * szt P e)).map (fun j => z.cells[j % z.cells.size]!) := ⟨_, rfl⟩
  have hsz : cs.size = c.toNat * szt P e := by rw [hcs]; simp
  have hvs : Vs m ((List.range (c.toNat * szt P e)).map fun j => z.cells.toList.getD (j % szt P e) undef) cs.toList := by
    rw [hcs, hzeros]; exact plain_Vs (zeros_plain _ _ _ h0 (by simpa using hzs) hp)
  refine ⟨_, .slice (some ⟨w.heap.size, 0, none⟩) l.toNat c.toNat, _, ?_, pre_app m ⟨w.heap.size, 0, cs.size, some (szt P e)⟩, ?_, hR.alloc cs e (some (szt P e)) hvs, (Below.refl _ _).alloc hR.base_le _⟩
  · have g1 : ¬ ((i.bytes : Int) * c > 281474976710656) := by
      have : (i.bytes : Int) * c = c * i.bytes := Int.mul_comm _ _
      omega
    have g2 : ¬ (c.toNat * i.bytes > 140737488355328) := by
      have : ((c.toNat * i.bytes : Nat) : Int) = c * i.bytes := by
        rw [Int.natCast_mul, Int.toNat_of_nonneg (by omega)]
      omega
    have g3 : ¬ c < 0 := by omega
    have g4 : ¬ l < 0 := by omega
    have g5 : ¬ l > c := by omega
    simp only [Instr.makeSlice, Sem.run_bind, run_underlying (und_some hu (by simp)), Result.andThen_ok, asInt, asIntOf, Sem.run_pure, typeInfo, run_program, hi, hwl, hwc]
    have gg : ((decide (c < 0) || decide ((i.bytes : Int) * c > 2 ^ 48)) || decide (l < 0) || decide (l > c)) = false := by
      simp only [Bool.or_eq_false_iff, decide_eq_false_iff_not]
      exact ⟨⟨⟨g3, by simpa using g1⟩, g4⟩, g5⟩
    rw [gg]
    simp only [Bool.false_eq_true, if_false, askRoom, roomBytes]
    have g6 : ¬ (140737488355328 < c.toNat * i.bytes) := by omega
    by_cases hn0 : c.toNat * szt P e = 0
    · have hc0 : cs = #[] := by rw [hcs, hn0]; simp
      have hz0 : Array.map (fun _ => (default : Value)) (Array.range 0) = #[] := by apply Array.ext <;> simp
      simp [run_sizeOf h0, hn0, run_newRow, hc0, g6, hz0]
    · simp [run_sizeOf h0, hn0, run_zero hz, run_newRow, hcs, g6]
  · have hlen2 : m.length = H.length := hR.len
    have : V (m ++ [⟨w.heap.size, 0, cs.size, some (szt P e)⟩]) (.slice (some ⟨H.length, 0, none⟩) l.toNat l.toNat) (.slice (some ⟨w.heap.size, 0 + 0, none⟩) l.toNat c.toNat) := by
      refine .one (.sl (e := ⟨w.heap.size, 0, cs.size, some (szt P e)⟩) (by rw [← hlen2]; simp) (by omega) (fun _ s hs => ?_))
      cases hs
      exact ⟨hsz.symm, by simp only [maxLen]; omega⟩
    simpa using this
theorem bytes_run (hR : Rel nro base γ m H w) {s d e : TypeId} {b : ByteArray} (hs : und P s = .string) (hd : und P d = .slice e) (he : und P e = .int .u8) :
    ∃ m' v' w', (convert s d (.string b)).run P w = .ok v' w' ∧ m <+: m' ∧ V m' (.slice (some ⟨H.length, 0, none⟩) b.size b.size) v' ∧ Rel nro base γ m' (H ++ [some ⟨iv .u8 (nums b), e, none⟩]) w' ∧ Below base w w' := by
  have hrun := Lib.run_convert_string_bytes (P := P) w s d e b (und_some hs (by simp)) (und_some hd (by simp)) (und_some he (by simp))
  have hnew := Lib.bytesWorld_at_new w e b
  refine ⟨m ++ [⟨w.heap.size, 0, (Lib.bytesCells w e b).size, none⟩], _, _, hrun, pre_app _ _, ?_, ?_, ?_⟩
  · have hlen2 : m.length = H.length := hR.len
    have : V (m ++ [⟨w.heap.size, 0, (Lib.bytesCells w e b).size, none⟩]) (.slice (some ⟨H.length, 0, none⟩) b.size b.size) (.slice (some ⟨w.heap.size, 0 + 0, none⟩) b.size (grownCap w b.size 0 e)) :=
      .one (.sl (e := ⟨w.heap.size, 0, (Lib.bytesCells w e b).size, none⟩) (by rw [← hlen2]; simp) (grownCap_ge _ _ _ _) (fun _ s hs => by cases hs))
    simpa using this
  · refine hR.add (by rw [Lib.bytesWorld_size]; omega) (fun i k e' hk he' => Lib.bytesWorld_at_old w e b _ (hR.inb i e' he')) hR.base_le hnew (fun o h1 h2 => by simp only at h2; omega) (fun h => by cases h) (fun i k e' _ _ he' h => ?_) (fun j x hx => ?_)
    · have := hR.inb i e' he'; omega
    · refine ⟨x, ?_, .plain ?_⟩
      · have hj : j < b.size := by
          rcases Nat.lt_or_ge j b.size with h | h
          · exact h
          · rw [List.getElem?_eq_none (by simp [nums]; exact h)] at hx; cases hx
        simp only [iv, nums, List.map_map] at hx
        rw [List.getElem?_map] at hx
        unfold Lib.bytesCells
        rw [Array.getElem?_append_left (by simpa using hj)]
        simpa using hx
      · simp only [iv, List.getElem?_map] at hx
        cases hq : (nums b)[j]? with
        | none => rw [hq] at hx; cases hx
        | some q => rw [hq] at hx; cases hx; rfl
  · exact Below.trans (.refl _ _) ⟨rfl, rfl, rfl, by rw [Lib.bytesWorld_size]; omega, fun k hk => Lib.bytesWorld_at_old w e b k (by have := hR.base_le; omega)⟩
end
end Go.Proofs.YtjfhdckcjkgjnaaDoor
