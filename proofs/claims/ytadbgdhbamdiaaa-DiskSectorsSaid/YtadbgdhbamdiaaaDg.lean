/-
  A table of twelve slices of bytes; sectors that are one byte.
-/
import Derived.Test.YtadbgdhbamdiaaaDq
namespace Go.Proofs.Ytadbgdhbamdiaaa
open Go Go.RowKit
set_option linter.unusedVariables false
set_option linter.unusedSimpArgs false
set_option maxRecDepth 100000

def upd {β : Type} (f : Nat → β) (k : Nat) (v : β) : Nat → β := fun j => if j = k then v else f j
theorem upd_self {β : Type} (f : Nat → β) (k : Nat) (v : β) : upd f k v k = v := by simp [upd]
theorem upd_ne {β : Type} (f : Nat → β) {k j : Nat} (v : β) (h : j ≠ k) : upd f k v j = f j := by simp [upd, h]
structure MayR (G : AH) (mb : Nat) (Ls : Nat → List Int) (Ms : Nat → Value) (Fs : Nat → List Nat) : Prop where
  cells : hget G mb = some ⟨(List.range 12).map Ms, 51, none⟩
  own : ∀ k, k < 12 → OwnF G (Ms k) 5 1 (iv .u8 (Ls k)) (Fs k)
  dis : ∀ k k', k < 12 → k' < 12 → k ≠ k' → ∀ j ∈ Fs k, j ∉ Fs k'
  mb : ∀ k, k < 12 → mb ∉ Fs k
/-- The blocks that stay: those of T, the table's. -/
def mayS (T : Nat → Bool) (mb : Nat) (Fs : Nat → List Nat) : Nat → Bool := fun j => T j || decide (j = mb) || (List.range 12).any fun k => (Fs k).contains j
theorem mayS_lo {T : Nat → Bool} {mb : Nat} {Fs : Nat → List Nat} {j : Nat} (h : T j = true) : mayS T mb Fs j = true := by simp [mayS, h]
theorem mayS_mb {T : Nat → Bool} {mb : Nat} {Fs : Nat → List Nat} : mayS T mb Fs mb = true := by simp [mayS]
theorem mayS_f {T : Nat → Bool} {mb : Nat} {Fs : Nat → List Nat} {j k : Nat} (hk : k < 12) (h : j ∈ Fs k) : mayS T mb Fs j = true := by
  simp only [mayS, Bool.or_eq_true, List.any_eq_true, List.mem_range]
  exact .inr ⟨k, hk, by simpa using h⟩
theorem mayS_cases {T : Nat → Bool} {mb : Nat} {Fs : Nat → List Nat} {j : Nat} (h : mayS T mb Fs j = true) : T j = true ∨ j = mb ∨ ∃ k, k < 12 ∧ j ∈ Fs k := by
  simp only [mayS, Bool.or_eq_true, List.any_eq_true, List.mem_range, decide_eq_true_eq] at h
  rcases h with (h | h) | ⟨k, hk, h⟩
  · exact .inl h
  · exact .inr (.inl h)
  · exact .inr (.inr ⟨k, hk, by simpa using h⟩)
section
variable {G G' : AH} {mb : Nat} {Ls Ls' : Nat → List Int} {Ms : Nat → Value} {Fs : Nat → List Nat}
theorem MayR.congr (h : MayR G mb Ls Ms Fs) (he : ∀ k, k < 12 → Ls k = Ls' k) : MayR G mb Ls' Ms Fs := ⟨h.cells, fun k hk => by rw [← he k hk]; exact h.own k hk, h.dis, h.mb⟩
theorem MayR.low (h : MayR G mb Ls Ms Fs) (hm : hget G' mb = hget G mb) (hf : ∀ k, k < 12 → ∀ j ∈ Fs k, hget G' j = hget G j) : MayR G' mb Ls Ms Fs := ⟨by rw [hm]; exact h.cells, fun k hk => (h.own k hk).low (hf k hk), h.dis, h.mb⟩
theorem range_set (Ms : Nat → Value) (k : Nat) (v : Value) : ((List.range 12).map Ms).set k v = (List.range 12).map (upd Ms k v) := by
  apply List.ext_getElem?
  intro j
  by_cases e : k = j
  · subst e
    rcases Nat.lt_or_ge k 12 with h | h
    · rw [List.getElem?_set_self (by simpa using h), List.getElem?_map, List.getElem?_range h]; simp [upd_self]
    · rw [List.getElem?_eq_none (by simpa using h), List.getElem?_eq_none (by simpa using h)]
  · rw [List.getElem?_set_ne e, List.getElem?_map, List.getElem?_map]
    cases hr : (List.range 12)[j]? with
    | none => rfl
    | some x =>
      have : x = j := by
        have := (List.getElem?_eq_some_iff.1 hr).2
        simpa using this.symm
      subst this
      simp [upd_ne Ms v (fun h => e h.symm)]
/-- One slice anew. -/
theorem MayR.put (h : MayR G mb Ls Ms Fs) {k : Nat} (hk : k < 12) {v : Value} {l : List Int} {b : Nat} (hlen : G.length ≤ G'.length) (hl : ∀ j, j < G.length → j ∉ Fs k → hget G' j = hget G j) (hb : G.length ≤ b) (hown : OwnF G' v 5 1 (iv .u8 l) [b]) :
    MayR (G'.set mb (some ⟨(List.range 12).map (upd Ms k v), 51, none⟩)) mb (upd Ls k l) (upd Ms k v) (upd Fs k [b]) := by
  have hmb := hget_lt h.cells
  refine ⟨hget_set_eq (by omega), fun k' hk' => ?_, fun k1 k2 h1 h2 hne j hj => ?_, fun k' hk' => ?_⟩
  · by_cases e : k' = k
    · subst e
      rw [upd_self, upd_self, upd_self]
      exact hown.low (fun j hj => hget_set_ne (by rw [List.mem_singleton] at hj; omega))
    · rw [upd_ne _ _ e, upd_ne _ _ e, upd_ne _ _ e]
      refine (h.own k' hk').low (fun j hj => ?_)
      rw [hget_set_ne (fun e2 => h.mb k' hk' (by rw [e2]; exact hj)), hl j ((h.own k' hk').lt j hj) (fun hm => h.dis k' k hk' hk e j hj hm)]
  · by_cases e1 : k1 = k
    · subst e1
      rw [upd_self, List.mem_singleton] at hj
      rw [upd_ne _ _ (fun e => hne e.symm)]
      intro hm
      have := (h.own k2 h2).lt j hm
      omega
    · rw [upd_ne _ _ e1] at hj
      by_cases e2 : k2 = k
      · subst e2
        rw [upd_self, List.mem_singleton]
        have := (h.own k1 h1).lt j hj
        omega
      · rw [upd_ne _ _ e2]
        exact h.dis k1 k2 h1 h2 hne j hj
  · by_cases e : k' = k
    · subst e; rw [upd_self, List.mem_singleton]; omega
    · rw [upd_ne _ _ e]; exact h.mb k' hk'
/-- Where all of it lies. -/
structure Lo (lo : Nat) (T : Nat → Bool) (mb : Nat) (Fs : Nat → List Nat) : Prop where
  le : lo ≤ mb
  fs : ∀ k, k < 12 → ∀ j ∈ Fs k, lo ≤ j
  tm : T mb = false
  tf : ∀ k, k < 12 → ∀ j ∈ Fs k, T j = false
/-- The disks beside it. -/
theorem Many.put {lo : Nat} {T : Nat → Bool} {HL : AH} {l : List (Nat × List Nat × DM)} (hm : Many (mayS T mb Fs) HL lo G l) (h : MayR G mb Ls Ms Fs) (hlo : Lo lo T mb Fs) {k : Nat} (hk : k < 12) {X : Option Blk} {b : Nat} (hlen : G.length ≤ G'.length) (hl : ∀ j, j < G.length → j ∉ Fs k → hget G' j = hget G j) (hb : G.length ≤ b) (hb2 : b < G'.length) :
    Many (mayS T mb (upd Fs k [b])) (G'.set mb X) lo (G'.set mb X) l ∧ Lo lo T mb (upd Fs k [b]) ∧ ∀ j, T j = true → hget (G'.set mb X) j = hget G j := by
  have hmb := hget_lt h.cells
  refine ⟨hm.keep (by simpa using hlen) (fun i x hx j hj => ?_) (fun j hj => ?_), ⟨hlo.le, fun k' hk' j hj => ?_, hlo.tm, fun k' hk' j hj => ?_⟩, fun j hj => ?_⟩
  · have hjl := (hm.dk i x hx).lt j hj
    rw [hget_set_ne (fun e => (hm.st mb mayS_mb).2.1 i x hx (by rw [e]; exact hj)), hl j hjl (fun hmm => (hm.st j (mayS_f hk hmm)).2.1 i x hx hj)]
  · refine ⟨?_, fun i x hx hmm => ?_, rfl⟩
    · rw [List.length_set]
      rcases mayS_cases hj with h1 | rfl | ⟨k', hk', h1⟩
      · have := (hm.st j (mayS_lo h1)).1; omega
      · omega
      · by_cases e : k' = k
        · subst e; rw [upd_self, List.mem_singleton] at h1; omega
        · rw [upd_ne _ _ e] at h1; have := (h.own k' hk').lt j h1; omega
    · have hjl := (hm.dk i x hx).lt j hmm
      rcases mayS_cases hj with h1 | rfl | ⟨k', hk', h1⟩
      · exact (hm.st j (mayS_lo h1)).2.1 i x hx hmm
      · exact (hm.st j mayS_mb).2.1 i x hx hmm
      · by_cases e : k' = k
        · subst e; rw [upd_self, List.mem_singleton] at h1; omega
        · rw [upd_ne _ _ e] at h1; exact (hm.st j (mayS_f hk' h1)).2.1 i x hx hmm
  · by_cases e : k' = k
    · subst e; rw [upd_self, List.mem_singleton] at hj; have := hm.len; omega
    · rw [upd_ne _ _ e] at hj; exact hlo.fs k' hk' j hj
  · by_cases e : k' = k
    · subst e
      rw [upd_self, List.mem_singleton] at hj
      cases hT : T j with
      | false => rfl
      | true => have := (hm.st j (mayS_lo hT)).1; omega
    · rw [upd_ne _ _ e] at hj; exact hlo.tf k' hk' j hj
  · have h1 := (hm.st j (mayS_lo hj)).1
    rw [hget_set_ne (fun e => by have h2 := hlo.tm; rw [e, hj] at h2; cases h2), hl j h1 (fun hmm => by have := hlo.tf k hk j hmm; rw [hj] at this; cases this)]
/-- The disk and the table, and blocks T as they are in H. -/
def Sta (lo : Nat) (T : Nat → Bool) (H : AH) (mb p : Nat) (G : AH) (Ls : Nat → List Int) (D : DM) : Prop :=
  ∃ Ms Fs F HL, MayR G mb Ls Ms Fs ∧ Many (mayS T mb Fs) HL lo G [(p, F, D)] ∧ Lo lo T mb Fs ∧ ∀ j, T j = true → hget G j = hget H j
theorem Sta.disk {lo : Nat} {T : Nat → Bool} {H HL : AH} {p : Nat} {F F' : List Nat} {D D' : DM} (hM : MayR G mb Ls Ms Fs) (hm : Many (mayS T mb Fs) HL lo G [(p, F, D)]) (hlo : Lo lo T mb Fs) (hT : ∀ j, T j = true → hget G j = hget H j) (hf : Fr G G' F F') (hd : Dk G' p F' D') : Sta lo T H mb p G' Ls D' := by
  have hm' := hm.step (i := 0) rfl hf hd
  have out : ∀ j, mayS T mb Fs j = true → hget G' j = hget G j := fun j hj => by
    obtain ⟨h1, h2, h3⟩ := hm.st j hj
    exact hf.out j h1 (h2 0 _ rfl)
  exact ⟨Ms, Fs, F', HL, hM.low (out mb mayS_mb) (fun k hk j hj => out j (mayS_f hk hj)), hm', hlo, fun j hj => (out j (mayS_lo hj)).trans (hT j hj)⟩
theorem Sta.push {lo : Nat} {T : Nat → Bool} {H : AH} {p : Nat} {D : DM} (h : Sta lo T H mb p G Ls D) (L : AH) : Sta lo T H mb p (G ++ L) Ls D := by
  obtain ⟨Ms, Fs, F, HL, hM, hm, hlo, hT⟩ := h
  have hm' := hm.push L
  have out : ∀ j, mayS T mb Fs j = true → hget (G ++ L) j = hget G j := fun j hj => hget_left (hm.st j hj).1
  exact ⟨Ms, Fs, F, HL, hM.low (out mb mayS_mb) (fun k hk j hj => out j (mayS_f hk hj)), hm', hlo, fun j hj => (out j (mayS_lo hj)).trans (hT j hj)⟩
/-- One slice anew: of one byte, or a byte behind those that are there. -/
theorem Sta.put {lo : Nat} {T : Nat → Bool} {H HL : AH} {p : Nat} {F : List Nat} {D : DM} (hM : MayR G mb Ls Ms Fs) (hm : Many (mayS T mb Fs) HL lo G [(p, F, D)]) (hlo : Lo lo T mb Fs) (hT : ∀ j, T j = true → hget G j = hget H j)
    {k : Nat} (hk : k < 12) {v : Value} {l : List Int} {b : Nat} (hlen : G.length ≤ G'.length) (hl : ∀ j, j < G.length → j ∉ Fs k → hget G' j = hget G j) (hb : G.length ≤ b) (hown : OwnF G' v 5 1 (iv .u8 l) [b]) :
    Sta lo T H mb p (G'.set mb (some ⟨(List.range 12).map (upd Ms k v), 51, none⟩)) (upd Ls k l) D := by
  obtain ⟨h1, h2, h3⟩ := hm.put hM hlo hk (X := some ⟨(List.range 12).map (upd Ms k v), 51, none⟩) hlen hl hb (hown.lt b (by simp))
  exact ⟨_, _, F, _, hM.put hk hlen hl hb hown, h1, h2, fun j hj => (h3 j hj).trans (hT j hj)⟩
theorem Sta.congr {lo : Nat} {T : Nat → Bool} {H : AH} {p : Nat} {D : DM} (h : Sta lo T H mb p G Ls D) (he : ∀ k, k < 12 → Ls k = Ls' k) : Sta lo T H mb p G Ls' D := by
  obtain ⟨Ms, Fs, F, HL, hM, hm, hlo, hT⟩ := h
  exact ⟨Ms, Fs, F, HL, hM.congr he, hm, hlo, hT⟩
/-- One block more that stays, or fewer. -/
theorem Sta.more {lo : Nat} {T : Nat → Bool} {H : AH} {p : Nat} {D : DM} (h : Sta lo T H mb p G Ls D) (X : Option Blk) : Sta lo (fun j => T j || j == G.length) (G ++ [X]) mb p (G ++ [X]) Ls D := by
  obtain ⟨Ms, Fs, F, HL, hM, hm, hlo, hT⟩ := h
  have out : ∀ j, mayS T mb Fs j = true → hget (G ++ [X]) j = hget G j := fun j hj => hget_left (hm.st j hj).1
  refine ⟨Ms, Fs, F, G ++ [X], hM.low (out mb mayS_mb) (fun k hk j hj => out j (mayS_f hk hj)), hm.keep (by simp) (fun i x hx j hj => hget_left ((hm.dk i x hx).lt j hj)) (fun j hj => ?_), ⟨hlo.le, hlo.fs, ?_, fun k hk j hj => ?_⟩, fun j hj => rfl⟩
  · rcases mayS_cases hj with h1 | rfl | ⟨k', hk', h1⟩
    · simp only [Bool.or_eq_true, beq_iff_eq] at h1
      rcases h1 with h1 | rfl
      · have := hm.st j (mayS_lo h1); exact ⟨by simp; omega, this.2.1, rfl⟩
      · exact ⟨by simp, fun i x hx hmm => by have := (hm.dk i x hx).lt _ hmm; omega, rfl⟩
    · have := hm.st j mayS_mb; exact ⟨by simp; omega, this.2.1, rfl⟩
    · have := hm.st j (mayS_f hk' h1); exact ⟨by simp; omega, this.2.1, rfl⟩
  · have := hget_lt hM.cells
    simp only [hlo.tm, Bool.false_or, beq_eq_false_iff_ne]; omega
  · have := (hM.own k hk).lt j hj
    simp only [hlo.tf k hk j hj, Bool.false_or, beq_eq_false_iff_ne]; omega
theorem Sta.less {lo : Nat} {T T' : Nat → Bool} {H H' : AH} {p : Nat} {D : DM} (h : Sta lo T H mb p G Ls D) (hs : ∀ j, T' j = true → T j = true ∧ hget H j = hget H' j) : Sta lo T' H' mb p G Ls D := by
  obtain ⟨Ms, Fs, F, HL, hM, hm, hlo, hT⟩ := h
  have sub : ∀ j, T j = false → T' j = false := fun j hj => by
    cases hq : T' j with
    | false => rfl
    | true => rw [(hs j hq).1] at hj; cases hj
  refine ⟨Ms, Fs, F, HL, hM, hm.less (fun j hj => ⟨?_, rfl⟩), ⟨hlo.le, hlo.fs, sub _ hlo.tm, fun k hk j hj => sub _ (hlo.tf k hk j hj)⟩, fun j hj => (hT j (hs j hj).1).trans (hs j hj).2⟩
  rcases mayS_cases hj with h1 | rfl | ⟨k', hk', h1⟩
  · exact mayS_lo (hs j h1).1
  · exact mayS_mb
  · exact mayS_f hk' h1
end

/-- A sector is one byte of these. -/
def Sec (r : ByteArray) (j : Nat) (L : List Int) : Prop := ∃ x ∈ L, ∀ n, n < 64 → gb r (64 * j + n) = x
theorem Sec.sub {r : ByteArray} {j : Nat} {L L' : List Int} (h : Sec r j L) (hs : ∀ x ∈ L, x ∈ L') : Sec r j L' := let ⟨x, h1, h2⟩ := h; ⟨x, hs x h1, h2⟩
structure Good (D : DM) (Ls : Nat → List Int) : Prop where
  firm : ∀ (b : Nat) (r : ByteArray), D.firm[b]? = some r → ∀ j, j < 4 → Sec r j (Ls (4 * b + j))
  uns : ∀ w ∈ D.uns, ∀ j, j < 4 → Sec w.2 j (Ls (4 * w.1 + j))
theorem gb_nums (s : ByteArray) (i : Nat) : gb s i = (nums s).getD i 0 := by
  unfold gb nums
  rw [List.getD_eq_getElem?_getD, List.getD_eq_getElem?_getD, List.getElem?_map]
  cases s.data.toList[i]? <;> rfl
theorem gb_zs (n i : Nat) : gb (zs n) i = 0 := by
  rw [gb_nums, nums_zs, List.getD_eq_getElem?_getD]
  unfold zl
  rw [List.getElem?_replicate]
  split <;> rfl
theorem gb_dat {b : Int} {i : Nat} (hi : i < 256) : gb (datS b 0) i = IntKind.u8.wrap (b + ((i / 64 : Nat) : Int)) := by
  rw [gb_nums]
  unfold datS
  rw [nums_of _ (dat_by _ _)]
  exact dat_get b _ (by omega)
theorem sec_dat (b : Int) {j : Nat} (hj : j < 4) {L : List Int} (h : IntKind.u8.wrap (b + (j : Nat)) ∈ L) : Sec (datS b 0) j L := by
  refine ⟨_, h, fun n hn => ?_⟩
  rw [gb_dat (by omega), show (64 * j + n) / 64 = j by omega]
theorem late_good {firm : List ByteArray} {uns : List (Nat × ByteArray)} {P : Nat → ByteArray → Prop} (hf : ∀ b r, firm[b]? = some r → P b r) (hu : ∀ w ∈ uns, P w.1 w.2) : ∀ b r, (lateOf firm uns)[b]? = some r → P b r := by
  unfold lateOf
  induction uns generalizing firm with
  | nil => exact hf
  | cons w uns ih =>
    rw [List.foldl_cons]
    refine ih (fun b r hr => ?_) (fun w' hw' => hu w' (List.mem_cons_of_mem _ hw'))
    by_cases e : w.1 = b
    · subst e
      have hl : w.1 < firm.length := by
        have := (List.getElem?_eq_some_iff.1 hr).1
        simpa using this
      rw [List.getElem?_set_self hl] at hr
      cases hr
      exact hu w List.mem_cons_self
    · rw [List.getElem?_set_ne e] at hr; exact hf b r hr
theorem Good.late {D : DM} {Ls : Nat → List Int} (h : Good D Ls) : ∀ (b : Nat) (r : ByteArray), D.late[b]? = some r → ∀ j, j < 4 → Sec r j (Ls (4 * b + j)) :=
  late_good (P := fun b r => ∀ j, j < 4 → Sec r j (Ls (4 * b + j))) h.firm h.uns
theorem gb_cut {w q : ByteArray} (hw : w.size = 256) (hq : q.size = 256) {m i : Nat} (hm : m ≤ 256) (hi : i < 256) : gb (w.extract 0 m ++ q.extract m 256) i = if i < m then gb w i else gb q i := by
  rw [gb_nums, nums_app, nums_extract, nums_extract, List.drop_zero, Nat.sub_zero, List.getD_eq_getElem?_getD]
  have hl : ((nums w).take m).length = m := by rw [List.length_take, nums_len, hw]; omega
  split
  · rename_i h
    rw [List.getElem?_append_left (by omega), List.getElem?_take_of_lt h, ← List.getD_eq_getElem?_getD, ← gb_nums]
  · rename_i h
    rw [List.getElem?_append_right (by omega), hl, List.getElem?_take_of_lt (by omega), List.getElem?_drop, show m + (i - m) = i by omega, ← List.getD_eq_getElem?_getD, ← gb_nums]
theorem kept64 (ks : List Int) (hk : By ks) (i : Nat) : ∃ m, keptN ks i = 64 * m ∧ m ≤ 4 := by
  unfold keptN
  split
  · have := hk.get i
    exact ⟨((ks.getD i 0) % 5).toNat, by omega, by omega⟩
  · exact ⟨0, rfl, by omega⟩
theorem crash_good {D : DM} (ho : D.Ok) {Ls : Nat → List Int} (h : Good D Ls) {ks : List Int} (hk : By ks) : ∀ i, ∀ (b : Nat) (r : ByteArray), (crF D.firm D.uns ks i)[b]? = some r → ∀ j, j < 4 → Sec r j (Ls (4 * b + j)) := by
  intro i
  induction i with
  | zero => exact h.firm
  | succ i ih =>
    intro b r hr j hj
    rw [crF] at hr
    cases hw : D.uns[i]? with
    | none => rw [hw] at hr; exact ih b r hr j hj
    | some w =>
      rw [hw] at hr
      simp only at hr
      obtain ⟨h1, h2⟩ := crF_ok (ks := ks) ho.rows ho.uns i
      have hwm := ho.uns w (List.mem_of_getElem? hw)
      by_cases e : w.1 = b
      · subst e
        rw [List.getElem?_set_self (by omega)] at hr
        cases hr
        have hqg : (crF D.firm D.uns ks i)[w.1]? = some ((crF D.firm D.uns ks i).getD w.1 ⟨#[]⟩) := by
          rw [List.getD_eq_getElem?_getD, List.getElem?_eq_getElem (by omega)]; rfl
        have hq := getD_size h2 (k := w.1) (by omega)
        obtain ⟨m, hm, hm4⟩ := kept64 ks hk i
        rw [hm]
        by_cases hjm : j < m
        · obtain ⟨x, hx, hx2⟩ := h.uns w (List.mem_of_getElem? hw) j hj
          refine ⟨x, hx, fun n hn => ?_⟩
          rw [gb_cut hwm.2 hq (by omega) (by omega), if_pos (by omega)]
          exact hx2 n hn
        · obtain ⟨x, hx, hx2⟩ := ih w.1 _ hqg j hj
          refine ⟨x, hx, fun n hn => ?_⟩
          rw [gb_cut hwm.2 hq (by omega) (by omega), if_neg (by omega)]
          exact hx2 n hn
      · rw [List.getElem?_set_ne e] at hr; exact ih b r hr j hj
end Go.Proofs.Ytadbgdhbamdiaaa
