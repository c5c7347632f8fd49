/-
  Operations that only read: the function, and that it holds of the machine. Over any program.
-/
import Derived.Test.YtjfhdckcjkgjnaaDoorXq
namespace Go.Proofs.YtjfhdckcjkgjnaaDoor
open Go Go.RowKit
set_option linter.unusedVariables false

def isU8 : Value → Bool | .int .u8 _ => true | _ => false
def num : Value → Int | .int _ x => x | _ => 0
/-- Cells as bytes. -/
def byteList (l : List Value) : Option (List Int) := if l.all isU8 then some (l.map num) else none
theorem byteList_iv (l : List Int) : byteList (iv .u8 l) = some l := by
  unfold byteList
  have h1 : (iv .u8 l).all isU8 = true := by simp [iv, isU8]
  rw [if_pos h1]
  simp [iv]
  exact List.map_id'' (fun _ => rfl) l
theorem byteList_spec {l : List Value} {ns : List Int} (h : byteList l = some ns) : l = iv .u8 ns := by
  unfold byteList at h
  split at h
  · rename_i ha
    cases h
    unfold iv
    induction l with
    | nil => rfl
    | cons x l ih =>
      simp only [List.all_cons, Bool.and_eq_true] at ha
      rw [List.map_cons, List.map_cons, ← ih ha.2]
      congr 1
      have := ha.1
      unfold isU8 at this
      split at this
      · rfl
      · cases this
  · cases h
def okD : TypeDesc → Bool | .invalid => false | _ => true
theorem okD_ne {d : TypeDesc} (h : okD d = true) : d ≠ .invalid := by intro e; subst e; cases h
theorem agg_ne {d : TypeDesc} (h : isAggD d = true) : d ≠ .invalid := by intro e; subst e; cases h

def zer (P : Program) (t : TypeId) : Option Value := (P.info? t).bind (·.zero)
def asInt? : Value → Option Int | .int _ x => some x | _ => none

def xload (P : Program) (t : TypeId) (x : Value) (H : AH) : Option Value :=
  match x with
  | .pointer (some ⟨i, off, none⟩) =>
    match hget H i with
    | none => none
    | some k =>
      if isAggD (und P t) = true then (if 0 < szt P t ∧ off + szt P t ≤ k.cells.length then some (.agg ((k.cells.drop off).take (szt P t)).toArray) else none)
      else if okD (und P t) = true then k.cells[off]? else none
  | _ => none
def xconv (P : Program) (s d : TypeId) (x : Value) (H : AH) : Option Value :=
  match und P d, x with
  | .int k, .int _ v => if okD (und P s) = true then some (.int k (k.wrap v)) else none
  | .string, .string b => if okD (und P s) = true then some (.string b) else none
  | .string, .slice none _ _ => (match und P s with | .slice e => (match und P e with | .int .u8 => some (.string ByteArray.empty) | _ => none) | _ => none)
  | .string, .slice (some ⟨i, off, none⟩) len _ => (match und P s with
      | .slice e => (match und P e with
        | .int .u8 => (match hget H i with
          | some k => (match byteList ((k.cells.drop off).take len) with | some ns => if ns.length = len then some (.string (strOfNums ns)) else none | none => none)
          | none => none)
        | _ => none)
      | _ => none)
  | _, _ => none
def xpart (P : Program) (e : TypeId) (cs : Array Value) (off : Nat) : Option Value :=
  if isAggD (und P e) = true then (if 0 < szt P e ∧ off + szt P e ≤ cs.size then some (.agg (cs.extract off (off + szt P e))) else none)
  else if okD (und P e) = true then cs[off]? else none
/-- The fields of a struct: their types, and where they lie. -/
def flds (P : Program) (t : TypeId) : Option (List (TypeId × Nat)) :=
  match und P t with
  | .struct fs => some (fs.toList.map fun f => (f.type, f.offset))
  | _ => none
theorem flds_some {P : Program} {t : TypeId} {l : List (TypeId × Nat)} (h : flds P t = some l) : ∃ fs, und P t = .struct fs ∧ l = fs.toList.map fun f => (f.type, f.offset) := by
  unfold flds at h
  split at h
  · rename_i fs hu; cases h; exact ⟨fs, hu, rfl⟩
  · cases h
def xfield (P : Program) (t : TypeId) (x : Value) (f : Nat) : Option Value :=
  match flds P t, x with
  | some fs, .agg cs => (match fs[f]? with | some fd => xpart P fd.1 cs fd.2 | none => none)
  | _, _ => none
def xfieldAddr (P : Program) (t : TypeId) (x : Value) (f : Nat) : Option Value :=
  match flds P t, x with
  | some fs, .pointer (some ⟨i, off, none⟩) => (match fs[f]? with | some fd => if 0 < szt P fd.1 then some (.pointer (some ⟨i, off + fd.2, none⟩)) else none | none => none)
  | _, _ => none
def xindexAddr (P : Program) (t : TypeId) (x ix : Value) : Option Value :=
  match und P t, x, ix with
  | .array n e, .pointer (some ⟨i, off, none⟩), .int _ j => if 0 ≤ j ∧ j < n ∧ 0 < szt P e then some (.pointer (some ⟨i, off + j.toNat * szt P e, none⟩)) else none
  | .slice e, .slice (some ⟨i, off, none⟩) len _, .int _ j => if 0 ≤ j ∧ j < len ∧ 0 < szt P e then some (.pointer (some ⟨i, off + j.toNat * szt P e, none⟩)) else none
  | _, _, _ => none
def xindex (P : Program) (t : TypeId) (x ix : Value) : Option Value :=
  match und P t, x, ix with
  | .array n e, .agg cs, .int _ j => if 0 ≤ j ∧ j < n ∧ 0 < szt P e then xpart P e cs (j.toNat * szt P e) else none
  | .string, .string s, .int _ j => if 0 ≤ j ∧ j < s.size then some (.int .u8 (gb s j.toNat)) else none
  | _, _, _ => none
def bnd (o : Option Value) (d : Nat) : Option Int := match o with | none => some d | some v => asInt? v
def xslice (P : Program) (t : TypeId) (x : Value) (lo hi : Option Value) (H : AH) : Option Value :=
  match und P t, x with
  | .string, .string s => (match bnd lo 0, bnd hi s.size with
    | some l, some h => if 0 ≤ l ∧ l ≤ h ∧ h ≤ s.size then some (.string (s.extract l.toNat h.toNat)) else none
    | _, _ => none)
  | .array n e, .pointer (some ⟨i, off, none⟩) => (match bnd lo 0, bnd hi n with
    | some l, some h => if 0 ≤ l ∧ l ≤ h ∧ h ≤ n ∧ 0 < szt P e ∧ (hget H i).isSome = true then
        some (if l ≠ 0 ∧ h = l then .slice (some ⟨i, off, some 0⟩) 0 0 else .slice (some ⟨i, off + l.toNat * szt P e, none⟩) (h.toNat - l.toNat) (if (hget H i).map (·.es) = some none then h.toNat - l.toNat else h.toNat - l.toNat + 1)) else none
    | _, _ => none)
  | .slice e, .slice (some ⟨i, off, none⟩) len c => (match bnd lo 0, bnd hi len with
    | some l, some h => if 0 ≤ l ∧ l ≤ h ∧ h ≤ len ∧ 0 < szt P e then
        some (if l ≠ 0 ∧ h = l then .slice (some ⟨i, off, some 0⟩) 0 0 else .slice (some ⟨i, off + l.toNat * szt P e, none⟩) (h.toNat - l.toNat) (if c = len then h.toNat - l.toNat else h.toNat - l.toNat + 1)) else none
    | _, _ => none)
  | .slice e, .slice none 0 0 => (match bnd lo 0, bnd hi 0 with
    | some l, some h => if l = 0 ∧ h = 0 ∧ 0 < szt P e then some (.slice none 0 0) else none
    | _, _ => none)
  | _, _ => none
def xlen (P : Program) (t : TypeId) (x : Value) : Option Value :=
  match und P t, x with
  | .string, .string s => some (.int .i64 s.size)
  | .slice _, .slice _ n _ => some (.int .i64 n)
  | .array n _, _ => some (.int .i64 n)
  | .pointer arr, _ => (match und P arr with | .array n _ => some (.int .i64 n) | _ => none)
  | _, _ => none
def xmin (x y : Value) : Option Value := match x, y with | .int k a, .int _ b => some (.int k (if b < a then b else a)) | _, _ => none
def xmax (x y : Value) : Option Value := match x, y with | .int k a, .int _ b => some (.int k (if b > a then b else a)) | _, _ => none

section
variable {P : Program} {nro n base : Nat} {γ : Nat → Option Nat} {m : List Ent} {H : AH} {α : Fm} {a : Act} {w : World}

theorem V.int_ {k : IntKind} {x : Int} {y : Value} (h : V m (.int k x) y) : y = .int k x := h.eq rfl
theorem V.ptr_ {i off : Nat} {y : Value} (h : V m (.pointer (some ⟨i, off, none⟩)) y) : ∃ e, m[i]? = some e ∧ y = .pointer (some ⟨e.b, e.o + off, none⟩) := by
  cases h with
  | two h =>
    cases h with
    | one h =>
      cases h with
      | plain h => cases h
      | ptr h => exact ⟨_, h, rfl⟩
theorem V.sl_ {i off len c : Nat} {y : Value} (h : V m (.slice (some ⟨i, off, none⟩) len c) y) (hcl : c = len := by rfl) : ∃ e c', c = len ∧ m[i]? = some e ∧ len ≤ c' ∧ (off = 0 → ∀ s, e.es = some s → c' * s = e.sz ∧ c' ≤ maxLen) ∧ y = .slice (some ⟨e.b, e.o + off, none⟩) len c' := by
  cases h with
  | two h =>
    cases h with
    | one h =>
      cases h with
      | plain h => cases h
      | sl h1 h2 h3 => exact ⟨_, _, rfl, h1, h2, h3, rfl⟩
      | slv h1 h2 => omega
theorem V.slw_ {i off len c : Nat} {y : Value} (h : V m (.slice (some ⟨i, off, none⟩) len c) y) : ∃ e c', m[i]? = some e ∧ len ≤ c' ∧ y = .slice (some ⟨e.b, e.o + off, none⟩) len c' ∧ (c = len ∨ c = len + 1) := by
  cases h with
  | two h =>
    cases h with
    | one h =>
      cases h with
      | plain h => cases h
      | sl h1 h2 h3 => exact ⟨_, _, h1, h2, rfl, .inl rfl⟩
      | slv h1 h2 => exact ⟨_, _, h1, h2, rfl, .inr rfl⟩
theorem V.agg_ {cs : Array Value} {y : Value} (h : V m (.agg cs) y) : ∃ ds : Array Value, y = .agg ds ∧ ds.size = cs.size ∧ ∀ (i : Nat) (x : Value), cs[i]? = some x → ∃ y, ds[i]? = some y ∧ V1 m x y := by
  cases h with
  | two h =>
    cases h with
    | one h => cases h with | plain h => cases h
    | agg h1 h2 => exact ⟨_, rfl, h1, h2⟩
theorem V.tup_ {cs : Array Value} {y : Value} (h : V m (.tuple cs) y) : ∃ ds : Array Value, y = .tuple ds ∧ ds.size = cs.size ∧ ∀ (i : Nat) (x : Value), cs[i]? = some x → ∃ y, ds[i]? = some y ∧ V2 m x y := by
  cases h with
  | two h => cases h with | one h => cases h with | plain h => cases h
  | tup h1 h2 => exact ⟨_, rfl, h1, h2⟩

/-- What a known block's cell reads. -/
theorem Rel.cell (hR : Rel nro base γ m H w) {i : Nat} {k : Blk} {e : Ent} (hk : hget H i = some k) (he : m[i]? = some e) {off : Nat} {x : Value} (hx : k.cells[off]? = some x) :
    ∃ y, w.cell? ⟨e.b, e.o + off, none⟩ = some y ∧ V1 m x y := by
  obtain ⟨cs, fr, h1, h2, _, _, h3⟩ := hR.cells i k e (hget_some hk) he
  obtain ⟨y, hy, hv⟩ := h3 off x hx
  refine ⟨y, ?_, hv⟩
  simp [World.cell?, h1, hy]
/-- A list of cells, told, and as it lies. -/
theorem list_of_cells {R : Value → Value → Prop} {f : Nat → Option Value} : ∀ (l : List Value) (o : Nat), (∀ j x, l[j]? = some x → ∃ y, f (o + j) = some y ∧ R x y) →
    ∃ l' : List Value, l'.length = l.length ∧ (∀ (j : Nat) (x : Value), l[j]? = some x → ∃ y, l'[j]? = some y ∧ R x y) ∧ ∀ j v, l'[j]? = some v → f (o + j) = some v
  | [], o, _ => ⟨[], rfl, by simp, by simp⟩
  | x :: l, o, h => by
    obtain ⟨y, hy, hr⟩ := h 0 x rfl
    obtain ⟨l', h1, h2, h3⟩ := list_of_cells (R := R) (f := f) l (o + 1) (fun j x hx => by
      obtain ⟨y, hy, hr⟩ := h (j + 1) x (by simpa using hx)
      exact ⟨y, by rw [show o + 1 + j = o + (j + 1) by omega]; exact hy, hr⟩)
    refine ⟨y :: l', by simp [h1], fun j z hz => ?_, fun j v hv => ?_⟩
    · cases j with
      | zero => simp at hz; subst hz; exact ⟨y, rfl, hr⟩
      | succ j => simp at hz; simpa using h2 j z hz
    · cases j with
      | zero => simp at hv; subst hv; exact hy
      | succ j => simp at hv; rw [show o + (j + 1) = o + 1 + j by omega]; exact h3 j v hv
theorem list_agg {m : List Ent} {l l' : List Value} (hl : l'.length = l.length) (h : ∀ (j : Nat) (x : Value), l[j]? = some x → ∃ y, l'[j]? = some y ∧ V1 m x y) : V m (.agg l.toArray) (.agg l'.toArray) :=
  .two (.agg (by simp [hl]) fun i x hx => by
    obtain ⟨y, h1, h2⟩ := h i x (by simpa using hx)
    exact ⟨y, by simpa using h1, h2⟩)
theorem xload_run (hR : Rel nro base γ m H w) {t : TypeId} {x x' v : Value} (hx : V m x x') (h : xload P t x H = some v) : ∃ v', V m v v' ∧ ∀ w', Below w.heap.size w w' → (Instr.loadAt t x').run P w' = .ok v' w' := by
  unfold xload at h
  split at h
  case h_2 => cases h
  rename_i i off
  obtain ⟨e, he, rfl⟩ := hx.ptr_
  split at h
  · cases h
  rename_i k hk
  have hin := hR.inb i e he
  split at h
  · rename_i hg
    split at h
    case isFalse => cases h
    rename_i hs
    cases h
    obtain ⟨l', h1, h2, h3⟩ := list_of_cells (R := V1 m) (f := fun j => w.cell? ⟨e.b, e.o + j, none⟩) ((k.cells.drop off).take (szt P t)) off (fun j x hx => by
      have hj : j < szt P t := by
        rcases Nat.lt_or_ge j (szt P t) with h | h
        · exact h
        · rw [List.getElem?_eq_none (by simp; omega)] at hx; cases hx
      rw [List.getElem?_take_of_lt hj, List.getElem?_drop] at hx
      obtain ⟨y, hy, hv⟩ := hR.cell hk he hx
      exact ⟨y, hy, hv⟩)
    have hlen : ((k.cells.drop off).take (szt P t)).length = szt P t := by simp; omega
    refine ⟨.agg l'.toArray, list_agg h1 h2, fun w' hb => ?_⟩
    simp only [Instr.loadAt, Instr.sureAddr, Sem.run_bind, Sem.run_pure, Result.andThen_ok]
    refine run_loadVar_agg (agg_ne hg) hg hs.1 (by rw [h1, hlen]) (fun j v hv => ?_)
    rw [Nat.add_assoc]
    exact (hb.cell (p := ⟨e.b, e.o + (off + j), none⟩) hin).trans (h3 j v hv)
  · rename_i hg
    split at h
    case isFalse => cases h
    rename_i hu
    obtain ⟨y, hy, hv⟩ := hR.cell hk he h
    refine ⟨y, .one hv, fun w' hb => ?_⟩
    simp only [Instr.loadAt, Instr.sureAddr, Sem.run_bind, Sem.run_pure, Result.andThen_ok]
    exact run_loadVar_one (okD_ne hu) (by simpa using hg) ((hb.cell (p := ⟨e.b, e.o + off, none⟩) hin).trans hy)
theorem xpart_run {e : TypeId} {cs ds : Array Value} {off : Nat} {v : Value} (hs : ds.size = cs.size) (hv : ∀ (i : Nat) (x : Value), cs[i]? = some x → ∃ y, ds[i]? = some y ∧ V1 m x y) (h : xpart P e cs off = some v) :
    ∃ v', V2 m v v' ∧ ∀ w', (part e ds off).run P w' = .ok v' w' := by
  unfold xpart at h
  split at h
  · rename_i hg
    split at h
    case isFalse => cases h
    rename_i hsz
    cases h
    refine ⟨.agg (ds.extract off (off + szt P e)), .agg (by simp [hs]) (fun i x hx => ?_), fun w' => ?_⟩
    · have hi : i < szt P e := by
        rcases Nat.lt_or_ge i (szt P e) with h | h
        · exact h
        · rw [Array.getElem?_eq_none (by simp; omega)] at hx; cases hx
      have h1 : (cs.extract off (off + szt P e))[i]? = cs[off + i]? := by
        rw [Array.getElem?_extract]; simp; omega
      have h2 : (ds.extract off (off + szt P e))[i]? = ds[off + i]? := by
        rw [Array.getElem?_extract]; simp; omega
      rw [h1] at hx
      rw [h2]
      exact hv _ _ hx
    · simp [part, run_isAgg (agg_ne hg), hg, run_sizeOf hsz.1]
  · rename_i hg
    split at h
    case isFalse => cases h
    rename_i hu
    obtain ⟨y, hy, hvv⟩ := hv _ _ h
    refine ⟨y, .one hvv, fun w' => ?_⟩
    have hg' : isAggD (und P e) = false := by simpa using hg
    simp [part, run_isAgg (okD_ne hu), hg', hy]
end
end Go.Proofs.YtjfhdckcjkgjnaaDoor
