/-
  A disk, as lists of texts: what is settled, what is unsynced, a fuse, whether it is dead; and where it lies.
-/
import Derived.Test.YtadbgdhbamdiaaaXfp
import Derived.Test.YtadbgdhbamdiaaaTab
import Derived.Test.YtadbgdhbamdiaaaXl
import Derived.Test.YtadbgdhbamdiaaaXm
import Derived.Test.YtadbgdhbamdiaaaXd
namespace Go.Proofs.Ytadbgdhbamdiaaa
open Go Go.RowKit
set_option linter.unusedVariables false
set_option linter.unusedSimpArgs false

structure DM where
  firm : List ByteArray
  uns : List (Nat × ByteArray)
  fuse : Int
  dead : Bool
def lateOf (firm : List ByteArray) (uns : List (Nat × ByteArray)) : List ByteArray := uns.foldl (fun l w => l.set w.1 w.2) firm
structure DM.Ok (D : DM) : Prop where
  one : 1 ≤ D.firm.length
  most : D.firm.length ≤ 1024
  rows : ∀ r ∈ D.firm, r.size = 256
  uns : ∀ w ∈ D.uns, w.1 < D.firm.length ∧ w.2.size = 256
  fuse : -1 ≤ D.fuse ∧ D.fuse ≤ 9223372036854775807
  few : D.uns.length ≤ 1000
theorem late_len (firm : List ByteArray) (uns : List (Nat × ByteArray)) : (lateOf firm uns).length = firm.length := by
  unfold lateOf
  induction uns generalizing firm with
  | nil => rfl
  | cons w uns ih => rw [List.foldl_cons, ih, List.length_set]
theorem mem_set {β : Type} {l : List β} {i : Nat} {x y : β} (h : y ∈ l.set i x) : y ∈ l ∨ y = x := by
  rcases List.mem_or_eq_of_mem_set h with h | h
  · exact .inl h
  · exact .inr h
theorem late_rows {uns : List (Nat × ByteArray)} : ∀ {firm : List ByteArray}, (∀ r ∈ firm, r.size = 256) → (∀ w ∈ uns, w.2.size = 256) → ∀ r ∈ lateOf firm uns, r.size = 256 := by
  unfold lateOf
  induction uns with
  | nil => intro firm h _; exact h
  | cons w uns ih =>
    intro firm h hu
    rw [List.foldl_cons]
    refine ih (fun r hr => ?_) (fun w' hw' => hu w' (List.mem_cons_of_mem _ hw'))
    rcases mem_set hr with hr | rfl
    · exact h r hr
    · exact hu w List.mem_cons_self
theorem late_app (firm : List ByteArray) (uns : List (Nat × ByteArray)) (w : Nat × ByteArray) : lateOf firm (uns ++ [w]) = (lateOf firm uns).set w.1 w.2 := by
  unfold lateOf; rw [List.foldl_append]; rfl
def DM.late (D : DM) : List ByteArray := lateOf D.firm D.uns
/-- Blocks, as cells; writes, as cells. -/
def fc (l : List ByteArray) : List Value := (l.map sv).flatten
def uc (u : List (Nat × ByteArray)) : List Value := (u.map fun w => Value.int .i64 (w.1 : Nat) :: sv w.2).flatten
theorem fc_rows {l : List ByteArray} (h : ∀ r ∈ l, r.size = 256) : ∀ r ∈ l.map sv, r.length = 256 := by
  intro r hr
  obtain ⟨s, hs, rfl⟩ := List.mem_map.1 hr
  rw [sv_length]; exact h s hs
theorem uc_rows {u : List (Nat × ByteArray)} (h : ∀ w ∈ u, w.2.size = 256) : ∀ r ∈ u.map (fun w => Value.int .i64 (w.1 : Nat) :: sv w.2), r.length = 257 := by
  intro r hr
  obtain ⟨s, hs, rfl⟩ := List.mem_map.1 hr
  rw [List.length_cons, sv_length, h s hs]
theorem fc_len {l : List ByteArray} (h : ∀ r ∈ l, r.size = 256) : (fc l).length = l.length * 256 := by
  unfold fc; rw [fl_len (fc_rows h), List.length_map]
theorem uc_len {u : List (Nat × ByteArray)} (h : ∀ w ∈ u, w.2.size = 256) : (uc u).length = u.length * 257 := by
  unfold uc; rw [fl_len (uc_rows h), List.length_map]
theorem fc_get {l : List ByteArray} (h : ∀ r ∈ l, r.size = 256) {k : Nat} {r : ByteArray} (hk : l[k]? = some r) : ((fc l).drop (k * 256)).take 256 = sv r :=
  fl_get (fc_rows h) (by rw [List.getElem?_map, hk]; rfl)
theorem uc_get {u : List (Nat × ByteArray)} (h : ∀ w ∈ u, w.2.size = 256) {k : Nat} {w : Nat × ByteArray} (hk : u[k]? = some w) : ((uc u).drop (k * 257)).take 257 = .int .i64 (w.1 : Nat) :: sv w.2 :=
  fl_get (uc_rows h) (by rw [List.getElem?_map, hk]; rfl)
theorem fc_set {l : List ByteArray} (h : ∀ r ∈ l, r.size = 256) {k : Nat} {r : ByteArray} (hk : k < l.length) (hr : r.size = 256) : setR (fc l) (k * 256) (sv r) = fc (l.set k r) := by
  unfold fc
  rw [fl_setR (fc_rows h) (q := sv l[k]) (by rw [List.getElem?_map, List.getElem?_eq_getElem hk]; rfl) (by rw [sv_length, hr]; exact Nat.le_refl _), List.map_set]
  rw [List.drop_of_length_le (by rw [sv_length, sv_length, h _ (List.getElem_mem hk), hr]; exact Nat.le_refl _), List.append_nil]
theorem fc_part {l : List ByteArray} (h : ∀ r ∈ l, r.size = 256) {k n : Nat} {r q : ByteArray} (hk : l[k]? = some q) (hr : r.size = 256) (hn : n ≤ 256) :
    setR (fc l) (k * 256) ((sv r).take n) = fc (l.set k (r.extract 0 n ++ q.extract n q.size)) := by
  have hq := h q (List.mem_of_getElem? hk)
  unfold fc
  rw [fl_setR (fc_rows h) (q := sv q) (by rw [List.getElem?_map, hk]; rfl) (by rw [List.length_take, sv_length]; omega), List.map_set]
  congr 2
  rw [List.length_take, sv_length, hr, Nat.min_eq_left hn, sv_take, sv_drop, sv_app]
theorem uc_app (u : List (Nat × ByteArray)) (w : Nat × ByteArray) : uc u ++ (.int .i64 (w.1 : Nat) :: sv w.2) = uc (u ++ [w]) := by
  unfold uc; rw [fl_app, List.map_append]; rfl

/-- A slice of a list's own: nil, or the whole of a block. -/
def OwnF (H : AH) (v : Value) (e : TypeId) (sz : Nat) (cells : List Value) (F : List Nat) : Prop :=
  (v = .slice none 0 0 ∧ cells = [] ∧ F = []) ∨ ∃ j len, v = .slice (some ⟨j, 0, none⟩) len len ∧ hget H j = some ⟨cells, e, some sz⟩ ∧ cells.length = len * sz ∧ F = [j]
theorem OwnF.low {H H' : AH} {v : Value} {e : TypeId} {sz : Nat} {cells : List Value} {F : List Nat} (h : OwnF H v e sz cells F) (hl : ∀ j ∈ F, hget H' j = hget H j) : OwnF H' v e sz cells F := by
  rcases h with h | ⟨j, len, h1, h2, h3, rfl⟩
  · exact .inl h
  · exact .inr ⟨j, len, h1, by rw [hl j (by simp)]; exact h2, h3, rfl⟩
theorem OwnF.len {P : Program} {H : AH} {v : Value} {e t : TypeId} {sz : Nat} {cells : List Value} {F : List Nat} (h : OwnF H v e sz cells F) (ht : und P t = .slice e) {n : Nat} (hn : cells.length = n * sz) (h0 : 0 < sz) : xlen P t v = some (.int .i64 n) := by
  rcases h with ⟨rfl, rfl, rfl⟩ | ⟨j, len, rfl, h2, h3, rfl⟩
  · have : n = 0 := by
      have : n * sz = 0 := hn.symm
      rcases Nat.mul_eq_zero.1 this with h | h <;> omega
    subst this
    simp [xlen, ht]
  · have : len = n := Nat.eq_of_mul_eq_mul_right h0 (h3.symm.trans hn)
    subst this
    simp [xlen, ht]
theorem ownF_append {P : Program} {nro : Nat} {t e : TypeId} {H : AH} {v x : Value} {sz : Nat} {cells news : List Value} {F : List Nat} (hu : und P t = .slice e) (hs : szt P e = sz) (h0 : 0 < sz) (hz : (zer P e).map (·.cells.size) = some sz)
    (hv : OwnF H v e sz cells F) (hnro : ∀ j ∈ F, nro ≤ j) (hstr : ∀ s, x ≠ .string s) (hx : xcells sz x H = some news) (hn : news ≠ []) (hd : news.length % sz = 0) (hb : (cells.length + news.length) * byt P e ≤ 140737488355328) (hm : cells.length + news.length ≤ maxLen) :
    ∃ v' H', xappend P nro t v x H = some (v', H') ∧ OwnF H' v' e sz (cells ++ news) [H.length] ∧ H'.length = H.length + 1 ∧ ∀ j, j < H.length → j ∉ F → hget H' j = hget H j := by
  subst hs
  have hdm : news.length / szt P e * szt P e = news.length := Nat.div_mul_cancel (Nat.dvd_of_mod_eq_zero hd)
  rcases hv with ⟨rfl, rfl, rfl⟩ | ⟨j, len, rfl, h3, h4, rfl⟩
  · refine ⟨.slice (some ⟨H.length, 0, none⟩) (news.length / szt P e) (news.length / szt P e), H ++ [some ⟨news, e, some (szt P e)⟩], ?_, .inr ⟨H.length, news.length / szt P e, rfl, ?_, ?_, rfl⟩, by simp, fun i hi _ => hget_left hi⟩
    · simp only [List.length_nil, Nat.zero_add] at hb hm
      unfold xappend
      cases x <;> first | (exact absurd rfl (hstr _)) | (simp only [hu, hx]; rw [if_pos ⟨h0, hz, hb, hm⟩, if_neg hn])
    · rw [hget_app0, hget_cons0]; rfl
    · rw [hdm]; rfl
  · have hj := hget_lt h3
    refine ⟨.slice (some ⟨H.length, 0, none⟩) (len + news.length / szt P e) (len + news.length / szt P e), H.set j none ++ [some ⟨cells ++ news, e, some (szt P e)⟩], ?_, .inr ⟨H.length, len + news.length / szt P e, rfl, ?_, ?_, rfl⟩, by simp, fun i hi hni => ?_⟩
    · have hc : True ∧ 0 < szt P e ∧ (zer P e).map (·.cells.size) = some (szt P e) ∧ nro ≤ j ∧ True ∧ True ∧ len * szt P e ≤ cells.length ∧ (len * szt P e + news.length) * byt P e ≤ 140737488355328 ∧ len * szt P e + news.length ≤ maxLen :=
        ⟨trivial, h0, hz, hnro j (by simp), trivial, trivial, by omega, by rw [← h4]; exact hb, by rw [← h4]; exact hm⟩
      unfold xappend
      cases x <;> first | (exact absurd rfl (hstr _)) | (simp only [hu, hx, h3]; rw [if_pos hc, ← h4, List.take_length])
    · have : (H.set j none).length = H.length := by simp
      rw [← this, hget_app0, hget_cons0]
    · rw [List.length_append, Nat.add_mul, ← h4, hdm]
    · rw [hget_left (by simp; omega), hget_set_ne (fun e => hni (by simp [e]))]

theorem OwnF.new {H : AH} {v : Value} {e : TypeId} {sz j : Nat} {cells : List Value} (h : OwnF H v e sz cells [j]) : ∃ len, v = .slice (some ⟨j, 0, none⟩) len len := by
  rcases h with ⟨_, _, h⟩ | ⟨i, len, rfl, _, _, h⟩
  · cases h
  · cases h; exact ⟨len, rfl⟩
/-- Where a disk lies. -/
structure DkR (H : AH) (p s l : Nat) (U : Value) (FU : List Nat) (D : DM) : Prop where
  hp : hget H p = some ⟨[.slice (some ⟨s, 0, none⟩) D.firm.length D.firm.length, .slice (some ⟨l, 0, none⟩) D.firm.length D.firm.length, U, .int .i64 D.fuse, .bool D.dead], 59, none⟩
  hs : hget H s = some ⟨fc D.firm, 61, some 256⟩
  hl : hget H l = some ⟨fc D.late, 61, some 256⟩
  hu : OwnF H U 63 257 (uc D.uns) FU
  ps : p ≠ s
  pl : p ≠ l
  sl : s ≠ l
  fu : p ∉ FU ∧ s ∉ FU ∧ l ∉ FU
def Dk (H : AH) (p : Nat) (F : List Nat) (D : DM) : Prop := D.Ok ∧ ∃ s l U FU, F = p :: s :: l :: FU ∧ DkR H p s l U FU D
theorem Dk.low {H H' : AH} {p : Nat} {F : List Nat} {D : DM} (h : Dk H p F D) (hl : ∀ j ∈ F, hget H' j = hget H j) : Dk H' p F D := by
  obtain ⟨h0, s, l, U, FU, rfl, h⟩ := h
  exact ⟨h0, s, l, U, FU, rfl, ⟨by rw [hl p (by simp)]; exact h.hp, by rw [hl s (by simp)]; exact h.hs, by rw [hl l (by simp)]; exact h.hl, h.hu.low (fun j hj => hl j (by simp [hj])), h.ps, h.pl, h.sl, h.fu⟩⟩
theorem Dk.lt {H : AH} {p : Nat} {F : List Nat} {D : DM} (h : Dk H p F D) : ∀ j ∈ F, j < H.length := by
  obtain ⟨h0, s, l, U, FU, rfl, h⟩ := h
  intro j hj
  simp only [List.mem_cons] at hj
  rcases hj with rfl | rfl | rfl | hj
  · exact hget_lt h.hp
  · exact hget_lt h.hs
  · exact hget_lt h.hl
  · rcases h.hu with ⟨_, _, rfl⟩ | ⟨i, len, _, h2, _, rfl⟩
    · cases hj
    · rw [List.mem_singleton] at hj; subst hj; exact hget_lt h2
end Go.Proofs.Ytadbgdhbamdiaaa
