/-
  Frames of blocks; rows that lie one behind the other; bytes of texts, cut and joined. Over any program.
-/
import Derived.Test.YtjfhdckcjkgjnaaDoorXz
namespace Go.Proofs.YtjfhdckcjkgjnaaDoor
open Go Go.RowKit
set_option linter.unusedVariables false
set_option linter.unusedSimpArgs false

/-- Blocks outside of F are as they were; those of F' were in F or are new. -/
structure Fr (H H' : AH) (F F' : List Nat) : Prop where
  len : H.length ≤ H'.length
  out : ∀ j, j < H.length → j ∉ F → hget H' j = hget H j
  new : ∀ j ∈ F', j ∈ F ∨ H.length ≤ j
theorem Fr.refl (H : AH) (F : List Nat) : Fr H H F F := ⟨Nat.le_refl _, fun _ _ _ => rfl, fun _ h => .inl h⟩
theorem Fr.trans {H H' H'' : AH} {F F' F'' : List Nat} (h : Fr H H' F F') (k : Fr H' H'' F' F'') : Fr H H'' F F'' := by
  refine ⟨Nat.le_trans h.len k.len, fun j hj hn => ?_, fun j hj => ?_⟩
  · rw [k.out j (Nat.lt_of_lt_of_le hj h.len) (fun hm => ?_), h.out j hj hn]
    rcases h.new j hm with h1 | h1
    · exact hn h1
    · omega
  · rcases k.new j hj with h1 | h1
    · exact h.new j h1
    · exact .inr (Nat.le_trans h.len h1)

section
variable {β : Type}
theorem setR_left (a b r : List Value) (off : Nat) (h : off + r.length ≤ a.length) : setR (a ++ b) off r = setR a off r ++ b := by
  apply List.ext_getElem?
  intro j
  rw [setR_get _ _ _ _ (by simp; omega)]
  rcases Nat.lt_or_ge j a.length with hj | hj
  · rw [List.getElem?_append_left (l₁ := setR a off r) (by simpa using hj), setR_get _ _ _ _ h, List.getElem?_append_left hj]
  · rw [if_neg (by omega), List.getElem?_append_right (l₁ := setR a off r) (by simpa using hj), List.getElem?_append_right hj, setR_length]
theorem setR_right (a b r : List Value) (off : Nat) (h : off + r.length ≤ b.length) : setR (a ++ b) (a.length + off) r = a ++ setR b off r := by
  apply List.ext_getElem?
  intro j
  rw [setR_get _ _ _ _ (by simp; omega)]
  rcases Nat.lt_or_ge j a.length with hj | hj
  · rw [if_neg (by omega), List.getElem?_append_left hj, List.getElem?_append_left hj]
  · rw [List.getElem?_append_right hj, List.getElem?_append_right hj, setR_get _ _ _ _ h]
    by_cases hc : off ≤ j - a.length ∧ j - a.length < off + r.length
    · rw [if_pos hc, if_pos (by omega), show j - (a.length + off) = j - a.length - off by omega]
    · rw [if_neg hc, if_neg (by omega)]
theorem setR_frontF (q r : List Value) (h : r.length ≤ q.length) : setR q 0 r = r ++ q.drop r.length := by
  apply List.ext_getElem?
  intro j
  rw [setR_get _ _ _ _ (by omega)]
  rcases Nat.lt_or_ge j r.length with hj | hj
  · rw [if_pos (by omega), List.getElem?_append_left hj, Nat.sub_zero]
  · rw [if_neg (by omega), List.getElem?_append_right hj, List.getElem?_drop, show r.length + (j - r.length) = j by omega]
/-- New blocks behind a heap of which one was set. -/
theorem hga {G L : AH} {i k : Nat} {v : Option Blk} : hget (G.set i v ++ L) (G.length + k) = hget L k := by
  have := hget_app (G.set i v) L k
  rwa [List.length_set] at this
theorem hga0 {G L : AH} {i : Nat} {v : Option Blk} : hget (G.set i v ++ L) G.length = hget L 0 := hga (k := 0)
theorem sga {G L : AH} {i k : Nat} {v x : Option Blk} : (G.set i v ++ L).set (G.length + k) x = G.set i v ++ L.set k x := by
  have := set_app (G.set i v) L k x
  rwa [List.length_set] at this
theorem sga0 {G L : AH} {i : Nat} {v x : Option Blk} : (G.set i v ++ L).set G.length x = G.set i v ++ L.set 0 x := sga (k := 0)
/-- Rows of one length. -/
theorem fl_len {L : List (List β)} {n : Nat} (h : ∀ r ∈ L, r.length = n) : L.flatten.length = L.length * n := by
  induction L with
  | nil => simp
  | cons x L ih =>
    rw [List.flatten_cons, List.length_append, ih (fun r hr => h r (List.mem_cons_of_mem _ hr)), h x List.mem_cons_self, List.length_cons, Nat.add_mul]
    omega
theorem fl_drop {L : List (List β)} {n : Nat} (h : ∀ r ∈ L, r.length = n) : ∀ k, k ≤ L.length → L.flatten.drop (k * n) = (L.drop k).flatten := by
  induction L with
  | nil => intro k hk; simp
  | cons x L ih =>
    intro k hk
    cases k with
    | zero => simp
    | succ k =>
      have hx := h x List.mem_cons_self
      rw [List.flatten_cons, List.drop_succ_cons, ← ih (fun r hr => h r (List.mem_cons_of_mem _ hr)) k (by simpa using hk), Nat.add_mul, Nat.one_mul]
      rw [show k * n + n = x.length + k * n by omega, List.drop_append, List.drop_of_length_le (by omega), List.nil_append, show x.length + k * n - x.length = k * n by omega]
theorem fl_get {L : List (List β)} {n k : Nat} {r : List β} (h : ∀ r ∈ L, r.length = n) (hk : L[k]? = some r) : (L.flatten.drop (k * n)).take n = r := by
  obtain ⟨hl, he⟩ := List.getElem?_eq_some_iff.1 hk
  rw [fl_drop h k (by omega), List.drop_eq_getElem_cons hl, List.flatten_cons, he]
  have := h r (List.mem_of_getElem? hk)
  rw [List.take_append_of_le_length (by omega), List.take_of_length_le (by omega)]
theorem fl_setR {L : List (List Value)} {n k : Nat} {r q : List Value} (h : ∀ r ∈ L, r.length = n) (hk : L[k]? = some q) (hr : r.length ≤ n) : setR L.flatten (k * n) r = (L.set k (r ++ q.drop r.length)).flatten := by
  induction L generalizing k with
  | nil => simp at hk
  | cons x L ih =>
    have hx := h x List.mem_cons_self
    cases k with
    | zero =>
      simp at hk
      subst hk
      rw [List.set_cons_zero, List.flatten_cons, List.flatten_cons, Nat.zero_mul, setR_left _ _ _ _ (by omega), setR_frontF _ _ (by omega)]
    | succ k =>
      rw [List.set_cons_succ, List.flatten_cons, List.flatten_cons, ← ih (fun r hr => h r (List.mem_cons_of_mem _ hr)) (by simpa using hk), show (k + 1) * n = x.length + k * n by rw [hx, Nat.add_mul]; omega]
      refine setR_right _ _ _ _ ?_
      rw [fl_len (fun r hr => h r (List.mem_cons_of_mem _ hr))]
      have hkl : k < L.length := by
        have := (List.getElem?_eq_some_iff.1 hk).1
        simpa using this
      have : (k + 1) * n ≤ L.length * n := Nat.mul_le_mul_right _ hkl
      rw [Nat.add_mul] at this
      omega
theorem fl_app (L : List (List β)) (r : List β) : L.flatten ++ r = (L ++ [r]).flatten := by simp
theorem set_map {α β : Type} (f : α → β) (l : List α) (k : Nat) (x : α) : (l.map f).set k (f x) = (l.set k x).map f := by simp [List.map_set]
end

theorem nums_appF (a b : ByteArray) : nums (a ++ b) = nums a ++ nums b := by simp [nums]
theorem nums_extractF (s : ByteArray) (a b : Nat) : nums (s.extract a b) = ((nums s).drop a).take (b - a) := by
  unfold nums
  rw [ByteArray.data_extract, Array.toList_extract, List.extract_eq_take_drop, List.map_take, List.map_drop]
theorem nums_injF {a b : ByteArray} (h : nums a = nums b) : a = b := by rw [← of_nums' a, ← of_nums' b, h]
/-- A text's cells. -/
def sv (s : ByteArray) : List Value := iv .u8 (nums s)
@[simp] theorem sv_length (s : ByteArray) : (sv s).length = s.size := by simp [sv, nums_len]
theorem sv_take (s : ByteArray) (k : Nat) : (sv s).take k = sv (s.extract 0 k) := by rw [sv, sv, iv_take, nums_extractF]; simp
theorem sv_drop (s : ByteArray) (k : Nat) : (sv s).drop k = sv (s.extract k s.size) := by
  rw [sv, sv, iv_drop, nums_extractF, List.take_of_length_le (by simp [nums_len])]
theorem sv_app (a b : ByteArray) : sv a ++ sv b = sv (a ++ b) := by rw [sv, sv, sv, nums_appF, iv_append]
theorem sv_bytes (s : ByteArray) : byteList (sv s) = some (nums s) := byteList_iv _
theorem sv_plain (s : ByteArray) : (sv s).all plain1 = true := by simp [sv, iv, plain1]
theorem sv_inj {a b : ByteArray} (h : sv a = sv b) : a = b := by
  refine nums_injF ?_
  have := congrArg (List.map num) h
  rwa [sv, sv, num_iv, num_iv] at this
/-- Noughts. -/
def zs (n : Nat) : ByteArray := ⟨(List.replicate n (0 : UInt8)).toArray⟩
@[simp] theorem zs_size (n : Nat) : (zs n).size = n := by simp [zs, ByteArray.size]
theorem nums_zs (n : Nat) : nums (zs n) = zl n := by simp [nums, zs, zl]
theorem sv_zs (n : Nat) : sv (zs n) = iv .u8 (zl n) := by rw [sv, nums_zs]
/-- New rows of noughts. -/
theorem zero_rows (n c : Nat) (z : Value) (l : List Value) (hl : l.length = n) : ((List.range (c * n)).map fun j => l.getD (j % n) undef) = (List.replicate c l).flatten := by
  induction c with
  | zero => simp
  | succ c ih =>
    rw [List.replicate_succ', List.flatten_append, ← ih, Nat.add_mul, Nat.one_mul, List.range_add, List.map_append]
    congr 1
    rw [List.map_map]
    simp only [List.flatten_cons, List.flatten_nil, List.append_nil]
    apply List.ext_getElem?
    intro j
    rcases Nat.lt_or_ge j n with hj | hj
    · rw [List.getElem?_map, List.getElem?_range hj]
      simp only [Option.map_some, Function.comp]
      rw [Nat.mul_comm, Nat.mul_add_mod, Nat.mod_eq_of_lt hj, List.getD_eq_getElem?_getD, List.getElem?_eq_getElem (by omega)]
      rfl
    · rw [List.getElem?_eq_none (by simp; omega), List.getElem?_eq_none (by omega)]
end Go.Proofs.YtjfhdckcjkgjnaaDoor
