/-
  A slice of the call's own that grows; small facts on the known blocks. Over any program.
-/
import Derived.Test.YtjfhdckcjkgjnaaDoorXg
namespace Go.Proofs.YtjfhdckcjkgjnaaDoor
open Go Go.RowKit
set_option linter.unusedVariables false
set_option linter.unusedSimpArgs false

theorem scopeQ_ret (Q : Exit → Fm → AH → Prop) : scopeQ Q .ret = Q .ret := rfl
theorem thenQ_ret (N : Fm → AH → Prop) (Q : Exit → Fm → AH → Prop) : thenQ N Q .ret = Q .ret := rfl
theorem inBlockQ_ret (id : Nat) (Q : Exit → Fm → AH → Prop) : inBlockQ id Q .ret = Q .ret := rfl
theorem pv_iv (k : IntKind) (l : List Int) : plainV (.agg (iv k l).toArray) = true := iv_plain k l
theorem pv_int (k : IntKind) (x : Int) : plainV (.int k x) = true := rfl
theorem pv_bool (b : Bool) : plainV (.bool b) = true := rfl
theorem pv_string (b : ByteArray) : plainV (.string b) = true := rfl
theorem pv_tup2 (a b : Value) : plainV (.tuple #[a, b]) = (plain2 a && plain2 b) := by simp [plainV]
theorem pv_tup3 (a b c : Value) : plainV (.tuple #[a, b, c]) = (plain2 a && (plain2 b && plain2 c)) := by simp [plainV]
theorem p2_int (k : IntKind) (x : Int) : plain2 (.int k x) = true := rfl
theorem p2_bool (b : Bool) : plain2 (.bool b) = true := rfl
theorem p2_string (b : ByteArray) : plain2 (.string b) = true := rfl
theorem plain1_int (k : IntKind) (x : Int) : plain1 (.int k x) = true := rfl
theorem plain1_bool (b : Bool) : plain1 (.bool b) = true := rfl
theorem plain1_string (b : ByteArray) : plain1 (.string b) = true := rfl
theorem bits_i64 : IntKind.bits .i64 = 64 := rfl
theorem bits_u64 : IntKind.bits .u64 = 64 := rfl
theorem bits_u32 : IntKind.bits .u32 = 32 := rfl
theorem bits_u16 : IntKind.bits .u16 = 16 := rfl
theorem bits_u8 : IntKind.bits .u8 = 8 := rfl
theorem wrap64_in {x : Int} (h : -9223372036854775808 ≤ x ∧ x ≤ 9223372036854775807) : IntKind.i64.wrap x = x := Go.IntWalk.i64_in _ h
theorem wrap8_in {x : Int} (h : 0 ≤ x ∧ x ≤ 255) : IntKind.u8.wrap x = x := by
  simp only [IntKind.wrap_u8']; omega
theorem hget_lt {H : AH} {i : Nat} {k : Blk} (h : hget H i = some k) : i < H.length := (List.getElem?_eq_some_iff.1 (hget_some h)).1
theorem hget_left {H L : AH} {i : Nat} (h : i < H.length) : hget (H ++ L) i = hget H i := by
  unfold hget; rw [List.getElem?_append_left h]
theorem hget_left' {H L : AH} {i : Nat} {k : Blk} (h : hget H i = some k) : hget (H ++ L) i = some k := by rw [hget_left (hget_lt h)]; exact h
theorem hget_set_ne {H : AH} {i j : Nat} {x : Option Blk} (h : i ≠ j) : hget (H.set i x) j = hget H j := by
  unfold hget; rw [List.getElem?_set_ne h]
theorem hget_set_eq {H : AH} {i : Nat} {x : Option Blk} (h : i < H.length) : hget (H.set i x) i = x := by
  unfold hget; rw [List.getElem?_set_self h]; rfl

/-- A slice value that holds these cells: nil, or the whole of a block from number lo on. -/
def OwnC (lo : Nat) (H : AH) (v : Value) (e : TypeId) (sz : Nat) (cells : List Value) : Prop :=
  (v = .slice none 0 0 ∧ cells = []) ∨ ∃ j len, lo ≤ j ∧ v = .slice (some ⟨j, 0, none⟩) len len ∧ hget H j = some ⟨cells, e, some sz⟩ ∧ cells.length = len * sz
/-- What is known of the blocks below lo is as it was. -/
def Low (lo : Nat) (H H' : AH) : Prop := (∀ i, i < lo → hget H' i = hget H i) ∧ lo ≤ H'.length
theorem Low.trans {lo : Nat} {H H' H'' : AH} (h : Low lo H H') (k : Low lo H' H'') : Low lo H H'' := ⟨fun i hi => (k.1 i hi).trans (h.1 i hi), k.2⟩
theorem Low.refl {lo : Nat} {H : AH} (h : lo ≤ H.length) : Low lo H H := ⟨fun _ _ => rfl, h⟩
theorem Low.push {lo : Nat} {H : AH} (h : lo ≤ H.length) (L : AH) : Low lo H (H ++ L) := ⟨fun i hi => hget_left (by omega), by simp; omega⟩
theorem OwnC.push {lo : Nat} {H : AH} {v : Value} {e : TypeId} {sz : Nat} {cells : List Value} (h : OwnC lo H v e sz cells) (L : AH) : OwnC lo (H ++ L) v e sz cells := by
  rcases h with h | ⟨j, len, h1, h2, h3, h4⟩
  · exact .inl h
  · exact .inr ⟨j, len, h1, h2, hget_left' h3, h4⟩
theorem own_append {P : Program} {nro lo : Nat} {t e : TypeId} {H : AH} {v x : Value} {sz : Nat} {cells news : List Value} (hu : und P t = .slice e) (hs : szt P e = sz) (h0 : 0 < sz) (hz : (zer P e).map (·.cells.size) = some sz)
    (hv : OwnC lo H v e sz cells) (hlo : lo ≤ H.length) (hnro : nro ≤ lo) (hstr : ∀ s, x ≠ .string s) (hx : xcells sz x H = some news) (hn : news ≠ []) (hd : news.length % sz = 0) (hb : (cells.length + news.length) * byt P e ≤ 140737488355328) (hm : cells.length + news.length ≤ maxLen) :
    ∃ v' H', xappend P nro t v x H = some (v', H') ∧ OwnC lo H' v' e sz (cells ++ news) ∧ Low lo H H' := by
  subst hs
  have hdm : news.length / szt P e * szt P e = news.length := Nat.div_mul_cancel (Nat.dvd_of_mod_eq_zero hd)
  rcases hv with ⟨rfl, rfl⟩ | ⟨j, len, h1, rfl, h3, h4⟩
  · refine ⟨.slice (some ⟨H.length, 0, none⟩) (news.length / szt P e) (news.length / szt P e), H ++ [some ⟨news, e, some (szt P e)⟩], ?_, .inr ⟨H.length, news.length / szt P e, hlo, rfl, ?_, ?_⟩, Low.push hlo _⟩
    · simp only [List.length_nil, Nat.zero_add] at hb hm
      unfold xappend
      cases x <;> first | (exact absurd rfl (hstr _)) | (simp only [hu, hx]; rw [if_pos ⟨h0, hz, hb, hm⟩, if_neg hn])
    · rw [hget_app0, hget_cons0]; rfl
    · rw [hdm]; rfl
  · have hj := hget_lt h3
    refine ⟨.slice (some ⟨H.length, 0, none⟩) (len + news.length / szt P e) (len + news.length / szt P e), H.set j none ++ [some ⟨cells ++ news, e, some (szt P e)⟩], ?_, .inr ⟨H.length, len + news.length / szt P e, hlo, rfl, ?_, ?_⟩, ⟨fun i hi => ?_, by simp; omega⟩⟩
    · have hc : True ∧ 0 < szt P e ∧ (zer P e).map (·.cells.size) = some (szt P e) ∧ nro ≤ j ∧ True ∧ True ∧ len * szt P e ≤ cells.length ∧ (len * szt P e + news.length) * byt P e ≤ 140737488355328 ∧ len * szt P e + news.length ≤ maxLen :=
        ⟨trivial, h0, hz, by omega, trivial, trivial, by omega, by rw [← h4]; exact hb, by rw [← h4]; exact hm⟩
      unfold xappend
      cases x <;> first | (exact absurd rfl (hstr _)) | (simp only [hu, hx, h3]; rw [if_pos hc, ← h4, List.take_length])
    · have : (H.set j none).length = H.length := by simp
      rw [← this, hget_app0, hget_cons0]
    · rw [List.length_append, Nat.add_mul, ← h4, hdm]
    · rw [hget_left (by simp; omega), hget_set_ne (by omega)]
/-- What such a slice holds, made a string. -/
theorem own_conv {P : Program} {lo : Nat} {s d e : TypeId} {H : AH} {v : Value} {l : List Int} (hu : und P s = .slice e) (he : und P e = .int .u8) (hd : und P d = .string) (hv : OwnC lo H v e 1 (iv .u8 l)) : xconv P s d v H = some (.string (strOfNums l)) := by
  rcases hv with ⟨rfl, hc⟩ | ⟨j, len, h1, rfl, h3, h4⟩
  · have : l = [] := by simpa [iv] using hc
    subst this
    simp [xconv, hd, hu, he, strOfNums_nil]
  · have hl : l.length = len := by simpa using h4
    have ht : (iv IntKind.u8 l).take len = iv .u8 l := List.take_of_length_le (by simp; omega)
    simp [xconv, hd, hu, he, h3, ht, byteList_iv, hl]
theorem OwnC.low {lo : Nat} {H : AH} {v : Value} {e : TypeId} {sz : Nat} {cells : List Value} (h : OwnC lo H v e sz cells) : (v = .slice none 0 0 ∧ cells = []) ∨ ∃ j len, v = .slice (some ⟨j, 0, none⟩) len len ∧ cells.length = len * sz := by
  rcases h with h | ⟨j, len, h1, h2, h3, h4⟩
  · exact .inl h
  · exact .inr ⟨j, len, h2, h4⟩
end Go.Proofs.YtjfhdckcjkgjnaaDoor
