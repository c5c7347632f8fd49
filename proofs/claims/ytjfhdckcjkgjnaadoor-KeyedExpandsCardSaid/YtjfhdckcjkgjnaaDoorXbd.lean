/-
  strings.Builder over memory told by lists: copyCheck and String. Over any program that bears the library's code.
-/
import Derived.Shelf.Strings.Builder1
import Derived.Test.YtjfhdckcjkgjnaaDoorXg
import Derived.Test.YtjfhdckcjkgjnaaDoorXo
namespace Go.Proofs.YtjfhdckcjkgjnaaDoor
open Go Go.Proofs Go.Shelf Go.RowKit
set_option linter.unusedVariables false
set_option linter.unusedSimpArgs false
section
variable {P : Program} {ρ : Ren} {nro base : Nat} {γ : Nat → Option Nat} {m : List Ent} {H : AH} {w : World}

theorem lies_one {e : TypeId} {s : Nat} (hc : P.cellsOf e = s) (h0 : s ≠ 0) (count : Nat) (hn : 1 ≤ count) : liesAt P P.depth e count 0 e 1 = true := by
  have hd : P.depth = (2 * (P.types.size + Made.depth) + 1) + 1 := rfl
  rw [hd]
  simp only [liesAt, Bool.or_eq_true]
  left
  rw [hd]
  simp [rowAt, hc, h0, hn, sameLayout]
set_option maxHeartbeats 1000000 in
set_option maxRecDepth 100000 in
theorem check_fresh (L : Lays.n240 P ρ) (X : Builder.X72 P ρ) (b n : Nat) (w : World) (h0 : w.cell? ⟨b, 0, none⟩ = some (.pointer none)) (hsh : w.shape? b = some ((ρ.t 72), n)) (hn : 2 ≤ n) (hfz : w.frozen? ⟨b, 0, none⟩ = false) :
    Calls P (ρ.f 240) #[.pointer (some ⟨b, 0, none⟩)] w fun e w' => e = .returned (.tuple #[]) ∧ w' = w.setCell ⟨b, 0, none⟩ (.pointer (some ⟨b, 0, none⟩)) := by
  obtain ⟨j, hj, hjs⟩ := Option.map_eq_some_iff.1 X.sizeBuilder
  have hc2 : P.cellsOf (ρ.t 72) = 2 := by simp [Program.cellsOf, hj, hjs]
  have hlies := lies_one (P := P) hc2 (by omega) (n / P.cellsOf (ρ.t 72)) (by rw [hc2]; omega)
  have mixed := L.mixed
  have t72 := L.t72; have a72 := L.a72; have z72 := L.z72; have v72 := L.v72; have u72 := run_underlying L.t72
  have t70 := L.t70; have a70 := L.a70; have z70 := L.z70; have v70 := L.v70; have u70 := run_underlying L.t70
  have t9 := L.t9; have a9 := L.a9; have z9 := L.z9; have v9 := L.v9; have u9 := run_underlying L.t9
  have t4 := L.t4; have a4 := L.a4; have z4 := L.z4; have v4 := L.v4; have u4 := run_underlying L.t4
  have t164 := L.t164; have a164 := L.a164; have z164 := L.z164; have v164 := L.v164; have u164 := run_underlying L.t164
  go_enter L.f240, Body.n240_ntmps ρ
  go_wp2
  rw [Lib.run_to_unsafe w ⟨b, 0, none⟩ L.t70 L.t164 hj (by rw [hjs]; decide) hsh (show 0 < n by omega)]
  simp only [Result.andThen]
  rw [Oper.upon_value]
  go_wp2
  rw [run_callFunc_extern L.f276 (by kernel_rfl) (by kernel_rfl) (by kernel_rfl) (e := Extern.AbiNoEscape.same) (by kernel_rfl)]
  rw [Lib.run_noEscape]
  simp only [Result.andThen]
  rw [Oper.upon_value]
  go_wp2
  rw [Lib.run_from_unsafe w ⟨b, 0, none⟩ L.t164 L.t70 hj hsh hlies]
  simp only [Result.andThen]
  rw [Oper.upon_value]
  go_wp2
  go_end0
  exact ⟨rfl, rfl⟩

set_option maxHeartbeats 1000000 in
set_option maxRecDepth 100000 in
theorem string_row (L : Lays.n169 P ρ) (X : Builder.Extra P ρ) (b g cap n : Nat) (l : List UInt8) (w : World) (h0 : l ≠ []) (hb : w.cell? ⟨b, 1, none⟩ = some (.slice (some ⟨g, 0, none⟩) l.length cap)) (hlc : l.length ≤ cap) (hsh : w.shape? g = some (ρ.t 5, n)) (hn : l.length ≤ n)
    (h63 : l.length ≤ 9223372036854775807) (hcell : ∀ j x, l[j]? = some x → w.cell? ((⟨g, 0, none⟩ : Addr).add j) = some (.int .u8 x.toNat)) :
    Calls P (ρ.f 169) #[.pointer (some ⟨b, 0, none⟩)] w fun e w' => e = .returned (.string ⟨l.toArray⟩) ∧ w' = w.drew.freeze ⟨g, 0, none⟩ l.length := by
  have hl0 : l.length ≠ 0 := by simpa using h0
  have c1 : w.drew.cell? ⟨b, 1, none⟩ = some (.slice (some ⟨g, 0, none⟩) l.length cap) := hb
  have hSD : (Builtin.unsafeSliceData_ #[(ρ.t 37)] (ρ.t 127) #[.slice (some ⟨g, 0, none⟩) l.length cap]).run P w.drew = .ok (.pointer (some ⟨g, 0, none⟩)) w.drew :=
    Lib.run_unsafeSliceData_row _ _ _ _ _ _ (by omega)
  have hUS : (Builtin.unsafeString_ #[(ρ.t 127), (ρ.t 3)] (ρ.t 9) #[.pointer (some ⟨g, 0, none⟩), .int .i64 l.length]).run P w.drew = .ok (.string ⟨l.toArray⟩) (w.drew.freeze ⟨g, 0, none⟩ l.length) :=
    Lib.run_unsafeString_row w.drew (ρ.t 127) (ρ.t 3) (ρ.t 9) (ρ.t 5) L.t127 X.cellsByte g n hsh l h0 hn h63 hcell
  have mixed := L.mixed
  have t72 := L.t72; have a72 := L.a72; have z72 := L.z72; have v72 := L.v72; have u72 := run_underlying L.t72
  have t70 := L.t70; have a70 := L.a70; have z70 := L.z70; have v70 := L.v70; have u70 := run_underlying L.t70
  have t37 := L.t37; have a37 := L.a37; have z37 := L.z37; have v37 := L.v37; have u37 := run_underlying L.t37
  have t127 := L.t127; have a127 := L.a127; have z127 := L.z127; have v127 := L.v127; have u127 := run_underlying L.t127
  have t3 := L.t3; have a3 := L.a3; have z3 := L.z3; have v3 := L.v3; have u3 := run_underlying L.t3
  have t9 := L.t9; have a9 := L.a9; have z9 := L.z9; have v9 := L.v9; have u9 := run_underlying L.t9
  have t5 := X.t5; have a5 := X.a5; have z5 := X.z5; have v5 := X.v5; have u5 := run_underlying X.t5
  go_enter L.f169, Body.n169_ntmps ρ
  go_wp2
  go_region_o
  all_goals (go_wp2; go_ret; exact ⟨rfl, rfl⟩)
set_option maxHeartbeats 2000000 in
set_option maxRecDepth 100000 in
theorem string_nil (L : Lays.n169 P ρ) (X : Builder.Extra P ρ) (b : Nat) (w : World) (hb : w.cell? ⟨b, 1, none⟩ = some (.slice none 0 0)) :
    Calls P (ρ.f 169) #[.pointer (some ⟨b, 0, none⟩)] w fun e w' => e = .returned (.string ⟨#[]⟩) ∧ w' = w.drew := by
  have hUS := Any.unsafeString_none L X
  have c1 : w.drew.cell? ⟨b, 1, none⟩ = some (.slice none 0 0) := hb
  have hSD : (Builtin.unsafeSliceData_ #[(ρ.t 37)] (ρ.t 127) #[.slice none 0 0]).run P w.drew = .ok (.pointer none) w.drew := rfl
  have mixed := L.mixed
  have t72 := L.t72; have a72 := L.a72; have z72 := L.z72; have v72 := L.v72; have u72 := run_underlying L.t72
  have t70 := L.t70; have a70 := L.a70; have z70 := L.z70; have v70 := L.v70; have u70 := run_underlying L.t70
  have t37 := L.t37; have a37 := L.a37; have z37 := L.z37; have v37 := L.v37; have u37 := run_underlying L.t37
  have t127 := L.t127; have a127 := L.a127; have z127 := L.z127; have v127 := L.v127; have u127 := run_underlying L.t127
  have t3 := L.t3; have a3 := L.a3; have z3 := L.z3; have v3 := L.v3; have u3 := run_underlying L.t3
  have t9 := L.t9; have a9 := L.a9; have z9 := L.z9; have v9 := L.v9; have u9 := run_underlying L.t9
  have t5 := X.t5; have a5 := X.a5; have z5 := X.z5; have v5 := X.v5; have u5 := run_underlying X.t5
  go_enter L.f169, Body.n169_ntmps ρ
  go_wp2
  go_region_o
  all_goals (go_wp2; go_ret; exact ⟨rfl, rfl⟩)
theorem one_arg {args' : Array Value} {y : Value} (h : args'.size = 1) (hy : args'[0]? = some y) : args' = #[y] := by
  apply Array.ext_getElem?
  intro k
  match k with
  | 0 => rw [hy]; rfl
  | k + 1 => rw [Array.getElem?_eq_none (by omega), Array.getElem?_eq_none (by simp)]
/-- A block forgotten, which may have turned. -/
theorem Rel.killed (hR : Rel nro base γ m H w) {j : Nat} {k : Blk} {e : Ent} (hj : nro ≤ j) (hk : hget H j = some k) (he : m[j]? = some e) {w' : World} (hsz : w'.heap.size = w.heap.size) (hold : ∀ b, b ≠ e.b → w'.heap[b]? = w.heap[b]?) :
    Rel nro base γ m (H.set j none) w' := by
  have hs : ∀ (i : Nat) (k : Blk), (H.set j none)[i]? = some (some k) → H[i]? = some (some k) ∧ i ≠ j := by
    intro i k h
    by_cases e : j = i
    · subst e
      rcases Nat.lt_or_ge j H.length with hl | hl
      · rw [List.getElem?_set_self hl] at h; cases h
      · rw [List.getElem?_eq_none (by simpa using hl)] at h; cases h
    · rw [List.getElem?_set_ne e] at h; exact ⟨h, Ne.symm e⟩
  refine ⟨by simp [hR.len], by simpa using hR.le, by rw [hsz]; exact hR.base_le, fun i e' he' => by rw [hsz]; exact hR.inb i e' he', hR.ro, hR.own, fun i q e' hq he' => ?_,
    fun i' j ki kj ei ej hi hj hne hki hkj hei hej => hR.apart i' j ki kj ei ej hi hj hne (hs _ _ hki).1 (hs _ _ hkj).1 hei hej, hR.glob⟩
  obtain ⟨hq, hne⟩ := hs i q hq
  obtain ⟨cs, fr, h1, h2⟩ := hR.cells i q e' hq he'
  have hb : e'.b ≠ e.b := by
    rcases Nat.lt_or_ge i nro with hi | hi
    · have := hR.ro i e' hi he'; have := (hR.own j e hj he).1; omega
    · exact hR.apart i j q k e' e hi hj hne hq (hget_some hk) he' he
  exact ⟨cs, fr, (hold _ hb).trans h1, h2⟩
theorem check_used_ac (L : Lays.n240 P ρ) (X : Builder.X72 P ρ) {i : Nat} {v : Value} {T : TypeId} {es : Option Nat} (hi : nro ≤ i) (hb : hget H i = some ⟨[.pointer (some ⟨i, 0, none⟩), v], T, es⟩) :
    AC P nro γ (ρ.f 240) #[.pointer (some ⟨i, 0, none⟩)] H (fun v' H' => v' = .tuple #[] ∧ H' = H) := by
  intro m base w args' hR hsz hva
  obtain ⟨y0, hy0, hv0⟩ := hva 0 _ rfl
  obtain rfl := one_arg hsz hy0
  obtain ⟨e, he, rfl⟩ := hv0.ptr_
  have ho := hR.own i e hi he
  obtain ⟨y, hy, hvy⟩ := hR.cell hb he (off := 0) (x := .pointer (some ⟨i, 0, none⟩)) rfl
  obtain ⟨e2, he2, rfl⟩ := (V.one hvy).ptr_
  rw [he] at he2
  cases he2
  rw [ho.2] at hy ⊢
  refine .inl ⟨by simp only [bodied, L.f240]; rfl, (Any.Builder_copyCheck_used L X e.b w hy).mono ?_⟩
  rintro e' w' ⟨rfl, rfl⟩
  exact ⟨m, .tuple #[], .tuple #[], H, rfl, List.prefix_rfl, plainV_mk (by simp [plainV]), hR, .refl _ _, rfl, rfl⟩
theorem check_fresh_ac (L : Lays.n240 P ρ) (X : Builder.X72 P ρ) {i : Nat} {v : Value} {es : Option Nat} (hi : nro ≤ i) (hb : hget H i = some ⟨[.pointer none, v], ρ.t 72, es⟩) :
    AC P nro γ (ρ.f 240) #[.pointer (some ⟨i, 0, none⟩)] H (fun v' H' => v' = .tuple #[] ∧ H' = H.set i (some ⟨[.pointer (some ⟨i, 0, none⟩), v], ρ.t 72, es⟩)) := by
  intro m base w args' hR hsz hva
  obtain ⟨y0, hy0, hv0⟩ := hva 0 _ rfl
  obtain rfl := one_arg hsz hy0
  have hv0' := hv0
  obtain ⟨e, he, rfl⟩ := hv0.ptr_
  have ho := hR.own i e hi he
  obtain ⟨cs, fr, h1, h2, h3, h4, h5⟩ := hR.cells i _ e (hget_some hb) he
  obtain ⟨z, hz, hvz⟩ := h5 0 (.pointer none) rfl
  have := (V.one hvz).eq rfl
  subst this
  obtain ⟨z1, hz1, _⟩ := h5 1 v rfl
  rw [ho.2] at hz hz1 hv0' ⊢
  have hlt : 1 < cs.size := by
    have := (Array.getElem?_eq_some_iff.1 hz1).1
    omega
  have hcell : w.cell? ⟨e.b, 0, none⟩ = some (.pointer none) := by simp [World.cell?, h1]; simpa using hz
  have hfz : w.frozen? ⟨e.b, 0, none⟩ = false := by
    have := (h4 hi).1 0 (by omega)
    simp only [World.frozen?, h1]
    simp only [Bool.and_eq_false_iff, decide_eq_false_iff_not]
    omega
  obtain ⟨w', r1, r2, r3⟩ := storeCells_rel (P := P) hi he [.pointer (some ⟨i, 0, none⟩)] [.pointer (some ⟨e.b, 0, none⟩)] 0 0 H w _ ⟨rfl, fun q x hx => by
    cases q with
    | zero => cases hx; exact ⟨_, rfl, by have := V1.ptr (m := m) (i := i) (off := 0) he; rw [ho.2] at this; exact this⟩
    | succ q => simp at hx⟩ hR (hget_some hb) (by simp)
  have hst : (store ((⟨e.b, 0, none⟩ : Addr).add 0) (.pointer (some ⟨e.b, 0, none⟩))).run P w = .ok () (w.setCell ⟨e.b, 0, none⟩ (.pointer (some ⟨e.b, 0, none⟩))) := by
    rw [add_none, run_store P w _ _ _ rfl]
    simp [hcell, hfz]
  have hrun : (storeCells ⟨e.b, 0, none⟩ [.pointer (some ⟨e.b, 0, none⟩)] 0).run P w = .ok () (w.setCell ⟨e.b, 0, none⟩ (.pointer (some ⟨e.b, 0, none⟩))) := by
    simp [storeCells, hst]
  rw [hrun] at r1
  cases r1
  refine .inl ⟨by simp only [bodied, L.f240]; rfl, (check_fresh L X e.b cs.size w hcell (by simp [World.shape?, h1]) (by omega) hfz).mono ?_⟩
  rintro e' w' ⟨rfl, rfl⟩
  exact ⟨m, .tuple #[], .tuple #[], _, rfl, List.prefix_rfl, plainV_mk (by simp [plainV]), r2, r3, rfl, rfl⟩
theorem string_ac (L : Lays.n169 P ρ) (X : Builder.Extra P ρ) {i j len : Nat} {p : Value} {T : TypeId} {es : Option Nat} {s : ByteArray} (hi : nro ≤ i) (hb : hget H i = some ⟨[p, .slice (some ⟨j, 0, none⟩) len len], T, es⟩) (hj : nro ≤ j)
    (hk : hget H j = some ⟨iv .u8 (nums s), ρ.t 5, some 1⟩) (hl : s.size = len) (h0 : len ≠ 0) :
    AC P nro γ (ρ.f 169) #[.pointer (some ⟨i, 0, none⟩)] H (fun v' H' => v' = .string s ∧ H' = H.set j none) := by
  intro m base w args' hR hsz hva
  obtain ⟨y0, hy0, hv0⟩ := hva 0 _ rfl
  obtain rfl := one_arg hsz hy0
  obtain ⟨e, he, rfl⟩ := hv0.ptr_
  have ho := hR.own i e hi he
  obtain ⟨y, hy, hvy⟩ := hR.cell hb he (off := 1) (x := .slice (some ⟨j, 0, none⟩) len len) rfl
  obtain ⟨ej, c', _, hej, hlc, hcap, rfl⟩ := (V.one hvy).sl_
  have hoj := hR.own j ej hj hej
  obtain ⟨cs, fr, g1, g2, g3, g4, g5⟩ := hR.cells j _ ej (hget_some hk) hej
  obtain ⟨hc1, hc2⟩ := hcap rfl 1 g3
  have hcs := g2 hj
  rw [ho.2, hoj.2] at hy
  rw [ho.2]
  have hsl : s.data.toList.length = len := by rw [← hl]; simp
  have := string_row L X e.b ej.b c' cs.size s.data.toList w (by intro h; rw [h] at hsl; exact h0 hsl.symm) (by rw [hsl]; simpa using hy) (by omega) (by simp [World.shape?, g1]) (by rw [hsl]; omega) (by unfold maxLen at hc2; omega) (fun q x hx => by
    obtain ⟨y, hy, hv⟩ := hR.cell hk hej (off := q) (x := .int .u8 x.toNat) (by simp [iv, nums, hx])
    have := hv.eq rfl
    subst this
    rw [hoj.2] at hy
    have e : (⟨ej.b, 0, none⟩ : Addr).add q = ⟨ej.b, 0 + q, none⟩ := by unfold Addr.add; split <;> simp_all
    rw [e, hy])
  refine .inl ⟨by simp only [bodied, L.f169]; rfl, this.mono ?_⟩
  rintro e' w' ⟨rfl, rfl⟩
  have hrel : Rel nro base γ m (H.set j none) (w.drew.freeze ⟨ej.b, 0, none⟩ s.data.toList.length) := by
    refine Rel.killed (hR.drewN 1) hj hk hej ?_ fun b hb => ?_
    · unfold World.freeze
      split
      · rfl
      · show (Array.modify _ _ _).size = _
        rw [Array.size_modify]
        rfl
    · unfold World.freeze
      split
      · rfl
      · simp only [Array.getElem?_modify]
        rw [if_neg (fun h => hb h.symm)]
        rfl
  exact ⟨m, .string s, .string s, _, by simp, List.prefix_rfl, plainV_mk rfl, hrel, Lib.below_freeze (Below.drew (Below.refl base w)) (p := ⟨ej.b, 0, none⟩) hoj.1 _, rfl, rfl⟩
theorem string_nil_ac (L : Lays.n169 P ρ) (X : Builder.Extra P ρ) {i : Nat} {p : Value} {T : TypeId} {es : Option Nat} (hi : nro ≤ i) (hb : hget H i = some ⟨[p, .slice none 0 0], T, es⟩) :
    AC P nro γ (ρ.f 169) #[.pointer (some ⟨i, 0, none⟩)] H (fun v' H' => v' = .string ⟨#[]⟩ ∧ H' = H) := by
  intro m base w args' hR hsz hva
  obtain ⟨y0, hy0, hv0⟩ := hva 0 _ rfl
  obtain rfl := one_arg hsz hy0
  obtain ⟨e, he, rfl⟩ := hv0.ptr_
  have ho := hR.own i e hi he
  obtain ⟨y, hy, hvy⟩ := hR.cell hb he (off := 1) (x := .slice none 0 0) rfl
  have := (V.one hvy).eq rfl
  subst this
  rw [ho.2] at hy ⊢
  refine .inl ⟨by simp only [bodied, L.f169]; rfl, (string_nil L X e.b w (by simpa using hy)).mono ?_⟩
  rintro e' w' ⟨rfl, rfl⟩
  exact ⟨m, .string ⟨#[]⟩, .string ⟨#[]⟩, H, rfl, List.prefix_rfl, plainV_mk rfl, hR.drewN 1, Below.drew (Below.refl base w), rfl, rfl⟩
end
end Go.Proofs.YtjfhdckcjkgjnaaDoor
