/-
  ClockOrders: the slice of clocks opened, and the statement for every argument.
-/
import Derived.Test.YtiionogafaegkaaOrders
import Derived.Test.YtiionogafaegkaaLaw
import Derived.Test.YtiionogafaegkaaOpen
import Derived.Deep.Slices
namespace Go.Proofs.Ytiionogafaegkaa
open Go.ChangeShapes Go.WideShapes Go.ChangeAt Go.RowKit
theorem open_eight {H : Type} {enc : TypeId × Value → H} {P : Program} {W : World} {base : Nat} {spare : Nat → Bool} {held : Bool} {t e : TypeId} {n : Nat} {k : IntKind} {fuel : Nat} {cs : List Value} {x : DataW H × List MemPlace} (ht : P.underlying t = some (.array n e)) (he : P.underlying e = some (.int k)) (hC : P.cellsOf e = 1)
    (hlen : cs.length = n) (hf : DataW.trod enc P W base spare held fuel t cs = some x) : ∀ i, i < n → ∃ y, cs[i]? = some (.int k y) := by
  obtain ⟨xs, m, rfl, hx, hl, hn, hel⟩ := DataW.trod_array ht hf
  intro i hi
  have h1 := hel i hi
  rw [hC, List.getElem?_eq_getElem (show i < xs.length by omega)] at h1
  obtain ⟨x, hx1, _, hw⟩ := DataW.trod_int he h1
  refine ⟨x, ?_⟩
  have h2 := congrArg (fun l : List Value => l[0]?) hx1
  simpa [List.getElem?_take, List.getElem?_drop] using h2
theorem open_clocks {H : Type} {enc : TypeId × Value → H} {W : World} {b0 : Nat} {r : Reach} {v : Value} {d : DataW H} {p : List MemPlace} (hv : Value.okWide Try.prog W r b0 35 v) (h : DataW.Trod enc Try.prog W 0 (fun _ => true) true 35 v d p) :
    v = .slice none 0 0 ∨ ∃ (b off len cap : Nat) (C : Nat → Nat → Int), v = .slice (some ⟨b, off, none⟩) len cap ∧ b < W.heap.size ∧ ∀ i j, i < len → j < 8 → W.cell? ⟨b, off + (8 * i + j), none⟩ = some (.int .u32 (C i j)) := by
  have hc8 : Try.prog.cellsOf 27 = 8 := by kernel_rfl
  have hc1 : Try.prog.cellsOf 25 = 1 := by kernel_rfl
  obtain ⟨a, len, cap, rfl⟩ := okWide_slice Try.underlying35 hv
  obtain ⟨fuel, hf⟩ := h
  rcases Go.Deep.open_slice Try.underlying35 hf with ⟨h0, _⟩ | ⟨a', len', cap', m, n, D, Pl, h0, hb, hl, hm, hmm, hx, hel⟩
  · left
    simpa [Value.cells] using h0
  · right
    have h1 : Value.slice a len cap = Value.slice (some a') len' cap' := by simpa [Value.cells] using h0
    injection h1 with e1 e2 e3
    subst e1 e2 e3
    have hs : a'.spot = none ∧ a'.block < W.heap.size := by
      unfold Value.okWide at hv
      rw [Try.underlying35] at hv
      simp only [Cell.okWide, Try.underlying35, Cell.ok] at hv
      obtain ⟨_, hsp, row, cells, hsh, _⟩ := hv.2.2
      refine ⟨hsp, ?_⟩
      rcases Nat.lt_or_ge a'.block W.heap.size with hlt | hge
      · exact hlt
      · unfold World.shape? at hsh
        rw [Array.getElem?_eq_none hge] at hsh
        simp at hsh
    obtain ⟨b, off, sp⟩ := a'
    obtain ⟨hsp, hlt⟩ := hs
    simp only at hsp hlt
    subst hsp
    have each : ∀ i j, ∃ y, i < len → j < 8 → W.cell? ⟨b, off + (8 * i + j), none⟩ = some (.int .u32 y) := by
      intro i j
      by_cases hij : i < len ∧ j < 8
      · obtain ⟨cs', hc, ht⟩ := hel i (by simp at hmm; omega)
        rw [hc8] at hc
        obtain ⟨_, hlen, hcell⟩ := World.cells?_some hc
        obtain ⟨y, hy⟩ := open_eight Try.underlying27 Try.underlying25 hc1 hlen ht j hij.2
        refine ⟨y, fun _ _ => ?_⟩
        have h2 := hcell j hij.2
        rw [hy] at h2
        have ha : ((⟨b, off, none⟩ : Addr).add (i * 8)).add j = ⟨b, off + (8 * i + j), none⟩ := by
          have hadd : ∀ o k : Nat, (⟨b, o, none⟩ : Addr).add k = ⟨b, o + k, none⟩ := fun o k => by unfold Addr.add; split <;> simp_all
          rw [hadd, hadd, show off + i * 8 + j = off + (8 * i + j) by omega]
        rwa [ha] at h2
      · exact ⟨0, fun h1 h2 => absurd ⟨h1, h2⟩ hij⟩
    exact ⟨b, off, len, cap, fun i j => Classical.choose (each i j), rfl, hlt, fun i j hi hj => Classical.choose_spec (each i j) hi hj⟩
/-- the statement, for a slice as it was opened -/
theorem orders_law (a b : List Int) (ha : a.length = 8) (hb : b.length = 8) (wa : Words a) (wb : Words b) (v : Value) (au : Int) (w : World)
    (hv : v = .slice none 0 0 ∨ ∃ (b off len cap : Nat) (C : Nat → Nat → Int), v = .slice (some ⟨b, off, none⟩) len cap ∧ b < w.heap.size ∧ ∀ i j, i < len → j < 8 → w.cell? ⟨b, off + (8 * i + j), none⟩ = some (.int .u32 (C i j))) :
    Calls Try.prog 4 #[.agg (ints .u32 a), .agg (ints .u32 b), v, .int .i64 au] w fun e w' => e = .returned (.bool true) ∧ Below w.heap.size w w' := by
  rcases hv with rfl | ⟨g, off, len, cap, C, rfl, hlt, hC⟩
  · exact orders_walk a b ha hb wa wb none 0 0 (by omega) (fun _ => 0) w (fun W _ => join_nil W) (fun W _ => refjoin_nil W) au
  · by_cases hn : len ≤ 60
    · refine orders_walk a b ha hb wa wb _ len cap hn (joinTo C len) w (fun W hW => ?_) (fun W hW => ?_) au
      · exact join_any g off len cap (by omega) C W (Nat.lt_of_lt_of_le hlt hW.size) (fun i j hi hj => by rw [hW.cell (p := ⟨g, off + (8 * i + j), none⟩) hlt]; exact hC i j hi hj)
      · exact refjoin_any g off len cap (by omega) C W (Nat.lt_of_lt_of_le hlt hW.size) (fun i j hi hj => by rw [hW.cell (p := ⟨g, off + (8 * i + j), none⟩) hlt]; exact hC i j hi hj)
    · exact orders_long a b _ len cap (by omega) au w
theorem words_of {l : List Int} (h : l.length = 8) (b : ∀ i, i < 8 → (Lit.int .u32 (l.getD i 0)).wf = true) : Words l := by
  intro i
  by_cases hi : i < 8
  · exact u32_of (b i hi)
  · have : gi l i = 0 := by
      unfold gi
      rw [List.getD_eq_getElem?_getD, List.getElem?_eq_none (by omega)]; rfl
    omega
end Go.Proofs.Ytiionogafaegkaa
