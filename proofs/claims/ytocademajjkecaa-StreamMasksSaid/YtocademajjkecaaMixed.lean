/-
  mixed, by its text: twenty rounds over the words, and the sums as bytes.
-/
import Derived.Test.YtocademajjkecaaQuarter
import Derived.Deep.DeepCutAuto
namespace Go.Proofs.Ytocademajjkecaa
open Go.RowKit
theorem heap_at0 (w : World) (A B C : Obj) : (((w.alloc A).alloc B).alloc C).heap[w.heap.size]? = some A :=
  (Below.heap_alloc ((w.alloc A).alloc B) C w.heap.size (by simp only [World.size_alloc]; omega)).trans (heap_alloc2_old w A B)
theorem heap_at1 (w : World) (A B C : Obj) : (((w.alloc A).alloc B).alloc C).heap[w.heap.size + 1]? = some B :=
  (Below.heap_alloc ((w.alloc A).alloc B) C (w.heap.size + 1) (by simp only [World.size_alloc]; omega)).trans (heap_alloc2_new w A B)
theorem heap_at2 (w : World) (A B C : Obj) : (((w.alloc A).alloc B).alloc C).heap[w.heap.size + 1 + 1]? = some C := by
  have h := heap_alloc_new ((w.alloc A).alloc B) C
  simpa only [World.size_alloc] using h
def zeros (n : Nat) : List Int := List.replicate n 0
/-- the four columns, the first k of them -/
def cols (l : List Int) : Nat → List Int
  | 0 => l
  | k + 1 => quarter (cols l k) k (4 + k) (8 + k) (12 + k)
def diags (l : List Int) : Nat → List Int
  | 0 => l
  | k + 1 => quarter (diags l k) k (4 + (k + 1) % 4) (8 + (k + 2) % 4) (12 + (k + 3) % 4)
def rounds (l : List Int) : Nat → List Int
  | 0 => l
  | n + 1 => diags (cols (rounds l n) 4) 4
theorem cols_len (l : List Int) (k : Nat) : (cols l k).length = l.length := by induction k <;> simp_all [cols, quarter_len]
theorem diags_len (l : List Int) (k : Nat) : (diags l k).length = l.length := by induction k <;> simp_all [diags, quarter_len]
theorem rounds_len (l : List Int) (k : Nat) : (rounds l k).length = l.length := by induction k <;> simp_all [rounds, diags_len, cols_len]
/-- what mixed keeps: the words at first, the words now, the result's cells -/
structure MX (w : World) (b0 b1 b2 : Nat) (l m : List Int) (W : World) : Prop where
  first : Row W b0 43 .u32 l
  res : Row W b1 41 .u8 (zeros 64)
  now : Row W b2 43 .u32 m
  below : Below w.heap.size w W
  lo : w.heap.size ≤ b0 ∧ w.heap.size ≤ b1 ∧ w.heap.size ≤ b2 ∧ b0 ≠ b2 ∧ b1 ≠ b2 ∧ b0 ≠ b1
theorem MX.next {w W W' : World} {b0 b1 b2 : Nat} {l m m' : List Int} (h : MX w b0 b1 b2 l m W) (hr : Row W' b2 43 .u32 m') (hg : W.grownBy W' (some b2)) : MX w b0 b1 b2 l m' W' :=
  ⟨h.first.away hg h.lo.2.2.2.1, h.res.away hg h.lo.2.2.2.2.1, hr, below_of_grown h.below hg h.below.size h.lo.2.2.1, h.lo⟩
theorem MX.start (w W0 : World) (l : List Int) (e0 : Row W0 w.heap.size 43 .u32 l) (e1 : Row W0 (w.heap.size + 1) 41 .u8 (zeros 64)) (hb : Below w.heap.size w W0) (hs : w.heap.size + 2 ≤ W0.heap.size) (o : Obj)
    (ho : o = .cells (ints .u32 (zeros 16)) 43) : MX w w.heap.size (w.heap.size + 1) W0.heap.size l l ((W0.alloc o).setRow W0.heap.size (ints .u32 l)) := by
  subst ho
  exact ⟨(e0.alloc _).farRow (by omega) _, (e1.alloc _).farRow (by omega) _, (Row.new _ _ _ _).put _, below_setRow (hb.alloc hb.size _) hb.size _, by omega⟩
theorem quarter_int (g : Nat) (l : List Int) (hl : l.length = 16) (a b c d : Nat) (ha : a < 16) (hb : b < 16) (hc : c < 16) (hd : d < 16) (a' b' c' d' : Int) (ea : a' = a) (eb : b' = b) (ec : c' = c) (ed : d' = d) (w : World) (hr : Row w g 43 .u32 l) :
    Calls Try.prog 21 #[.pointer (some ⟨g, 0, none⟩), .int .i64 a', .int .i64 b', .int .i64 c', .int .i64 d'] w fun e w' => e = .returned (.tuple #[]) ∧ Row w' g 43 .u32 (quarter l a b c d) ∧ w.grownBy w' (some g) := by
  subst ea eb ec ed
  exact quarter_any g l hl a b c d ha hb hc hd w hr
/-- a word's four bytes into their places -/
def put4 (o : List Int) (i : Nat) (x : Int) : List Int := (((o.set (4 * i) (x % 256)).set (4 * i + 1) (x / 256 % 256)).set (4 * i + 2) (x / 65536 % 256)).set (4 * i + 3) (x / 16777216 % 256)
/-- the bytes of the first words of the sums -/
def outTo (m l : List Int) : Nat → List Int
  | 0 => zeros 64
  | k + 1 => put4 (outTo m l k) k (addU (gi m k) (gi l k))
theorem outTo_len (m l : List Int) (k : Nat) : (outTo m l k).length = 64 := by
  induction k with
  | zero => rfl
  | succ k ih => simp [outTo, put4, ih]
structure MO (w : World) (b0 b1 b2 b6 : Nat) (l m o : List Int) (W : World) : Prop where
  first : Row W b0 43 .u32 l
  res : Row W b1 41 .u8 (zeros 64)
  now : Row W b2 43 .u32 m
  out : Row W b6 41 .u8 o
  below : Below w.heap.size w W
  lo : w.heap.size ≤ b0 ∧ w.heap.size ≤ b1 ∧ w.heap.size ≤ b2 ∧ w.heap.size ≤ b6 ∧ b6 ≠ b0 ∧ b6 ≠ b1 ∧ b6 ≠ b2
theorem MO.start {w W : World} {b0 b1 b2 : Nat} {l m : List Int} (h : MX w b0 b1 b2 l m W) (o : Obj) (ho : o = .cells (ints .u8 (zeros 64)) 41) : MO w b0 b1 b2 W.heap.size l m (zeros 64) (W.alloc o) := by
  subst ho
  have l0 := h.first.lt
  have l1 := h.res.lt
  have l2 := h.now.lt
  have lo := h.lo
  exact ⟨h.first.alloc _, h.res.alloc _, h.now.alloc _, Row.new _ _ _ _, h.below.alloc h.below.size _, by have := h.below.size; omega⟩
theorem MO.drewN {w W : World} {b0 b1 b2 b6 : Nat} {l m o : List Int} (h : MO w b0 b1 b2 b6 l m o W) (n : Nat) : MO w b0 b1 b2 b6 l m o (W.drewN n) := ⟨h.first, h.res, h.now, h.out, below_drewN h.below n, h.lo⟩
theorem MO.store {w W : World} {b0 b1 b2 b6 : Nat} {l m o : List Int} (h : MO w b0 b1 b2 b6 l m o W) (i : Nat) (x : Int) : MO w b0 b1 b2 b6 l m (o.set i x) (W.setCell ⟨b6, i, none⟩ (.int .u8 x)) :=
  ⟨h.first.far (by have := h.lo; simp; omega) _, h.res.far (by have := h.lo; simp; omega) _, h.now.far (by have := h.lo; simp; omega) _, h.out.set_ i x, h.below.setCell h.lo.2.2.2.1 _, h.lo⟩
theorem sz41 (o : List Int) (h : o.length = 64) : (Try.prog.info? 41).map (·.size) = some (ints .u8 o).size := by rw [ints_size, h]; kernel_rfl
theorem sz43 (o : List Int) (h : o.length = 16) : (Try.prog.info? 43).map (·.size) = some (ints .u32 o).size := by rw [ints_size, h]; kernel_rfl
/-- what mixed makes of a block's words -/
def mixF (l : List Int) : List Int := outTo (rounds l 10) l 16
set_option maxRecDepth 100000 in
set_option maxHeartbeats 1000000 in
theorem mixed_any (l : List Int) (hl : l.length = 16) (w : World) :
    Calls Try.prog 16 #[.agg (ints .u32 l)] w fun e w' => e = .returned (.agg (ints .u8 (mixF l))) ∧ Below w.heap.size w w' := by
  have hs : (ints .u32 l).size = 16 := by rw [ints_size, hl]
  go_enter Try.func16, Try.ntmps16
  go_upto_region 1 with fail
  generalize hW : (w.alloc (.cells (ints .u32 l) 43)).alloc _ = W0
  have e0 : Row W0 w.heap.size 43 .u32 l := by rw [← hW]; exact heap_alloc2_old _ _ _
  have e1 : Row W0 (w.heap.size + 1) 41 .u8 (zeros 64) := by rw [← hW]; exact heap_alloc2_new _ _ _
  have e2 : Below w.heap.size w W0 := by rw [← hW]; exact ((Below.refl _ _).alloc (Nat.le_refl _) _).alloc (by simp) _
  have e3 : w.heap.size + 2 ≤ W0.heap.size := by rw [← hW]; simp
  have hM := hide (MX.start w W0 l e0 e1 e2 e3)
  have HE := hide e0
  clear e0 e1 e2 e3
  clear hW
  go_upto_region 2 with (first | (refine wpList_load_row rfl 43 _ rfl _ rfl 43 (ints .u32 l) (0, 0) _ HE.out Try.underlying43 rfl ?_ ?_; (rw [hs]; kernel_rfl)) | (refine wpList_store_row rfl 43 _ _ rfl _ (ints .u32 l) rfl rfl 43 _ (heap_alloc_new _ _) ?_ ?_ (ints_one _ _) ?_; (rw [hs]; kernel_rfl); (rw [hs]; rfl)))
  clear HE
  generalize hW1 : (W0.alloc _).setRow W0.heap.size _ = W1
  replace hM : MX w w.heap.size (w.heap.size + 1) W0.heap.size l l W1 := by rw [← hW1]; exact hM.out _ rfl
  clear hW1
  generalize W0.heap.size = b2 at hM ⊢
  generalize w.heap.size + 1 = b1 at hM ⊢
  obtain ⟨b0, hb0⟩ : ∃ b0, b0 = w.heap.size := ⟨_, rfl⟩
  rw [← hb0] at hM ⊢
  clear hb0 W0
  go_wp2
  go_loopw [10] (fun i W => ∃ k : Nat, k ≤ 10 ∧ i = .int .i64 k ∧ MX w b0 b1 b2 l (rounds l k) W) (fun i _ => 10 - (intOf i).toNat)
  case atStart => exact ⟨0, by omega, rfl, hM⟩
  case round =>
    clear hM
    obtain ⟨k, hk, rfl, hM⟩ := hrel
    by_cases hlt : k < 10
    · have hd : decide ((k : Int) < 10) = true := by simp; omega
      have hlr : (rounds l k).length = 16 := by rw [rounds_len, hl]
      have HL := hide hlr
      clear hlr hl hs
      obtain ⟨m, hm⟩ : ∃ m, m = rounds l k := ⟨_, rfl⟩
      rw [← hm] at hM HL
      have HM := hide hm
      clear hm
      have Q := hide quarter_int
      go_wp2
      go_loopw [12] (fun i W => ∃ j : Nat, j ≤ 4 ∧ i = .int .i64 j ∧ MX w b0 b1 b2 l (cols m j) W) (fun i _ => 4 - (intOf i).toNat)
      case atStart => exact ⟨0, by omega, rfl, hM⟩
      case round =>
        clear hM
        obtain ⟨j, hj, rfl, hM⟩ := hrel
        by_cases hlt2 : j < 4
        · go_wp2_with fail
          refine (Q.out b2 (cols m j) (by rw [cols_len]; exact HL.out) j (4 + j) (8 + j) (12 + j) (by omega) (by omega) (by omega) (by omega) _ _ _ _ (by omega) (by omega) (by omega) (by omega) _ hM.now).mono ?_
          rintro e W ⟨rfl, hr, hg⟩
          have hM2 : MX w b0 b1 b2 l (cols m (j + 1)) W := hM.next hr hg
          clear hr hg hM
          go_wp2
          exact ⟨⟨j + 1, by omega, by go_num, hM2⟩, by simp [intOf]; omega⟩
        · have hj4 : j = 4 := by omega
          rw [hj4] at hM
          clear hj4
          have HL2 : Hid ((cols m 4).length = 16) := by rw [cols_len]; exact HL.out
          obtain ⟨m4, hm4⟩ : ∃ m4, m4 = cols m 4 := ⟨_, rfl⟩
          rw [← hm4] at hM HL2
          have HM4 := hide hm4
          clear hm4
          go_wp2
          go_loopw [24] (fun i W => ∃ j : Nat, j ≤ 4 ∧ i = .int .i64 j ∧ MX w b0 b1 b2 l (diags m4 j) W) (fun i _ => 4 - (intOf i).toNat)
          case atStart => exact ⟨0, by omega, rfl, hM⟩
          case round =>
            clear hM
            obtain ⟨j, hj, rfl, hM⟩ := hrel
            by_cases hlt3 : j < 4
            · go_wp2_with fail
              refine (Q.out b2 (diags m4 j) (by rw [diags_len]; exact HL2.out) j (4 + (j + 1) % 4) (8 + (j + 2) % 4) (12 + (j + 3) % 4) (by omega) (by omega) (by omega) (by omega) _ _ _ _ (by omega) (by omega) (by omega) (by omega) _ hM.now).mono ?_
              rintro e W ⟨rfl, hr, hg⟩
              have hM2 : MX w b0 b1 b2 l (diags m4 (j + 1)) W := hM.next hr hg
              clear hr hg hM
              go_wp2
              exact ⟨⟨j + 1, by omega, by go_num, hM2⟩, by simp [intOf]; omega⟩
            · have hj4 : j = 4 := by omega
              rw [hj4] at hM
              clear hj4
              have hM2 : MX w b0 b1 b2 l (diags (cols m 4) 4) wr := by rw [← HM4.out]; exact hM
              clear hM
              go_wp2
              refine ⟨⟨k + 1, by omega, by go_num, ?_⟩, by simp [intOf]; omega⟩
              have e : rounds l (k + 1) = diags (cols m 4) 4 := by rw [HM.out]; rfl
              rw [e]
              exact hM2
    · have hk10 : k = 10 := by omega
      rw [hk10] at hM
      clear hk10
      obtain ⟨m, hm⟩ : ∃ m, m = rounds l 10 := ⟨_, rfl⟩
      have hml : m.length = 16 := by rw [hm, rounds_len, hl]
      rw [← hm] at hM
      have HM := hide hm
      clear hm
      go_upto_region 16 with fail
      generalize hW2 : wr.alloc _ = W2
      have hO : MO w b0 b1 b2 wr.heap.size l m (outTo m l 0) W2 := by rw [← hW2]; exact MO.start hM _ rfl
      clear hW2 hM
      generalize wr.heap.size = b6 at hO ⊢
      go_wp2
      go_loopw [43] (fun i W => ∃ k : Nat, k ≤ 16 ∧ i = .int .i64 k ∧ MO w b0 b1 b2 b6 l m (outTo m l k) W) (fun i _ => 16 - (intOf i).toNat)
      case atStart => exact ⟨0, by omega, rfl, hO⟩
      case round =>
        clear hO
        obtain ⟨q, hq, rfl, hO⟩ := hrel
        by_cases hlt3 : q < 16
        · have q0 : (0 : Int) ≤ q := by omega
          have q1 : (q : Int) < 16 := by omega
          have c1 := hO.now.at_ (i := q) (by omega)
          have c2 := hO.first.at_ (i := q) (by omega)
          have ol : (outTo m l q).length = 64 := outTo_len m l q
          have d0 := hO.out.at_ (i := 4 * q) (by omega)
          have d1 := hO.out.at_ (i := 4 * q + 1) (by omega)
          have d2 := hO.out.at_ (i := 4 * q + 2) (by omega)
          have d3 := hO.out.at_ (i := 4 * q + 3) (by omega)
          have df := hO.out.free
          have OL := hide ol
          clear ol
          go_wp2_with fail
          go_quiet (fail)
          go_wp2
          refine ⟨⟨q + 1, by omega, by go_num, ?_⟩, by simp [intOf]; omega⟩
          have e0 : (gi m q + gi l q) % 256 = addU (gi m q) (gi l q) % 256 := by unfold addU; omega
          have e3 : (gi m q + gi l q) % 4294967296 / 16777216 = addU (gi m q) (gi l q) / 16777216 % 256 := by unfold addU; omega
          rw [e0, e3]
          exact ((((hO.drewN nq).store _ _).store _ _).store _ _).store _ _
        · have hq16 : q = 16 := by omega
          rw [hq16] at hO
          clear hq16
          have ol : (outTo m l 16).length = 64 := outTo_len m l 16
          have oz : (ints .u8 (outTo m l 16)).size = 64 := by rw [ints_size, ol]
          have HOo := hide hO.out
          have HOr := hide hO.res
          have HB := hide hO.below
          have HLO := hide hO.lo
          clear hO
          obtain ⟨o, ho⟩ : ∃ o, o = outTo m l 16 := ⟨_, rfl⟩
          rw [← ho] at ol oz HOo
          have HOe := hide ho
          clear ho
          have i41 := sz41 o ol
          have z41 : (ints .u8 (zeros 64)).size = (ints .u8 o).size := by rw [oz]; rfl
          have I41 := hide i41
          have Z41 := hide z41
          clear i41 z41 oz ol hs
          go_upto_region 22 with fail
          go_wp2_with (first | (refine wpList_load_row rfl 41 _ rfl _ rfl 41 (ints .u8 o) (0, 0) _ HOo.out Try.underlying41 rfl I41.out ?_) | (refine wpList_store_row rfl 41 _ _ rfl _ (ints .u8 o) rfl rfl 41 _ HOr.out I41.out Z41.out (ints_one _ _) ?_))
          refine bodyPost_ret (v := .agg (ints .u8 o)) (results_cell_row Try.results16 _ _ b1 41 (ints .u8 o) (0, 0) _ rfl (Row.put HOr.out _) Try.underlying41 rfl I41.out) rfl ⟨by rw [HOe.out, HM.out]; rfl, below_setRow HB.out HLO.out.2.1 _⟩
end Go.Proofs.Ytocademajjkecaa
