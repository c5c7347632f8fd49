/-
  The stream, by its text.
-/
import Derived.Test.YtjfjakighnibpaaProg
import Derived.WalkLawsBesides
import Derived.Deep.DeepCutAuto
import Derived.Test.YtjfjakighnibpaaZA
set_option linter.unusedVariables false
set_option linter.unusedSimpArgs false
set_option maxRecDepth 100000
namespace Go.Proofs.Ytjfjakighnibpaa.St
open Go.Proofs.Ytjfjakighnibpaa
section
open Go.RowKit
def rotl (x : Int) (n : Nat) : Int := bits .or .u32 (IntKind.u32.wrap (x * 2 ^ n)) (x / 2 ^ (32 - n))
def Turns (n : Nat) : Prop := ∀ (x : Int) (w : World), Calls Try.prog 59 #[.int .u32 x, .int .i64 n] w fun e w' => e = .returned (.int .u32 (rotl x n)) ∧ w = w'
def addU (x y : Int) : Int := (x + y) % 4294967296
def xorU (x y : Int) : Int := bits .xor .u32 x y
def addTo (l : List Int) (i j : Nat) : List Int := l.set i (addU (gi l i) (gi l j))
def turnBy (l : List Int) (i k n : Nat) : List Int := l.set k (rotl (xorU (gi l k) (gi l i)) n)
theorem rot16 : Turns 16 := by
  intro x w
  have h : bits BinOp.and IntKind.u64 16 31 = 16 := by decide
  show Calls Try.prog 59 #[.int .u32 x, .int .i64 16] w _
  go_enter Try.func59, Try.ntmps59
  go_wp2
  go_ret
  exact ⟨rfl, rfl⟩
theorem rot12 : Turns 12 := by
  intro x w
  have h : bits BinOp.and IntKind.u64 12 31 = 12 := by decide
  show Calls Try.prog 59 #[.int .u32 x, .int .i64 12] w _
  go_enter Try.func59, Try.ntmps59
  go_wp2
  go_ret
  exact ⟨rfl, rfl⟩
theorem rot8 : Turns 8 := by
  intro x w
  have h : bits BinOp.and IntKind.u64 8 31 = 8 := by decide
  show Calls Try.prog 59 #[.int .u32 x, .int .i64 8] w _
  go_enter Try.func59, Try.ntmps59
  go_wp2
  go_ret
  exact ⟨rfl, rfl⟩
theorem rot7 : Turns 7 := by
  intro x w
  have h : bits BinOp.and IntKind.u64 7 31 = 7 := by decide
  show Calls Try.prog 59 #[.int .u32 x, .int .i64 7] w _
  go_enter Try.func59, Try.ntmps59
  go_wp2
  go_ret
  exact ⟨rfl, rfl⟩
theorem addTo_len (l : List Int) (i j : Nat) : (addTo l i j).length = l.length := by simp [addTo]
theorem turnBy_len (l : List Int) (i j n : Nat) : (turnBy l i j n).length = l.length := by simp [turnBy]
theorem add_any (n : Nat) (hn : Turns n) (b : Nat) (l : List Int) (hl : l.length = 16) (i j k : Nat) (hi : i < 16) (hj : j < 16) (hk : k < 16) (w : World) (hr : Row w b 47 .u32 l) :
    Calls Try.prog 48 #[.pointer (some ⟨b, 0, none⟩), .int .i64 i, .int .i64 j, .int .i64 k, .int .i64 n] w fun e w' => e = .returned (.tuple #[]) ∧ Row w' b 47 .u32 (turnBy (addTo l i j) i k n) ∧ w.grownBy w' (some b) := by
  have h0i : (0 : Int) ≤ i := by omega
  have h0j : (0 : Int) ≤ j := by omega
  have h0k : (0 : Int) ≤ k := by omega
  have hi' : (i : Int) < 16 := by omega
  have hj' : (j : Int) < 16 := by omega
  have hk' : (k : Int) < 16 := by omega
  have ci := hr.at_ (i := i) (by omega)
  have cj := hr.at_ (i := j) (by omega)
  have fi := hr.free i
  have HR : Hid (Row (w.setCell ⟨b, i, none⟩ (.int .u32 ((gi l i + gi l j) % 4294967296))).drew b 47 .u32 (addTo l i j)) := (hr.set_ i _).drew
  have HG : Hid (w.grownBy (w.setCell ⟨b, i, none⟩ (.int .u32 ((gi l i + gi l j) % 4294967296))).drew (some b)) := grown_drew (Row.grown_set _ _ _ _)
  have hl1 := addTo_len l i j
  rw [hl] at hl1
  clear hr hl
  go_enter Try.func48, Try.ntmps48
  go_wp2_with fail
  go_region
  clear ci cj fi
  generalize (w.setCell ⟨b, i, none⟩ (.int .u32 ((gi l i + gi l j) % 4294967296))).drew = w1 at HR HG ⊢
  have ci := HR.out.at_ (i := i) (by omega)
  have ck := HR.out.at_ (i := k) (by omega)
  have fk := HR.out.free k
  have HL := hide hl1
  clear hl1
  go_wp2_with fail
  go_region_with (go_at_call 59; refine (hn _ _).mono ?_; rintro e w2 ⟨rfl, rfl⟩)
  all_goals go_end0
  all_goals exact ⟨rfl, (HR.out.set_ k _).drew, grown_comp HG.out (grown_drew (Row.grown_set _ _ _ _))⟩

/-- A quarter round of the words at four places. -/
def quarter (l : List Int) (a b c d : Nat) : List Int :=
  let l1 := turnBy (addTo l a b) a d 16
  let l2 := turnBy (addTo l1 c d) c b 12
  let l3 := turnBy (addTo l2 a b) a d 8
  turnBy (addTo l3 c d) c b 7
theorem quarter_len (l : List Int) (a b c d : Nat) : (quarter l a b c d).length = l.length := by simp [quarter, turnBy_len, addTo_len]

theorem quarter_any (g : Nat) (l : List Int) (hl : l.length = 16) (a b c d : Nat) (ha : a < 16) (hb : b < 16) (hc : c < 16) (hd : d < 16) (w : World) (hr : Row w g 47 .u32 l) :
    Calls Try.prog 33 #[.pointer (some ⟨g, 0, none⟩), .int .i64 a, .int .i64 b, .int .i64 c, .int .i64 d] w fun e w' => e = .returned (.tuple #[]) ∧ Row w' g 47 .u32 (quarter l a b c d) ∧ w.grownBy w' (some g) := by
  have A16 := hide (add_any 16 rot16)
  have A12 := hide (add_any 12 rot12)
  have A8 := hide (add_any 8 rot8)
  have A7 := hide (add_any 7 rot7)
  have HL := hide hl
  have HR := hide hr
  clear hl hr
  go_enter Try.func33, Try.ntmps33
  go_wp2_with fail
  refine (A16.out g l HL.out a b d ha hb hd _ HR.out).mono ?_
  rintro e w1 ⟨rfl, hr1, hg1⟩
  replace hr1 := hide hr1
  replace hg1 := hide hg1
  go_wp2_with fail
  refine (A12.out g _ (by simp [turnBy_len, addTo_len, HL.out]) c d b hc hd hb _ hr1.out).mono ?_
  rintro e w2 ⟨rfl, hr2, hg2⟩
  replace hr2 := hide hr2
  replace hg2 := hide hg2
  go_wp2_with fail
  refine (A8.out g _ (by simp [turnBy_len, addTo_len, HL.out]) a b d ha hb hd _ hr2.out).mono ?_
  rintro e w3 ⟨rfl, hr3, hg3⟩
  replace hr3 := hide hr3
  replace hg3 := hide hg3
  go_wp2_with fail
  refine (A7.out g _ (by simp [turnBy_len, addTo_len, HL.out]) c d b hc hd hb _ hr3.out).mono ?_
  rintro e w4 ⟨rfl, hr4, hg4⟩
  replace hr4 := hide hr4
  replace hg4 := hide hg4
  go_wp2
  go_end0
  exact ⟨rfl, hr4.out, grown_comp (grown_comp (grown_comp hg1.out hg2.out) hg3.out) hg4.out⟩
end

section
open Go.RowKit
theorem heap_at0 (w : World) (A B C : Obj) : (((w.alloc A).alloc B).alloc C).heap[w.heap.size]? = some A :=
  (Below.heap_alloc ((w.alloc A).alloc B) C w.heap.size (by simp only [World.size_alloc]; omega)).trans (heap_alloc2_old w A B)
theorem heap_at1 (w : World) (A B C : Obj) : (((w.alloc A).alloc B).alloc C).heap[w.heap.size + 1]? = some B :=
  (Below.heap_alloc ((w.alloc A).alloc B) C (w.heap.size + 1) (by simp only [World.size_alloc]; omega)).trans (heap_alloc2_new w A B)
theorem heap_at2 (w : World) (A B C : Obj) : (((w.alloc A).alloc B).alloc C).heap[w.heap.size + 1 + 1]? = some C := by
  have h := heap_alloc_new ((w.alloc A).alloc B) C
  simpa only [World.size_alloc] using h
def zeros (n : Nat) : List Int := List.replicate n 0
/-- the four columns, the first k of them -/
def cols (l : List Int) : Nat → List Int
  | 0 => l
  | k + 1 => quarter (cols l k) k (4 + k) (8 + k) (12 + k)
def diags (l : List Int) : Nat → List Int
  | 0 => l
  | k + 1 => quarter (diags l k) k (4 + (k + 1) % 4) (8 + (k + 2) % 4) (12 + (k + 3) % 4)
def rounds (l : List Int) : Nat → List Int
  | 0 => l
  | n + 1 => diags (cols (rounds l n) 4) 4
theorem cols_len (l : List Int) (k : Nat) : (cols l k).length = l.length := by induction k <;> simp_all [cols, quarter_len]
theorem diags_len (l : List Int) (k : Nat) : (diags l k).length = l.length := by induction k <;> simp_all [diags, quarter_len]
theorem rounds_len (l : List Int) (k : Nat) : (rounds l k).length = l.length := by induction k <;> simp_all [rounds, diags_len, cols_len]
/-- what mixed keeps: the words at first, the words now, the result's cells -/
structure MX (w : World) (b0 b1 b2 : Nat) (l m : List Int) (W : World) : Prop where
  first : Row W b0 47 .u32 l
  res : Row W b1 49 .u8 (zeros 64)
  now : Row W b2 47 .u32 m
  below : Below w.heap.size w W
  lo : w.heap.size ≤ b0 ∧ w.heap.size ≤ b1 ∧ w.heap.size ≤ b2 ∧ b0 ≠ b2 ∧ b1 ≠ b2 ∧ b0 ≠ b1
theorem MX.next {w W W' : World} {b0 b1 b2 : Nat} {l m m' : List Int} (h : MX w b0 b1 b2 l m W) (hr : Row W' b2 47 .u32 m') (hg : W.grownBy W' (some b2)) : MX w b0 b1 b2 l m' W' :=
  ⟨h.first.away hg h.lo.2.2.2.1, h.res.away hg h.lo.2.2.2.2.1, hr, below_of_grown h.below hg h.below.size h.lo.2.2.1, h.lo⟩
theorem MX.start (w W0 : World) (l : List Int) (e0 : Row W0 w.heap.size 47 .u32 l) (e1 : Row W0 (w.heap.size + 1) 49 .u8 (zeros 64)) (hb : Below w.heap.size w W0) (hs : w.heap.size + 2 ≤ W0.heap.size) (o : Obj)
    (ho : o = .cells (ints .u32 (zeros 16)) 47) : MX w w.heap.size (w.heap.size + 1) W0.heap.size l l ((W0.alloc o).setRow W0.heap.size (ints .u32 l)) := by
  subst ho
  exact ⟨(e0.alloc _).farRow (by omega) _, (e1.alloc _).farRow (by omega) _, (Row.new _ _ _ _).put _, below_setRow (hb.alloc hb.size _) hb.size _, by omega⟩
theorem quarter_int (g : Nat) (l : List Int) (hl : l.length = 16) (a b c d : Nat) (ha : a < 16) (hb : b < 16) (hc : c < 16) (hd : d < 16) (a' b' c' d' : Int) (ea : a' = a) (eb : b' = b) (ec : c' = c) (ed : d' = d) (w : World) (hr : Row w g 47 .u32 l) :
    Calls Try.prog 33 #[.pointer (some ⟨g, 0, none⟩), .int .i64 a', .int .i64 b', .int .i64 c', .int .i64 d'] w fun e w' => e = .returned (.tuple #[]) ∧ Row w' g 47 .u32 (quarter l a b c d) ∧ w.grownBy w' (some g) := by
  subst ea eb ec ed
  exact quarter_any g l hl a b c d ha hb hc hd w hr
/-- a word's four bytes into their places -/
def put4 (o : List Int) (i : Nat) (x : Int) : List Int := (((o.set (4 * i) (x % 256)).set (4 * i + 1) (x / 256 % 256)).set (4 * i + 2) (x / 65536 % 256)).set (4 * i + 3) (x / 16777216 % 256)
/-- the bytes of the first words of the sums -/
def outTo (m l : List Int) : Nat → List Int
  | 0 => zeros 64
  | k + 1 => put4 (outTo m l k) k (addU (gi m k) (gi l k))
theorem outTo_len (m l : List Int) (k : Nat) : (outTo m l k).length = 64 := by
  induction k with
  | zero => rfl
  | succ k ih => simp [outTo, put4, ih]
structure MO (w : World) (b0 b1 b2 b6 : Nat) (l m o : List Int) (W : World) : Prop where
  first : Row W b0 47 .u32 l
  res : Row W b1 49 .u8 (zeros 64)
  now : Row W b2 47 .u32 m
  out : Row W b6 49 .u8 o
  below : Below w.heap.size w W
  lo : w.heap.size ≤ b0 ∧ w.heap.size ≤ b1 ∧ w.heap.size ≤ b2 ∧ w.heap.size ≤ b6 ∧ b6 ≠ b0 ∧ b6 ≠ b1 ∧ b6 ≠ b2
theorem MO.start {w W : World} {b0 b1 b2 : Nat} {l m : List Int} (h : MX w b0 b1 b2 l m W) (o : Obj) (ho : o = .cells (ints .u8 (zeros 64)) 49) : MO w b0 b1 b2 W.heap.size l m (zeros 64) (W.alloc o) := by
  subst ho
  have l0 := h.first.lt
  have l1 := h.res.lt
  have l2 := h.now.lt
  have lo := h.lo
  exact ⟨h.first.alloc _, h.res.alloc _, h.now.alloc _, Row.new _ _ _ _, h.below.alloc h.below.size _, by have := h.below.size; omega⟩
theorem MO.drewN {w W : World} {b0 b1 b2 b6 : Nat} {l m o : List Int} (h : MO w b0 b1 b2 b6 l m o W) (n : Nat) : MO w b0 b1 b2 b6 l m o (W.drewN n) := ⟨h.first, h.res, h.now, h.out, below_drewN h.below n, h.lo⟩
theorem MO.store {w W : World} {b0 b1 b2 b6 : Nat} {l m o : List Int} (h : MO w b0 b1 b2 b6 l m o W) (i : Nat) (x : Int) : MO w b0 b1 b2 b6 l m (o.set i x) (W.setCell ⟨b6, i, none⟩ (.int .u8 x)) :=
  ⟨h.first.far (by have := h.lo; simp; omega) _, h.res.far (by have := h.lo; simp; omega) _, h.now.far (by have := h.lo; simp; omega) _, h.out.set_ i x, h.below.setCell h.lo.2.2.2.1 _, h.lo⟩
theorem sz41 (o : List Int) (h : o.length = 64) : (Try.prog.info? 49).map (·.size) = some (ints .u8 o).size := by rw [ints_size, h]; kernel_rfl
theorem sz43 (o : List Int) (h : o.length = 16) : (Try.prog.info? 47).map (·.size) = some (ints .u32 o).size := by rw [ints_size, h]; kernel_rfl
/-- what mixed makes of a block's words -/
def mixF (l : List Int) : List Int := outTo (rounds l 10) l 16
set_option maxRecDepth 100000 in
set_option maxHeartbeats 1000000 in
theorem mixed_any (l : List Int) (hl : l.length = 16) (w : World) :
    Calls Try.prog 21 #[.agg (ints .u32 l)] w fun e w' => e = .returned (.agg (ints .u8 (mixF l))) ∧ Below w.heap.size w w' := by
  have hs : (ints .u32 l).size = 16 := by rw [ints_size, hl]
  go_enter Try.func21, Try.ntmps21
  go_upto_region 1 with fail
  generalize hW : (w.alloc (.cells (ints .u32 l) 47)).alloc _ = W0
  have e0 : Row W0 w.heap.size 47 .u32 l := by rw [← hW]; exact heap_alloc2_old _ _ _
  have e1 : Row W0 (w.heap.size + 1) 49 .u8 (zeros 64) := by rw [← hW]; exact heap_alloc2_new _ _ _
  have e2 : Below w.heap.size w W0 := by rw [← hW]; exact ((Below.refl _ _).alloc (Nat.le_refl _) _).alloc (by simp) _
  have e3 : w.heap.size + 2 ≤ W0.heap.size := by rw [← hW]; simp
  have hM := hide (MX.start w W0 l e0 e1 e2 e3)
  have HE := hide e0
  clear e0 e1 e2 e3
  clear hW
  go_upto_region 2 with (first | (refine wpList_load_row rfl 47 _ rfl _ rfl 47 (ints .u32 l) (0, 0) _ HE.out Try.underlying47 rfl ?_ ?_; (rw [hs]; kernel_rfl)) | (refine wpList_store_row rfl 47 _ _ rfl _ (ints .u32 l) rfl rfl 47 _ (heap_alloc_new _ _) ?_ ?_ (ints_one _ _) ?_; (rw [hs]; kernel_rfl); (rw [hs]; rfl)))
  clear HE
  generalize hW1 : (W0.alloc _).setRow W0.heap.size _ = W1
  replace hM : MX w w.heap.size (w.heap.size + 1) W0.heap.size l l W1 := by rw [← hW1]; exact hM.out _ rfl
  clear hW1
  generalize W0.heap.size = b2 at hM ⊢
  generalize w.heap.size + 1 = b1 at hM ⊢
  obtain ⟨b0, hb0⟩ : ∃ b0, b0 = w.heap.size := ⟨_, rfl⟩
  rw [← hb0] at hM ⊢
  clear hb0 W0
  go_wp2
  go_loopw [10] (fun i W => ∃ k : Nat, k ≤ 10 ∧ i = .int .i64 k ∧ MX w b0 b1 b2 l (rounds l k) W) (fun i _ => 10 - (intOf i).toNat)
  case atStart => exact ⟨0, by omega, rfl, hM⟩
  case round =>
    clear hM
    obtain ⟨k, hk, rfl, hM⟩ := hrel
    by_cases hlt : k < 10
    · have hd : decide ((k : Int) < 10) = true := by simp; omega
      have hlr : (rounds l k).length = 16 := by rw [rounds_len, hl]
      have HL := hide hlr
      clear hlr hl hs
      obtain ⟨m, hm⟩ : ∃ m, m = rounds l k := ⟨_, rfl⟩
      rw [← hm] at hM HL
      have HM := hide hm
      clear hm
      have Q := hide quarter_int
      go_wp2
      go_loopw [12] (fun i W => ∃ j : Nat, j ≤ 4 ∧ i = .int .i64 j ∧ MX w b0 b1 b2 l (cols m j) W) (fun i _ => 4 - (intOf i).toNat)
      case atStart => exact ⟨0, by omega, rfl, hM⟩
      case round =>
        clear hM
        obtain ⟨j, hj, rfl, hM⟩ := hrel
        by_cases hlt2 : j < 4
        · go_wp2_with fail
          refine (Q.out b2 (cols m j) (by rw [cols_len]; exact HL.out) j (4 + j) (8 + j) (12 + j) (by omega) (by omega) (by omega) (by omega) _ _ _ _ (by omega) (by omega) (by omega) (by omega) _ hM.now).mono ?_
          rintro e W ⟨rfl, hr, hg⟩
          have hM2 : MX w b0 b1 b2 l (cols m (j + 1)) W := hM.next hr hg
          clear hr hg hM
          go_wp2
          exact ⟨⟨j + 1, by omega, by go_num, hM2⟩, by simp [intOf]; omega⟩
        · have hj4 : j = 4 := by omega
          rw [hj4] at hM
          clear hj4
          have HL2 : Hid ((cols m 4).length = 16) := by rw [cols_len]; exact HL.out
          obtain ⟨m4, hm4⟩ : ∃ m4, m4 = cols m 4 := ⟨_, rfl⟩
          rw [← hm4] at hM HL2
          have HM4 := hide hm4
          clear hm4
          go_wp2
          go_loopw [24] (fun i W => ∃ j : Nat, j ≤ 4 ∧ i = .int .i64 j ∧ MX w b0 b1 b2 l (diags m4 j) W) (fun i _ => 4 - (intOf i).toNat)
          case atStart => exact ⟨0, by omega, rfl, hM⟩
          case round =>
            clear hM
            obtain ⟨j, hj, rfl, hM⟩ := hrel
            by_cases hlt3 : j < 4
            · go_wp2_with fail
              refine (Q.out b2 (diags m4 j) (by rw [diags_len]; exact HL2.out) j (4 + (j + 1) % 4) (8 + (j + 2) % 4) (12 + (j + 3) % 4) (by omega) (by omega) (by omega) (by omega) _ _ _ _ (by omega) (by omega) (by omega) (by omega) _ hM.now).mono ?_
              rintro e W ⟨rfl, hr, hg⟩
              have hM2 : MX w b0 b1 b2 l (diags m4 (j + 1)) W := hM.next hr hg
              clear hr hg hM
              go_wp2
              exact ⟨⟨j + 1, by omega, by go_num, hM2⟩, by simp [intOf]; omega⟩
            · have hj4 : j = 4 := by omega
              rw [hj4] at hM
              clear hj4
              have hM2 : MX w b0 b1 b2 l (diags (cols m 4) 4) wr := by rw [← HM4.out]; exact hM
              clear hM
              go_wp2
              refine ⟨⟨k + 1, by omega, by go_num, ?_⟩, by simp [intOf]; omega⟩
              have e : rounds l (k + 1) = diags (cols m 4) 4 := by rw [HM.out]; rfl
              rw [e]
              exact hM2
    · have hk10 : k = 10 := by omega
      rw [hk10] at hM
      clear hk10
      obtain ⟨m, hm⟩ : ∃ m, m = rounds l 10 := ⟨_, rfl⟩
      have hml : m.length = 16 := by rw [hm, rounds_len, hl]
      rw [← hm] at hM
      have HM := hide hm
      clear hm
      go_upto_region 16 with fail
      generalize hW2 : wr.alloc _ = W2
      have hO : MO w b0 b1 b2 wr.heap.size l m (outTo m l 0) W2 := by rw [← hW2]; exact MO.start hM _ rfl
      clear hW2 hM
      generalize wr.heap.size = b6 at hO ⊢
      go_wp2
      go_loopw [43] (fun i W => ∃ k : Nat, k ≤ 16 ∧ i = .int .i64 k ∧ MO w b0 b1 b2 b6 l m (outTo m l k) W) (fun i _ => 16 - (intOf i).toNat)
      case atStart => exact ⟨0, by omega, rfl, hO⟩
      case round =>
        clear hO
        obtain ⟨q, hq, rfl, hO⟩ := hrel
        by_cases hlt3 : q < 16
        · have q0 : (0 : Int) ≤ q := by omega
          have q1 : (q : Int) < 16 := by omega
          have c1 := hO.now.at_ (i := q) (by omega)
          have c2 := hO.first.at_ (i := q) (by omega)
          have ol : (outTo m l q).length = 64 := outTo_len m l q
          have d0 := hO.out.at_ (i := 4 * q) (by omega)
          have d1 := hO.out.at_ (i := 4 * q + 1) (by omega)
          have d2 := hO.out.at_ (i := 4 * q + 2) (by omega)
          have d3 := hO.out.at_ (i := 4 * q + 3) (by omega)
          have df := hO.out.free
          have OL := hide ol
          clear ol
          go_wp2_with fail
          go_quiet (fail)
          go_wp2
          refine ⟨⟨q + 1, by omega, by go_num, ?_⟩, by simp [intOf]; omega⟩
          have e0 : (gi m q + gi l q) % 256 = addU (gi m q) (gi l q) % 256 := by unfold addU; omega
          have e3 : (gi m q + gi l q) % 4294967296 / 16777216 = addU (gi m q) (gi l q) / 16777216 % 256 := by unfold addU; omega
          rw [e0, e3]
          exact ((((hO.drewN nq).store _ _).store _ _).store _ _).store _ _
        · have hq16 : q = 16 := by omega
          rw [hq16] at hO
          clear hq16
          have ol : (outTo m l 16).length = 64 := outTo_len m l 16
          have oz : (ints .u8 (outTo m l 16)).size = 64 := by rw [ints_size, ol]
          have HOo := hide hO.out
          have HOr := hide hO.res
          have HB := hide hO.below
          have HLO := hide hO.lo
          clear hO
          obtain ⟨o, ho⟩ : ∃ o, o = outTo m l 16 := ⟨_, rfl⟩
          rw [← ho] at ol oz HOo
          have HOe := hide ho
          clear ho
          have i41 := sz41 o ol
          have z41 : (ints .u8 (zeros 64)).size = (ints .u8 o).size := by rw [oz]; rfl
          have I41 := hide i41
          have Z41 := hide z41
          clear i41 z41 oz ol hs
          go_upto_region 22 with fail
          go_wp2_with (first | (refine wpList_load_row rfl 49 _ rfl _ rfl 49 (ints .u8 o) (0, 0) _ HOo.out Try.underlying49 rfl I41.out ?_) | (refine wpList_store_row rfl 49 _ _ rfl _ (ints .u8 o) rfl rfl 49 _ HOr.out I41.out Z41.out (ints_one _ _) ?_))
          refine bodyPost_ret (v := .agg (ints .u8 o)) (results_cell_row Try.results21 _ _ b1 49 (ints .u8 o) (0, 0) _ rfl (Row.put HOr.out _) Try.underlying49 rfl I41.out) rfl ⟨by rw [HOe.out, HM.out]; rfl, below_setRow HB.out HLO.out.2.1 _⟩
end

section
open Go.RowKit
/-- four bytes as a word, the lowest first, as the text reckons it -/
def word4 (a b c d : Int) : Int := bits .or .u32 (bits .or .u32 (bits .or .u32 a (b * 256)) (c * 65536)) (d * 16777216)
theorem word_any (s : ByteArray) (h : 4 ≤ s.size) (w : World) :
    Calls Try.prog 32 #[.string s] w fun e w' => e = .returned (.int .u32 (word4 (gb s 0) (gb s 1) (gb s 2) (gb s 3))) ∧ ∃ n, w' = w.drewN n := by
  have i0 : ∀ W : World, (Instr.index 9 (.string s) (.int .i64 0)).run Try.prog W = .ok (.int .u8 (gb s 0)) W := fun W => index_str W 9 .i64 s 0 Try.underlying9 (by omega)
  have i1 : ∀ W : World, (Instr.index 9 (.string s) (.int .i64 1)).run Try.prog W = .ok (.int .u8 (gb s 1)) W := fun W => index_str W 9 .i64 s 1 Try.underlying9 (by omega)
  have i2 : ∀ W : World, (Instr.index 9 (.string s) (.int .i64 2)).run Try.prog W = .ok (.int .u8 (gb s 2)) W := fun W => index_str W 9 .i64 s 2 Try.underlying9 (by omega)
  have i3 : ∀ W : World, (Instr.index 9 (.string s) (.int .i64 3)).run Try.prog W = .ok (.int .u8 (gb s 3)) W := fun W => index_str W 9 .i64 s 3 Try.underlying9 (by omega)
  have b0 := gb_bd s 0
  have b1 := gb_bd s 1
  have b2 := gb_bd s 2
  have b3 := gb_bd s 3
  clear h
  go_enter Try.func32, Try.ntmps32
  go_wp2_with fail
  go_quiet (fail)
  go_wp2
  go_ret
  exact ⟨rfl, nq, rfl⟩

def kword (kb : List Int) (i : Nat) : Int := word4 (gi kb (4 * i)) (gi kb (4 * i + 1)) (gi kb (4 * i + 2)) (gi kb (4 * i + 3))
def begK (kb : List Int) : Nat → List Int
  | 0 => [1634760805, 857760878, 2036477234, 1797285236, 0, 0, 0, 0, 0, 0, 0, 0, 0, 0, 0, 0]
  | k + 1 => (begK kb k).set (4 + k) (kword kb k)
/-- what begin keeps: the key, the result's cells, the words -/
structure BG (w : World) (b0 b1 b2 : Nat) (kb l : List Int) (W : World) : Prop where
  key : Row W b0 23 .u8 kb
  res : Row W b1 47 .u32 (zeros 16)
  now : Row W b2 47 .u32 l
  below : Below w.heap.size w W
  lo : w.heap.size ≤ b0 ∧ w.heap.size ≤ b1 ∧ w.heap.size ≤ b2 ∧ b2 ≠ b0 ∧ b2 ≠ b1
theorem BG.next {w W W' : World} {b0 b1 b2 : Nat} {kb l l' : List Int} (h : BG w b0 b1 b2 kb l W) (hr : Row W' b2 47 .u32 l') (hg : W.grownBy W' (some b2)) : BG w b0 b1 b2 kb l' W' :=
  ⟨h.key.away hg (by have := h.lo; omega), h.res.away hg (by have := h.lo; omega), hr, below_of_grown h.below hg h.below.size h.lo.2.2.1, h.lo⟩
theorem BG.drewN {w W : World} {b0 b1 b2 : Nat} {kb l : List Int} (h : BG w b0 b1 b2 kb l W) (n : Nat) : BG w b0 b1 b2 kb l (W.drewN n) := ⟨h.key, h.res, h.now, below_drewN h.below n, h.lo⟩
theorem BG.store {w W : World} {b0 b1 b2 : Nat} {kb l : List Int} (h : BG w b0 b1 b2 kb l W) (i : Nat) (x : Int) : BG w b0 b1 b2 kb (l.set i x) (W.setCell ⟨b2, i, none⟩ (.int .u32 x)) :=
  h.next (h.now.set_ i x) (Row.grown_set _ _ _ _)
theorem BG.start (w : World) (kb : List Int) (o1 o2 : Obj) (h1 : o1 = .cells (ints .u32 (zeros 16)) 47) (h2 : o2 = .cells (ints .u32 (begK kb 0)) 47) :
    BG w w.heap.size (w.heap.size + 1) (w.heap.size + 1 + 1) kb (begK kb 0) (((w.alloc (.cells (ints .u8 kb) 23)).alloc o1).alloc o2) := by
  subst h1 h2
  exact ⟨heap_at0 _ _ _ _, heap_at1 _ _ _ _, heap_at2 _ _ _ _, (((Below.refl _ _).alloc (Nat.le_refl _) _).alloc (by simp) _).alloc (by simp only [World.size_alloc]; omega) _, by omega⟩
theorem begK_len (kb : List Int) (k : Nat) : (begK kb k).length = 16 := by
  induction k with
  | zero => rfl
  | succ k ih => simp [begK, ih]
def nword (s : ByteArray) (i : Nat) : Int := word4 (gb s (4 * i)) (gb s (4 * i + 1)) (gb s (4 * i + 2)) (gb s (4 * i + 3))
def begN (s : ByteArray) (l : List Int) : Nat → List Int
  | 0 => l
  | k + 1 => (begN s l k).set (13 + k) (nword s k)
theorem begN_len (s : ByteArray) (l : List Int) (k : Nat) : (begN s l k).length = l.length := by
  induction k with
  | zero => rfl
  | succ k ih => simp [begN, ih]
/-- a block's words ahead of all rounds -/
def beginF (kb : List Int) (s : ByteArray) (ct : Int) : List Int := begN s ((begK kb 8).set 12 ct) 3
theorem key_slice (b0 k : Nat) (hlt : k < 8) (W : World) : (Instr.sliceAt 23 (.pointer (some ⟨b0, 0, none⟩)) (some (.int .i64 (4 * (k : Int)))) (some (.int .i64 (4 * (k : Int) + 4))) none).run Try.prog W = .ok (.slice (some ⟨b0, 4 * k, none⟩) 4 (32 - 4 * k)) W := by
  obtain ⟨i, hi, h1⟩ : ∃ i, Try.prog.info? 5 = some i ∧ i.size = 1 := ⟨_, rfl, by kernel_rfl⟩
  have h := slice_row W 23 5 32 i Try.underlying23 hi h1 .i64 .i64 b0 (4 * k) (4 * k + 4) _ _ rfl rfl (by omega) (by omega) (by omega)
  rw [show 4 * k + 4 - 4 * k = 4 by omega] at h
  exact h
set_option maxRecDepth 100000 in
set_option maxHeartbeats 400000 in
theorem begin_any (kb : List Int) (hk : kb.length = 32) (hkb : Bytes kb) (s : ByteArray) (hs : s.size = 12) (ct : Int) (w : World) :
    Calls Try.prog 20 #[.agg (ints .u8 kb), .string s, .int .u32 ct] w fun e w' => e = .returned (.agg (ints .u32 (beginF kb s ct))) ∧ Below w.heap.size w w' := by
  have WA := hide word_any
  have HS := hide hs
  have HK := hide hk
  clear hs hk
  go_enter Try.func20, Try.ntmps20
  go_upto_region 2 with fail
  generalize hW : ((w.alloc (.cells (ints .u8 kb) 23)).alloc _).alloc _ = W1
  have hB : BG w w.heap.size (w.heap.size + 1) (w.heap.size + 1 + 1) kb (begK kb 0) W1 := by rw [← hW]; exact BG.start w kb _ _ rfl rfl
  clear hW
  generalize w.heap.size + 1 + 1 = b2 at hB ⊢
  generalize w.heap.size + 1 = b1 at hB ⊢
  obtain ⟨b0, hb0⟩ : ∃ b0, b0 = w.heap.size := ⟨_, rfl⟩
  rw [← hb0] at hB ⊢
  clear hb0
  go_wp2
  go_loopw [11] (fun i W => ∃ k : Nat, k ≤ 8 ∧ i = .int .i64 k ∧ BG w b0 b1 b2 kb (begK kb k) W) (fun i _ => 8 - (intOf i).toNat)
  case atStart => exact ⟨0, by omega, rfl, hB⟩
  case round =>
    clear hB
    obtain ⟨k, hk, rfl, hB⟩ := hrel
    by_cases hlt : k < 8
    · have sl : ∀ W : World, (Instr.sliceAt 23 (.pointer (some ⟨b0, 0, none⟩)) (some (.int .i64 (4 * (k : Int)))) (some (.int .i64 (4 * (k : Int) + 4))) none).run Try.prog W = .ok (.slice (some ⟨b0, 4 * k, none⟩) 4 (32 - 4 * k)) W := fun W => key_slice b0 k hlt W
      have cv : (convert 38 9 (.slice (some ⟨b0, 4 * k, none⟩) 4 (32 - 4 * k))).run Try.prog wr = .ok (.string (strOfNums (part kb (4 * k) 4))) wr :=
        conv_row wr hB.key Try.underlying38 Try.underlying5 Try.underlying9 (4 * k) 4 _ (by rw [HK.out]; omega)
      go_wp2_with fail
      refine (WA.out _ (by rw [snum_size, part_len kb (4 * k) 4 (by rw [HK.out]; omega)]; omega) _).mono ?_
      rw [gb_nums _ (bytes_part hkb _ _ (by rw [HK.out]; omega)) 0 (by rw [part_len kb (4 * k) 4 (by rw [HK.out]; omega)]; omega), gb_nums _ (bytes_part hkb _ _ (by rw [HK.out]; omega)) 1 (by rw [part_len kb (4 * k) 4 (by rw [HK.out]; omega)]; omega),
        gb_nums _ (bytes_part hkb _ _ (by rw [HK.out]; omega)) 2 (by rw [part_len kb (4 * k) 4 (by rw [HK.out]; omega)]; omega), gb_nums _ (bytes_part hkb _ _ (by rw [HK.out]; omega)) 3 (by rw [part_len kb (4 * k) 4 (by rw [HK.out]; omega)]; omega),
        gi_part _ _ _ _ (by omega), gi_part _ _ _ _ (by omega), gi_part _ _ _ _ (by omega), gi_part _ _ _ _ (by omega)]
      rintro e W ⟨rfl, nn, rfl⟩
      have hB2 : BG w b0 b1 b2 kb (begK kb (k + 1)) ((wr.drewN nn).setCell ⟨b2, 4 + k, none⟩ (.int .u32 (kword kb k))) := (hB.drewN nn).store (4 + k) (kword kb k)
      have HB2 := hide hB2
      have c := (hB.drewN nn).now.at_ (i := 4 + k) (by rw [begK_len]; omega)
      have f := (hB.drewN nn).now.free (4 + k)
      have z0 : (0 : Int) ≤ 4 + k := by omega
      have z1 : (4 + k : Int) < 16 := by omega
      clear sl cv hB hB2
      go_wp2
      exact ⟨⟨k + 1, by omega, by go_num, HB2.out⟩, by simp [intOf]; omega⟩
    · have hk8 : k = 8 := by omega
      rw [hk8] at hB
      clear hk8
      have hC := hide (hB.store 12 ct)
      have c := hB.now.at_ (i := 12) (by rw [begK_len]; omega)
      have f := hB.now.free 12
      have NL : Hid (((begK kb 8).set 12 ct).length = 16) := by show _ = _; rw [List.length_set, begK_len]
      clear hB
      go_wp2
      clear c f
      generalize wr.setCell ⟨b2, 12, none⟩ (.int .u32 ct) = W2 at hC ⊢
      obtain ⟨lc, hlc⟩ : ∃ lc, lc = (begK kb 8).set 12 ct := ⟨_, rfl⟩
      rw [← hlc] at hC NL
      have HLC := hide hlc
      clear hlc
      go_loopw [28] (fun i W => ∃ k : Nat, k ≤ 3 ∧ i = .int .i64 k ∧ BG w b0 b1 b2 kb (begN s lc k) W) (fun i _ => 3 - (intOf i).toNat)
      case atStart => exact ⟨0, by omega, rfl, hC.out⟩
      case round =>
        clear hC
        obtain ⟨q, hq, rfl, hB⟩ := hrel
        by_cases hlt3 : q < 3
        · have hs4 : 4 * (q : Int) ≤ s.size := by rw [HS.out]; omega
          go_wp2_with fail
          have es : s.size ≤ s.size := by omega
          refine (WA.out _ (by rw [ByteArray.size_extract, HS.out]; omega) _).mono ?_
          rw [gb_extract _ _ _ _ (by rw [HS.out]; omega) es, gb_extract _ _ _ _ (by rw [HS.out]; omega) es, gb_extract _ _ _ _ (by rw [HS.out]; omega) es, gb_extract _ _ _ _ (by rw [HS.out]; omega) es]
          rintro e W ⟨rfl, nn, rfl⟩
          have hB2 : BG w b0 b1 b2 kb (begN s lc (q + 1)) ((wr.drewN nn).setCell ⟨b2, 13 + q, none⟩ (.int .u32 (nword s q))) := (hB.drewN nn).store (13 + q) (nword s q)
          have HB2 := hide hB2
          have c := (hB.drewN nn).now.at_ (i := 13 + q) (by rw [begN_len, NL.out]; omega)
          have f := (hB.drewN nn).now.free (13 + q)
          have z0 : (0 : Int) ≤ 13 + q := by omega
          have z1 : (13 + q : Int) < 16 := by omega
          clear hB hB2 es
          go_wp2
          exact ⟨⟨q + 1, by omega, by go_num, HB2.out⟩, by simp [intOf]; omega⟩
        · have hq3 : q = 3 := by omega
          rw [hq3] at hB
          clear hq3
          obtain ⟨o, ho⟩ : ∃ o, o = begN s lc 3 := ⟨_, rfl⟩
          have ol : o.length = 16 := by rw [ho, begN_len, NL.out]
          rw [← ho] at hB
          have HO := hide ho
          have I43 := hide (sz43 o ol)
          have Z43 : Hid ((ints .u32 (zeros 16)).size = (ints .u32 o).size) := by show _ = _; rw [ints_size, ints_size, ol]; rfl
          have HN := hide hB.now
          have HRs := hide hB.res
          have HBl := hide hB.below
          have HLo := hide hB.lo
          clear ho ol hB
          go_upto_region 13 with fail
          go_wp2_with (first | (refine wpList_load_row rfl 47 _ rfl _ rfl 47 (ints .u32 o) (0, 0) _ HN.out Try.underlying47 rfl I43.out ?_) | (refine wpList_store_row rfl 47 _ _ rfl _ (ints .u32 o) rfl rfl 47 _ HRs.out I43.out Z43.out (ints_one _ _) ?_))
          refine bodyPost_ret (v := .agg (ints .u32 o)) (results_cell_row Try.results20 _ _ b1 47 (ints .u32 o) (0, 0) _ rfl (Row.put HRs.out _) Try.underlying47 rfl I43.out) rfl ⟨by rw [HO.out, HLC.out]; rfl, below_setRow HBl.out HLo.out.2.1 _⟩
end

section
open Go.RowKit
theorem mixF_len (l : List Int) : (mixF l).length = 64 := outTo_len _ _ _
theorem beginF_len (kb : List Int) (s : ByteArray) (ct : Int) : (beginF kb s ct).length = 16 := by rw [beginF, begN_len, List.length_set, begK_len]
theorem all_slice (b : Nat) (W : World) : (Instr.sliceAt 49 (.pointer (some ⟨b, 0, none⟩)) none none none).run Try.prog W = .ok (.slice (some ⟨b, 0, none⟩) 64 64) W := by
  obtain ⟨i, hi, h1⟩ : ∃ i, Try.prog.info? 5 = some i ∧ i.size = 1 := ⟨_, rfl, by kernel_rfl⟩
  exact slice_all W 49 5 64 i Try.underlying49 hi h1 b (by omega)
set_option maxRecDepth 100000 in
set_option maxHeartbeats 600000 in
theorem block_any (kb : List Int) (hk : kb.length = 32) (hkb : Bytes kb) (s : ByteArray) (hs : s.size = 12) (ct : Int) (w : World) :
    Calls Try.prog 22 #[.agg (ints .u8 kb), .string s, .int .u32 ct] w fun e w' => e = .returned (.tuple #[.string (strOfNums (mixF (beginF kb s ct))), .int .i64 0]) ∧ Below w.heap.size w w' := by
  have B := hide (begin_any kb hk hkb s hs ct)
  have M := hide (mixed_any (beginF kb s ct) (beginF_len _ _ _))
  obtain ⟨o, ho⟩ : ∃ o, o = mixF (beginF kb s ct) := ⟨_, rfl⟩
  have ol : o.length = 64 := by rw [ho, mixF_len]
  rw [← ho] at M ⊢
  have I41 := hide (sz41 o ol)
  have K23 : Hid ((Try.prog.info? 23).map (·.size) = some (ints .u8 kb).size) := by show _ = _; rw [ints_size, hk]; kernel_rfl
  have Z41 : Hid ((ints .u8 (zeros 64)).size = (ints .u8 o).size) := by show _ = _; rw [ints_size, ints_size, ol]; rfl
  have hr0 : Row (w.alloc (.cells (ints .u8 kb) 23)) w.heap.size 23 .u8 kb := Row.new _ _ _ _
  have HR0 := hide hr0
  have OL := hide ol
  have hs' : (s.size : Int) = 12 := by omega
  clear ho ol hk hr0 hs
  go_enter Try.func22, Try.ntmps22
  go_wp2_with (first | (refine wpList_load_row rfl 23 _ rfl _ rfl 23 (ints .u8 kb) (0, 0) _ HR0.out Try.underlying23 rfl K23.out ?_))
  refine (B.out _).mono ?_
  rintro e W1 ⟨rfl, hb1⟩
  go_wp2_with fail
  refine (M.out _).mono ?_
  rintro e W2 ⟨rfl, hb2⟩
  have hB : Below w.heap.size w W2 := (((Below.refl _ _).alloc (Nat.le_refl _) _).trans (hb1.mono (by simp))).trans (hb2.mono (by have := hb1.size; simp at this; omega))
  clear hb1 hb2
  have sl : ∀ W : World, (Instr.sliceAt 49 (.pointer (some ⟨W2.heap.size, 0, none⟩)) none none none).run Try.prog W = .ok (.slice (some ⟨W2.heap.size, 0, none⟩) 64 64) W := fun W => all_slice W2.heap.size W
  have cv : ∀ cs : Array Value, (convert 38 9 (.slice (some ⟨W2.heap.size, 0, none⟩) 64 64)).run Try.prog ((W2.alloc (.cells cs 49)).setRow W2.heap.size (ints .u8 o)) = .ok (.string (strOfNums o)) ((W2.alloc (.cells cs 49)).setRow W2.heap.size (ints .u8 o)) := fun cs => by
    exact conv_all _ (setRow_heap (W2.alloc (.cells cs 49)) W2.heap.size _ _ 49 _ (heap_alloc_new _ _)) Try.underlying38 Try.underlying5 Try.underlying9 64 64 OL.out
  go_wp2_with (first | (refine wpList_store_row rfl 49 _ _ rfl _ (ints .u8 o) rfl rfl 49 _ (heap_alloc_new _ _) I41.out Z41.out (ints_one _ _) ?_))
  go_ret2
  exact ⟨rfl, below_setRow (hB.alloc hB.size _) hB.size _⟩

set_option maxHeartbeats 400000 in
theorem block_no (kb : List Int) (s : ByteArray) (hs : s.size ≠ 12) (ct : Int) (w : World) :
    Calls Try.prog 22 #[.agg (ints .u8 kb), .string s, .int .u32 ct] w fun e w' => e = .returned (.tuple #[.string ByteArray.empty, .int .i64 1]) ∧ Below w.heap.size w w' := by
  have hs' : ((s.size : Int) == 12) = false := by simp; omega
  clear hs
  go_enter Try.func22, Try.ntmps22
  go_wp2
  go_ret2
  exact ⟨rfl, (Below.refl _ _).alloc (Nat.le_refl _) _⟩
end
end Go.Proofs.Ytjfjakighnibpaa.St
