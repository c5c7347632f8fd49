/-
  ClockLattice, by the statement text: true for every three clocks; what was there stays.
-/
import Derived.Test.YtiionogafaegkaaClkMath
import Derived.Test.YtiionogafaegkaaAlive
import Derived.Deep.DeepCutAuto
namespace Go.Proofs.Ytiionogafaegkaa
open Go.RowKit
/-- the statement's four clocks in memory -/
structure CL (w : World) (a b c j : Nat → Int) (n : Nat) (X : World) : Prop where
  b0 : X.heap[w.heap.size]? = some (.cells (cl a) 27 (0, 0))
  b1 : X.heap[w.heap.size + 1]? = some (.cells (cl b) 27 (0, 0))
  b2 : X.heap[w.heap.size + 1 + 1]? = some (.cells (cl c) 27 (0, 0))
  b3 : X.heap[n]? = some (.cells (cl j) 27 (0, 0))
  below : Below w.heap.size w X
  size : w.heap.size + 3 ≤ X.heap.size
  sizen : n < X.heap.size
theorem CL.next {w X X' : World} {a b c j : Nat → Int} {n : Nat} (h : CL w a b c j n X) (hb : Below X.heap.size X X') : CL w a b c j n X' :=
  ⟨(hb.block _ (by have := h.size; omega)).trans h.b0, (hb.block _ (by have := h.size; omega)).trans h.b1, (hb.block _ (by have := h.size; omega)).trans h.b2, (hb.block _ h.sizen).trans h.b3,
   h.below.trans (hb.mono (by have := h.size; omega)), by have := h.size; have := hb.size; omega, by have := h.sizen; have := hb.size; omega⟩
theorem CL.alloc {w X : World} {a b c j : Nat → Int} {n : Nat} (h : CL w a b c j n X) (o : Obj) : CL w a b c j n (X.alloc o) := h.next ((Below.refl _ _).alloc (Nat.le_refl _) o)
theorem CL.drew {w X : World} {a b c j : Nat → Int} {n : Nat} (h : CL w a b c j n X) : CL w a b c j n X.drew := ⟨h.b0, h.b1, h.b2, h.b3, h.below.drew, h.size, h.sizen⟩
theorem CL.start (w X : World) (a b c : Nat → Int) (hb : Below (((w.alloc (.cells (cl a) 27)).alloc (.cells (cl b) 27)).alloc (.cells (cl c) 27)).heap.size (((w.alloc (.cells (cl a) 27)).alloc (.cells (cl b) 27)).alloc (.cells (cl c) 27)) X) : CL w a b c a w.heap.size X := by
  have h0 : CL w a b c a w.heap.size (((w.alloc (.cells (cl a) 27)).alloc (.cells (cl b) 27)).alloc (.cells (cl c) 27)) :=
    ⟨(Below.heap_alloc _ _ _ (by simp only [World.size_alloc]; omega)).trans (heap_alloc2_old _ _ _), (Below.heap_alloc _ _ _ (by simp only [World.size_alloc]; omega)).trans (heap_alloc2_new _ _ _),
     by have := heap_alloc_new ((w.alloc (.cells (cl a) 27)).alloc (.cells (cl b) 27)) (.cells (cl c) 27); simpa using this,
     (Below.heap_alloc _ _ _ (by simp only [World.size_alloc]; omega)).trans (heap_alloc2_old _ _ _),
     (((Below.refl _ _).alloc (Nat.le_refl _) _).alloc (by simp) _).alloc (by simp; omega) _, by simp only [World.size_alloc]; omega, by simp only [World.size_alloc]; omega⟩
  exact h0.next hb
theorem CL.last {w X : World} {a b c i j : Nat → Int} {n : Nat} (h : CL w a b c i n X) : CL w a b c j X.heap.size (X.alloc (.cells (cl j) 27)) :=
  have h' := h.alloc (.cells (cl j) 27)
  ⟨h'.b0, h'.b1, h'.b2, heap_alloc_new _ _, h'.below, h'.size, by simp⟩

theorem most_t {f g : Nat → Int} {r : Bool} (h : mostB f g = r) (W : World) : Calls Try.prog 26 #[.agg #[.int .u32 (f 0), .int .u32 (f 1), .int .u32 (f 2), .int .u32 (f 3), .int .u32 (f 4), .int .u32 (f 5), .int .u32 (f 6), .int .u32 (f 7)], .agg #[.int .u32 (g 0), .int .u32 (g 1), .int .u32 (g 2), .int .u32 (g 3), .int .u32 (g 4), .int .u32 (g 5), .int .u32 (g 6), .int .u32 (g 7)]] W fun e w' => e = .returned (.bool r) ∧ Below W.heap.size W w' := by
  subst h; exact most_any f g W
theorem join_t {f g r : Nat → Int} (h : join2 f g = r) (b : Nat) (X : World) (hX : X.heap[b]? = some (.cells #[.int .u32 (f 0), .int .u32 (f 1), .int .u32 (f 2), .int .u32 (f 3), .int .u32 (f 4), .int .u32 (f 5), .int .u32 (f 6), .int .u32 (f 7), .int .u32 (g 0), .int .u32 (g 1), .int .u32 (g 2), .int .u32 (g 3), .int .u32 (g 4), .int .u32 (g 5), .int .u32 (g 6), .int .u32 (g 7)] 27 (0, 0))) :
    Calls Try.prog 19 #[.slice (some ⟨b, 0, none⟩) 2 2] X fun e w' => e = .returned (.agg #[.int .u32 (r 0), .int .u32 (r 1), .int .u32 (r 2), .int .u32 (r 3), .int .u32 (r 4), .int .u32 (r 5), .int .u32 (r 6), .int .u32 (r 7)]) ∧ Below X.heap.size X w' := by
  subst h; exact join_row f g b _ X hX rfl
theorem eq_t {f g : Nat → Int} {r : Bool} (h : (fl f == fl g) = r) (W : World) : (Op.equalIn 10000 27 (.agg #[.int .u32 (f 0), .int .u32 (f 1), .int .u32 (f 2), .int .u32 (f 3), .int .u32 (f 4), .int .u32 (f 5), .int .u32 (f 6), .int .u32 (f 7)]) (.agg #[.int .u32 (g 0), .int .u32 (g 1), .int .u32 (g 2), .int .u32 (g 3), .int .u32 (g 4), .int .u32 (g 5), .int .u32 (g 6), .int .u32 (g 7)])).run Try.prog W = .ok r W := by
  subst h; exact eqIn_clk f g W
theorem heap_new_drew (w : World) (o : Obj) : ((w.alloc o).drew).heap[w.heap.size]? = some o := heap_alloc_new w o

set_option maxRecDepth 100000 in
set_option maxHeartbeats 4000000 in
theorem lattice_walk (a b c : Nat → Int) (ha : U32' a) (hb : U32' b) (w : World) :
    Calls Try.prog 6 #[.agg (cl a), .agg (cl b), .agg (cl c)] w fun e w' => e = .returned (.bool true) ∧ Below w.heap.size w w' := by
  obtain ⟨j, hj⟩ : ∃ j, join2 a b = j := ⟨_, rfl⟩
  have hju : U32' j := hj ▸ join2_u32 ha
  have Jab := hide (join_t hj)
  have Maj := hide (most_t (hj ▸ L1 a b ha))
  have Mbj := hide (most_t (hj ▸ L2 a b ha hb))
  obtain ⟨k, hk⟩ : ∃ k, join2 b c = k := ⟨_, rfl⟩
  obtain ⟨m, hm⟩ : ∃ m, join2 j c = m := ⟨_, rfl⟩
  have Jjc := hide (join_t hm)
  have Jbc := hide (join_t hk)
  have Jak := hide (join_t (f := a) (g := k) (r := m) (by rw [← hk, ← hm, ← hj, L3 a b c ha hb]))
  have Jba := hide (join_t (f := b) (g := a) (r := j) (by rw [← hj, L4 a b ha hb]))
  have Qm := eq_t (f := m) (g := m) (r := true) (by simp)
  have Qj := eq_t (f := j) (g := j) (r := true) (by simp)
  have Maa := hide (most_t (L8 a ha))
  have Mac := hide (most_t (f := a) (g := c) rfl)
  have Mbc := hide (most_t (f := b) (g := c) rfl)
  have Mjc := hide (most_t (f := j) (g := c) rfl)
  have Mab := hide (most_t (f := a) (g := b) rfl)
  have Mba := hide (most_t (f := b) (g := a) rfl)
  have h5 : mostB a c = true → mostB b c = true → mostB j c = true := hj ▸ L5 a b c ha hb
  have h6 : mostB a b = true → mostB b c = true → mostB a c = true := L6 a b c ha hb
  have Qab := eq_t (f := a) (g := b) rfl
  have h7 : mostB a b = true → mostB b a = true → (fl a == fl b) = true := fun x y => by simpa using L7 a b ha hb x y
  have H5 := hide h5
  have H6 := hide h6
  have H7 := hide h7
  clear hj hk hm ha hb hju h5 h6 h7
  generalize mostB a c = mac at *
  generalize mostB b c = mbc at *
  generalize mostB j c = mjc at *
  generalize mostB a b = mab at *
  generalize mostB b a = mba at *
  generalize (fl a == fl b) = eab at *
  simp only [cl]
  go_enter Try.func6, Try.ntmps6
  go_wp2_with fail
  refine (alive_any _).mono ?_
  rintro e X ⟨rfl, hb1⟩
  have hA := CL.start w X a b c hb1
  clear hb1
  obtain ⟨n, hn⟩ : ∃ n, n = w.heap.size := ⟨_, rfl⟩
  rw [← hn] at hA
  clear hn
  obtain ⟨p0, p1, p2, p3, p4, p5, p6, p7⟩ := cells8 hA.b0
  obtain ⟨q0, q1, q2, q3, q4, q5, q6, q7⟩ := cells8 hA.b1
  go_wp2_with fail
  refine (Jab.out _ _ (heap_alloc_new _ _)).mono ?_
  rintro e X2 ⟨rfl, hb2⟩
  clear p0 p1 p2 p3 p4 p5 p6 p7 q0 q1 q2 q3 q4 q5 q6 q7
  replace hA := ((hA.alloc _).next hb2).last (j := j)
  clear hb2
  go_upto_region 4 with fail
  replace hA : CL w a b c j X2.heap.size (X2.alloc (.cells #[.int .u32 (j 0), .int .u32 (j 1), .int .u32 (j 2), .int .u32 (j 3), .int .u32 (j 4), .int .u32 (j 5), .int .u32 (j 6), .int .u32 (j 7)] 27)) := hA
  generalize X2.heap.size = n at hA ⊢
  generalize X2.alloc _ = X3 at hA ⊢
  obtain ⟨p0, p1, p2, p3, p4, p5, p6, p7⟩ := cells8 hA.b0; obtain ⟨q0, q1, q2, q3, q4, q5, q6, q7⟩ := cells8 hA.b1; obtain ⟨r0, r1, r2, r3, r4, r5, r6, r7⟩ := cells8 hA.b2; obtain ⟨s0, s1, s2, s3, s4, s5, s6, s7⟩ := cells8 hA.b3
  go_cut [45] (fun s45 wx => s45 = .bool false ∧ CL w a b c j n wx)
  case first =>
    go_region_held3 (fun w' => w'.cell? ⟨w.heap.size, 0, none⟩ = some (.int .u32 (a 0)) ∧ w'.cell? ⟨w.heap.size, 1, none⟩ = some (.int .u32 (a 1)) ∧ w'.cell? ⟨w.heap.size, 2, none⟩ = some (.int .u32 (a 2)) ∧ w'.cell? ⟨w.heap.size, 3, none⟩ = some (.int .u32 (a 3)) ∧ w'.cell? ⟨w.heap.size, 4, none⟩ = some (.int .u32 (a 4)) ∧ w'.cell? ⟨w.heap.size, 5, none⟩ = some (.int .u32 (a 5)) ∧ w'.cell? ⟨w.heap.size, 6, none⟩ = some (.int .u32 (a 6)) ∧ w'.cell? ⟨w.heap.size, 7, none⟩ = some (.int .u32 (a 7)) ∧ w'.cell? ⟨w.heap.size + 1, 0, none⟩ = some (.int .u32 (b 0)) ∧ w'.cell? ⟨w.heap.size + 1, 1, none⟩ = some (.int .u32 (b 1)) ∧ w'.cell? ⟨w.heap.size + 1, 2, none⟩ = some (.int .u32 (b 2)) ∧ w'.cell? ⟨w.heap.size + 1, 3, none⟩ = some (.int .u32 (b 3)) ∧ w'.cell? ⟨w.heap.size + 1, 4, none⟩ = some (.int .u32 (b 4)) ∧ w'.cell? ⟨w.heap.size + 1, 5, none⟩ = some (.int .u32 (b 5)) ∧ w'.cell? ⟨w.heap.size + 1, 6, none⟩ = some (.int .u32 (b 6)) ∧ w'.cell? ⟨w.heap.size + 1, 7, none⟩ = some (.int .u32 (b 7)) ∧ w'.cell? ⟨w.heap.size + 1 + 1, 0, none⟩ = some (.int .u32 (c 0)) ∧ w'.cell? ⟨w.heap.size + 1 + 1, 1, none⟩ = some (.int .u32 (c 1)) ∧ w'.cell? ⟨w.heap.size + 1 + 1, 2, none⟩ = some (.int .u32 (c 2)) ∧ w'.cell? ⟨w.heap.size + 1 + 1, 3, none⟩ = some (.int .u32 (c 3)) ∧ w'.cell? ⟨w.heap.size + 1 + 1, 4, none⟩ = some (.int .u32 (c 4)) ∧ w'.cell? ⟨w.heap.size + 1 + 1, 5, none⟩ = some (.int .u32 (c 5)) ∧ w'.cell? ⟨w.heap.size + 1 + 1, 6, none⟩ = some (.int .u32 (c 6)) ∧ w'.cell? ⟨w.heap.size + 1 + 1, 7, none⟩ = some (.int .u32 (c 7)) ∧ w'.cell? ⟨n, 0, none⟩ = some (.int .u32 (j 0)) ∧ w'.cell? ⟨n, 1, none⟩ = some (.int .u32 (j 1)) ∧ w'.cell? ⟨n, 2, none⟩ = some (.int .u32 (j 2)) ∧ w'.cell? ⟨n, 3, none⟩ = some (.int .u32 (j 3)) ∧ w'.cell? ⟨n, 4, none⟩ = some (.int .u32 (j 4)) ∧ w'.cell? ⟨n, 5, none⟩ = some (.int .u32 (j 5)) ∧ w'.cell? ⟨n, 6, none⟩ = some (.int .u32 (j 6)) ∧ w'.cell? ⟨n, 7, none⟩ = some (.int .u32 (j 7))) (first | go_keep | exact ⟨p0, p1, p2, p3, p4, p5, p6, p7, q0, q1, q2, q3, q4, q5, q6, q7, r0, r1, r2, r3, r4, r5, r6, r7, s0, s1, s2, s3, s4, s5, s6, s7⟩)
      (first
        | (go_at_call 26; with_reducible refine (Maj.out _).mono ?_; rintro e X ⟨rfl, hb⟩; replace hA := hA.drew.next hb; clear hb; clear p0 p1 p2 p3 p4 p5 p6 p7 q0 q1 q2 q3 q4 q5 q6 q7 r0 r1 r2 r3 r4 r5 r6 r7 s0 s1 s2 s3 s4 s5 s6 s7; obtain ⟨p0, p1, p2, p3, p4, p5, p6, p7⟩ := cells8 hA.b0; obtain ⟨q0, q1, q2, q3, q4, q5, q6, q7⟩ := cells8 hA.b1; obtain ⟨r0, r1, r2, r3, r4, r5, r6, r7⟩ := cells8 hA.b2; obtain ⟨s0, s1, s2, s3, s4, s5, s6, s7⟩ := cells8 hA.b3)
        | (go_at_call 26; with_reducible refine (Mbj.out _).mono ?_; rintro e X ⟨rfl, hb⟩; replace hA := hA.next hb; clear hb; clear p0 p1 p2 p3 p4 p5 p6 p7 q0 q1 q2 q3 q4 q5 q6 q7 r0 r1 r2 r3 r4 r5 r6 r7 s0 s1 s2 s3 s4 s5 s6 s7; obtain ⟨p0, p1, p2, p3, p4, p5, p6, p7⟩ := cells8 hA.b0; obtain ⟨q0, q1, q2, q3, q4, q5, q6, q7⟩ := cells8 hA.b1; obtain ⟨r0, r1, r2, r3, r4, r5, r6, r7⟩ := cells8 hA.b2; obtain ⟨s0, s1, s2, s3, s4, s5, s6, s7⟩ := cells8 hA.b3)
        | (go_at_call 19; with_reducible refine (Jjc.out _ _ ?_).mono ?_; (first | with_reducible exact heap_alloc_new _ _ | with_reducible exact heap_alloc2_old _ _ _ | with_reducible exact heap_alloc2_new _ _ _); rintro e Y ⟨rfl, hbJ⟩; have hA2 : CL w a b c j n Y := (by first | exact hA.next hbJ | exact (hA.alloc _).next hbJ | exact ((hA.alloc _).alloc _).next hbJ); clear hA; have hA := hA2; clear hA2; clear p0 p1 p2 p3 p4 p5 p6 p7 q0 q1 q2 q3 q4 q5 q6 q7 r0 r1 r2 r3 r4 r5 r6 r7 s0 s1 s2 s3 s4 s5 s6 s7; obtain ⟨p0, p1, p2, p3, p4, p5, p6, p7⟩ := cells8 hA.b0; obtain ⟨q0, q1, q2, q3, q4, q5, q6, q7⟩ := cells8 hA.b1; obtain ⟨r0, r1, r2, r3, r4, r5, r6, r7⟩ := cells8 hA.b2; obtain ⟨s0, s1, s2, s3, s4, s5, s6, s7⟩ := cells8 hA.b3)
        | (go_at_call 19; with_reducible refine (Jbc.out _ _ ?_).mono ?_; (first | with_reducible exact heap_alloc_new _ _ | with_reducible exact heap_alloc2_old _ _ _ | with_reducible exact heap_alloc2_new _ _ _ | with_reducible exact (hbJ.block _ (by simp)).trans (heap_alloc2_new _ _ _) | with_reducible exact (hbJ.block _ (by simp; omega)).trans (heap_alloc2_old _ _ _)); rintro e Y ⟨rfl, hbJ⟩; have hA2 : CL w a b c j n Y := (by first | exact hA.next hbJ | exact (hA.alloc _).next hbJ | exact ((hA.alloc _).alloc _).next hbJ); clear hA; have hA := hA2; clear hA2; clear p0 p1 p2 p3 p4 p5 p6 p7 q0 q1 q2 q3 q4 q5 q6 q7 r0 r1 r2 r3 r4 r5 r6 r7 s0 s1 s2 s3 s4 s5 s6 s7; obtain ⟨p0, p1, p2, p3, p4, p5, p6, p7⟩ := cells8 hA.b0; obtain ⟨q0, q1, q2, q3, q4, q5, q6, q7⟩ := cells8 hA.b1; obtain ⟨r0, r1, r2, r3, r4, r5, r6, r7⟩ := cells8 hA.b2; obtain ⟨s0, s1, s2, s3, s4, s5, s6, s7⟩ := cells8 hA.b3)
        | (go_at_call 19; with_reducible refine (Jak.out _ _ ?_).mono ?_; (first | with_reducible exact heap_alloc_new _ _ | with_reducible exact heap_alloc2_old _ _ _ | with_reducible exact heap_alloc2_new _ _ _ | with_reducible exact (hbJ.block _ (by simp)).trans (heap_alloc2_new _ _ _) | with_reducible exact (hbJ.block _ (by simp; omega)).trans (heap_alloc2_old _ _ _)); rintro e Y ⟨rfl, hbJ⟩; have hA2 : CL w a b c j n Y := (by first | exact hA.next hbJ | exact (hA.alloc _).next hbJ | exact ((hA.alloc _).alloc _).next hbJ); clear hA; have hA := hA2; clear hA2; clear p0 p1 p2 p3 p4 p5 p6 p7 q0 q1 q2 q3 q4 q5 q6 q7 r0 r1 r2 r3 r4 r5 r6 r7 s0 s1 s2 s3 s4 s5 s6 s7; obtain ⟨p0, p1, p2, p3, p4, p5, p6, p7⟩ := cells8 hA.b0; obtain ⟨q0, q1, q2, q3, q4, q5, q6, q7⟩ := cells8 hA.b1; obtain ⟨r0, r1, r2, r3, r4, r5, r6, r7⟩ := cells8 hA.b2; obtain ⟨s0, s1, s2, s3, s4, s5, s6, s7⟩ := cells8 hA.b3)
        | (go_at_call 19; with_reducible refine (Jba.out _ _ ?_).mono ?_; (first | with_reducible exact heap_alloc_new _ _ | with_reducible exact heap_alloc2_old _ _ _ | with_reducible exact heap_alloc2_new _ _ _ | with_reducible exact (hbJ.block _ (by simp)).trans (heap_alloc2_new _ _ _) | with_reducible exact (hbJ.block _ (by simp; omega)).trans (heap_alloc2_old _ _ _)); rintro e Y ⟨rfl, hbJ⟩; have hA2 : CL w a b c j n Y := (by first | exact hA.next hbJ | exact (hA.alloc _).next hbJ | exact ((hA.alloc _).alloc _).next hbJ); clear hA; have hA := hA2; clear hA2; clear p0 p1 p2 p3 p4 p5 p6 p7 q0 q1 q2 q3 q4 q5 q6 q7 r0 r1 r2 r3 r4 r5 r6 r7 s0 s1 s2 s3 s4 s5 s6 s7; obtain ⟨p0, p1, p2, p3, p4, p5, p6, p7⟩ := cells8 hA.b0; obtain ⟨q0, q1, q2, q3, q4, q5, q6, q7⟩ := cells8 hA.b1; obtain ⟨r0, r1, r2, r3, r4, r5, r6, r7⟩ := cells8 hA.b2; obtain ⟨s0, s1, s2, s3, s4, s5, s6, s7⟩ := cells8 hA.b3))
    all_goals (go_wp2_with fail; go_meet; exact ⟨rfl, hA⟩)
  case rest =>
    clear hA p0 p1 p2 p3 p4 p5 p6 p7 q0 q1 q2 q3 q4 q5 q6 q7 r0 r1 r2 r3 r4 r5 r6 r7 s0 s1 s2 s3 s4 s5 s6 s7 Jab Maj Mbj Jjc Jbc Jak Jba Qm Qj
    obtain ⟨rfl, hA⟩ := hcut
    obtain ⟨p0, p1, p2, p3, p4, p5, p6, p7⟩ := cells8 hA.b0; obtain ⟨q0, q1, q2, q3, q4, q5, q6, q7⟩ := cells8 hA.b1; obtain ⟨r0, r1, r2, r3, r4, r5, r6, r7⟩ := cells8 hA.b2; obtain ⟨s0, s1, s2, s3, s4, s5, s6, s7⟩ := cells8 hA.b3
    go_upto_region 6 with fail
    go_cut [90] (fun s90 wx => s90 = .bool false ∧ CL w a b c j n wx)
    case first =>
      cases mac <;> cases mbc <;> cases mab <;> cases mba <;> first
        | (exfalso; have h := H6.out rfl rfl; cases h; done)
        | ((try (obtain rfl : mjc = true := H5.out rfl rfl)); (try (obtain rfl : eab = true := H7.out rfl rfl)); go_wp2_with (first | (go_at_call 26; with_reducible refine (Mac.out _).mono ?_; rintro e Y ⟨rfl, hb⟩; have hA2 := hA.next hb; clear hb hA; have hA := hA2; clear hA2; clear p0 p1 p2 p3 p4 p5 p6 p7 q0 q1 q2 q3 q4 q5 q6 q7 r0 r1 r2 r3 r4 r5 r6 r7 s0 s1 s2 s3 s4 s5 s6 s7; obtain ⟨p0, p1, p2, p3, p4, p5, p6, p7⟩ := cells8 hA.b0; obtain ⟨q0, q1, q2, q3, q4, q5, q6, q7⟩ := cells8 hA.b1; obtain ⟨r0, r1, r2, r3, r4, r5, r6, r7⟩ := cells8 hA.b2; obtain ⟨s0, s1, s2, s3, s4, s5, s6, s7⟩ := cells8 hA.b3) | (go_at_call 26; with_reducible refine (Mbc.out _).mono ?_; rintro e Y ⟨rfl, hb⟩; have hA2 := hA.next hb; clear hb hA; have hA := hA2; clear hA2; clear p0 p1 p2 p3 p4 p5 p6 p7 q0 q1 q2 q3 q4 q5 q6 q7 r0 r1 r2 r3 r4 r5 r6 r7 s0 s1 s2 s3 s4 s5 s6 s7; obtain ⟨p0, p1, p2, p3, p4, p5, p6, p7⟩ := cells8 hA.b0; obtain ⟨q0, q1, q2, q3, q4, q5, q6, q7⟩ := cells8 hA.b1; obtain ⟨r0, r1, r2, r3, r4, r5, r6, r7⟩ := cells8 hA.b2; obtain ⟨s0, s1, s2, s3, s4, s5, s6, s7⟩ := cells8 hA.b3) | (go_at_call 26; with_reducible refine (Mjc.out _).mono ?_; rintro e Y ⟨rfl, hb⟩; have hA2 := hA.next hb; clear hb hA; have hA := hA2; clear hA2; clear p0 p1 p2 p3 p4 p5 p6 p7 q0 q1 q2 q3 q4 q5 q6 q7 r0 r1 r2 r3 r4 r5 r6 r7 s0 s1 s2 s3 s4 s5 s6 s7; obtain ⟨p0, p1, p2, p3, p4, p5, p6, p7⟩ := cells8 hA.b0; obtain ⟨q0, q1, q2, q3, q4, q5, q6, q7⟩ := cells8 hA.b1; obtain ⟨r0, r1, r2, r3, r4, r5, r6, r7⟩ := cells8 hA.b2; obtain ⟨s0, s1, s2, s3, s4, s5, s6, s7⟩ := cells8 hA.b3) | (go_at_call 26; with_reducible refine (Mab.out _).mono ?_; rintro e Y ⟨rfl, hb⟩; have hA2 := hA.next hb; clear hb hA; have hA := hA2; clear hA2; clear p0 p1 p2 p3 p4 p5 p6 p7 q0 q1 q2 q3 q4 q5 q6 q7 r0 r1 r2 r3 r4 r5 r6 r7 s0 s1 s2 s3 s4 s5 s6 s7; obtain ⟨p0, p1, p2, p3, p4, p5, p6, p7⟩ := cells8 hA.b0; obtain ⟨q0, q1, q2, q3, q4, q5, q6, q7⟩ := cells8 hA.b1; obtain ⟨r0, r1, r2, r3, r4, r5, r6, r7⟩ := cells8 hA.b2; obtain ⟨s0, s1, s2, s3, s4, s5, s6, s7⟩ := cells8 hA.b3) | (go_at_call 26; with_reducible refine (Mba.out _).mono ?_; rintro e Y ⟨rfl, hb⟩; have hA2 := hA.next hb; clear hb hA; have hA := hA2; clear hA2; clear p0 p1 p2 p3 p4 p5 p6 p7 q0 q1 q2 q3 q4 q5 q6 q7 r0 r1 r2 r3 r4 r5 r6 r7 s0 s1 s2 s3 s4 s5 s6 s7; obtain ⟨p0, p1, p2, p3, p4, p5, p6, p7⟩ := cells8 hA.b0; obtain ⟨q0, q1, q2, q3, q4, q5, q6, q7⟩ := cells8 hA.b1; obtain ⟨r0, r1, r2, r3, r4, r5, r6, r7⟩ := cells8 hA.b2; obtain ⟨s0, s1, s2, s3, s4, s5, s6, s7⟩ := cells8 hA.b3)); go_meet; exact ⟨rfl, hA⟩)
    case rest =>
      clear hA p0 p1 p2 p3 p4 p5 p6 p7 q0 q1 q2 q3 q4 q5 q6 q7 r0 r1 r2 r3 r4 r5 r6 r7 s0 s1 s2 s3 s4 s5 s6 s7
      obtain ⟨rfl, hA⟩ := hcut
      obtain ⟨p0, p1, p2, p3, p4, p5, p6, p7⟩ := cells8 hA.b0; obtain ⟨q0, q1, q2, q3, q4, q5, q6, q7⟩ := cells8 hA.b1; obtain ⟨r0, r1, r2, r3, r4, r5, r6, r7⟩ := cells8 hA.b2; obtain ⟨s0, s1, s2, s3, s4, s5, s6, s7⟩ := cells8 hA.b3
      go_wp2_with fail
      refine (alive_any _).mono ?_
      rintro e Y ⟨rfl, hb⟩
      have hA2 := hA.next hb
      clear hb hA p0 p1 p2 p3 p4 p5 p6 p7 q0 q1 q2 q3 q4 q5 q6 q7 r0 r1 r2 r3 r4 r5 r6 r7 s0 s1 s2 s3 s4 s5 s6 s7
      have hA := hA2
      clear hA2
      obtain ⟨p0, p1, p2, p3, p4, p5, p6, p7⟩ := cells8 hA.b0; obtain ⟨q0, q1, q2, q3, q4, q5, q6, q7⟩ := cells8 hA.b1; obtain ⟨r0, r1, r2, r3, r4, r5, r6, r7⟩ := cells8 hA.b2; obtain ⟨s0, s1, s2, s3, s4, s5, s6, s7⟩ := cells8 hA.b3
      go_wp2_with fail
      refine (Maa.out _).mono ?_
      rintro e Z ⟨rfl, hb⟩
      have hA2 := hA.next hb
      clear hb hA
      go_wp2
      go_ret
      exact ⟨rfl, hA2.below⟩
end Go.Proofs.Ytiionogafaegkaa
