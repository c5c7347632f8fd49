/-
  ClockOrders, by the statement's text, over a slice of which the two joins are known.
-/
import Derived.Test.YtiionogafaegkaaOrdCells
import Derived.Deep.RegionHeld3
import Derived.Deep.DeepCutAuto
namespace Go.Proofs.Ytiionogafaegkaa
open Go.RowKit
theorem ints_cl (a : List Int) (h : a.length = 8) : ints .u32 a = cl (gi a) := by rw [cl_fl, fl_gi a h]
/-- the statement's boxes -/
structure OW (w : World) (b0 b1 : Nat) (f g : Nat → Int) (W : World) : Prop where
  fst : W.heap[b0]? = some (.cells (cl f) 27 (0, 0))
  snd : W.heap[b1]? = some (.cells (cl g) 27 (0, 0))
  below : Below w.heap.size w W
  lt : b0 < W.heap.size ∧ b1 < W.heap.size
theorem OW.start (w : World) (f g : Nat → Int) : OW w w.heap.size (w.heap.size + 1) f g ((w.alloc (.cells (cl f) 27)).alloc (.cells (cl g) 27)) :=
  ⟨heap_alloc2_old _ _ _, heap_alloc2_new _ _ _, ((Below.refl _ _).alloc (Nat.le_refl _) _).alloc (by simp) _, by simp; omega⟩
theorem OW.next {w W W' : World} {b0 b1 : Nat} {f g : Nat → Int} (h : OW w b0 b1 f g W) (hb : Below W.heap.size W W') : OW w b0 b1 f g W' :=
  ⟨(hb.block _ h.lt.1).trans h.fst, (hb.block _ h.lt.2).trans h.snd, h.below.trans (hb.mono h.below.size), by have := hb.size; have := h.lt; omega⟩
theorem OW.drew {w W : World} {b0 b1 : Nat} {f g : Nat → Int} (h : OW w b0 b1 f g W) : OW w b0 b1 f g W.drew := ⟨h.fst, h.snd, h.below.drew, h.lt⟩
/-- an owned slice, by its form -/
def Held (W : World) (p : Option Addr) (n : Nat) (xs : List Value) : Prop := 0 < n → ∃ g, p = some ⟨g, 0, none⟩ ∧ g < W.heap.size ∧ ∀ j u, xs[j]? = some u → W.cell? ⟨g, j, none⟩ = some u
theorem own_held {w : World} {base n : Nat} {e : TypeId} {v : Value} {xs : List Value} (h : w.ownsRow base e 3 v n xs) : ∃ p cap, v = .slice p n cap ∧ Held w p n xs := by
  rcases own_cells h with ⟨rfl, rfl⟩ | ⟨g, cap, rfl, _, hlt, hc⟩
  · exact ⟨none, 0, rfl, fun h => absurd h (by omega)⟩
  · exact ⟨_, cap, rfl, fun _ => ⟨g, rfl, hlt, hc⟩⟩
theorem Held.next {W W' : World} {p : Option Addr} {n : Nat} {xs : List Value} (h : Held W p n xs) (hb : Below W.heap.size W W') : Held W' p n xs := fun hn => by
  obtain ⟨g, h1, h2, h3⟩ := h hn
  exact ⟨g, h1, Nat.lt_of_lt_of_le h2 hb.size, fun j u hu => by rw [hb.cell (p := ⟨g, j, none⟩) h2]; exact h3 j u hu⟩
structure OL (w : World) (b0 b1 : Nat) (f g : Nat → Int) (p1 p2 : Option Addr) (n : Nat) (xs : List Value) (W : World) : Prop where
  ow : OW w b0 b1 f g W
  one : Held W p1 n xs
  two : Held W p2 n xs
theorem OL.drewN {w W : World} {b0 b1 : Nat} {f g : Nat → Int} {p1 p2 : Option Addr} {n : Nat} {xs : List Value} (h : OL w b0 b1 f g p1 p2 n xs W) (k : Nat) : OL w b0 b1 f g p1 p2 n xs (W.drewN k) :=
  ⟨⟨h.ow.fst, h.ow.snd, below_drewN h.ow.below k, h.ow.lt⟩, h.one, h.two⟩
set_option maxRecDepth 100000 in
set_option maxHeartbeats 2000000 in
theorem orders_walk (a b : List Int) (ha : a.length = 8) (hb : b.length = 8) (wa : Words a) (wb : Words b) (p : Option Addr) (n c : Nat) (hn : n ≤ 60) (J : Nat → Int) (w : World)
    (hJ1 : ∀ W, Below w.heap.size w W → Calls Try.prog 19 #[.slice p n c] W fun e w' => e = .returned (.agg (cl J)) ∧ Below W.heap.size W w')
    (hJ2 : ∀ W, Below w.heap.size w W → Calls Try.prog 20 #[.slice p n c] W fun e w' => e = .returned (.agg (cl J)) ∧ Below W.heap.size W w') (au : Int) :
    Calls Try.prog 4 #[.agg (ints .u32 a), .agg (ints .u32 b), .slice p n c, .int .i64 au] w fun e w' => e = .returned (.bool true) ∧ Below w.heap.size w w' := by
  have A := hide alive_any
  have L1 := lacks_any (gi a) (gi b) wa wb
  have L2 := reflacks_any a b ha hb wa wb
  rw [ints_cl a ha, ints_cl b hb] at L2 ⊢
  have HJ1 := hide hJ1
  have HJ2 := hide hJ2
  have hn' : ¬ (60 : Int) < n := by omega
  clear hJ1 hJ2 hn
  obtain ⟨f, hf⟩ : ∃ f, f = gi a := ⟨_, rfl⟩
  obtain ⟨g, hg⟩ : ∃ g, g = gi b := ⟨_, rfl⟩
  rw [← hf, ← hg] at L1 L2 ⊢
  have hO := hide (OW.start w f g)
  have HF := hide hf
  have HG := hide hg
  clear hf hg
  have O1c : ∀ W, Calls Try.prog 17 #[.agg (cl f), .agg (cl g)] W fun e w' => e = .returned (.int .i64 (orderOf f g)) ∧ Below W.heap.size W w' := order_any f g
  have O2c : ∀ W, Calls Try.prog 18 #[.agg (cl f), .agg (cl g)] W fun e w' => e = .returned (.int .i64 (orderOf f g)) ∧ Below W.heap.size W w' := by
    have h := reforder_any a b ha hb
    rw [ints_cl a ha, ints_cl b hb, ← order_same a b ha hb wa wb, ← HF.out, ← HG.out] at h
    exact h
  have D1c : ∀ W, Calls Try.prog 21 #[.agg (cl f), .agg (cl g), .int .i64 au] W fun e w' => e = .returned (.bool (dueB f g au)) ∧ Below W.heap.size W w' := due_any f g (by rw [HG.out]; exact wb) au
  have D2c : ∀ W, Calls Try.prog 22 #[.agg (cl f), .agg (cl g), .int .i64 au] W fun e w' => e = .returned (.bool (dueB f g au)) ∧ Below W.heap.size W w' := by
    have h := refdue_any a b ha hb wa wb au
    rw [ints_cl a ha, ints_cl b hb, ← due_same a b wa au, ← HF.out, ← HG.out] at h
    exact h
  have EJ : ∀ W : World, (binOp .eql 27 (.agg (cl J)) (.agg (cl J))).run Try.prog W = .ok (.bool true) W := fun W => by rw [eq_clk J J W]; simp
  generalize orderOf f g = oo at O1c O2c
  generalize dueB f g au = dd at D1c D2c
  simp only [cl] at L1 L2 O1c O2c D1c D2c EJ HJ1 HJ2
  have HO1 := hide O1c
  have HO2 := hide O2c
  have HD1 := hide D1c
  have HD2 := hide D2c
  clear O1c O2c D1c D2c
  have HL1 := hide L1
  have HL2 := hide L2
  clear L1 L2
  obtain ⟨ca, hca⟩ : ∃ x, x = cl f := ⟨_, rfl⟩
  obtain ⟨cb, hcb⟩ : ∃ x, x = cl g := ⟨_, rfl⟩
  rw [← hca, ← hcb] at hO ⊢
  have HCA := hide hca
  have HCB := hide hcb
  clear hca hcb
  go_enter Try.func4, Try.ntmps4
  go_wp2_with fail
  have hO2 : Hid (OW w w.heap.size (w.heap.size + 1) f g ((w.alloc (.cells ca 27)).alloc (.cells cb 27))) := by rw [HCA.out, HCB.out]; exact OW.start w f g
  clear hO
  generalize hW : (w.alloc (.cells ca 27)).alloc (.cells cb 27) = W0 at *
  clear hW
  generalize w.heap.size + 1 = b1 at *
  obtain ⟨b0, h0⟩ : ∃ x, x = w.heap.size := ⟨_, rfl⟩
  rw [← h0] at hO2 ⊢
  clear h0
  refine (A.out _).mono ?_
  rintro e W1 ⟨rfl, hb1⟩
  have O1 := hide (hO2.out.next hb1)
  clear hO2 hb1
  obtain ⟨p0, p1, p2, p3, p4, p5, p6, p7⟩ := cells8 O1.out.fst
  obtain ⟨q0, q1, q2, q3, q4, q5, q6, q7⟩ := cells8 O1.out.snd
  go_wp2_with fail
  go_region_held3 (fun w' => w'.cell? ⟨b0, 0, none⟩ = some (.int .u32 (f 0)) ∧ w'.cell? ⟨b0, 1, none⟩ = some (.int .u32 (f 1)) ∧ w'.cell? ⟨b0, 2, none⟩ = some (.int .u32 (f 2)) ∧ w'.cell? ⟨b0, 3, none⟩ = some (.int .u32 (f 3)) ∧ w'.cell? ⟨b0, 4, none⟩ = some (.int .u32 (f 4)) ∧ w'.cell? ⟨b0, 5, none⟩ = some (.int .u32 (f 5)) ∧ w'.cell? ⟨b0, 6, none⟩ = some (.int .u32 (f 6)) ∧ w'.cell? ⟨b0, 7, none⟩ = some (.int .u32 (f 7)) ∧ w'.cell? ⟨b1, 0, none⟩ = some (.int .u32 (g 0)) ∧ w'.cell? ⟨b1, 1, none⟩ = some (.int .u32 (g 1)) ∧ w'.cell? ⟨b1, 2, none⟩ = some (.int .u32 (g 2)) ∧ w'.cell? ⟨b1, 3, none⟩ = some (.int .u32 (g 3)) ∧ w'.cell? ⟨b1, 4, none⟩ = some (.int .u32 (g 4)) ∧ w'.cell? ⟨b1, 5, none⟩ = some (.int .u32 (g 5)) ∧ w'.cell? ⟨b1, 6, none⟩ = some (.int .u32 (g 6)) ∧ w'.cell? ⟨b1, 7, none⟩ = some (.int .u32 (g 7))) (first | go_keep | exact ⟨p0, p1, p2, p3, p4, p5, p6, p7, q0, q1, q2, q3, q4, q5, q6, q7⟩)
    (first
      | (go_at_call 15; with_reducible refine (HL1.out _).mono ?_; rintro e X ⟨v1, rfl, hr1⟩; have O2 := hide (O1.out.drew.next hr1.below); clear p0 p1 p2 p3 p4 p5 p6 p7 q0 q1 q2 q3 q4 q5 q6 q7; obtain ⟨p0, p1, p2, p3, p4, p5, p6, p7⟩ := cells8 O2.out.fst; obtain ⟨q0, q1, q2, q3, q4, q5, q6, q7⟩ := cells8 O2.out.snd)
      | (go_at_call 16; with_reducible refine (HL2.out _).mono ?_; rintro e Y ⟨v2, rfl, hr2⟩; have O3 := hide (O2.out.next hr2.tw.below); clear p0 p1 p2 p3 p4 p5 p6 p7 q0 q1 q2 q3 q4 q5 q6 q7; obtain ⟨p0, p1, p2, p3, p4, p5, p6, p7⟩ := cells8 O3.out.fst; obtain ⟨q0, q1, q2, q3, q4, q5, q6, q7⟩ := cells8 O3.out.snd))
  have w2 := hr2.own
  rw [← HF.out, ← HG.out] at w2
  obtain ⟨s1, c1, rfl, h1⟩ := own_held hr1.own
  obtain ⟨s2, c2, rfl, h2⟩ := own_held w2
  have HLN : Hid (lacksN f g 8 ≤ 8) := lacksN_le f g 8
  have HLE := hide (lacks_elem f g 8)
  have HL := hide (OL.mk O3.out (h1.next hr2.tw.below) h2)
  clear hr1 hr2 w2 h1 h2 O1 O2 O3 p0 p1 p2 p3 p4 p5 p6 p7 q0 q1 q2 q3 q4 q5 q6 q7
  generalize lacksTo f g 8 = xs at *
  generalize lacksN f g 8 = N at *
  go_wp2_with fail
  go_loopw [11] (fun i W => ∃ k : Nat, k ≤ N ∧ i = .int .i64 k ∧ OL w b0 b1 f g s1 s2 N xs W) (fun i _ => N - (intOf i).toNat)
  case atStart => exact ⟨0, by omega, rfl, HL.out⟩
  case round =>
    clear HL
    obtain ⟨k, hk, rfl, hL⟩ := hrel
    by_cases hlt : k < N
    · obtain ⟨x, y, z, e0, e1, e2⟩ := HLE.out k hlt
      obtain ⟨g1, rfl, l1, d1⟩ := hL.one (by omega)
      obtain ⟨g2, rfl, l2, d2⟩ := hL.two (by omega)
      have a0 := d1 _ _ e0
      have a1 := d1 _ _ e1
      have a2 := d1 _ _ e2
      have t0 := d2 _ _ e0
      have t1 := d2 _ _ e1
      have t2 := d2 _ _ e2
      rw [Nat.mul_comm 3 k] at a0 a1 a2 t0 t1 t2
      have HLL := hide hL
      have k0 : (0 : Int) ≤ k := by omega
      have k1 : (k : Int) < N := by omega
      have k2 : (N : Int) ≤ 8 := by have := HLN.out; omega
      clear d1 d2 e0 e1 e2 l1 l2 hL
      go_wp2_with fail
      go_quiet (fail)
      go_wp2
      exact ⟨⟨k + 1, by omega, by go_num, HLL.out.drewN nq⟩, by simp [intOf]; omega⟩
    · have hkN : k = N := by omega
      subst hkN
      have hO := hL.ow
      clear hL HLE HLN hk hlt
      obtain ⟨p0, p1, p2, p3, p4, p5, p6, p7⟩ := cells8 hO.fst
      obtain ⟨q0, q1, q2, q3, q4, q5, q6, q7⟩ := cells8 hO.snd
      go_wp2_with fail
      go_region_held3 (fun w' => w'.cell? ⟨b0, 0, none⟩ = some (.int .u32 (f 0)) ∧ w'.cell? ⟨b0, 1, none⟩ = some (.int .u32 (f 1)) ∧ w'.cell? ⟨b0, 2, none⟩ = some (.int .u32 (f 2)) ∧ w'.cell? ⟨b0, 3, none⟩ = some (.int .u32 (f 3)) ∧ w'.cell? ⟨b0, 4, none⟩ = some (.int .u32 (f 4)) ∧ w'.cell? ⟨b0, 5, none⟩ = some (.int .u32 (f 5)) ∧ w'.cell? ⟨b0, 6, none⟩ = some (.int .u32 (f 6)) ∧ w'.cell? ⟨b0, 7, none⟩ = some (.int .u32 (f 7)) ∧ w'.cell? ⟨b1, 0, none⟩ = some (.int .u32 (g 0)) ∧ w'.cell? ⟨b1, 1, none⟩ = some (.int .u32 (g 1)) ∧ w'.cell? ⟨b1, 2, none⟩ = some (.int .u32 (g 2)) ∧ w'.cell? ⟨b1, 3, none⟩ = some (.int .u32 (g 3)) ∧ w'.cell? ⟨b1, 4, none⟩ = some (.int .u32 (g 4)) ∧ w'.cell? ⟨b1, 5, none⟩ = some (.int .u32 (g 5)) ∧ w'.cell? ⟨b1, 6, none⟩ = some (.int .u32 (g 6)) ∧ w'.cell? ⟨b1, 7, none⟩ = some (.int .u32 (g 7))) (first | go_keep | exact ⟨p0, p1, p2, p3, p4, p5, p6, p7, q0, q1, q2, q3, q4, q5, q6, q7⟩)
    (first
      | (go_at_call 8; with_reducible refine (A.out _).mono ?_; rintro e X ⟨rfl, hb⟩; replace hO := hO.drew.next hb; clear hb; clear p0 p1 p2 p3 p4 p5 p6 p7 q0 q1 q2 q3 q4 q5 q6 q7; obtain ⟨p0, p1, p2, p3, p4, p5, p6, p7⟩ := cells8 hO.fst; obtain ⟨q0, q1, q2, q3, q4, q5, q6, q7⟩ := cells8 hO.snd)
      | (go_at_call 17; with_reducible refine (HO1.out _).mono ?_; rintro e X ⟨rfl, hb⟩; replace hO := hO.next hb; clear hb; clear p0 p1 p2 p3 p4 p5 p6 p7 q0 q1 q2 q3 q4 q5 q6 q7; obtain ⟨p0, p1, p2, p3, p4, p5, p6, p7⟩ := cells8 hO.fst; obtain ⟨q0, q1, q2, q3, q4, q5, q6, q7⟩ := cells8 hO.snd)
      | (go_at_call 18; with_reducible refine (HO2.out _).mono ?_; rintro e X ⟨rfl, hb⟩; replace hO := hO.next hb; clear hb; clear p0 p1 p2 p3 p4 p5 p6 p7 q0 q1 q2 q3 q4 q5 q6 q7; obtain ⟨p0, p1, p2, p3, p4, p5, p6, p7⟩ := cells8 hO.fst; obtain ⟨q0, q1, q2, q3, q4, q5, q6, q7⟩ := cells8 hO.snd)
      | (go_at_call 19; with_reducible refine (HJ1.out _ (by first | exact hO.below | exact hO.drew.below)).mono ?_; rintro e X ⟨rfl, hb⟩; replace hO := hO.next hb; clear hb; clear p0 p1 p2 p3 p4 p5 p6 p7 q0 q1 q2 q3 q4 q5 q6 q7; obtain ⟨p0, p1, p2, p3, p4, p5, p6, p7⟩ := cells8 hO.fst; obtain ⟨q0, q1, q2, q3, q4, q5, q6, q7⟩ := cells8 hO.snd)
      | (go_at_call 20; with_reducible refine (HJ2.out _ (by first | exact hO.below | exact hO.drew.below)).mono ?_; rintro e X ⟨rfl, hb⟩; replace hO := hO.next hb; clear hb; clear p0 p1 p2 p3 p4 p5 p6 p7 q0 q1 q2 q3 q4 q5 q6 q7; obtain ⟨p0, p1, p2, p3, p4, p5, p6, p7⟩ := cells8 hO.fst; obtain ⟨q0, q1, q2, q3, q4, q5, q6, q7⟩ := cells8 hO.snd)
      | (go_at_call 21; with_reducible refine (HD1.out _).mono ?_; rintro e X ⟨rfl, hb⟩; replace hO := hO.next hb; clear hb; clear p0 p1 p2 p3 p4 p5 p6 p7 q0 q1 q2 q3 q4 q5 q6 q7; obtain ⟨p0, p1, p2, p3, p4, p5, p6, p7⟩ := cells8 hO.fst; obtain ⟨q0, q1, q2, q3, q4, q5, q6, q7⟩ := cells8 hO.snd)
      | (go_at_call 22; with_reducible refine (HD2.out _).mono ?_; rintro e X ⟨rfl, hb⟩; replace hO := hO.next hb; clear hb; clear p0 p1 p2 p3 p4 p5 p6 p7 q0 q1 q2 q3 q4 q5 q6 q7; obtain ⟨p0, p1, p2, p3, p4, p5, p6, p7⟩ := cells8 hO.fst; obtain ⟨q0, q1, q2, q3, q4, q5, q6, q7⟩ := cells8 hO.snd))
      go_wp2
      go_ret
      exact ⟨rfl, hO.below⟩
set_option maxRecDepth 100000 in
set_option maxHeartbeats 400000 in
theorem orders_long (a b : List Int) (p : Option Addr) (n c : Nat) (hn : 60 < n) (au : Int) (w : World) :
    Calls Try.prog 4 #[.agg (ints .u32 a), .agg (ints .u32 b), .slice p n c, .int .i64 au] w fun e w' => e = .returned (.bool true) ∧ Below w.heap.size w w' := by
  have A := hide alive_any
  have hn' : (60 : Int) < n := by omega
  have HB : Hid (Below w.heap.size w ((w.alloc (.cells (ints .u32 a) 27)).alloc (.cells (ints .u32 b) 27))) := ((Below.refl _ _).alloc (Nat.le_refl _) _).alloc (by simp) _
  clear hn
  go_enter Try.func4, Try.ntmps4
  go_wp2_with fail
  generalize hW : (w.alloc (.cells (ints .u32 a) 27)).alloc (.cells (ints .u32 b) 27) = W0 at *
  clear hW
  refine (A.out _).mono ?_
  rintro e W1 ⟨rfl, hb1⟩
  have HB1 := hide (HB.out.trans (hb1.mono HB.out.size))
  clear hb1 HB
  go_wp2_with fail
  refine (A.out _).mono ?_
  rintro e W2 ⟨rfl, hb2⟩
  have HB2 := hide (HB1.out.trans (hb2.mono HB1.out.size))
  clear hb2 HB1
  go_wp2
  go_ret
  exact ⟨rfl, HB2.out⟩
end Go.Proofs.Ytiionogafaegkaa
