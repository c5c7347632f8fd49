/-
  The reference's Join of clocks, by its text.
-/
import Derived.Test.YtiionogafaegkaaRefLacks
namespace Go.Proofs.Ytiionogafaegkaa
open Go.RowKit
/-- the reference's result, place by place: places below i are done, place i has seen k clocks of n -/
def st (C : Nat → Nat → Int) (n i k : Nat) : Nat → Int := fun p => if p < i then joinTo C n p else if p = i then joinTo C k p else 0
theorem st_here (C : Nat → Nat → Int) (n i k : Nat) : st C n i k i = joinTo C k i := by simp [st]
theorem st_step (C : Nat → Nat → Int) (n i k : Nat) (h : joinTo C k i < C k i) : (fun p => if p = i then C k i else st C n i k p) = st C n i (k + 1) := by
  funext p
  by_cases e : p = i
  · subst e
    simp only [st, if_true, Nat.lt_irrefl, if_false, joinTo]
    omega
  · simp [st, e]
theorem st_stay (C : Nat → Nat → Int) (n i k : Nat) (h : ¬ joinTo C k i < C k i) : st C n i k = st C n i (k + 1) := by
  funext p
  by_cases e : p = i
  · subst e
    simp only [st, if_true, Nat.lt_irrefl, if_false, joinTo]
    omega
  · simp [st, e]
theorem st_next (C : Nat → Nat → Int) (n i : Nat) : st C n i n = st C n (i + 1) 0 := by
  funext p
  unfold st
  by_cases h1 : p < i
  · simp [h1, show p < i + 1 by omega]
  · by_cases h2 : p = i
    · subst h2; simp
    · simp [h1, h2, show ¬ p < i + 1 by omega, joinTo]
theorem JR.drewN {w wr : World} {f : Nat → Int} (h : JR w f wr) (n : Nat) : JR w f (wr.drewN n) := ⟨below_drewN h.below n, h.size, h.zero, h.row⟩
set_option maxRecDepth 100000 in
set_option maxHeartbeats 600000 in
theorem refjoin_any (b off : Nat) (n c : Nat) (hn : n ≤ 100) (C : Nat → Nat → Int) (w : World)
    (hb : b < w.heap.size) (hc : ∀ i j, i < n → j < 8 → w.cell? ⟨b, off + (8 * i + j), none⟩ = some (.int .u32 (C i j))) :
    Calls Try.prog 20 #[.slice (some ⟨b, off, none⟩) n c] w fun e w' => e = .returned (.agg (cl (joinTo C n))) ∧ Below w.heap.size w w' := by
  have H : Hid (∀ i j, i < n → j < 8 → w.cell? ⟨b, off + (8 * i + j), none⟩ = some (.int .u32 (C i j))) := hc
  have HB := hide hb
  have HN := hide hn
  clear hc hb hn
  go_enter Try.func20, Try.ntmps20
  go_wp2
  go_loopw [4] (fun i wr => ∃ k : Nat, k ≤ 8 ∧ i = .int .i64 k ∧ JR w (st C n k 0) wr) (fun i _ => 8 - (intOf i).toNat)
  case atStart =>
    have e : st C n 0 0 = fun _ => 0 := by funext p; simp [st, joinTo]
    refine ⟨0, Nat.zero_le _, rfl, ?_⟩
    rw [e]
    exact ⟨((Below.refl _ _).alloc (Nat.le_refl _) _).alloc (by simp) _, by simp, ⟨fun _ => 0, heap_alloc2_old _ _ _⟩, heap_alloc2_new _ _ _⟩
  case round =>
    obtain ⟨i, hi, rfl, hR⟩ := hrel
    by_cases hlt : i < 8
    · have hlt' : (i : Int) < 8 := by omega
      have i0 : (0 : Int) ≤ i := by omega
      have HR := hide hR
      clear hR
      go_wp2
      go_loopw [5] (fun k wr => ∃ q : Nat, q ≤ n ∧ k = .int .i64 q ∧ JR w (st C n i q) wr) (fun k _ => n - (intOf k).toNat)
      case atStart => exact ⟨0, Nat.zero_le _, rfl, HR.out⟩
      case round =>
        clear HR
        obtain ⟨q, hq, rfl, hR⟩ := hrel
        by_cases hq2 : q < n
        · have q0 : (0 : Int) ≤ q := by omega
          have q1 : (q : Int) < n := by omega
          have q2 : (q : Int) ≤ 100 := by have := HN.out; omega
          have c1 := hR.cell (j := i) hlt
          rw [st_here] at c1
          have c2 : wr.cell? ⟨b, off + q * 8 + i, none⟩ = some (.int .u32 (C q i)) := by
            rw [hR.below.cell (p := ⟨b, off + q * 8 + i, none⟩) HB.out, show off + q * 8 + i = off + (8 * q + i) by omega]
            exact H.out q i hq2 hlt
          have f := hR.free i
          have HR := hide hR
          clear hR
          by_cases hgt : joinTo C q i < C q i
          · go_wp2_with fail
            go_quiet (fail)
            have HD : Hid (JR w (st C n i (q + 1)) ((wr.drewN nq).setCell ⟨w.heap.size + 1, i, none⟩ (.int .u32 (C q i)))) := by
              show JR _ _ _
              rw [← st_step C n i q (by omega)]
              exact (HR.out.drewN nq).store hlt _
            have HR2 := hide (HR.out.drewN nq)
            have c1 : (wr.drewN nq).cell? ⟨w.heap.size + 1, i, none⟩ = some (.int .u32 (joinTo C q i)) := c1
            have c2 : (wr.drewN nq).cell? ⟨b, off + q * 8 + i, none⟩ = some (.int .u32 (C q i)) := c2
            have f : (wr.drewN nq).frozen? ⟨w.heap.size + 1, i, none⟩ = false := f
            clear HR
            generalize wr.drewN nq = W1 at *
            go_wp2
            exact ⟨⟨q + 1, by omega, by go_num, HD.out⟩, by simp [intOf]; omega⟩
          · go_wp2_with fail
            go_quiet (fail)
            have HD : Hid (JR w (st C n i (q + 1)) (wr.drewN nq)) := by
              show JR _ _ _
              rw [← st_stay C n i q (by omega)]
              exact HR.out.drewN nq
            clear HR c1 c2 f
            go_wp2
            exact ⟨⟨q + 1, by omega, by go_num, HD.out⟩, by simp [intOf]; omega⟩
        · have hqn : q = n := by omega
          rw [hqn, st_next] at hR
          have q1 : ¬ (q : Int) < n := by omega
          clear hqn
          have HR := hide hR
          clear hR
          go_wp2
          exact ⟨⟨i + 1, by omega, by go_num, HR.out⟩, by simp [intOf]; omega⟩
    · have hi8 : i = 8 := by omega
      subst hi8
      have hR2 := hR.congr (g := joinTo C n) (fun j hj => by simp [st, hj])
      obtain ⟨z, hz⟩ := hR2.zero
      have R0 : Hid (Row wr w.heap.size 27 .u32 ((List.range 8).map z)) := hz
      have R1 : Hid (Row wr (w.heap.size + 1) 27 .u32 ((List.range 8).map (joinTo C n))) := hR2.row
      have I27 : Hid ((Try.prog.info? 27).map (·.size) = some (ints .u32 ((List.range 8).map (joinTo C n))).size) := by show _ = _; rw [ints_size]; kernel_rfl
      have Z27 : Hid ((ints .u32 ((List.range 8).map z)).size = (ints .u32 ((List.range 8).map (joinTo C n))).size) := by show _ = _; rw [ints_size, ints_size]; rfl
      have HBl := hide hR2.below
      clear hR hR2 hz
      obtain ⟨o, ho⟩ : ∃ o, o = (List.range 8).map (joinTo C n) := ⟨_, rfl⟩
      have HO : Hid (ints .u32 o = cl (joinTo C n)) := by show _ = _; rw [ho]; rfl
      rw [← ho] at R1 I27 Z27
      clear ho
      generalize (List.range 8).map z = zz at *
      go_upto_region 10 with fail
      go_wp2_with (first | (refine wpList_load_row rfl 27 _ rfl _ rfl 27 (ints .u32 o) (0, 0) _ R1.out Try.underlying27 rfl I27.out ?_) | (refine wpList_store_row rfl 27 _ _ rfl _ (ints .u32 o) rfl rfl 27 _ R0.out I27.out Z27.out (ints_one _ _) ?_))
      refine bodyPost_ret (v := .agg (ints .u32 o)) (results_cell_row Try.results20 _ _ w.heap.size 27 (ints .u32 o) (0, 0) _ rfl (Row.put R0.out _) Try.underlying27 rfl I27.out) rfl ⟨by rw [HO.out], below_setRow HBl.out (Nat.le_refl _) _⟩
end Go.Proofs.Ytiionogafaegkaa
