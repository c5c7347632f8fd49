/-
  How two clocks stand and what is due: the program's answer is the reference's; joins of nothing.
-/
import Derived.Test.YtiionogafaegkaaRefJoin
namespace Go.Proofs.Ytiionogafaegkaa
open Go.RowKit
theorem fl_gi (a : List Int) (h : a.length = 8) : fl (gi a) = a := by
  apply list_ext_gi
  · rw [fl_len, h]
  · intro i hi
    rw [fl_len] at hi
    unfold fl gi
    rw [List.getD_eq_getElem?_getD, List.getElem?_map, List.getElem?_range hi]
    rfl
theorem fl_eq_iff (f g : Nat → Int) : (fl f == fl g) = true ↔ ∀ i, i < 8 → f i = g i := by
  rw [beq_iff_eq]
  constructor
  · intro h i hi
    have := congrArg (fun l => gi l i) h
    simpa [fl, gi, hi] using this
  · intro h
    unfold fl
    apply List.map_congr_left
    intro i hi
    exact h i (List.mem_range.1 hi)
theorem join2_mx (f g : Nat → Int) (i : Nat) : join2 f g i = max (max 0 (f i)) (g i) := rfl
theorem order_same (a b : List Int) (ha : a.length = 8) (hb : b.length = 8) (wa : Words a) (wb : Words b) : orderOf (gi a) (gi b) = ordR a b := by
  have e1 : (fl (join2 (gi a) (gi b)) == fl (gi a)) = mostR b a := by
    rw [Bool.eq_iff_iff, fl_eq_iff, mostR_iff]
    constructor
    · intro h i hi
      have h1 := h i hi
      rw [join2_mx] at h1
      omega
    · intro h i hi
      have h1 := h i hi
      have := (wa i).1
      rw [join2_mx]
      omega
  have e2 : (fl (join2 (gi a) (gi b)) == fl (gi b)) = mostR a b := by
    rw [Bool.eq_iff_iff, fl_eq_iff, mostR_iff]
    constructor
    · intro h i hi
      have h1 := h i hi
      rw [join2_mx] at h1
      omega
    · intro h i hi
      have h1 := h i hi
      have := (wb i).1
      rw [join2_mx]
      omega
  have e3 : (fl (gi a) == fl (gi b)) = (a == b) := by rw [fl_gi a ha, fl_gi b hb]
  unfold orderOf ordR
  rw [e1, e2, e3]
  cases h1 : mostR b a <;> cases h2 : mostR a b <;> cases h3 : (a == b)
  all_goals first
    | rfl
    | (exfalso
       have h4 : a = b := beq_iff_eq.1 h3
       subst h4
       have : mostR a a = true := (mostR_iff a a).2 (fun i _ => Int.le_refl _)
       simp_all; done)
    | (exfalso
       have m1 := (mostR_iff b a).1 h1
       have m2 := (mostR_iff a b).1 h2
       have h4 : a = b := list_ext_gi (by rw [ha, hb]) (fun i hi => by have := m1 i (by omega); have := m2 i (by omega); omega)
       rw [h4] at h3
       simp at h3)
theorem due_same (h c : List Int) (wh : Words h) (a : Int) : dueB (gi h) (gi c) a = dueR h c a := by
  unfold dueB dueR
  by_cases ha : a < 0 ∨ 7 < a
  · rw [if_pos ha, if_pos (by omega)]
  · rw [if_neg ha, if_neg (by omega)]
    obtain ⟨n, rfl⟩ := Int.eq_ofNat_of_zero_le (show 0 ≤ a by omega)
    rw [Int.toNat_natCast]
    have hn : n < 8 := by omega
    unfold dueOf
    by_cases hz : gi c n = 0
    · rw [if_pos hz, if_pos hz]
    · rw [if_neg hz, if_neg hz]
      by_cases hq : gi c n = gi h n + 1
      · rw [if_pos hq]
        have e : (gi c n - 1 == gi h n) = true := by rw [beq_iff_eq]; omega
        rw [e, Bool.true_and, Bool.eq_iff_iff, fl_eq_iff, restR_iff]
        constructor
        · intro hj i hi
          have h1 := hj i hi
          rw [join2_mx] at h1
          by_cases hin : i = n
          · exact Or.inl hin
          · right
            simp only [dec, if_neg hin] at h1
            omega
        · intro hj i hi
          have h1 := hj i hi
          have h2 := (wh i).1
          rw [join2_mx]
          by_cases hin : i = n
          · subst hin
            simp only [dec, if_true]
            omega
          · simp only [dec, if_neg hin]
            omega
      · rw [if_neg hq]
        have e : (gi c n - 1 == gi h n) = false := by rw [beq_eq_false_iff_ne]; omega
        rw [e, Bool.false_and]
set_option maxRecDepth 100000 in
set_option maxHeartbeats 600000 in
theorem join_nil (w : World) : Calls Try.prog 19 #[.slice none 0 0] w fun e w' => e = .returned (.agg (cl fun _ => 0)) ∧ Below w.heap.size w w' := by
  go_enter Try.func19, Try.ntmps19
  go_wp2
  go_loopw [10] (fun i wr => i = .int .i64 0 ∧ JR w (fun _ => 0) wr) (fun _ _ => 0)
  case atStart => exact ⟨rfl, ⟨((Below.refl _ _).alloc (Nat.le_refl _) _).alloc (by simp) _, by simp, ⟨fun _ => 0, heap_alloc2_old _ _ _⟩, heap_alloc2_new _ _ _⟩⟩
  case round =>
      obtain ⟨rfl, hR⟩ := hrel
      have hR2 := hR
      obtain ⟨z, hz⟩ := hR2.zero
      have R0 : Hid (Row wr w.heap.size 27 .u32 ((List.range 8).map z)) := hz
      have R1 : Hid (Row wr (w.heap.size + 1) 27 .u32 ((List.range 8).map fun _ => 0)) := hR2.row
      have I27 : Hid ((Try.prog.info? 27).map (·.size) = some (ints .u32 ((List.range 8).map fun _ => 0)).size) := by show _ = _; rw [ints_size]; kernel_rfl
      have Z27 : Hid ((ints .u32 ((List.range 8).map z)).size = (ints .u32 ((List.range 8).map fun _ => 0)).size) := by show _ = _; rw [ints_size, ints_size]; rfl
      have HBl := hide hR2.below
      clear hR hR2 hz
      obtain ⟨o, ho⟩ : ∃ o, o = (List.range 8).map (fun _ => (0 : Int)) := ⟨_, rfl⟩
      have HO : Hid (ints .u32 o = cl fun _ => 0) := by show _ = _; rw [ho]; rfl
      rw [← ho] at R1 I27 Z27
      clear ho
      generalize (List.range 8).map z = zz at *
      go_upto_region 11 with fail
      go_wp2_with (first | (refine wpList_load_row rfl 27 _ rfl _ rfl 27 (ints .u32 o) (0, 0) _ R1.out Try.underlying27 rfl I27.out ?_) | (refine wpList_store_row rfl 27 _ _ rfl _ (ints .u32 o) rfl rfl 27 _ R0.out I27.out Z27.out (ints_one _ _) ?_))
      refine bodyPost_ret (v := .agg (ints .u32 o)) (results_cell_row Try.results19 _ _ w.heap.size 27 (ints .u32 o) (0, 0) _ rfl (Row.put R0.out _) Try.underlying27 rfl I27.out) rfl ⟨by rw [HO.out], below_setRow HBl.out (Nat.le_refl _) _⟩
set_option maxRecDepth 100000 in
set_option maxHeartbeats 600000 in
theorem refjoin_nil (w : World) : Calls Try.prog 20 #[.slice none 0 0] w fun e w' => e = .returned (.agg (cl fun _ => 0)) ∧ Below w.heap.size w w' := by
  go_enter Try.func20, Try.ntmps20
  go_wp2
  go_loopw [4] (fun i wr => ∃ k : Nat, k ≤ 8 ∧ i = .int .i64 k ∧ JR w (fun _ => 0) wr) (fun i _ => 8 - (intOf i).toNat)
  case atStart => exact ⟨0, by omega, rfl, ⟨((Below.refl _ _).alloc (Nat.le_refl _) _).alloc (by simp) _, by simp, ⟨fun _ => 0, heap_alloc2_old _ _ _⟩, heap_alloc2_new _ _ _⟩⟩
  case round =>
    obtain ⟨k, hk, rfl, hR⟩ := hrel
    by_cases hlt : k < 8
    · have hlt' : (k : Int) < 8 := by omega
      have HR := hide hR
      clear hR
      go_wp2
      go_loopw [5] (fun i wr => i = .int .i64 0 ∧ JR w (fun _ => 0) wr) (fun _ _ => 0)
      case atStart => exact ⟨rfl, HR.out⟩
      case round =>
        clear HR
        obtain ⟨rfl, hR⟩ := hrel
        have HR := hide hR
        clear hR
        go_wp2
        exact ⟨⟨k + 1, by omega, by go_num, HR.out⟩, by simp [intOf]; omega⟩
    · have hk8 : k = 8 := by omega
      subst hk8
      have hR2 := hR
      obtain ⟨z, hz⟩ := hR2.zero
      have R0 : Hid (Row wr w.heap.size 27 .u32 ((List.range 8).map z)) := hz
      have R1 : Hid (Row wr (w.heap.size + 1) 27 .u32 ((List.range 8).map fun _ => 0)) := hR2.row
      have I27 : Hid ((Try.prog.info? 27).map (·.size) = some (ints .u32 ((List.range 8).map fun _ => 0)).size) := by show _ = _; rw [ints_size]; kernel_rfl
      have Z27 : Hid ((ints .u32 ((List.range 8).map z)).size = (ints .u32 ((List.range 8).map fun _ => 0)).size) := by show _ = _; rw [ints_size, ints_size]; rfl
      have HBl := hide hR2.below
      clear hR hR2 hz
      obtain ⟨o, ho⟩ : ∃ o, o = (List.range 8).map (fun _ => (0 : Int)) := ⟨_, rfl⟩
      have HO : Hid (ints .u32 o = cl fun _ => 0) := by show _ = _; rw [ho]; rfl
      rw [← ho] at R1 I27 Z27
      clear ho
      generalize (List.range 8).map z = zz at *
      go_upto_region 10 with fail
      go_wp2_with (first | (refine wpList_load_row rfl 27 _ rfl _ rfl 27 (ints .u32 o) (0, 0) _ R1.out Try.underlying27 rfl I27.out ?_) | (refine wpList_store_row rfl 27 _ _ rfl _ (ints .u32 o) rfl rfl 27 _ R0.out I27.out Z27.out (ints_one _ _) ?_))
      refine bodyPost_ret (v := .agg (ints .u32 o)) (results_cell_row Try.results20 _ _ w.heap.size 27 (ints .u32 o) (0, 0) _ rfl (Row.put R0.out _) Try.underlying27 rfl I27.out) rfl ⟨by rw [HO.out], below_setRow HBl.out (Nat.le_refl _) _⟩
end Go.Proofs.Ytiionogafaegkaa
