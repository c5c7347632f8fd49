/-
  The reference's Most, Order and Due of clocks, by their text.
-/
import Derived.Test.YtiionogafaegkaaLattice
import Derived.Test.YtiionogafaegkaaRow
namespace Go.Proofs.Ytiionogafaegkaa
open Go.RowKit
/-- two clocks in their boxes, and what was there -/
structure TW (w : World) (b0 b1 : Nat) (a b : List Int) (W : World) : Prop where
  fst : Row W b0 27 .u32 a
  snd : Row W b1 27 .u32 b
  below : Below w.heap.size w W
theorem TW.start (w : World) (a b : List Int) : TW w w.heap.size (w.heap.size + 1) a b ((w.alloc (.cells (ints .u32 a) 27)).alloc (.cells (ints .u32 b) 27)) :=
  ⟨heap_alloc2_old _ _ _, heap_alloc2_new _ _ _, ((Below.refl _ _).alloc (Nat.le_refl _) _).alloc (by simp) _⟩
theorem TW.drewN {w W : World} {b0 b1 : Nat} {a b : List Int} (h : TW w b0 b1 a b W) (n : Nat) : TW w b0 b1 a b (W.drewN n) := ⟨h.fst, h.snd, below_drewN h.below n⟩
theorem TW.next {w W W' : World} {b0 b1 : Nat} {a b : List Int} (h : TW w b0 b1 a b W) (hb : Below W.heap.size W W') : TW w b0 b1 a b W' :=
  ⟨h.fst.below hb h.fst.lt, h.snd.below hb h.snd.lt, h.below.trans (hb.mono h.below.size)⟩
/-- each number at most the other one's -/
def mostR (a b : List Int) : Bool := (List.range 8).all fun i => decide (gi a i ≤ gi b i)
theorem mostR_iff (a b : List Int) : mostR a b = true ↔ ∀ i, i < 8 → gi a i ≤ gi b i := by simp only [mostR, List.all_eq_true, List.mem_range, decide_eq_true_eq]
set_option maxRecDepth 100000 in
set_option maxHeartbeats 400000 in
theorem refmost_any (a b : List Int) (ha : a.length = 8) (hb : b.length = 8) (w : World) :
    Calls Try.prog 34 #[.agg (ints .u32 a), .agg (ints .u32 b)] w fun e w' => e = .returned (.bool (mostR a b)) ∧ Below w.heap.size w w' := by
  have HT := hide (TW.start w a b)
  have HA := hide ha
  have HB := hide hb
  clear ha hb
  go_enter Try.func34, Try.ntmps34
  go_wp2_with fail
  generalize hW : (w.alloc (.cells (ints .u32 a) 27)).alloc (.cells (ints .u32 b) 27) = W0 at *
  clear hW
  generalize w.heap.size + 1 = b1 at *
  obtain ⟨b0, hb0⟩ : ∃ b0, b0 = w.heap.size := ⟨_, rfl⟩
  rw [← hb0] at HT ⊢
  clear hb0
  go_loopw [5] (fun i W => ∃ k : Nat, k ≤ 8 ∧ i = .int .i64 k ∧ (∀ i, i < k → gi a i ≤ gi b i) ∧ TW w b0 b1 a b W) (fun i _ => 8 - (intOf i).toNat)
  case atStart => exact ⟨0, by omega, rfl, by omega, HT.out⟩
  case round =>
    clear HT
    obtain ⟨k, hk, rfl, hall, hT⟩ := hrel
    have HALL := hide hall
    clear hall
    by_cases hlt : k < 8
    · have q0 : (0 : Int) ≤ k := by omega
      have q1 : (k : Int) < 8 := by omega
      have c1 := hT.fst.at_ (i := k) (by rw [HA.out]; exact hlt)
      have c2 := hT.snd.at_ (i := k) (by rw [HB.out]; exact hlt)
      have HTT := hide hT
      clear hT
      by_cases hgt : gi b k < gi a k
      · have hm : mostR a b = false := by
          rw [Bool.eq_false_iff]
          intro h
          have := (mostR_iff a b).1 h k hlt
          omega
        go_wp2_with fail
        go_quiet (fail)
        go_wp2
        go_ret
        exact ⟨by rw [hm]; rfl, (HTT.out.drewN nq).below⟩
      · go_wp2_with fail
        go_quiet (fail)
        go_wp2
        refine ⟨⟨k + 1, by omega, by go_num, fun i hi => ?_, HTT.out.drewN nq⟩, by simp [intOf]; omega⟩
        by_cases e : i = k
        · subst e; omega
        · exact HALL.out i (by omega)
    · have hk8 : k = 8 := by omega
      subst hk8
      have hm : mostR a b = true := by
        exact (mostR_iff a b).2 HALL.out
      have HBl := hide hT.below
      clear hT
      go_wp2
      go_ret
      exact ⟨by rw [hm]; rfl, HBl.out⟩

theorem eq_row (a b : List Int) (ha : a.length = 8) (hb : b.length = 8) (W : World) : (binOp .eql 27 (.agg (ints .u32 a)) (.agg (ints .u32 b))).run Try.prog W = .ok (.bool (a == b)) W := by
  obtain ⟨i, hi, h1⟩ : ∃ i, Try.prog.info? 25 = some i ∧ i.size = 1 := ⟨_, rfl, by kernel_rfl⟩
  exact run_eql_ints 27 25 8 .u32 .u32 i _ _ Try.underlying27 Try.underlying25 hi h1 ha hb W
/-- how two clocks stand, by the reference -/
def ordR (a b : List Int) : Int := if a == b then 0 else if mostR a b then -1 else if mostR b a then 1 else 2
set_option maxRecDepth 100000 in
set_option maxHeartbeats 400000 in
theorem reforder_any (a b : List Int) (ha : a.length = 8) (hb : b.length = 8) (w : World) :
    Calls Try.prog 18 #[.agg (ints .u32 a), .agg (ints .u32 b)] w fun e w' => e = .returned (.int .i64 (ordR a b)) ∧ Below w.heap.size w w' := by
  have HT := hide (TW.start w a b)
  have EQ := eq_row a b ha hb
  have M1 := hide (refmost_any a b ha hb)
  have M2 := hide (refmost_any b a hb ha)
  have I1 : Hid ((Try.prog.info? 27).map (·.size) = some (ints .u32 a).size) := by show _ = _; rw [ints_size, ha]; kernel_rfl
  have I2 : Hid ((Try.prog.info? 27).map (·.size) = some (ints .u32 b).size) := by show _ = _; rw [ints_size, hb]; kernel_rfl
  have HO : Hid (ordR a b = if a == b then 0 else if mostR a b then -1 else if mostR b a then 1 else 2) := rfl
  clear ha hb
  generalize ordR a b = o at *
  generalize (a == b) = e0 at *
  generalize mostR a b = e1 at *
  generalize mostR b a = e2 at *
  go_enter Try.func18, Try.ntmps18
  go_upto_region 1 with fail
  generalize hW : (w.alloc (.cells (ints .u32 a) 27)).alloc (.cells (ints .u32 b) 27) = W0 at *
  clear hW
  generalize w.heap.size + 1 = b1 at *
  obtain ⟨b0, hb0⟩ : ∃ b0, b0 = w.heap.size := ⟨_, rfl⟩
  rw [← hb0] at HT ⊢
  clear hb0
  have R1 := hide HT.out.fst
  have R2 := hide HT.out.snd
  cases e0
  · go_wp2_with (first | (refine wpList_load_row rfl 27 _ rfl _ rfl 27 (ints .u32 a) (0, 0) _ R1.out Try.underlying27 rfl I1.out ?_) | (refine wpList_load_row rfl 27 _ rfl _ rfl 27 (ints .u32 b) (0, 0) _ R2.out Try.underlying27 rfl I2.out ?_))
    refine (M1.out _).mono ?_
    rintro e W1 ⟨rfl, hb1⟩
    have HT1 := hide (HT.out.next hb1)
    clear hb1 HT R1 R2
    have R1 := hide HT1.out.fst
    have R2 := hide HT1.out.snd
    cases e1
    · go_wp2_with (first | (refine wpList_load_row rfl 27 _ rfl _ rfl 27 (ints .u32 a) (0, 0) _ R1.out Try.underlying27 rfl I1.out ?_) | (refine wpList_load_row rfl 27 _ rfl _ rfl 27 (ints .u32 b) (0, 0) _ R2.out Try.underlying27 rfl I2.out ?_))
      refine (M2.out _).mono ?_
      rintro e W2 ⟨rfl, hb2⟩
      have HT2 := hide (HT1.out.next hb2)
      clear hb2 HT1 R1 R2
      cases e2
      · go_wp2
        go_ret
        exact ⟨by rw [HO.out]; rfl, HT2.out.below⟩
      · go_wp2
        go_ret
        exact ⟨by rw [HO.out]; rfl, HT2.out.below⟩
    · go_wp2
      go_ret
      exact ⟨by rw [HO.out]; rfl, HT1.out.below⟩
  · go_wp2_with (first | (refine wpList_load_row rfl 27 _ rfl _ rfl 27 (ints .u32 a) (0, 0) _ R1.out Try.underlying27 rfl I1.out ?_) | (refine wpList_load_row rfl 27 _ rfl _ rfl 27 (ints .u32 b) (0, 0) _ R2.out Try.underlying27 rfl I2.out ?_))
    go_ret
    exact ⟨by rw [HO.out]; rfl, HT.out.below⟩
set_option maxRecDepth 100000 in
set_option maxHeartbeats 400000 in
theorem refdue_out (h c : List Int) (a : Int) (ha : a < 0 ∨ 7 < a) (w : World) :
    Calls Try.prog 22 #[.agg (ints .u32 h), .agg (ints .u32 c), .int .i64 a] w fun e w' => e = .returned (.bool false) ∧ Below w.heap.size w w' := by
  by_cases h0 : a < 0
  · clear ha
    have HT := hide (TW.start w h c)
    go_enter Try.func22, Try.ntmps22
    go_upto_region 1 with fail
    generalize hW : (w.alloc (.cells (ints .u32 h) 27)).alloc (.cells (ints .u32 c) 27) = W0 at *
    clear hW
    generalize w.heap.size + 1 = b1 at *
    obtain ⟨b0, hb0⟩ : ∃ b0, b0 = w.heap.size := ⟨_, rfl⟩
    rw [← hb0] at HT ⊢
    clear hb0
    go_quiet (fail)
    go_wp2
    go_ret
    exact ⟨rfl, (HT.out.drewN nq).below⟩
  · have h1 : 7 < a := by omega
    clear ha
    have HT := hide (TW.start w h c)
    go_enter Try.func22, Try.ntmps22
    go_upto_region 1 with fail
    generalize hW : (w.alloc (.cells (ints .u32 h) 27)).alloc (.cells (ints .u32 c) 27) = W0 at *
    clear hW
    generalize w.heap.size + 1 = b1 at *
    obtain ⟨b0, hb0⟩ : ∃ b0, b0 = w.heap.size := ⟨_, rfl⟩
    rw [← hb0] at HT ⊢
    clear hb0
    go_quiet (fail)
    go_wp2
    go_ret
    exact ⟨rfl, (HT.out.drewN nq).below⟩
theorem u64_same (x : Int) (h0 : 0 ≤ x) (h1 : x < 18446744073709551616) : IntKind.u64.wrap x = x := by
  simp only [IntKind.wrap, IntKind.signed, IntKind.bits]
  simp
  omega
/-- each number is a word -/
def Words (l : List Int) : Prop := ∀ i, 0 ≤ gi l i ∧ gi l i ≤ 4294967295
set_option maxRecDepth 100000 in
set_option maxHeartbeats 400000 in
theorem refdue_zero (h c : List Int) (hh : h.length = 8) (hc : c.length = 8) (n : Nat) (hn : n < 8) (hz : gi c n = 0) (w : World) :
    Calls Try.prog 22 #[.agg (ints .u32 h), .agg (ints .u32 c), .int .i64 n] w fun e w' => e = .returned (.bool false) ∧ Below w.heap.size w w' := by
  have HH := hide hh
  have HC := hide hc
  have q0 : (0 : Int) ≤ n := by omega
  have q1 : (n : Int) < 8 := by omega
  have q8 : decide ((n : Int) < 0) = false := by simp
  have q9 : decide (7 < (n : Int)) = false := by simp; omega
  clear hh hc
  have HT := hide (TW.start w h c)
  go_enter Try.func22, Try.ntmps22
  go_upto_region 1 with fail
  generalize hW : (w.alloc (.cells (ints .u32 h) 27)).alloc (.cells (ints .u32 c) 27) = W0 at *
  clear hW
  generalize w.heap.size + 1 = b1 at *
  obtain ⟨b0, hb0⟩ : ∃ b0, b0 = w.heap.size := ⟨_, rfl⟩
  rw [← hb0] at HT ⊢
  clear hb0
  have c1 := HT.out.fst.at_ (i := n) (by rw [HH.out]; exact hn)
  have c2 := HT.out.snd.at_ (i := n) (by rw [HC.out]; exact hn)
  rw [hz] at c2
  clear hz
  generalize gi h n = y at *
  clear hn
  go_quiet (fail)
  go_wp2
  go_ret
  exact ⟨rfl, (HT.out.drewN nq).below⟩
set_option maxRecDepth 100000 in
set_option maxHeartbeats 400000 in
theorem refdue_not (h c : List Int) (hh : h.length = 8) (hc : c.length = 8) (wh : Words h) (wc : Words c) (n : Nat) (hn : n < 8) (hz : gi c n ≠ 0) (hq : gi c n ≠ gi h n + 1) (w : World) :
    Calls Try.prog 22 #[.agg (ints .u32 h), .agg (ints .u32 c), .int .i64 n] w fun e w' => e = .returned (.bool false) ∧ Below w.heap.size w w' := by
  have HH := hide hh
  have HC := hide hc
  have q0 : (0 : Int) ≤ n := by omega
  have q1 : (n : Int) < 8 := by omega
  have q8 : decide ((n : Int) < 0) = false := by simp
  have q9 : decide (7 < (n : Int)) = false := by simp; omega
  clear hh hc
  have y0 := wh n
  have x0 := wc n
  clear wh wc
  have HT := hide (TW.start w h c)
  go_enter Try.func22, Try.ntmps22
  go_upto_region 1 with fail
  generalize hW : (w.alloc (.cells (ints .u32 h) 27)).alloc (.cells (ints .u32 c) 27) = W0 at *
  clear hW
  generalize w.heap.size + 1 = b1 at *
  obtain ⟨b0, hb0⟩ : ∃ b0, b0 = w.heap.size := ⟨_, rfl⟩
  rw [← hb0] at HT ⊢
  clear hb0
  have c1 := HT.out.fst.at_ (i := n) (by rw [HH.out]; exact hn)
  have c2 := HT.out.snd.at_ (i := n) (by rw [HC.out]; exact hn)
  generalize gi c n = x at *
  generalize gi h n = y at *
  have q5 : (x == 0) = false := by simp; exact hz
  have q6 : (x == y + 1) = false := by simp; exact hq
  have q7 : (x != y + 1) = true := by simp; exact hq
  have w1 : IntKind.u64.wrap x = x := u64_same _ (by omega) (by omega)
  have w2 : IntKind.u64.wrap y = y := u64_same _ (by omega) (by omega)
  have w3 : IntKind.u64.wrap (y + 1) = y + 1 := u64_same _ (by omega) (by omega)
  clear hz hq y0 x0
  clear hn
  go_quiet (fail)
  go_wp2
  go_ret
  exact ⟨rfl, (HT.out.drewN nq).below⟩
/-- all others at most there -/
def restR (h c : List Int) (n : Nat) : Bool := (List.range 8).all fun i => decide (i = n) || decide (gi c i ≤ gi h i)
theorem restR_iff (h c : List Int) (n : Nat) : restR h c n = true ↔ ∀ i, i < 8 → i = n ∨ gi c i ≤ gi h i := by
  simp only [restR, List.all_eq_true, List.mem_range, Bool.or_eq_true, decide_eq_true_eq]
set_option maxRecDepth 100000 in
set_option maxHeartbeats 400000 in
theorem refdue_in (h c : List Int) (hh : h.length = 8) (hc : c.length = 8) (wh : Words h) (n : Nat) (hn : n < 8) (hq : gi c n = gi h n + 1) (w : World) :
    Calls Try.prog 22 #[.agg (ints .u32 h), .agg (ints .u32 c), .int .i64 n] w fun e w' => e = .returned (.bool (restR h c n)) ∧ Below w.heap.size w w' := by
  have HH := hide hh
  have HC := hide hc
  have q0 : (0 : Int) ≤ n := by omega
  have q1 : (n : Int) < 8 := by omega
  have q8 : decide ((n : Int) < 0) = false := by simp
  have q9 : decide (7 < (n : Int)) = false := by simp; omega
  clear hh hc
  have y0 := wh n
  clear wh
  have HT := hide (TW.start w h c)
  go_enter Try.func22, Try.ntmps22
  go_upto_region 1 with fail
  generalize hW : (w.alloc (.cells (ints .u32 h) 27)).alloc (.cells (ints .u32 c) 27) = W0 at *
  clear hW
  generalize w.heap.size + 1 = b1 at *
  obtain ⟨b0, hb0⟩ : ∃ b0, b0 = w.heap.size := ⟨_, rfl⟩
  rw [← hb0] at HT ⊢
  clear hb0
  have c1 := HT.out.fst.at_ (i := n) (by rw [HH.out]; exact hn)
  have c2 := HT.out.snd.at_ (i := n) (by rw [HC.out]; exact hn)
  rw [hq] at c2
  clear hq
  generalize gi h n = y at *
  have q5 : (y + 1 == 0) = false := by simp; omega
  have w2 : IntKind.u64.wrap y = y := u64_same _ (by omega) (by omega)
  have w3 : IntKind.u64.wrap (y + 1) = y + 1 := u64_same _ (by omega) (by omega)
  have HN := hide hn
  clear hn y0
  go_quiet (fail)
  have HT2 := hide (HT.out.drewN nq)
  clear HT c1 c2 q5 w2 w3 q9 q8
  generalize W0.drewN nq = W1 at *
  go_wp2
  go_loopw [7] (fun i W => ∃ k : Nat, k ≤ 8 ∧ i = .int .i64 k ∧ (∀ i, i < k → i = n ∨ gi c i ≤ gi h i) ∧ TW w b0 b1 h c W) (fun i _ => 8 - (intOf i).toNat)
  case atStart => exact ⟨0, by omega, rfl, by omega, HT2.out⟩
  case round =>
    clear HT2
    obtain ⟨k, hk, rfl, hall, hT⟩ := hrel
    have HALL := hide hall
    clear hall
    by_cases hlt : k < 8
    · have k0 : (0 : Int) ≤ k := by omega
      have k1 : (k : Int) < 8 := by omega
      have c1 := hT.fst.at_ (i := k) (by rw [HH.out]; exact hlt)
      have c2 := hT.snd.at_ (i := k) (by rw [HC.out]; exact hlt)
      have HTT := hide hT
      clear hT
      by_cases he : k = n
      · have e1 : ((k : Int) == (n : Int)) = true := by simp; omega
        have e2 : ((k : Int) != (n : Int)) = false := by simp; omega
        go_wp2_with fail
        go_quiet (fail)
        go_wp2
        refine ⟨⟨k + 1, by omega, by go_num, fun i hi => ?_, HTT.out.drewN nq⟩, by simp [intOf]; omega⟩
        by_cases e : i = k
        · left; omega
        · exact HALL.out i (by omega)
      · have e1 : ((k : Int) == (n : Int)) = false := by simp; omega
        have e2 : ((k : Int) != (n : Int)) = true := by simp; omega
        by_cases hgt : gi h k < gi c k
        · have hm : restR h c n = false := by
            rw [Bool.eq_false_iff]
            intro hh
            have := (restR_iff h c n).1 hh k hlt
            omega
          have e3 : decide (gi h k < gi c k) = true := by simp; exact hgt
          go_wp2_with fail
          go_quiet (fail)
          go_wp2
          go_ret
          exact ⟨by rw [hm]; rfl, (HTT.out.drewN nq).below⟩
        · have e3 : decide (gi h k < gi c k) = false := by simp; omega
          go_wp2_with fail
          go_quiet (fail)
          go_wp2
          refine ⟨⟨k + 1, by omega, by go_num, fun i hi => ?_, HTT.out.drewN nq⟩, by simp [intOf]; omega⟩
          by_cases e : i = k
          · right; subst e; omega
          · exact HALL.out i (by omega)
    · have hk8 : k = 8 := by omega
      subst hk8
      have hm : restR h c n = true := (restR_iff h c n).2 HALL.out
      have HBl := hide hT.below
      clear hT
      go_wp2
      go_ret
      exact ⟨by rw [hm]; rfl, HBl.out⟩
/-- is an operation the next one, by the reference -/
def dueR (h c : List Int) (a : Int) : Bool := if a < 0 ∨ 7 < a then false else if gi c a.toNat = 0 then false else if gi c a.toNat = gi h a.toNat + 1 then restR h c a.toNat else false
theorem refdue_any (h c : List Int) (hh : h.length = 8) (hc : c.length = 8) (wh : Words h) (wc : Words c) (a : Int) (w : World) :
    Calls Try.prog 22 #[.agg (ints .u32 h), .agg (ints .u32 c), .int .i64 a] w fun e w' => e = .returned (.bool (dueR h c a)) ∧ Below w.heap.size w w' := by
  unfold dueR
  by_cases ha : a < 0 ∨ 7 < a
  · rw [if_pos ha]
    exact refdue_out h c a ha w
  · rw [if_neg ha]
    obtain ⟨n, rfl⟩ := Int.eq_ofNat_of_zero_le (show 0 ≤ a by omega)
    rw [Int.toNat_natCast]
    have hn : n < 8 := by omega
    by_cases hz : gi c n = 0
    · rw [if_pos hz]
      exact refdue_zero h c hh hc n hn hz w
    · rw [if_neg hz]
      by_cases hq : gi c n = gi h n + 1
      · rw [if_pos hq]
        exact refdue_in h c hh hc wh n hn hq w
      · rw [if_neg hq]
        exact refdue_not h c hh hc wh wc n hn hz hq w
end Go.Proofs.Ytiionogafaegkaa
