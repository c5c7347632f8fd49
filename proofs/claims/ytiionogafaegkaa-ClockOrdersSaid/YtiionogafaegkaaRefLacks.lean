/-
  The reference's Lacks of clocks, by its text.
-/
import Derived.Test.YtiionogafaegkaaRefOrd
import Derived.Test.YtiionogafaegkaaStep
import Derived.Test.YtiionogafaegkaaOwn
namespace Go.Proofs.Ytiionogafaegkaa
open Go.RowKit
/-- what the reference's Lacks keeps -/
structure RL (w : World) (b0 b1 base : Nat) (a b : List Int) (k : Nat) (v : Value) (W : World) : Prop where
  tw : TW w b0 b1 a b W
  own : W.ownsRow base 39 3 v (lacksN (gi a) (gi b) k) (lacksTo (gi a) (gi b) k)
  lo : w.heap.size ≤ base ∧ b0 < base ∧ b1 < base ∧ base ≤ W.heap.size
theorem RL.drewN {w W : World} {b0 b1 base k : Nat} {a b : List Int} {v : Value} (h : RL w b0 b1 base a b k v W) (n : Nat) : RL w b0 b1 base a b k v (W.drewN n) := ⟨h.tw.drewN n, h.own, h.lo⟩
theorem RL.drew {w W : World} {b0 b1 base k : Nat} {a b : List Int} {v : Value} (h : RL w b0 b1 base a b k v W) : RL w b0 b1 base a b k v W.drew := ⟨h.tw.drewN 1, h.own, h.lo⟩
theorem RL.alloc {w W : World} {b0 b1 base k : Nat} {a b : List Int} {v : Value} (h : RL w b0 b1 base a b k v W) (o : Obj) : RL w b0 b1 base a b k v (W.alloc o) :=
  ⟨h.tw.next ((Below.refl _ _).alloc (Nat.le_refl _) _), World.ownsRow.alloc h.own o, by have := h.lo; simp; omega⟩
theorem RL.same {w W : World} {b0 b1 base k : Nat} {a b : List Int} {v : Value} (h : RL w b0 b1 base a b k v W) (hk : ¬ gi a k < gi b k) : RL w b0 b1 base a b (k + 1) v W :=
  ⟨h.tw, by simpa [lacksN, lacksTo, spanCells, hk] using h.own, h.lo⟩
theorem RL.more {w W W' : World} {b0 b1 base k : Nat} {a b : List Int} {v v' : Value} (h : RL w b0 b1 base a b k v W) (hk : gi a k < gi b k)
    (ho : W'.ownsRow base 39 3 v' (lacksN (gi a) (gi b) k + 1) (lacksTo (gi a) (gi b) k ++ [.int .i64 k, .int .u32 (gi a k + 1), .int .u32 (gi b k)])) (hg : W.grownBy W' v.ownBlock) : RL w b0 b1 base a b (k + 1) v' W' := by
  have hlo := own_base h.own
  obtain ⟨l0, l1, l2, l3⟩ := h.lo
  refine ⟨⟨h.tw.fst.grew hg hlo l1, h.tw.snd.grew hg hlo l2, h.tw.below.grown hg h.tw.below.size (fun r hr => ?_)⟩, by simpa [lacksN, lacksTo, spanCells, hk] using ho, l0, l1, l2, Nat.le_trans l3 hg.size⟩
  have := hlo r hr
  omega
set_option maxRecDepth 100000 in
set_option maxHeartbeats 600000 in
theorem reflacks_any (a b : List Int) (ha : a.length = 8) (hb : b.length = 8) (wa : Words a) (wb : Words b) (w : World) :
    Calls Try.prog 16 #[.agg (ints .u32 a), .agg (ints .u32 b)] w fun e w' => ∃ v, e = .returned v ∧ RL w w.heap.size (w.heap.size + 1) (w.heap.size + 2) a b 8 v w' := by
  obtain ⟨i0, hi, hz0, hz1, hz2⟩ := info_parts info_span
  have HI := hide hi
  have HZ := hide (And.intro hz0 (And.intro hz1 hz2))
  clear hi hz0 hz1 hz2
  have hS : RL w w.heap.size (w.heap.size + 1) (w.heap.size + 2) a b 0 (.slice none 0 0) ((w.alloc (.cells (ints .u32 a) 27)).alloc (.cells (ints .u32 b) 27)) :=
    ⟨TW.start w a b, own_nil _ _ _ _, by simp⟩
  have HS := hide hS
  have HA := hide ha
  have HB := hide hb
  have WA := hide wa
  have WB := hide wb
  clear ha hb hS wa wb
  go_enter Try.func16, Try.ntmps16
  go_wp2_with fail
  generalize hW : (w.alloc (.cells (ints .u32 a) 27)).alloc (.cells (ints .u32 b) 27) = W0 at *
  clear hW
  obtain ⟨base, h2⟩ : ∃ x, x = w.heap.size + 2 := ⟨_, rfl⟩
  obtain ⟨b1, h1⟩ : ∃ x, x = w.heap.size + 1 := ⟨_, rfl⟩
  obtain ⟨b0, h0⟩ : ∃ x, x = w.heap.size := ⟨_, rfl⟩
  rw [← h2, ← h1, ← h0] at HS
  rw [← h1, ← h0]
  have HE := hide (And.intro h0 (And.intro h1 h2))
  clear h0 h1 h2
  go_loopw [5, 6] (fun v i W => ∃ k : Nat, k ≤ 8 ∧ i = .int .i64 k ∧ RL w b0 b1 base a b k v W) (fun _ i _ => 8 - (intOf i).toNat)
  case atStart => exact ⟨0, by omega, rfl, HS.out⟩
  case round =>
    clear HS
    obtain ⟨k, hk, rfl, hR⟩ := hrel
    by_cases hlt : k < 8
    · have k0 : (0 : Int) ≤ k := by omega
      have k1 : (k : Int) < 8 := by omega
      have c1 := hR.tw.fst.at_ (i := k) (by rw [HA.out]; exact hlt)
      have c2 := hR.tw.snd.at_ (i := k) (by rw [HB.out]; exact hlt)
      have HR := hide hR
      clear hR
      by_cases hgt : gi a k < gi b k
      · have x1 := (WA.out k).1
        have x2 : gi a k + 1 ≤ 4294967295 := by have := (WB.out k).2; omega
        have WX : Hid (IntKind.u32.wrap (gi a k + 1) = gi a k + 1) := by
          show _ = _
          rw [IntKind.wrap_u32']
          omega
        have hN := lacksN_le (gi a) (gi b) k
        have HNN := hide hN
        clear hN
        go_upto_region 5 with fail
        go_quiet (fail)
        have HR2 := hide (HR.out.drewN nq)
        clear HR c1 c2
        generalize wr.drewN nq = W1 at *
        have c1 : W1.drew.cell? ⟨b0, k, none⟩ = some (.int .u32 (gi a k)) := HR2.out.tw.fst.at_ (i := k) (by rw [HA.out]; exact hlt)
        have c2 : W1.drew.cell? ⟨b1, k, none⟩ = some (.int .u32 (gi b k)) := HR2.out.tw.snd.at_ (i := k) (by rw [HB.out]; exact hlt)
        have HD := hide (HR2.out.drew)
        clear HR2
        go_wp2_with fail
        go_region_law (first | (refine step_append_own rfl _ _ 36 rfl base 39 i0 (.agg #[.int .i64 0, .int .u32 0, .int .u32 0]) 3 16 Try.underlying36 HI.out HZ.out.1 HZ.out.2.1 HZ.out.2.2 rfl (by decide) _ _ _ rfl (HD.out.alloc _).own ⟨_, 0, none⟩ 1 1 [.int .i64 k, .int .u32 (IntKind.u32.wrap (gi a k + 1)), .int .u32 (gi b k)] rfl rfl (news_new _ _ _) (by simp [Value.oneCell']) (by have := HNN.out; unfold maxLen; omega) (by have := HNN.out; omega) (HD.out.alloc _).lo.2.2.2 ?_; intro v' w1 hown hgrow))
        all_goals (
          rw [WX.out] at hown
          have hN2 := (HD.out.alloc _).more hgt hown hgrow
          clear hown hgrow c1 c2
          try go_wp2
          exact ⟨⟨k + 1, by omega, by go_num, hN2⟩, by simp [intOf]; omega⟩)
      · go_upto_region 5 with fail
        go_quiet (fail)
        have HR2 := hide ((HR.out.drewN nq).same hgt)
        clear HR c1 c2
        go_wp2
        exact ⟨⟨k + 1, by omega, by go_num, HR2.out⟩, by simp [intOf]; omega⟩
    · have hk8 : k = 8 := by omega
      subst hk8
      have HR := hide hR
      clear hR
      go_wp2
      go_ret
      obtain ⟨h0, h1, h2⟩ := HE.out
      subst h0 h1 h2
      exact ⟨_, rfl, HR.out⟩
end Go.Proofs.Ytiionogafaegkaa
