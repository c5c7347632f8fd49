/-
  Numbers of 256 bits as a value: plus, minus, reduced.
-/
import Derived.Test.YtdokbnohlpbfbaaDoorMul
namespace Go.Proofs.YtdokbnohlpbfbaaDoor
open Go Go.RowKit
set_option linter.unusedSimpArgs false
set_option linter.unusedVariables false
set_option maxRecDepth 100000
set_option maxHeartbeats 2000000

/-- The number's four words. -/
def nv (X : Int) : Value := lv (X % 18446744073709551616) (X / 18446744073709551616 % 18446744073709551616) (X / 340282366920938463463374607431768211456 % 18446744073709551616) (X / 6277101735386680763835789423207666416102355444464034512896 % 18446744073709551616)
def NL (a b c d : Int) : Int := a + b * 18446744073709551616 + c * 340282366920938463463374607431768211456 + d * 6277101735386680763835789423207666416102355444464034512896
/-- A number of 256 bits. -/
def Big (X : Int) : Prop := 0 ≤ X ∧ X < 115792089237316195423570985008687907853269984665640564039457584007913129639936
/-- An element's number. -/
def El (X : Int) : Prop := 0 ≤ X ∧ X < 57896044618658097711785492504343953926634992332820282019728792003956564819949
theorem El.big {X : Int} (h : El X) : Big X := by unfold El at h; unfold Big; omega
theorem lv_nv {a b c d : Int} (ha : Wd a) (hb : Wd b) (hc : Wd c) (hd : Wd d) : lv a b c d = nv (NL a b c d) := by
  unfold Wd at *
  unfold nv NL
  congr 1 <;> omega
theorem words {X : Int} (h : Big X) : ∃ a b c d : Int, nv X = lv a b c d ∧ Wd a ∧ Wd b ∧ Wd c ∧ Wd d ∧ X = NL a b c d := by
  unfold Big at h
  refine ⟨_, _, _, _, rfl, ?_, ?_, ?_, ?_, ?_⟩
  · unfold Wd; omega
  · unfold Wd; omega
  · unfold Wd; omega
  · unfold Wd; omega
  · unfold NL; omega
theorem nl_big {a b c d : Int} (ha : Wd a) (hb : Wd b) (hc : Wd c) (hd : Wd d) : Big (NL a b c d) := by unfold Wd at *; unfold Big NL; omega
theorem plus_nv {X Y : Int} (hX : Big X) (hY : Big Y) : VC Tryd.prog 31 #[nv X, nv Y]
    (.tuple #[nv ((X + Y) % 115792089237316195423570985008687907853269984665640564039457584007913129639936), .int .u64 ((X + Y) / 115792089237316195423570985008687907853269984665640564039457584007913129639936)]) := by
  obtain ⟨a0, a1, a2, a3, e1, ha0, ha1, ha2, ha3, h1⟩ := words hX
  obtain ⟨b0, b1, b2, b3, e2, hb0, hb1, hb2, hb3, h2⟩ := words hY
  have h := plus_vc ha0 ha1 ha2 ha3 hb0 hb1 hb2 hb3
  rw [e1, e2]
  have k0 := pc_bd ha0 hb0 z01
  have k1 := pc_bd ha1 hb1 k0
  have k2 := pc_bd ha2 hb2 k1
  have k3 := pc_bd ha3 hb3 k2
  have q0 := pl_eq a0 b0 0
  have q1 := pl_eq a1 b1 (pc a0 b0 0)
  have q2 := pl_eq a2 b2 (pc a1 b1 (pc a0 b0 0))
  have q3 := pl_eq a3 b3 (pc a2 b2 (pc a1 b1 (pc a0 b0 0)))
  have w0 := pl_wd a0 b0 0
  have w1 := pl_wd a1 b1 (pc a0 b0 0)
  have w2 := pl_wd a2 b2 (pc a1 b1 (pc a0 b0 0))
  have w3 := pl_wd a3 b3 (pc a2 b2 (pc a1 b1 (pc a0 b0 0)))
  rw [lv_nv w0 w1 w2 w3] at h
  have hb := nl_big w0 w1 w2 w3
  generalize pl a0 b0 0 = s0 at *
  generalize pc a0 b0 0 = c0 at *
  generalize pl a1 b1 c0 = s1 at *
  generalize pc a1 b1 c0 = c1 at *
  generalize pl a2 b2 c1 = s2 at *
  generalize pc a2 b2 c1 = c2 at *
  generalize pl a3 b3 c2 = s3 at *
  generalize pc a3 b3 c2 = c3 at *
  have hs : X + Y = NL s0 s1 s2 s3 + 115792089237316195423570985008687907853269984665640564039457584007913129639936 * c3 := by rw [h1, h2]; unfold NL; omega
  generalize NL s0 s1 s2 s3 = S at *
  unfold Big at hb
  rw [show (X + Y) % 115792089237316195423570985008687907853269984665640564039457584007913129639936 = S by omega, show (X + Y) / 115792089237316195423570985008687907853269984665640564039457584007913129639936 = c3 by omega]
  exact h
theorem minus_nv {X Y : Int} (hX : Big X) (hY : Big Y) : VC Tryd.prog 30 #[nv X, nv Y]
    (.tuple #[nv ((X - Y) % 115792089237316195423570985008687907853269984665640564039457584007913129639936), .int .u64 (if X < Y then 1 else 0)]) := by
  obtain ⟨a0, a1, a2, a3, e1, ha0, ha1, ha2, ha3, h1⟩ := words hX
  obtain ⟨b0, b1, b2, b3, e2, hb0, hb1, hb2, hb3, h2⟩ := words hY
  have h := minus_vc ha0 ha1 ha2 ha3 hb0 hb1 hb2 hb3
  rw [e1, e2]
  have k0 := mb_bd a0 b0 0
  have k1 := mb_bd a1 b1 (mb a0 b0 0)
  have k2 := mb_bd a2 b2 (mb a1 b1 (mb a0 b0 0))
  have k3 := mb_bd a3 b3 (mb a2 b2 (mb a1 b1 (mb a0 b0 0)))
  have q0 := mi_eq ha0 hb0 z01
  have q1 := mi_eq ha1 hb1 k0
  have q2 := mi_eq ha2 hb2 k1
  have q3 := mi_eq ha3 hb3 k2
  have w0 := mi_wd a0 b0 0
  have w1 := mi_wd a1 b1 (mb a0 b0 0)
  have w2 := mi_wd a2 b2 (mb a1 b1 (mb a0 b0 0))
  have w3 := mi_wd a3 b3 (mb a2 b2 (mb a1 b1 (mb a0 b0 0)))
  rw [lv_nv w0 w1 w2 w3] at h
  have hb := nl_big w0 w1 w2 w3
  generalize mi a0 b0 0 = s0 at *
  generalize mb a0 b0 0 = c0 at *
  generalize mi a1 b1 c0 = s1 at *
  generalize mb a1 b1 c0 = c1 at *
  generalize mi a2 b2 c1 = s2 at *
  generalize mb a2 b2 c1 = c2 at *
  generalize mi a3 b3 c2 = s3 at *
  generalize mb a3 b3 c2 = c3 at *
  have hs : X - Y = NL s0 s1 s2 s3 - 115792089237316195423570985008687907853269984665640564039457584007913129639936 * c3 := by rw [h1, h2]; unfold NL; omega
  generalize NL s0 s1 s2 s3 = S at *
  unfold Big at hb
  rw [show (X - Y) % 115792089237316195423570985008687907853269984665640564039457584007913129639936 = S by omega, show (if X < Y then 1 else 0 : Int) = c3 by split <;> omega]
  exact h
end Go.Proofs.YtdokbnohlpbfbaaDoor
