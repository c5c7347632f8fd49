/-
  product: what the rows come to.
-/
import Derived.Test.YtdokbnohlpbfbaaDoorProd
namespace Go.Proofs.YtdokbnohlpbfbaaDoor
open Go Go.RowKit
set_option linter.unusedSimpArgs false
set_option linter.unusedVariables false
set_option maxRecDepth 100000
set_option maxHeartbeats 4000000

theorem row_val {w0 w1 w2 w3 x b0 b1 b2 b3 : Int} (hw0 : Wd w0) (hw1 : Wd w1) (hw2 : Wd w2) (hw3 : Wd w3) (hx : Wd x) (hb0 : Wd b0) (hb1 : Wd b1) (hb2 : Wd b2) (hb3 : Wd b3) :
    ∃ l0 l1 l2 l3 h : Int, Wd l0 ∧ Wd l1 ∧ Wd l2 ∧ Wd l3 ∧ Wd h ∧
      NL l0 l1 l2 l3 + h * 115792089237316195423570985008687907853269984665640564039457584007913129639936 = NL w0 w1 w2 w3 + x * NL b0 b1 b2 b3 ∧
      (∀ v4 v5 v6 v7 : Int, rowF x [b0, b1, b2, b3] 0 [w0, w1, w2, w3, v4, v5, v6, v7] 0 = [l0, l1, l2, l3, h, v5, v6, v7]) ∧
      (∀ v0 v5 v6 v7 : Int, rowF x [b0, b1, b2, b3] 1 [v0, w0, w1, w2, w3, v5, v6, v7] 0 = [v0, l0, l1, l2, l3, h, v6, v7]) ∧
      (∀ v0 v1 v6 v7 : Int, rowF x [b0, b1, b2, b3] 2 [v0, v1, w0, w1, w2, w3, v6, v7] 0 = [v0, v1, l0, l1, l2, l3, h, v7]) ∧
      (∀ v0 v1 v2 v7 : Int, rowF x [b0, b1, b2, b3] 3 [v0, v1, v2, w0, w1, w2, w3, v7] 0 = [v0, v1, v2, l0, l1, l2, l3, h]) := by
  have z : Wd 0 := by unfold Wd; omega
  have s0 := sum_wd hw0 hx hb0 z
  have s1 := sum_wd hw1 hx hb1 s0.2
  have s2 := sum_wd hw2 hx hb2 s1.2
  have s3 := sum_wd hw3 hx hb3 s2.2
  refine ⟨_, _, _, _, _, s0.1, s1.1, s2.1, s3.1, s3.2, ?_, fun _ _ _ _ => rfl, fun _ _ _ _ => rfl, fun _ _ _ _ => rfl, fun _ _ _ _ => rfl⟩
  have e : x * NL b0 b1 b2 b3 = x * b0 + x * b1 * 18446744073709551616 + x * b2 * 340282366920938463463374607431768211456 + x * b3 * 6277101735386680763835789423207666416102355444464034512896 := by
    unfold NL
    rw [Int.mul_add, Int.mul_add, Int.mul_add, ← Int.mul_assoc, ← Int.mul_assoc, ← Int.mul_assoc]
  rw [e]
  clear e s0 s1 s2 s3
  generalize x * b0 = p0
  generalize x * b1 = p1
  generalize x * b2 = p2
  generalize x * b3 = p3
  unfold NL
  omega
theorem wide_val {X Y : Int} (hX : Big X) (hY : Big Y) : ∃ r0 r1 r2 r3 r4 r5 r6 r7 : Int, wide0 X Y = [r0, r1, r2, r3, r4, r5, r6, r7] ∧ Wd r0 ∧ Wd r1 ∧ Wd r2 ∧ Wd r3 ∧ Wd r4 ∧ Wd r5 ∧ Wd r6 ∧ Wd r7 ∧
    X * Y = NL r0 r1 r2 r3 + 115792089237316195423570985008687907853269984665640564039457584007913129639936 * NL r4 r5 r6 r7 := by
  obtain ⟨a0, a1, a2, a3, e1, ha0, ha1, ha2, ha3, h1⟩ := words hX
  obtain ⟨b0, b1, b2, b3, e2, hb0, hb1, hb2, hb3, h2⟩ := words hY
  have hx : wl X = [a0, a1, a2, a3] := by
    have := e1
    rw [nv_wl] at this
    unfold lv iv at this
    simpa [iv, wl] using this
  have hy : wl Y = [b0, b1, b2, b3] := by
    have := e2
    rw [nv_wl] at this
    unfold lv iv at this
    simpa [iv, wl] using this
  have z : Wd 0 := by unfold Wd; omega
  obtain ⟨p0, p1, p2, p3, p4, wp0, wp1, wp2, wp3, wp4, ep, rp, -⟩ := row_val z z z z ha0 hb0 hb1 hb2 hb3
  obtain ⟨q0, q1, q2, q3, q4, wq0, wq1, wq2, wq3, wq4, eq, -, rq, -⟩ := row_val wp1 wp2 wp3 wp4 ha1 hb0 hb1 hb2 hb3
  obtain ⟨r0, r1, r2, r3, r4, wr0, wr1, wr2, wr3, wr4, er, -, -, rr, -⟩ := row_val wq1 wq2 wq3 wq4 ha2 hb0 hb1 hb2 hb3
  obtain ⟨s0, s1, s2, s3, s4, ws0, ws1, ws2, ws3, ws4, es, -, -, -, rs⟩ := row_val wr1 wr2 wr3 wr4 ha3 hb0 hb1 hb2 hb3
  refine ⟨p0, q0, r0, s0, s1, s2, s3, s4, ?_, wp0, wq0, wr0, ws0, ws1, ws2, ws3, ws4, ?_⟩
  · unfold wide0
    rw [hx, hy, mulF_cons, mulF_cons, mulF_cons, mulF_cons, mulF_nil, show zl 8 = [0, 0, 0, 0, 0, 0, 0, 0] from rfl, rp, rq, rr, rs]
  · rw [← h2] at ep eq er es
    have e : X * Y = a0 * Y + a1 * Y * 18446744073709551616 + a2 * Y * 340282366920938463463374607431768211456 + a3 * Y * 6277101735386680763835789423207666416102355444464034512896 := by
      rw [h1]
      unfold NL
      rw [Int.add_mul, Int.add_mul, Int.add_mul, Int.mul_right_comm a1, Int.mul_right_comm a2, Int.mul_right_comm a3]
    rw [e]
    generalize a0 * Y = t0 at *
    generalize a1 * Y = t1 at *
    generalize a2 * Y = t2 at *
    generalize a3 * Y = t3 at *
    unfold NL at *
    omega
end Go.Proofs.YtdokbnohlpbfbaaDoor
