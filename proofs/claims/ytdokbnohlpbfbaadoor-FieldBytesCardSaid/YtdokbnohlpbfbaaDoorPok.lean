/-
  product answers the product.
-/
import Derived.Test.YtdokbnohlpbfbaaDoorPval
namespace Go.Proofs.YtdokbnohlpbfbaaDoor
open Go Go.RowKit
set_option linter.unusedSimpArgs false
set_option linter.unusedVariables false
set_option maxRecDepth 100000
set_option maxHeartbeats 4000000

theorem wl_nl {a b c d : Int} (ha : Wd a) (hb : Wd b) (hc : Wd c) (hd : Wd d) : wl (NL a b c d) = [a, b, c, d] := by
  unfold Wd at *
  unfold wl NL
  simp only [List.cons.injEq, and_true]
  omega
theorem fold_val {r0 r1 r2 r3 r4 r5 r6 r7 : Int} (h0 : Wd r0) (h1 : Wd r1) (h2 : Wd r2) (h3 : Wd r3) (h4 : Wd r4) (h5 : Wd r5) (h6 : Wd r6) (h7 : Wd r7) :
    ∃ S t : Int, Big S ∧ 0 ≤ t ∧ t ≤ 100 ∧ foldF [r0, r1, r2, r3, r4, r5, r6, r7] 4 0 (zl 4) 0 = (wl S, t) ∧
      S + t * 115792089237316195423570985008687907853269984665640564039457584007913129639936 = NL r0 r1 r2 r3 + 38 * NL r4 r5 r6 r7 := by
  have z : Wd 0 := by unfold Wd; omega
  have w38 : Wd 38 := by unfold Wd; omega
  have s0 := sum_wd h0 h4 w38 z
  have s1 := sum_wd h1 h5 w38 s0.2
  have s2 := sum_wd h2 h6 w38 s1.2
  have s3 := sum_wd h3 h7 w38 s2.2
  refine ⟨NL _ _ _ _, _, nl_big s0.1 s1.1 s2.1 s3.1, s3.2.1, ?_, ?_, ?_⟩
  · unfold Wd at *; omega
  · rw [wl_nl s0.1 s1.1 s2.1 s3.1]
    rfl
  · clear s0 s1 s2 s3
    unfold NL
    omega
theorem prod_rc {H : AH} (hG : GP H) {X Y : Int} (hX : Big X) (hY : Big Y) : AC Tryd.prog H.length gm 33 #[nv X, nv Y] H (fun v' _ => v' = nv (X * Y % 57896044618658097711785492504343953926634992332820282019728792003956564819949)) := by
  obtain ⟨r0, r1, r2, r3, r4, r5, r6, r7, hw, h0, h1, h2, h3, h4, h5, h6, h7, hxy⟩ := wide_val hX hY
  obtain ⟨S, t, hS, ht0, ht1, hf, hs⟩ := fold_val h0 h1 h2 h3 h4 h5 h6 h7
  rw [← hw] at hf
  have hh := nl_big h4 h5 h6 h7
  have key : X * Y % 57896044618658097711785492504343953926634992332820282019728792003956564819949 =
      ((S + t * 38) % 115792089237316195423570985008687907853269984665640564039457584007913129639936 + (S + t * 38) / 115792089237316195423570985008687907853269984665640564039457584007913129639936 * 38) % 57896044618658097711785492504343953926634992332820282019728792003956564819949 := by
    rw [hxy]
    generalize NL r0 r1 r2 r3 = lo at *
    generalize NL r4 r5 r6 r7 = hi at *
    clear hw hf h0 h1 h2 h3 h4 h5 h6 h7 hxy hG hX hY
    unfold Big at *
    generalize hT : (S + t * 38) % 115792089237316195423570985008687907853269984665640564039457584007913129639936 = T
    generalize hc : (S + t * 38) / 115792089237316195423570985008687907853269984665640564039457584007913129639936 = c
    have e : lo + 115792089237316195423570985008687907853269984665640564039457584007913129639936 * hi = T + c * 38 + 57896044618658097711785492504343953926634992332820282019728792003956564819949 * (2 * (hi + t + c)) := by omega
    rw [e, Int.add_mul_emod_self_left]
  rw [key]
  refine prod_ac hG hf hS ⟨ht0, ht1⟩ rfl rfl ?_
  unfold Big at hS
  omega
end Go.Proofs.YtdokbnohlpbfbaaDoor
