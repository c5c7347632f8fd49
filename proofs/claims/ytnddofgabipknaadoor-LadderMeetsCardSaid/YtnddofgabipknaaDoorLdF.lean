/-
  The curve in its other form: points, sums, multiples, and what the ladder keeps. Over any field Fin n. Free of any program.
  Every climb from 9 is something; climbs meet; from nought there is none.
-/
import Derived.Test.YtnddofgabipknaaDoorLibA
import Derived.Test.YtnddofgabipknaaDoorLdC
namespace Go.Proofs.YtnddofgabipknaaDoor
section
set_option linter.unusedVariables false
set_option linter.unusedSimpArgs false
set_option maxRecDepth 100000
set_option maxHeartbeats 8000000

namespace EdG
section
variable {n : Nat} [NeZero n]
/-- A field in which the curve's number is no square, turned over. -/
structure Fld (n : Nat) [NeZero n] where
  c : Fin n
  inv : Fin n → Fin n
  hI : ∀ x : Fin n, x ≠ 0 → x * inv x = 1
  hns : ∀ s : Fin n, c * s^2 ≠ 1
  h2 : (2 : Fin n) ≠ 0
  hc : c ≠ 0
theorem Fld.dom (F : Fld n) {a b : Fin n} (h : a * b = 0) (ha : a ≠ 0) : b = 0 := by
  have := F.hI a ha
  grind
theorem Fld.mul_ne (F : Fld n) {a b : Fin n} (ha : a ≠ 0) (hb : b ≠ 0) : a * b ≠ 0 := fun h => hb (F.dom h ha)
theorem Fld.can (F : Fld n) {a b d : Fin n} (h : d * a = d * b) (hd : d ≠ 0) : a = b := by
  have : d * (a - b) = 0 := by grind
  have := F.dom this hd
  grind
theorem den_1 (c x1 y1 x2 y2 : Fin n) (h1 : x1^2*y1^2 = c*(x1^2+y1^2-1)) (h2 : x2^2*y2^2 = c*(x2^2+y2^2-1)) (hm : x1*x2*y1*y2 = c) : c * (c*(x1+y1)^2) = c * (x1^2*y1^2*(x2+y2)^2) := by grind
theorem den_2 (c x1 y1 x2 y2 : Fin n) (h1 : x1^2*y1^2 = c*(x1^2+y1^2-1)) (h2 : x2^2*y2^2 = c*(x2^2+y2^2-1)) (hm : x1*x2*y1*y2 = c) : c * (c*(x1-y1)^2) = c * (x1^2*y1^2*(x2-y2)^2) := by grind
/-- No square: so no denominator is nought. -/
theorem den_ne (F : Fld n) {x1 y1 x2 y2 : Fin n} (h1 : x1^2*y1^2 = F.c*(x1^2+y1^2-1)) (h2 : x2^2*y2^2 = F.c*(x2^2+y2^2-1)) : F.c - x1*x2*y1*y2 ≠ 0 := by
  intro h
  have hm : x1*x2*y1*y2 = F.c := by grind
  have hx1 : x1 ≠ 0 := fun e => F.hc (by rw [← hm, e]; grind)
  have hx2 : x2 ≠ 0 := fun e => F.hc (by rw [← hm, e]; grind)
  have hy1 : y1 ≠ 0 := fun e => F.hc (by rw [← hm, e]; grind)
  have key : ∀ s t : Fin n, F.c * (F.c * s^2) = F.c * (x1^2*y1^2*t^2) → t = 0 := fun s t hst => Classical.byContradiction fun ht => by
    have e1 := F.can hst F.hc
    have e2 := F.hI _ (F.mul_ne (F.mul_ne hx1 hy1) ht)
    refine F.hns (s * F.inv (x1*y1*t)) ?_
    have e3 : F.c * (s * F.inv (x1*y1*t))^2 = (F.c * s^2) * (F.inv (x1*y1*t))^2 := by grind
    rw [e3, e1]
    have e4 : x1^2*y1^2*t^2 * (F.inv (x1*y1*t))^2 = (x1*y1*t * F.inv (x1*y1*t))^2 := by grind
    rw [e4, e2]
    grind
  have k1 := key _ _ (den_1 F.c x1 y1 x2 y2 h1 h2 hm)
  have k2 := key _ _ (den_2 F.c x1 y1 x2 y2 h1 h2 hm)
  have : (2 : Fin n) * x2 = 0 := by grind
  exact hx2 (F.dom this F.h2)
theorem den_ne' (F : Fld n) {x1 y1 x2 y2 : Fin n} (h1 : x1^2*y1^2 = F.c*(x1^2+y1^2-1)) (h2 : x2^2*y2^2 = F.c*(x2^2+y2^2-1)) : F.c + x1*x2*y1*y2 ≠ 0 := by
  have := den_ne F (x1 := -x1) (y1 := y1) (x2 := x2) (y2 := y2) (by grind) h2
  intro h
  exact this (by grind)
/-- A point. -/
structure Pt (F : Fld n) where
  x : Fin n
  y : Fin n
  on : x^2*y^2 = F.c*(x^2+y^2-1)
variable {F : Fld n}
theorem Pt.ext' {P Q : Pt F} (hx : P.x = Q.x) (hy : P.y = Q.y) : P = Q := by
  cases P; cases Q; simp only at hx hy; subst hx; subst hy; rfl
theorem close_id (c x1 y1 x2 y2 : Fin n) (h1 : x1^2*y1^2 = c*(x1^2+y1^2-1)) (h2 : x2^2*y2^2 = c*(x2^2+y2^2-1)) :
    c^4 * ((x1*y2+x2*y1)^2*(y1*y2-x1*x2)^2) = c * (c^2*(x1*y2+x2*y1)^2*(c - x1*x2*y1*y2)^2 + c^2*(y1*y2-x1*x2)^2*(c + x1*x2*y1*y2)^2 - (c+x1*x2*y1*y2)^2*(c-x1*x2*y1*y2)^2) := by grind
theorem close_fr (c a b m i j : Fin n) (hi : (c+m)*i = 1) (hj : (c-m)*j = 1) (h : c^4 * (a^2*b^2) = c * (c^2*a^2*(c-m)^2 + c^2*b^2*(c+m)^2 - (c+m)^2*(c-m)^2)) : (c*a*i)^2*(c*b*j)^2 = c*((c*a*i)^2+(c*b*j)^2-1) := by
  have e1 : (c*a*i)^2*(c*b*j)^2 = (c^4*(a^2*b^2))*(i*j)^2 := by grind
  have e2 : c * (c^2*a^2*(c-m)^2 + c^2*b^2*(c+m)^2 - (c+m)^2*(c-m)^2) * (i*j)^2 = c*((c*a*i)^2*((c-m)*j)^2 + (c*b*j)^2*((c+m)*i)^2 - ((c+m)*i)^2*((c-m)*j)^2) := by grind
  rw [e1, h, e2, hi, hj]
  grind
def add (P Q : Pt F) : Pt F where
  x := F.c*(P.x*Q.y+Q.x*P.y)*F.inv (F.c + P.x*Q.x*P.y*Q.y)
  y := F.c*(P.y*Q.y-P.x*Q.x)*F.inv (F.c - P.x*Q.x*P.y*Q.y)
  on := close_fr _ _ _ _ _ _ (F.hI _ (den_ne' F P.on Q.on)) (F.hI _ (den_ne F P.on Q.on)) (close_id _ _ _ _ _ P.on Q.on)
def zero : Pt F := ⟨0, 1, by grind⟩
def neg (P : Pt F) : Pt F := ⟨-P.x, P.y, by have := P.on; grind⟩
theorem add_comm' (P Q : Pt F) : add P Q = add Q P := by
  refine Pt.ext' ?_ ?_
  · show F.c*(P.x*Q.y+Q.x*P.y)*F.inv (F.c + P.x*Q.x*P.y*Q.y) = F.c*(Q.x*P.y+P.x*Q.y)*F.inv (F.c + Q.x*P.x*Q.y*P.y)
    have e : Q.x*P.x*Q.y*P.y = P.x*Q.x*P.y*Q.y := by grind
    rw [e]; grind
  · show F.c*(P.y*Q.y-P.x*Q.x)*F.inv (F.c - P.x*Q.x*P.y*Q.y) = F.c*(Q.y*P.y-Q.x*P.x)*F.inv (F.c - Q.x*P.x*Q.y*P.y)
    have e : Q.x*P.x*Q.y*P.y = P.x*Q.x*P.y*Q.y := by grind
    rw [e]; grind
theorem add_zero' (P : Pt F) : add P zero = P := by
  have h := F.hI F.c F.hc
  refine Pt.ext' ?_ ?_
  · show F.c*(P.x*1+0*P.y)*F.inv (F.c + P.x*0*P.y*1) = P.x
    have e : F.c + P.x*0*P.y*1 = F.c := by grind
    rw [e]; grind
  · show F.c*(P.y*1-P.x*0)*F.inv (F.c - P.x*0*P.y*1) = P.y
    have e : F.c - P.x*0*P.y*1 = F.c := by grind
    rw [e]; grind
theorem add_neg' (P : Pt F) : add P (neg P) = zero := by
  have h2 := F.hI _ (den_ne F P.on (neg P).on)
  have ho := P.on
  refine Pt.ext' ?_ ?_
  · show F.c*(P.x*P.y+ -P.x*P.y)*F.inv (F.c + P.x* -P.x*P.y*P.y) = 0
    grind
  · show F.c*(P.y*P.y-P.x* -P.x)*F.inv (F.c - P.x* -P.x*P.y*P.y) = 1
    have h2 : (F.c - P.x* -P.x*P.y*P.y) * F.inv (F.c - P.x* -P.x*P.y*P.y) = 1 := h2
    have e : F.c*(P.y*P.y-P.x* -P.x) = F.c - P.x* -P.x*P.y*P.y := by grind
    rw [e, h2]
theorem asx (c x1 y1 x2 y2 x3 y3 : Fin n) (h1 : x1^2*y1^2 = c*(x1^2+y1^2-1)) (h2 : x2^2*y2^2 = c*(x2^2+y2^2-1)) (h3 : x3^2*y3^2 = c*(x3^2+y3^2-1)) :
    ((x1*y2+x2*y1)*y3*(c-x1*x2*y1*y2) + (y1*y2-x1*x2)*x3*(c+x1*x2*y1*y2)) * ((c^2 - (x2*x3*y2*y3)^2) + c*(x2*y3+x3*y2)*(y2*y3-x2*x3)*x1*y1)
    = ((x2*y3+x3*y2)*y1*(c-x2*x3*y2*y3) + (y2*y3-x2*x3)*x1*(c+x2*x3*y2*y3)) * ((c^2 - (x1*x2*y1*y2)^2) + c*(x1*y2+x2*y1)*(y1*y2-x1*x2)*x3*y3) := by grind
theorem asy (c x1 y1 x2 y2 x3 y3 : Fin n) (h1 : x1^2*y1^2 = c*(x1^2+y1^2-1)) (h2 : x2^2*y2^2 = c*(x2^2+y2^2-1)) (h3 : x3^2*y3^2 = c*(x3^2+y3^2-1)) :
    ((y1*y2-x1*x2)*y3*(c+x1*x2*y1*y2) - (x1*y2+x2*y1)*x3*(c-x1*x2*y1*y2)) * ((c^2 - (x2*x3*y2*y3)^2) - c*(x2*y3+x3*y2)*(y2*y3-x2*x3)*x1*y1)
    = ((y2*y3-x2*x3)*y1*(c+x2*x3*y2*y3) - (x2*y3+x3*y2)*x1*(c-x2*x3*y2*y3)) * ((c^2 - (x1*x2*y1*y2)^2) - c*(x1*y2+x2*y1)*(y1*y2-x1*x2)*x3*y3) := by grind
theorem cmx (c a b m i j x3 y3 : Fin n) (hi : (c+m)*i = 1) (hj : (c-m)*j = 1) : c*a*i*y3 + x3*(c*b*j) = c*(a*y3*(c-m) + b*x3*(c+m))*(i*j) := by
  have : c*(a*y3*(c-m) + b*x3*(c+m))*(i*j) = c*a*i*y3*((c-m)*j) + x3*(c*b*j)*((c+m)*i) := by grind
  rw [this, hi, hj]; grind
theorem cmy (c a b m i j x3 y3 : Fin n) (hi : (c+m)*i = 1) (hj : (c-m)*j = 1) : c*b*j*y3 - c*a*i*x3 = c*(b*y3*(c+m) - a*x3*(c-m))*(i*j) := by
  have : c*(b*y3*(c+m) - a*x3*(c-m))*(i*j) = c*b*j*y3*((c+m)*i) - c*a*i*x3*((c-m)*j) := by grind
  rw [this, hi, hj]; grind
theorem cmd (c a b m i j x3 y3 : Fin n) (hi : (c+m)*i = 1) (hj : (c-m)*j = 1) : c + c*a*i*x3*(c*b*j)*y3 = c*((c^2-m^2) + c*a*b*x3*y3)*(i*j) := by
  have : c*((c^2-m^2) + c*a*b*x3*y3)*(i*j) = c*((c+m)*i*((c-m)*j)) + c*a*i*x3*(c*b*j)*y3 := by grind
  rw [this, hi, hj]; grind
theorem cme (c a b m i j x3 y3 : Fin n) (hi : (c+m)*i = 1) (hj : (c-m)*j = 1) : c - c*a*i*x3*(c*b*j)*y3 = c*((c^2-m^2) - c*a*b*x3*y3)*(i*j) := by
  have : c*((c^2-m^2) - c*a*b*x3*y3)*(i*j) = c*((c+m)*i*((c-m)*j)) - c*a*i*x3*(c*b*j)*y3 := by grind
  rw [this, hi, hj]; grind
theorem frac_eq (F : Fld n) {n1 n2 d1 d2 : Fin n} (h1 : d1 ≠ 0) (h2 : d2 ≠ 0) (h : n1 * d2 = n2 * d1) : F.c * n1 * F.inv d1 = F.c * n2 * F.inv d2 := by
  have e1 := F.hI d1 h1
  have e2 := F.hI d2 h2
  have a1 : F.c * n1 * F.inv d1 = F.c * (n1 * d2) * F.inv d1 * F.inv d2 := by
    have : F.c * (n1 * d2) * F.inv d1 * F.inv d2 = F.c * n1 * F.inv d1 * (d2 * F.inv d2) := by grind
    rw [this, e2]; grind
  have a2 : F.c * n2 * F.inv d2 = F.c * (n2 * d1) * F.inv d1 * F.inv d2 := by
    have : F.c * (n2 * d1) * F.inv d1 * F.inv d2 = F.c * n2 * F.inv d2 * (d1 * F.inv d1) := by grind
    rw [this, e1]; grind
  rw [a1, a2, h]
theorem sw1 (a b c d : Fin n) : a * b + c * d = c * d + a * b := by grind
theorem sw2 (k a b c d : Fin n) : k + a * b * c * d = k + b * a * d * c := by grind
theorem sw3 (a b c d : Fin n) : a * b - c * d = b * a - d * c := by grind
theorem sw4 (k a b c d : Fin n) : k - a * b * c * d = k - b * a * d * c := by grind
theorem sw5 (c s t A B : Fin n) : c * A * s * (c * B * t) = c * c * s * t * (A * B) := by grind
theorem sw6 (c s t A B : Fin n) : c * A * t * (c * B * s) = c * c * s * t * (A * B) := by grind
theorem add_assoc' (P Q R : Pt F) : add (add P Q) R = add P (add Q R) := by
  have hi1 := F.hI _ (den_ne' F P.on Q.on)
  have hj1 := F.hI _ (den_ne F P.on Q.on)
  have hi2 := F.hI _ (den_ne' F Q.on R.on)
  have hj2 := F.hI _ (den_ne F Q.on R.on)
  have n1 := den_ne' F (add P Q).on R.on
  have n2 := den_ne' F P.on (add Q R).on
  have n3 := den_ne F (add P Q).on R.on
  have n4 := den_ne F P.on (add Q R).on
  have hx := asx F.c P.x P.y Q.x Q.y R.x R.y P.on Q.on R.on
  have hy := asy F.c P.x P.y Q.x Q.y R.x R.y P.on Q.on R.on
  obtain ⟨X1, hX1⟩ : ∃ X, X = (add P Q).x := ⟨_, rfl⟩
  obtain ⟨Y1, hY1⟩ : ∃ X, X = (add P Q).y := ⟨_, rfl⟩
  obtain ⟨X2, hX2⟩ : ∃ X, X = (add Q R).x := ⟨_, rfl⟩
  obtain ⟨Y2, hY2⟩ : ∃ X, X = (add Q R).y := ⟨_, rfl⟩
  have eX1 : X1 = F.c*(P.x*Q.y+Q.x*P.y)*F.inv (F.c + P.x*Q.x*P.y*Q.y) := hX1
  have eY1 : Y1 = F.c*(P.y*Q.y-P.x*Q.x)*F.inv (F.c - P.x*Q.x*P.y*Q.y) := hY1
  have eX2 : X2 = F.c*(Q.x*R.y+R.x*Q.y)*F.inv (F.c + Q.x*R.x*Q.y*R.y) := hX2
  have eY2 : Y2 = F.c*(Q.y*R.y-Q.x*R.x)*F.inv (F.c - Q.x*R.x*Q.y*R.y) := hY2
  rw [← hX1, ← hY1] at n1 n3
  rw [← hX2, ← hY2] at n2 n4
  have b1 := cmx F.c (P.x*Q.y+Q.x*P.y) (P.y*Q.y-P.x*Q.x) (P.x*Q.x*P.y*Q.y) _ _ R.x R.y hi1 hj1
  have b2 := cmx F.c (Q.x*R.y+R.x*Q.y) (Q.y*R.y-Q.x*R.x) (Q.x*R.x*Q.y*R.y) _ _ P.x P.y hi2 hj2
  have b3 := cmd F.c (P.x*Q.y+Q.x*P.y) (P.y*Q.y-P.x*Q.x) (P.x*Q.x*P.y*Q.y) _ _ R.x R.y hi1 hj1
  have b4 := cmd F.c (Q.x*R.y+R.x*Q.y) (Q.y*R.y-Q.x*R.x) (Q.x*R.x*Q.y*R.y) _ _ P.x P.y hi2 hj2
  have b5 := cmy F.c (P.x*Q.y+Q.x*P.y) (P.y*Q.y-P.x*Q.x) (P.x*Q.x*P.y*Q.y) _ _ R.x R.y hi1 hj1
  have b6 := cmy F.c (Q.x*R.y+R.x*Q.y) (Q.y*R.y-Q.x*R.x) (Q.x*R.x*Q.y*R.y) _ _ P.x P.y hi2 hj2
  have b7 := cme F.c (P.x*Q.y+Q.x*P.y) (P.y*Q.y-P.x*Q.x) (P.x*Q.x*P.y*Q.y) _ _ R.x R.y hi1 hj1
  have b8 := cme F.c (Q.x*R.y+R.x*Q.y) (Q.y*R.y-Q.x*R.x) (Q.x*R.x*Q.y*R.y) _ _ P.x P.y hi2 hj2
  rw [← eX1, ← eY1] at b1 b3 b5 b7
  rw [← eX2, ← eY2] at b2 b4 b6 b8
  refine Pt.ext' ?_ ?_
  · show F.c*((add P Q).x*R.y+R.x*(add P Q).y)*F.inv (F.c + (add P Q).x*R.x*(add P Q).y*R.y) = F.c*(P.x*(add Q R).y+(add Q R).x*P.y)*F.inv (F.c + P.x*(add Q R).x*P.y*(add Q R).y)
    rw [← hX1, ← hY1, ← hX2, ← hY2]
    refine frac_eq F n1 n2 ?_
    have e1 : P.x * Y2 + X2 * P.y = X2 * P.y + P.x * Y2 := sw1 _ _ _ _
    have e2 : F.c + P.x * X2 * P.y * Y2 = F.c + X2 * P.x * Y2 * P.y := sw2 _ _ _ _ _
    rw [e1, e2, b1, b2, b3, b4]
    generalize F.inv (F.c + P.x*Q.x*P.y*Q.y) * F.inv (F.c - P.x*Q.x*P.y*Q.y) = s at *
    generalize F.inv (F.c + Q.x*R.x*Q.y*R.y) * F.inv (F.c - Q.x*R.x*Q.y*R.y) = t at *
    rw [sw5, sw6, hx]
  · show F.c*((add P Q).y*R.y-(add P Q).x*R.x)*F.inv (F.c - (add P Q).x*R.x*(add P Q).y*R.y) = F.c*(P.y*(add Q R).y-P.x*(add Q R).x)*F.inv (F.c - P.x*(add Q R).x*P.y*(add Q R).y)
    rw [← hX1, ← hY1, ← hX2, ← hY2]
    refine frac_eq F n3 n4 ?_
    have e1 : P.y * Y2 - P.x * X2 = Y2 * P.y - X2 * P.x := sw3 _ _ _ _
    have e2 : F.c - P.x * X2 * P.y * Y2 = F.c - X2 * P.x * Y2 * P.y := sw4 _ _ _ _ _
    rw [e1, e2, b5, b6, b7, b8]
    generalize F.inv (F.c + P.x*Q.x*P.y*Q.y) * F.inv (F.c - P.x*Q.x*P.y*Q.y) = s at *
    generalize F.inv (F.c + Q.x*R.x*Q.y*R.y) * F.inv (F.c - Q.x*R.x*Q.y*R.y) = t at *
    rw [sw5, sw6, hy]
theorem zero_add' (P : Pt F) : add zero P = P := by rw [add_comm', add_zero']
/-- So many times a point. -/
def mul : Nat → Pt F → Pt F
  | 0, _ => zero
  | k + 1, P => add (mul k P) P
theorem mul_add' (P : Pt F) (a : Nat) : ∀ b, mul (a + b) P = add (mul a P) (mul b P)
  | 0 => (add_zero' _).symm
  | b + 1 => by
    show add (mul (a + b) P) P = add (mul a P) (add (mul b P) P)
    rw [mul_add' P a b, add_assoc']
theorem mul_mul' (P : Pt F) (a : Nat) : ∀ b, mul (b * a) P = mul b (mul a P)
  | 0 => by rw [Nat.zero_mul]; rfl
  | b + 1 => by
    rw [Nat.add_mul, Nat.one_mul, mul_add', mul_mul' P a b]
    rfl
theorem mul_zero' : ∀ a, mul a (zero : Pt F) = zero
  | 0 => rfl
  | a + 1 => by
    show add (mul a zero) zero = zero
    rw [mul_zero' a, add_zero']
/-- Of orders without a common factor only nought is. -/
theorem mul_cop {P : Pt F} {a b : Nat} (ha : mul a P = zero) (hb : mul b P = zero) (h : Nat.gcd a b = 1) : P = zero := by
  have key : ∀ m k : Nat, mul m P = zero → mul k P = zero → mul (Nat.gcd m k) P = zero := by
    intro m k
    induction m, k using Nat.gcd.induction with
    | H0 k => intro _ h; simpa using h
    | H1 m k hm ih =>
      intro h1 h2
      rw [Nat.gcd_rec]
      refine ih ?_ h1
      have e : k = k / m * m + k % m := by rw [Nat.mul_comm]; exact (Nat.div_add_mod k m).symm
      rw [e, mul_add', mul_mul', h1, mul_zero', zero_add'] at h2
      exact h2
  have := key a b ha hb
  rw [h] at this
  have e : mul 1 P = P := zero_add' P
  rwa [e] at this
/-- A fraction that is the first coordinate, in the other form, of a point with this y. -/
def Rep (X Z y : Fin n) : Prop := X * (1 - y) = Z * (1 + y) ∧ ¬ (X = 0 ∧ Z = 0)
theorem rep_ne (F : Fld n) {X Z y : Fin n} (h : Rep X Z y) : X + Z ≠ 0 ∧ X - Z = y * (X + Z) := by
  obtain ⟨h1, h2⟩ := h
  have h3 : X - Z = y * (X + Z) := by grind
  refine ⟨fun h0 => h2 ?_, h3⟩
  rw [h0] at h3
  have a1 : 2 * X = 0 := by grind
  have a2 : 2 * Z = 0 := by grind
  exact ⟨F.dom a1 F.h2, F.dom a2 F.h2⟩
theorem dbl_id (c k x y D : Fin n) (hk : k * c = k + 1) (h : x^2*y^2 = c*(x^2+y^2-1)) (hD : D = c - x*x*y*y) : c * (k * (y^2 * (D - c*(y*y - x*x)))) = c * (k * ((1 - y^2) * (1 + k*(1-y^2)) * (D + c*(y*y - x*x)))) := by grind
theorem one_ne (F : Fld n) : (1 : Fin n) ≠ 0 := fun h => F.h2 (by
  have : (2 : Fin n) = 1 + 1 := by grind
  rw [this, h]; grind)
theorem sq_zero (F : Fld n) {a : Fin n} (h : a ^ 2 = 0) : a = 0 := Classical.byContradiction fun ha => F.mul_ne ha ha (by rw [← h]; grind)
structure Kc (F : Fld n) (k : Fin n) : Prop where
  eq : k * F.c = k + 1
theorem Kc.k_ne {k : Fin n} (h : Kc F k) : k ≠ 0 := fun e => one_ne F (by
  have := h.eq
  rw [e] at this
  grind)
theorem Kc.k1_ne {k : Fin n} (h : Kc F k) : 1 + k ≠ 0 := fun e => F.mul_ne h.k_ne F.hc (by rw [h.eq, ← e]; grind)
theorem sub_zero_eq {a b : Fin n} (h : a - b = 0) : a = b := by grind
theorem dbl_fin (c k y Y D s : Fin n) (h : y^2 * (D - Y * D) = (1 - y^2) * (1 + k*(1-y^2)) * (D + Y * D)) : D * ((s*s*((y*s)*(y*s))) * (1 - Y)) = D * (((s*s - (y*s)*(y*s)) * (s*s + k * (s*s - (y*s)*(y*s)))) * (1 + Y)) := by grind
theorem dbl_nz (k s : Fin n) : (s*s - (0*s)*(0*s)) * (s*s + k * (s*s - (0*s)*(0*s))) = s*s*(s*s)*(1+k) := by grind
/-- A point doubled. -/
theorem rep_dbl {k : Fin n} (hk : Kc F k) {P : Pt F} {X Z : Fin n} (h : Rep X Z P.y) :
    Rep (((X+Z)*(X+Z))*((X-Z)*(X-Z))) ((((X+Z)*(X+Z)) - ((X-Z)*(X-Z))) * (((X+Z)*(X+Z)) + k * (((X+Z)*(X+Z)) - ((X-Z)*(X-Z))))) (add P P).y := by
  obtain ⟨hs, ht⟩ := rep_ne F h
  rw [ht]
  generalize X + Z = s at *
  have hd := den_ne F P.on P.on
  have hi := F.hI _ hd
  obtain ⟨D, hD⟩ : ∃ D, D = F.c - P.x*P.x*P.y*P.y := ⟨_, rfl⟩
  obtain ⟨Y, hY⟩ : ∃ Y, Y = (add P P).y := ⟨_, rfl⟩
  have hYD : Y * D = F.c*(P.y*P.y - P.x*P.x) := by
    have e : Y = F.c*(P.y*P.y-P.x*P.x)*F.inv (F.c - P.x*P.x*P.y*P.y) := hY
    rw [e, hD]
    generalize F.c - P.x*P.x*P.y*P.y = W at *
    generalize F.c*(P.y*P.y-P.x*P.x) = V at *
    have : V * F.inv W * W = V * (W * F.inv W) := by grind
    rw [this, hi]; grind
  have h1 := dbl_id F.c k P.x P.y D hk.eq P.on hD
  have h2 := F.can (F.can h1 F.hc) hk.k_ne
  rw [← hYD] at h2
  rw [← hY]
  rw [← hD] at hd
  refine ⟨F.can (dbl_fin F.c k P.y Y D s h2) hd, fun ⟨a, b⟩ => ?_⟩
  have hy : P.y = 0 := Classical.byContradiction fun hy => F.mul_ne (F.mul_ne hs hs) (F.mul_ne (F.mul_ne hy hs) (F.mul_ne hy hs)) a
  rw [hy, dbl_nz] at b
  exact F.mul_ne (F.mul_ne (F.mul_ne hs hs) (F.mul_ne hs hs)) hk.k1_ne b
theorem dadd_id (c x1 y1 x2 y2 : Fin n) (h1 : x1^2*y1^2 = c*(x1^2+y1^2-1)) (h2 : x2^2*y2^2 = c*(x2^2+y2^2-1)) :
    ((c - x1*x2*y1*y2) + c*(y1*y2-x1*x2)) * ((c + x1*x2*y1*y2) + c*(y1*y2+x1*x2)) * (y1-y2)^2 = ((c - x1*x2*y1*y2) - c*(y1*y2-x1*x2)) * ((c + x1*x2*y1*y2) - c*(y1*y2+x1*x2)) * (y1+y2)^2 := by grind
theorem dadd_1 (D E Y0 Y a b : Fin n) (h : (D + Y * D) * (E + Y0 * E) * (a-b)^2 = (D - Y * D) * (E - Y0 * E) * (a+b)^2) : D * (E * ((1 + Y) * (1 + Y0) * (a-b)^2)) = D * (E * ((1 - Y) * (1 - Y0) * (a+b)^2)) := by grind
theorem dadd_2 (u Y0 Y a b : Fin n) (hu : u * (1 - Y0) = 1 + Y0) (h : (1 + Y) * (1 + Y0) * (a-b)^2 = (1 - Y) * (1 - Y0) * (a+b)^2) : (1 - Y0) * ((1 + Y) * u * (a-b)^2) = (1 - Y0) * ((1 - Y) * (a+b)^2) := by grind
theorem dadd_3 (u Y a b s r : Fin n) (h : (1 + Y) * u * (a-b)^2 = (1 - Y) * (a+b)^2) : ((b*r)*s + r*(a*s)) * ((b*r)*s + r*(a*s)) * (1 - Y) = (((b*r)*s - r*(a*s)) * ((b*r)*s - r*(a*s)) * u) * (1 + Y) := by grind
theorem dadd_4 (a b s r : Fin n) : (b*r)*s + r*(a*s) = r*s*(a+b) ∧ (b*r)*s - r*(a*s) = r*s*(b-a) := by constructor <;> grind
/-- Two points added, whose difference is known. -/
theorem rep_add {P Q : Pt F} {u X Z X' Z' : Fin n} (hu : u * (1 - (add Q (neg P)).y) = 1 + (add Q (neg P)).y) (hu0 : u ≠ 0) (hy0 : (add Q (neg P)).y ≠ 1) (h : Rep X Z P.y) (h' : Rep X' Z' Q.y) :
    Rep (((X'-Z')*(X+Z) + (X'+Z')*(X-Z))*((X'-Z')*(X+Z) + (X'+Z')*(X-Z))) ((((X'-Z')*(X+Z) - (X'+Z')*(X-Z))*((X'-Z')*(X+Z) - (X'+Z')*(X-Z)))*u) (add P Q).y := by
  obtain ⟨hs, ht⟩ := rep_ne F h
  obtain ⟨hr, hq⟩ := rep_ne F h'
  rw [ht, hq]
  generalize X + Z = s at *
  generalize X' + Z' = r at *
  have hd := den_ne F P.on Q.on
  have hd2 := den_ne' F P.on Q.on
  have hi := F.hI _ hd
  have hi2 := F.hI _ hd2
  obtain ⟨D, hD⟩ : ∃ D, D = F.c - P.x*Q.x*P.y*Q.y := ⟨_, rfl⟩
  obtain ⟨E, hE⟩ : ∃ E, E = F.c + P.x*Q.x*P.y*Q.y := ⟨_, rfl⟩
  obtain ⟨Y, hY⟩ : ∃ Y, Y = (add P Q).y := ⟨_, rfl⟩
  obtain ⟨Y0, hY0⟩ : ∃ Y, Y = (add Q (neg P)).y := ⟨_, rfl⟩
  have mv : ∀ V W : Fin n, W * F.inv W = 1 → V * F.inv W * W = V := fun V W hW => by
    have : V * F.inv W * W = V * (W * F.inv W) := by grind
    rw [this, hW]; grind
  have hYD : Y * D = F.c*(P.y*Q.y - P.x*Q.x) := by
    have e : Y = F.c*(P.y*Q.y-P.x*Q.x)*F.inv (F.c - P.x*Q.x*P.y*Q.y) := hY
    rw [e, hD]
    exact mv _ _ hi
  have hYE : Y0 * E = F.c*(P.y*Q.y + P.x*Q.x) := by
    have e : Y0 = F.c*(Q.y*P.y-Q.x* -P.x)*F.inv (F.c - Q.x* -P.x*Q.y*P.y) := hY0
    have e1 : F.c - Q.x* -P.x*Q.y*P.y = F.c + P.x*Q.x*P.y*Q.y := by grind
    have e2 : F.c*(Q.y*P.y-Q.x* -P.x) = F.c*(P.y*Q.y + P.x*Q.x) := by grind
    rw [e, e1, e2, hE]
    exact mv _ _ hi2
  have h1 := dadd_id F.c P.x P.y Q.x Q.y P.on Q.on
  rw [← hD, ← hE, ← hYD, ← hYE] at h1
  rw [← hD] at hd
  rw [← hE] at hd2
  have h2 := F.can (F.can (dadd_1 _ _ _ _ _ _ h1) hd) hd2
  rw [← hY0] at hu hy0
  have hy1 : 1 - Y0 ≠ 0 := fun e => hy0 (sub_zero_eq e).symm
  have h3 := F.can (dadd_2 _ _ _ _ _ hu h2) hy1
  rw [← hY]
  refine ⟨dadd_3 u Y P.y Q.y s r h3, fun ⟨a, b⟩ => ?_⟩
  obtain ⟨e1, e2⟩ := dadd_4 P.y Q.y s r
  rw [e1] at a
  rw [e2] at b
  have hrs := F.mul_ne hr hs
  have p1 : P.y + Q.y = 0 := Classical.byContradiction fun hn => F.mul_ne (F.mul_ne hrs hn) (F.mul_ne hrs hn) a
  have p2 : Q.y - P.y = 0 := Classical.byContradiction fun hn => F.mul_ne (F.mul_ne (F.mul_ne hrs hn) (F.mul_ne hrs hn)) hu0 b
  have p3 : 2 * P.y = 0 := by grind
  have p4 : P.y = 0 := F.dom p3 F.h2
  have p5 : Q.y = 0 := by grind
  have o1 := P.on
  have o2 := Q.on
  rw [p4] at o1 hYE
  rw [p5] at o2 hYE
  have x1 : P.x^2 = 1 := by
    have : F.c * (P.x^2) = F.c * 1 := by grind
    exact F.can this F.hc
  have x2 : Q.x^2 = 1 := by
    have : F.c * (Q.x^2) = F.c * 1 := by grind
    exact F.can this F.hc
  have hEc : E = F.c := by rw [hE, p4]; grind
  rw [hEc] at hYE
  have y0 : Y0 = P.x * Q.x := by
    have : F.c * Y0 = F.c * (P.x * Q.x) := by grind
    exact F.can this F.hc
  have y2 : (1 - Y0) * (1 + Y0) = 0 := by
    have : (1 - Y0) * (1 + Y0) = 1 - P.x^2 * Q.x^2 := by rw [y0]; grind
    rw [this, x1, x2]; grind
  have y3 := F.dom y2 hy1
  rw [y3] at hu
  exact F.mul_ne hu0 hy1 hu
end
end EdG
end

section
set_option linter.unusedVariables false
set_option linter.unusedSimpArgs false
set_option maxRecDepth 100000
set_option maxHeartbeats 8000000

namespace EdG
instance npN : NeZero pN := ⟨by unfold pN; decide⟩
/-- An element, as a residue. -/
def fi (X : Int) : Fin pN := Fin.ofNat pN X.toNat
theorem fi_nat {X : Int} (hX : El X) : (fi X).val = X.toNat := by
  unfold fi
  rw [Fin.val_ofNat]
  exact Nat.mod_eq_of_lt (by have := hX.1; have := hX.2; unfold pN; omega)
theorem fi_inj {X Y : Int} (hX : El X) (hY : El Y) (h : fi X = fi Y) : X = Y := by
  have := congrArg Fin.val h
  rw [fi_nat hX, fi_nat hY] at this
  have := hX.1
  have := hY.1
  omega
theorem fi_of {X : Int} (h : 0 ≤ X) : fi (X % (pN : Nat)) = fi X := by
  apply Fin.ext
  unfold fi
  rw [Fin.val_ofNat, Fin.val_ofNat]
  obtain ⟨x, rfl⟩ := Int.eq_ofNat_of_zero_le h
  rw [← Int.natCast_emod, Int.toNat_natCast, Int.toNat_natCast, Nat.mod_mod]
theorem fi_mul {X Y : Int} (hX : El X) (hY : El Y) : fi (mulM X Y) = fi X * fi Y := by
  obtain ⟨x, rfl⟩ := Int.eq_ofNat_of_zero_le hX.1
  obtain ⟨y, rfl⟩ := Int.eq_ofNat_of_zero_le hY.1
  rw [mulM_p, fi_of (Int.mul_nonneg hX.1 hY.1), ← Int.natCast_mul]
  apply Fin.ext
  unfold fi
  rw [Fin.val_mul, Fin.val_ofNat, Fin.val_ofNat, Fin.val_ofNat, Int.toNat_natCast, Int.toNat_natCast, Int.toNat_natCast, ← Nat.mul_mod]
theorem fi_add {X Y : Int} (hX : El X) (hY : El Y) : fi (addM X Y) = fi X + fi Y := by
  obtain ⟨x, rfl⟩ := Int.eq_ofNat_of_zero_le hX.1
  obtain ⟨y, rfl⟩ := Int.eq_ofNat_of_zero_le hY.1
  have e : addM (x : Int) y = ((x : Int) + y) % (pN : Nat) := rfl
  rw [e, fi_of (by omega), ← Int.natCast_add]
  apply Fin.ext
  unfold fi
  rw [Fin.val_add, Fin.val_ofNat, Fin.val_ofNat, Fin.val_ofNat, Int.toNat_natCast, Int.toNat_natCast, Int.toNat_natCast, ← Nat.add_mod]
theorem mulM_el' (X Y : Int) : El (mulM X Y) := by rw [mulM_p]; unfold El pN; omega
theorem addM_el' (X Y : Int) : El (addM X Y) := by unfold El addM; omega
theorem subM_el' (X Y : Int) : El (subM X Y) := by unfold El subM; omega
theorem sub_of_add (a b d : Fin pN) (h : d + b = a) : d = a - b := by grind
theorem fi_sub {X Y : Int} (hX : El X) (hY : El Y) : fi (subM X Y) = fi X - fi Y := by
  have h1 : addM (subM X Y) Y = X := by
    unfold addM subM
    have := hX.1; have := hX.2
    omega
  have h2 := fi_add (subM_el' X Y) hY
  rw [h1] at h2
  exact sub_of_add _ _ _ h2.symm
def cN : Nat := 28692721048178265397853269683490922171210976843790175684556505508326675974058
theorem pow_val (s : Fin pN) : ∀ e : Nat, (s ^ e).val = s.val ^ e % pN
  | 0 => rfl
  | e + 1 => by
    have h : s ^ (e + 1) = s ^ e * s := by grind
    rw [h, Fin.val_mul, pow_val s e, Nat.pow_succ, Nat.mod_mul_mod]
theorem c_ns : pwm pN 256 cN ((pN - 1) / 2) = pN - 1 := by decide +kernel
theorem ns_c (s : Fin pN) : (Fin.ofNat pN cN) * s ^ 2 ≠ 1 := by
  intro h
  have h1 := congrArg Fin.val h
  rw [Fin.val_mul, pow_val, Fin.val_ofNat, ← Nat.mul_mod] at h1
  have hv1 : (1 : Fin pN).val = 1 := by decide +kernel
  rw [hv1] at h1
  have hs : ¬ pN ∣ s.val := fun hd => by
    have : cN * s.val ^ 2 % pN = 0 := Nat.mod_eq_zero_of_dvd (Nat.dvd_trans (Nat.dvd_trans hd ⟨s.val, by rw [Nat.pow_two]⟩) (Nat.dvd_mul_left _ _))
    omega
  have h2 : (cN * s.val ^ 2) ^ ((pN - 1) / 2) % pN = 1 := by
    rw [Nat.pow_mod, h1, Nat.one_pow]
    decide +kernel
  have hf := flt (show Pr pN from pr_p) hs
  have he : 2 * ((pN - 1) / 2) = pN - 1 := by decide +kernel
  rw [Nat.mul_pow, ← Nat.pow_mul, he, Nat.mul_mod, hf, Nat.mul_one, Nat.mod_mod, ← pwm_ok pN 256 cN _ (by decide +kernel), c_ns] at h2
  revert h2
  decide +kernel
theorem inv_fin (x : Fin pN) (h : x ≠ 0) : x * fi (invM (x.val : Int)) = 1 := by
  have hE : El (x.val : Int) := ⟨by omega, by have := x.isLt; unfold pN at this; omega⟩
  have hx : fi (x.val : Int) = x := Fin.ext (by rw [fi_nat hE, Int.toNat_natCast])
  have h0 : (x.val : Int) ≠ 0 := fun e => h (Fin.ext (by
    have : (0 : Fin pN).val = 0 := by decide +kernel
    omega))
  have h1 := inv_mul hE h0
  have h2 := fi_mul (invM_el (x.val : Int)) hE
  rw [h1, hx] at h2
  have h3 : fi 1 = 1 := by decide +kernel
  rw [h3] at h2
  have : x * fi (invM (x.val : Int)) = fi (invM (x.val : Int)) * x := by grind
  rw [this, ← h2]
def FF : Fld pN where
  c := Fin.ofNat pN cN
  inv := fun x => fi (invM (x.val : Int))
  hI := inv_fin
  hns := ns_c
  h2 := by decide +kernel
  hc := by decide +kernel
theorem kc : Kc FF (Fin.ofNat pN 121665) := ⟨by decide +kernel⟩
/-- The base point. -/
def BB : Pt FF := ⟨Fin.ofNat pN 9771384041963202563870679428059935816164187996444183106833894008023910952347, Fin.ofNat pN 46316835694926478169428394003475163141307993866256225615783033603165251855960, by decide +kernel⟩
theorem BB_y : fi 9 * (1 - BB.y) = 1 + BB.y := by decide +kernel
theorem BB_1 : BB.y ≠ 1 := by decide +kernel
theorem fi9 : fi 9 ≠ 0 := by decide +kernel
/-- The ladder over any row of bits, and its number. -/
def ladG (b : Nat → Bool) (u : Int) : Nat → P4
  | 0 => (1, 0, u, 1)
  | n + 1 => swp (b n) (rng u (swp (b n) (ladG b u n)))
def numG (b : Nat → Bool) : Nat → Nat
  | 0 => 0
  | n + 1 => 2 * numG b n + (b n).toNat
theorem lad_is (k : List Int) (u : Int) : ∀ n, lad k u n = ladG (fun r => sb k (254 - r)) u n
  | 0 => rfl
  | n + 1 => by
    show swp _ (rng u (swp _ (lad k u n))) = _
    rw [lad_is k u n]
    rfl
/-- What the ladder keeps. -/
structure LR (u : Int) (B : Pt FF) (N : Nat) (p : P4) : Prop where
  e1 : El p.1
  e2 : El p.2.1
  e3 : El p.2.2.1
  e4 : El p.2.2.2
  lo : Rep (fi p.1) (fi p.2.1) (mul N B).y
  hi : Rep (fi p.2.2.1) (fi p.2.2.2) (mul (N + 1) B).y
theorem neg_add' (P Q : Pt FF) : add (add P Q) (neg P) = Q := by
  rw [add_comm' P Q, add_assoc', add_neg', add_zero']
theorem neg_add2 (P Q : Pt FF) : add P (neg (add P Q)) = neg Q := by
  have h : add (neg Q) (add P Q) = P := by rw [add_comm' P Q, ← add_assoc', add_comm' (neg Q) Q, add_neg', zero_add']
  have h2 := neg_add' (neg Q) (neg (add P Q))
  have h3 : add P (neg (add P Q)) = add (add (neg Q) (add P Q)) (neg (add P Q)) := by rw [h]
  rw [h3, add_assoc', add_neg', add_zero']
variable {u : Int} {B : Pt FF}
/-- A rung, told of residues. -/
theorem rng_fi {p : P4} (hu : El u) (h1 : El p.1) (h2 : El p.2.1) (h3 : El p.2.2.1) (h4 : El p.2.2.2) :
    fi (rng u p).1 = ((fi p.1 + fi p.2.1) * (fi p.1 + fi p.2.1)) * ((fi p.1 - fi p.2.1) * (fi p.1 - fi p.2.1)) ∧
    fi (rng u p).2.1 = (((fi p.1 + fi p.2.1) * (fi p.1 + fi p.2.1)) - ((fi p.1 - fi p.2.1) * (fi p.1 - fi p.2.1))) * (((fi p.1 + fi p.2.1) * (fi p.1 + fi p.2.1)) + Fin.ofNat pN 121665 * (((fi p.1 + fi p.2.1) * (fi p.1 + fi p.2.1)) - ((fi p.1 - fi p.2.1) * (fi p.1 - fi p.2.1)))) ∧
    fi (rng u p).2.2.1 = ((fi p.2.2.1 - fi p.2.2.2) * (fi p.1 + fi p.2.1) + (fi p.2.2.1 + fi p.2.2.2) * (fi p.1 - fi p.2.1)) * ((fi p.2.2.1 - fi p.2.2.2) * (fi p.1 + fi p.2.1) + (fi p.2.2.1 + fi p.2.2.2) * (fi p.1 - fi p.2.1)) ∧
    fi (rng u p).2.2.2 = (((fi p.2.2.1 - fi p.2.2.2) * (fi p.1 + fi p.2.1) - (fi p.2.2.1 + fi p.2.2.2) * (fi p.1 - fi p.2.1)) * ((fi p.2.2.1 - fi p.2.2.2) * (fi p.1 + fi p.2.1) - (fi p.2.2.1 + fi p.2.2.2) * (fi p.1 - fi p.2.1))) * fi u := by
  have hk : El 121665 := by unfold El; omega
  have fk : fi 121665 = Fin.ofNat pN 121665 := rfl
  have a1 := addM_el' p.1 p.2.1
  have a2 := subM_el' p.1 p.2.1
  have a3 := addM_el' p.2.2.1 p.2.2.2
  have a4 := subM_el' p.2.2.1 p.2.2.2
  unfold rng
  refine ⟨?_, ?_, ?_, ?_⟩
  · simp only []
    rw [fi_mul (mulM_el' _ _) (mulM_el' _ _), fi_mul a1 a1, fi_mul a2 a2, fi_add h1 h2, fi_sub h1 h2]
  · simp only []
    rw [fi_mul (subM_el' _ _) (addM_el' _ _), fi_sub (mulM_el' _ _) (mulM_el' _ _), fi_add (mulM_el' _ _) (mulM_el' _ _), fi_mul (subM_el' _ _) hk, fi_sub (mulM_el' _ _) (mulM_el' _ _), fi_mul a1 a1, fi_mul a2 a2, fi_add h1 h2, fi_sub h1 h2, fk]
    generalize (fi p.1 + fi p.2.1) * (fi p.1 + fi p.2.1) = A
    generalize (fi p.1 - fi p.2.1) * (fi p.1 - fi p.2.1) = C
    grind
  · simp only []
    rw [fi_mul (addM_el' _ _) (addM_el' _ _), fi_add (mulM_el' _ _) (mulM_el' _ _), fi_mul a4 a1, fi_mul a3 a2, fi_add h1 h2, fi_sub h1 h2, fi_add h3 h4, fi_sub h3 h4]
  · simp only []
    rw [fi_mul (mulM_el' _ _) hu, fi_mul (subM_el' _ _) (subM_el' _ _), fi_sub (mulM_el' _ _) (mulM_el' _ _), fi_mul a4 a1, fi_mul a3 a2, fi_add h1 h2, fi_sub h1 h2, fi_add h3 h4, fi_sub h3 h4]
/-- A ladder's base. -/
structure Base (u : Int) (B : Pt FF) : Prop where
  el : El u
  rep : fi u * (1 - B.y) = 1 + B.y
  u0 : fi u ≠ 0
  y1 : B.y ≠ 1
theorem mul_suc (N : Nat) : mul (N + 1) B = add (mul N B) B := rfl
theorem lad_rep (hB : Base u B) (b : Nat → Bool) : ∀ n, LR u B (numG b n) (ladG b u n)
  | 0 => by
    have e1 : El 1 := by unfold El; omega
    have e0 : El 0 := by unfold El; omega
    have f1 : fi 1 = 1 := by decide +kernel
    have f0 : fi 0 = 0 := by decide +kernel
    refine ⟨e1, e0, hB.el, e1, ?_, ?_⟩
    · show Rep (fi 1) (fi 0) 1
      rw [f1, f0]
      exact ⟨by grind, fun h => one_ne FF h.1⟩
    · show Rep (fi u) (fi 1) (mul (0 + 1) B).y
      have : mul (0 + 1) B = B := zero_add' B
      rw [this, f1]
      exact ⟨by rw [hB.rep]; grind, fun h => one_ne FF h.2⟩
  | n + 1 => by
    have ih := lad_rep hB b n
    show LR u B (2 * numG b n + (b n).toNat) (swp (b n) (rng u (swp (b n) (ladG b u n))))
    generalize ladG b u n = p at ih
    generalize numG b n = N at ih
    obtain ⟨e1, e2, e3, e4, lo, hi⟩ := ih
    have hd1 : add (mul (N + 1) B) (neg (mul N B)) = B := neg_add' (mul N B) B
    have hd2 : (add (mul N B) (neg (mul (N + 1) B))).y = B.y := by
      rw [mul_suc, neg_add2]
      rfl
    have m1 : add (mul N B) (mul N B) = mul (2 * N) B := by rw [Nat.two_mul, mul_add']
    have m2 : add (mul N B) (mul (N + 1) B) = mul (2 * N + 1) B := by rw [← mul_add']; congr 1; omega
    have m3 : add (mul (N + 1) B) (mul N B) = mul (2 * N + 1) B := by rw [← mul_add']; congr 1; omega
    have m4 : add (mul (N + 1) B) (mul (N + 1) B) = mul (2 * N + 1 + 1) B := by rw [← mul_add']; congr 1; omega
    cases b n with
    | false =>
      obtain ⟨f1, f2, f3, f4⟩ := rng_fi (p := p) hB.el e1 e2 e3 e4
      have d := rep_dbl kc lo
      have a := rep_add (u := fi u) (by rw [hd1]; exact hB.rep) hB.u0 (by rw [hd1]; exact hB.y1) lo hi
      rw [← f1, ← f2, m1] at d
      rw [← f3, ← f4, m2] at a
      exact ⟨mulM_el' _ _, mulM_el' _ _, mulM_el' _ _, mulM_el' _ _, d, a⟩
    | true =>
      obtain ⟨f1, f2, f3, f4⟩ := rng_fi (p := swp true p) hB.el e3 e4 e1 e2
      have d := rep_dbl kc hi
      have a := rep_add (u := fi u) (by rw [hd2]; exact hB.rep) hB.u0 (by rw [hd2]; exact hB.y1) hi lo
      have g1 : (swp true p).1 = p.2.2.1 := rfl
      have g2 : (swp true p).2.1 = p.2.2.2 := rfl
      have g3 : (swp true p).2.2.1 = p.1 := rfl
      have g4 : (swp true p).2.2.2 = p.2.1 := rfl
      rw [g1, g2] at f1 f2
      rw [g1, g2, g3, g4] at f3 f4
      rw [← f1, ← f2, m4] at d
      rw [← f3, ← f4, m3] at a
      exact ⟨mulM_el' _ _, mulM_el' _ _, mulM_el' _ _, mulM_el' _ _, a, d⟩
/-- The base point's order. -/
def oN : Nat := 7237005577332262213973186563042994240857116359379907606001950938285454250989
theorem pr_1224481 : Pr 1224481 := pr_small 1200 (by decide) (by decide) (by decide +kernel)
theorem pr_531581 : Pr 531581 := pr_small 800 (by decide) (by decide) (by decide +kernel)
theorem pr_o5 : Pr 1257559732178653 :=
  pr_two (q := 1224481) (s := 531581) (by decide) (by decide +kernel) (by decide)
    (pock_q (k := 1257559732178652 / 1224481) 64 pr_1224481 (by decide) (by decide +kernel))
    (pock_q (k := 1257559732178652 / 531581) 64 pr_531581 (by decide) (by decide +kernel))
theorem pr_o4 : Pr 4434155615661930479 :=
  pr_one (q := 1257559732178653) (by decide) (by decide)
    (pock_q (k := 4434155615661930478 / 1257559732178653) 64 pr_o5 (by decide) (by decide +kernel))
theorem pr_o3 : Pr 172054593956031949258510691 :=
  pr_one (q := 4434155615661930479) (by decide) (by decide)
    (pock_q (k := 172054593956031949258510690 / 4434155615661930479) 128 pr_o4 (by decide) (by decide +kernel))
theorem pr_o2 : Pr 19757330305831588566944191468367130476339 :=
  pr_one (q := 172054593956031949258510691) (by decide) (by decide)
    (pock_q (k := 19757330305831588566944191468367130476338 / 172054593956031949258510691) 256 pr_o3 (by decide) (by decide +kernel))
theorem pr_o1 : Pr 276602624281642239937218680557139826668747 :=
  pr_one (q := 19757330305831588566944191468367130476339) (by decide) (by decide)
    (pock_q (k := 276602624281642239937218680557139826668746 / 19757330305831588566944191468367130476339) 256 pr_o2 (by decide) (by decide +kernel))
theorem pr_o : Pr 7237005577332262213973186563042994240857116359379907606001950938285454250989 :=
  pr_one (q := 276602624281642239937218680557139826668747) (by decide) (by decide)
    (pock_q (k := 7237005577332262213973186563042994240857116359379907606001950938285454250988 / 276602624281642239937218680557139826668747) 256 pr_o1 (by decide) (by decide +kernel))
def bO (r : Nat) : Bool := oN.testBit (252 - r)
theorem numO : numG bO 253 = oN := by decide +kernel
theorem ladO : (ladG bO 9 253).2.1 = 0 := by decide +kernel
theorem base9 : Base 9 BB := ⟨by unfold El; omega, BB_y, fi9, BB_1⟩
theorem c_1 : (1 : Fin pN) - FF.c ≠ 0 := by decide +kernel
/-- With y 1 or -1, the point is nought or its own opposite. -/
theorem y_one {P : Pt FF} (h : P.y ^ 2 = 1) : P.x = 0 := by
  have ho := P.on
  rw [h] at ho
  have : (1 - FF.c) * P.x ^ 2 = 0 := by grind
  exact sq_zero FF (FF.dom this c_1)
theorem zero_y {P : Pt FF} (h : P.y = 1) : P = zero := by
  have hx : P.x = 0 := y_one (by rw [h]; grind)
  exact Pt.ext' hx h
theorem two_y {P : Pt FF} (h : P.y = -1) : add P P = zero := by
  have hx : P.x = 0 := y_one (by rw [h]; grind)
  have hn : neg P = P := Pt.ext' (by show -P.x = P.x; rw [hx]; grind) rfl
  have := add_neg' P
  rwa [hn] at this
theorem ordB' (N : Nat) (hN : numG bO 253 = N) : mul N BB = zero := by
  have h := (lad_rep base9 bO 253).lo
  rw [hN, ladO] at h
  have f0 : fi 0 = 0 := by decide +kernel
  rw [f0] at h
  obtain ⟨h1, h2⟩ := h
  have hX : fi (ladG bO 9 253).1 ≠ 0 := fun e => h2 ⟨e, rfl⟩
  clear hN
  revert h1
  generalize hP : mul N BB = P
  intro h1
  have h3 : fi (ladG bO 9 253).1 * (1 - P.y) = 0 := by rw [h1]; grind
  have h4 := FF.dom h3 hX
  exact zero_y (by clear h1 h3 hP; generalize P.y = y at *; grind)
theorem ordB : mul oN BB = zero := ordB' oN numO
/-- A scalar's number. -/
def nK (k : List Int) : Nat := numG (fun r => sb k (254 - r)) 252
theorem num_bd (b : Nat → Bool) (h0 : b 0 = true) : ∀ n, 2 ^ n ≤ numG b (n + 1) ∧ numG b (n + 1) < 2 ^ (n + 1)
  | 0 => by
    have : numG b 1 = 1 := by show 2 * 0 + (b 0).toNat = 1; rw [h0]; rfl
    rw [this]
    decide
  | n + 1 => by
    have ih := num_bd b h0 n
    have e : numG b (n + 1 + 1) = 2 * numG b (n + 1) + (b (n + 1)).toNat := rfl
    have ht : (b (n + 1)).toNat ≤ 1 := by cases b (n + 1) <;> decide
    rw [e, Nat.pow_succ, Nat.pow_succ]
    rw [Nat.pow_succ] at ih
    omega
theorem nK_bd (k : List Int) : 2 ^ 251 ≤ nK k ∧ nK k < 2 ^ 252 := num_bd _ (by simp [sb]) 251
theorem num_8 (k : List Int) : numG (fun r => sb k (254 - r)) 255 = 8 * nK k := by
  have e : ∀ n, numG (fun r => sb k (254 - r)) (n + 1) = 2 * numG (fun r => sb k (254 - r)) n + (sb k (254 - n)).toNat := fun n => rfl
  rw [e 254, e 253, e 252]
  have s2 : sb k (254 - 252) = false := by simp [sb]
  have s1 : sb k (254 - 253) = false := by simp [sb]
  have s0 : sb k (254 - 254) = false := by simp [sb]
  rw [s2, s1, s0]
  show _ = 8 * numG (fun r => sb k (254 - r)) 252
  simp only [Bool.toNat_false]
  omega
theorem not_dvd {a : Nat} (h0 : 0 < a) (h : a < oN) : ¬ oN ∣ a := fun hd => absurd (Nat.le_of_dvd h0 hd) (Nat.not_le_of_lt h)
theorem cop_mul {a b : Nat} (ha : ¬ oN ∣ a) (hb : ¬ oN ∣ b) : ¬ oN ∣ a * b := fun hd => hb ((Pr.cop (show Pr oN from pr_o) ha).dvd_of_dvd_mul_left hd)
theorem nK_nd (k : List Int) : ¬ oN ∣ nK k := by
  have h := nK_bd k
  refine not_dvd (by omega) (Nat.lt_of_lt_of_le h.2 ?_)
  unfold oN; decide
/-- No such number of times the base point is nought, or of order two. -/
theorem ord_ne {N : Nat} (h : ¬ oN ∣ N) : (mul N BB).y ≠ 1 ∧ (mul N BB).y ≠ -1 := by
  have h2 : ¬ oN ∣ 2 * N := cop_mul (not_dvd (by omega) (by unfold oN; decide)) h
  have key : mul (2 * N) BB ≠ zero := fun hz => by
    have := mul_cop ordB hz (Pr.cop (show Pr oN from pr_o) h2)
    have hy : BB.y = 1 := by rw [this]; rfl
    exact BB_1 hy
  have hd : mul (2 * N) BB = add (mul N BB) (mul N BB) := by rw [Nat.two_mul, mul_add']
  refine ⟨fun hy => key ?_, fun hy => key ?_⟩
  · rw [hd, zero_y hy, add_zero']
  · rw [hd, two_y hy]
theorem invM_val {Z : Int} (hZ : El Z) : FF.inv (fi Z) = fi (invM Z) := by
  show fi (invM ((fi Z).val : Int)) = _
  rw [fi_nat hZ, Int.toNat_of_nonneg hZ.1]
/-- What the climb comes to. -/
theorem climb_at {u : Int} {B : Pt FF} (hB : Base u B) (k : List Int) (h1 : (mul (8 * nK k) B).y ≠ 1) : fi (climbM k u) * (1 - (mul (8 * nK k) B).y) = 1 + (mul (8 * nK k) B).y := by
  have h := lad_rep hB (fun r => sb k (254 - r)) 255
  rw [num_8, ← lad_is] at h
  obtain ⟨e1, e2, _, _, lo, _⟩ := h
  unfold climbM
  rw [fi_mul e1 (invM_el _), ← invM_val e2]
  generalize (mul (8 * nK k) B).y = y at *
  obtain ⟨r1, r2⟩ := lo
  have hy : 1 - y ≠ 0 := fun e => h1 (sub_zero_eq e).symm
  have hz : fi (lad k u 255).2.1 ≠ 0 := fun hz => by
    rw [hz] at r1
    have hx : fi (lad k u 255).1 ≠ 0 := fun hx => r2 ⟨hx, hz⟩
    exact FF.mul_ne hx hy (by rw [r1]; grind)
  have hi := FF.hI _ hz
  generalize fi (lad k u 255).1 = X at *
  generalize fi (lad k u 255).2.1 = Z at *
  have : X * FF.inv Z * (1 - y) = (X * (1 - y)) * FF.inv Z := by grind
  rw [this, r1]
  have : Z * (1 + y) * FF.inv Z = Z * FF.inv Z * (1 + y) := by grind
  rw [this, hi]; grind
theorem climb_el (k : List Int) (u : Int) : El (climbM k u) := mulM_el' _ _
theorem climb_nz {u : Int} {B : Pt FF} (hB : Base u B) (k : List Int) (h1 : (mul (8 * nK k) B).y ≠ 1) (h2 : (mul (8 * nK k) B).y ≠ -1) : fi (climbM k u) ≠ 0 := by
  have h := climb_at hB k h1
  intro e
  rw [e] at h
  exact h2 (by grind)
theorem nd8 (k : List Int) : ¬ oN ∣ 8 * nK k := cop_mul (not_dvd (by omega) (by unfold oN; decide)) (nK_nd k)
/-- A public key's base. -/
theorem base_pub (k : List Int) : Base (climbM k 9) (mul (8 * nK k) BB) := by
  obtain ⟨h1, h2⟩ := ord_ne (nd8 k)
  exact ⟨climb_el k 9, climb_at base9 k h1, climb_nz base9 k h1 h2, h1⟩
theorem fi_ne {X : Int} (h : fi X ≠ 0) : X ≠ 0 := fun e => h (by rw [e]; decide +kernel)
/-- No public key is nought. -/
theorem climb_first (k : List Int) : climbM k 9 ≠ 0 := fi_ne (base_pub k).u0
/-- Two meet. -/
theorem climb_meets (a b : List Int) : climbM a (climbM b 9) = climbM b (climbM a 9) ∧ climbM a (climbM b 9) ≠ 0 := by
  have hab : mul (8 * nK a) (mul (8 * nK b) BB) = mul (8 * nK a * (8 * nK b)) BB := (mul_mul' BB _ _).symm
  have hba : mul (8 * nK b) (mul (8 * nK a) BB) = mul (8 * nK a * (8 * nK b)) BB := by rw [← mul_mul', Nat.mul_comm]
  obtain ⟨h1, h2⟩ := ord_ne (cop_mul (nd8 a) (nd8 b))
  have c1 := climb_at (base_pub b) a (by rw [hab]; exact h1)
  have c2 := climb_at (base_pub a) b (by rw [hba]; exact h1)
  have c3 := climb_nz (base_pub b) a (by rw [hab]; exact h1) (by rw [hab]; exact h2)
  rw [hab] at c1
  rw [hba] at c2
  refine ⟨fi_inj (climb_el _ _) (climb_el _ _) ?_, fi_ne c3⟩
  generalize (mul (8 * nK a * (8 * nK b)) BB).y = y at *
  have hy : 1 - y ≠ 0 := fun e => h1 (sub_zero_eq e).symm
  refine FF.can (d := 1 - y) ?_ hy
  have : ∀ A : Fin pN, (1 - y) * A = A * (1 - y) := fun A => by grind
  rw [this, this, c1, c2]
end EdG
namespace EdG
theorem sq_same {x z : Int} (h : x = 0 ∨ z = 0) : mulM (addM x z) (addM x z) = mulM (subM x z) (subM x z) := by
  rcases h with rfl | rfl
  · unfold mulM addM subM
    rw [← Int.mul_emod, ← Int.mul_emod]
    congr 1
    grind
  · unfold addM subM
    rw [Int.add_zero, Int.sub_zero]
theorem subM_self (x : Int) : subM x x = 0 := by unfold subM; rw [Int.sub_self]; rfl
theorem mulM_0 (x : Int) : mulM x 0 = 0 := by unfold mulM; rw [Int.mul_zero]; rfl
theorem mulM_0' (x : Int) : mulM 0 x = 0 := by unfold mulM; rw [Int.zero_mul]; rfl
def Nn (p : P4) : Prop := (p.1 = 0 ∨ p.2.1 = 0) ∧ (p.2.2.1 = 0 ∨ p.2.2.2 = 0)
theorem swp_nn {p : P4} (h : Nn p) (s : Bool) : Nn (swp s p) := by cases s; · exact h
                                                                   · exact ⟨h.2, h.1⟩
theorem rng_nn {p : P4} (h : Nn p) : (rng 0 p).2.1 = 0 ∧ (rng 0 p).2.2.2 = 0 := by
  unfold rng
  refine ⟨?_, mulM_0 _⟩
  show mulM (subM (mulM (addM p.1 p.2.1) (addM p.1 p.2.1)) (mulM (subM p.1 p.2.1) (subM p.1 p.2.1))) _ = 0
  rw [sq_same h.1, subM_self, mulM_0']
theorem lad_nn (k : List Int) : ∀ n, Nn (lad k 0 n)
  | 0 => ⟨.inr rfl, .inl rfl⟩
  | n + 1 => by
    have h := rng_nn (swp_nn (lad_nn k n) (sb k (254 - n)))
    exact swp_nn (p := rng 0 (swp (sb k (254 - n)) (lad k 0 n))) ⟨.inr h.1, .inr h.2⟩ _
theorem lad_z (k : List Int) (n : Nat) : (lad k 0 (n + 1)).2.1 = 0 := by
  have h := rng_nn (swp_nn (lad_nn k n) (sb k (254 - n)))
  show (swp (sb k (254 - n)) (rng 0 (swp (sb k (254 - n)) (lad k 0 n)))).2.1 = 0
  generalize sb k (254 - n) = b at *
  cases b
  · exact h.1
  · exact h.2
theorem invM_0 : invM 0 = 0 := by
  unfold invM pwX
  rw [eI_end, Int.zero_pow (by unfold pN; decide)]
  rfl
/-- From the point nought the climb comes to nothing. -/
theorem climb_zero (k : List Int) : climbM k 0 = 0 := by
  unfold climbM
  rw [lad_z k 254, invM_0, mulM_0]
end EdG
end
end Go.Proofs.YtnddofgabipknaaDoor
