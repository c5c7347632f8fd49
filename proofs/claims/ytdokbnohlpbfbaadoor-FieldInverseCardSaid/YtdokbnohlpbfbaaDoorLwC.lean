/-
  2^255 - 19 is prime (Pocklington), and Fermat's theorem. Free of any program.
  FieldInverse, walked: the power p - 2, and Fermat.
-/
import Derived.Test.YtdokbnohlpbfbaaDoorLibA
import Derived.Test.YtdokbnohlpbfbaaDoorLwA
namespace Go.Proofs.YtdokbnohlpbfbaaDoor
section
set_option linter.unusedVariables false
set_option linter.unusedSimpArgs false
set_option maxRecDepth 100000

def Pr (n : Nat) : Prop := 2 ≤ n ∧ ∀ d, d ∣ n → d = 1 ∨ d = n
theorem Pr.cop {r a : Nat} (h : Pr r) (ha : ¬ r ∣ a) : Nat.Coprime r a := by
  rcases h.2 _ (Nat.gcd_dvd_left r a) with h1 | h1
  · exact h1
  · exact absurd (h1 ▸ Nat.gcd_dvd_right r a) ha
def ch : Nat → Nat → Nat
  | _, 0 => 1
  | 0, _ + 1 => 0
  | n + 1, k + 1 => ch n k + ch n (k + 1)
theorem ch_zero (n : Nat) : ch n 0 = 1 := by cases n <;> rfl
theorem ch_big : ∀ n k, n < k → ch n k = 0
  | 0, k + 1, _ => rfl
  | n + 1, k + 1, h => by
    show ch n k + ch n (k + 1) = 0
    rw [ch_big n k (by omega), ch_big n (k + 1) (by omega)]
theorem ch_self : ∀ n, ch n n = 1
  | 0 => rfl
  | n + 1 => by
    show ch n n + ch n (n + 1) = 1
    rw [ch_self n, ch_big n (n + 1) (by omega)]
theorem ch_mul : ∀ n k, (k + 1) * ch (n + 1) (k + 1) = (n + 1) * ch n k
  | 0, 0 => rfl
  | 0, k + 1 => by
    show (k + 1 + 1) * (0 + 0) = (0 + 1) * 0
    simp
  | n + 1, 0 => by
    have := ch_mul n 0
    show (0 + 1) * (ch (n + 1) 0 + ch (n + 1) 1) = (n + 1 + 1) * ch (n + 1) 0
    rw [ch_zero] at this ⊢
    rw [Nat.zero_add, Nat.one_mul] at *
    omega
  | n + 1, j + 1 => by
    have h1 := ch_mul n j
    have h2 := ch_mul n (j + 1)
    show (j + 1 + 1) * (ch (n + 1) (j + 1) + ch (n + 1) (j + 1 + 1)) = (n + 1 + 1) * ch (n + 1) (j + 1)
    have h3 : ch (n + 1) (j + 1) = ch n j + ch n (j + 1) := rfl
    rw [Nat.mul_add, h2, Nat.add_mul (j + 1) 1, h1, Nat.one_mul, Nat.add_mul (n + 1) 1, Nat.one_mul, h3, Nat.mul_add]
    omega
def sm (a n : Nat) : Nat → Nat
  | 0 => 0
  | m + 1 => sm a n m + ch n m * a ^ m
theorem sm_step (a n : Nat) : ∀ m, sm a (n + 1) (m + 1) = sm a n (m + 1) + a * sm a n m
  | 0 => by simp [sm, ch_zero]
  | m + 1 => by
    have := sm_step a n m
    show sm a (n + 1) (m + 1) + ch (n + 1) (m + 1) * a ^ (m + 1) = sm a n (m + 1) + ch n (m + 1) * a ^ (m + 1) + a * (sm a n m + ch n m * a ^ m)
    rw [this, show ch (n + 1) (m + 1) = ch n m + ch n (m + 1) from rfl, Nat.add_mul, Nat.mul_add, Nat.pow_succ, Nat.mul_left_comm a (ch n m), Nat.mul_comm a (a ^ m)]
    omega
theorem sm_pow (a : Nat) : ∀ n, sm a n (n + 1) = (a + 1) ^ n
  | 0 => by simp [sm, ch]
  | n + 1 => by
    have := sm_pow a n
    rw [sm_step]
    have h2 : sm a n (n + 1 + 1) = sm a n (n + 1) := by
      show sm a n (n + 1) + ch n (n + 1) * a ^ (n + 1) = _
      rw [ch_big n (n + 1) (by omega)]; omega
    rw [h2, this, Nat.pow_succ, Nat.mul_add, Nat.mul_one, Nat.mul_comm a]
    omega
theorem ch_dvd {r : Nat} (hr : Pr r) {k : Nat} (h0 : 0 < k) (h1 : k < r) : r ∣ ch r k := by
  obtain ⟨n, rfl⟩ : ∃ n, r = n + 1 := ⟨r - 1, by have := hr.1; omega⟩
  obtain ⟨j, rfl⟩ : ∃ j, k = j + 1 := ⟨k - 1, by omega⟩
  have h := ch_mul n j
  refine (hr.cop (fun h2 => ?_)).dvd_of_dvd_mul_left (m := j + 1) (h ▸ Nat.dvd_mul_right _ _)
  have := Nat.le_of_dvd (by omega) h2
  omega
theorem sm_mod {r : Nat} (hr : Pr r) (a : Nat) : ∀ m, m + 1 ≤ r → sm a r (m + 1) % r = 1 % r
  | 0, _ => by simp [sm, ch_zero]
  | m + 1, h => by
    have := sm_mod hr a m (by omega)
    show (sm a r (m + 1) + ch r (m + 1) * a ^ (m + 1)) % r = 1 % r
    rw [Nat.add_mod, this, Nat.mod_eq_zero_of_dvd (Nat.dvd_trans (ch_dvd hr (by omega) (by omega)) (Nat.dvd_mul_right _ _))]
    simp
theorem flt_step {r : Nat} (hr : Pr r) (a : Nat) : (a + 1) ^ r % r = (1 + a ^ r) % r := by
  rw [← sm_pow]
  show (sm a r r + ch r r * a ^ r) % r = _
  obtain ⟨n, hn⟩ : ∃ n, r = n + 1 := ⟨r - 1, by have := hr.1; omega⟩
  have h := sm_mod hr a n (by omega)
  rw [← hn] at h
  rw [ch_self, Nat.one_mul, Nat.add_mod, h, ← Nat.add_mod]
theorem flt_all {r : Nat} (hr : Pr r) : ∀ a, a ^ r % r = a % r
  | 0 => by rw [Nat.zero_pow (by have := hr.1; omega)]
  | a + 1 => by rw [flt_step hr, Nat.add_mod, flt_all hr a, ← Nat.add_mod, Nat.add_comm]
theorem flt {r : Nat} (hr : Pr r) {a : Nat} (ha : ¬ r ∣ a) : a ^ (r - 1) % r = 1 := by
  have h2 := hr.1
  have h := flt_all hr a
  have hp : 0 < a := Nat.pos_of_ne_zero (fun e => ha (e ▸ Nat.dvd_zero r))
  obtain ⟨n, rfl⟩ : ∃ n, r = n + 1 := ⟨r - 1, by omega⟩
  rw [Nat.add_sub_cancel]
  have hpp : 1 ≤ a ^ n := Nat.pow_pos hp
  have hd : n + 1 ∣ a * (a ^ n - 1) := by
    rw [Nat.mul_sub, Nat.mul_one, Nat.mul_comm, ← Nat.pow_succ]
    exact Nat.dvd_of_mod_eq_zero (Nat.sub_mod_eq_zero_of_mod_eq h)
  have hd2 := (hr.cop ha).dvd_of_dvd_mul_left hd
  obtain ⟨c, hc⟩ := hd2
  have : a ^ n = 1 + (n + 1) * c := by omega
  rw [this, Nat.add_mul_mod_self_left, Nat.mod_eq_of_lt (by omega)]
theorem pow_gcd {r b : Nat} (m n : Nat) : b ^ m % r = 1 % r → b ^ n % r = 1 % r → b ^ (Nat.gcd m n) % r = 1 % r := by
  induction m, n using Nat.gcd.induction with
  | H0 n => intro _ h; simpa using h
  | H1 m n hm ih =>
    intro h1 h2
    rw [Nat.gcd_rec]
    refine ih ?_ h1
    have e : b ^ n = (b ^ m) ^ (n / m) * b ^ (n % m) := by rw [← Nat.pow_mul, ← Nat.pow_add, Nat.div_add_mod]
    rw [e, Nat.mul_mod, Nat.pow_mod, h1, ← Nat.pow_mod, Nat.one_pow, ← Nat.mul_mod, Nat.one_mul] at h2
    exact h2
theorem mod_dvd {r n a b : Nat} (hrn : r ∣ n) (h : a % n = b % n) : a % r = b % r := by
  rw [← Nat.mod_mod_of_dvd a hrn, h, Nat.mod_mod_of_dvd b hrn]
/-- A prime's factor of n - 1 is one of r - 1, r a prime factor of n. -/
theorem pock {n q k a r : Nat} (hr : Pr r) (hrn : r ∣ n) (hq : Pr q) (h1 : a ^ (k * q) % n = 1 % n) (c : Nat) (hc : a ^ k % n = c % n) (hc1 : 1 ≤ c) (g : Nat.gcd (c - 1) n = 1) : q ∣ r - 1 := by
  refine Classical.byContradiction fun hn => ?_
  have r2 := hr.1
  have hb := mod_dvd hrn h1
  rw [Nat.pow_mul] at hb
  have hnd : ¬ r ∣ a ^ k := fun hd => by
    have h0 : a ^ k % r = 0 := Nat.mod_eq_zero_of_dvd hd
    rw [Nat.pow_mod, h0, Nat.zero_pow (by have := hq.1; omega), Nat.zero_mod, Nat.mod_eq_of_lt (by omega)] at hb
    omega
  have h3 := flt hr hnd
  have h4 := pow_gcd (r := r) (b := a ^ k) q (r - 1) hb (by rw [h3, Nat.mod_eq_of_lt (by omega)])
  rw [hq.cop hn, Nat.pow_one, mod_dvd hrn hc] at h4
  have h5 : r ∣ c - 1 := Nat.dvd_of_mod_eq_zero (Nat.sub_mod_eq_zero_of_mod_eq h4)
  have h6 := Nat.dvd_gcd h5 hrn
  rw [g] at h6
  have := Nat.le_of_dvd (by omega) h6
  omega
theorem pr_of {n : Nat} (h2 : 2 ≤ n) (h : ∀ r, Pr r → r ∣ n → n < r * r) : Pr n := by
  have ex : ∀ m, 2 ≤ m → ∃ r, Pr r ∧ r ∣ m := by
    intro m
    induction m using Nat.strongRecOn with
    | ind m ih =>
      intro hm
      by_cases hp : Pr m
      · exact ⟨m, hp, Nat.dvd_refl _⟩
      · have : ∃ d, d ∣ m ∧ d ≠ 1 ∧ d ≠ m := by
          refine Classical.byContradiction fun hc => hp ⟨hm, fun d hd => ?_⟩
          refine Classical.byContradiction fun he => hc ⟨d, hd, fun e => he (.inl e), fun e => he (.inr e)⟩
        obtain ⟨d, hd, d1, dm⟩ := this
        have hle := Nat.le_of_dvd (by omega) hd
        have hpos := Nat.pos_of_dvd_of_pos hd (by omega)
        obtain ⟨r, hr, hrd⟩ := ih d (by omega) (by omega)
        exact ⟨r, hr, Nat.dvd_trans hrd hd⟩
  refine ⟨h2, fun d hd => ?_⟩
  refine Classical.byContradiction fun he => ?_
  have hd1 : d ≠ 1 := fun e => he (.inl e)
  have hdn : d ≠ n := fun e => he (.inr e)
  obtain ⟨e, rfl⟩ := hd
  have hdp : 0 < d := Nat.pos_of_ne_zero (fun h => by subst h; omega)
  have hep : 0 < e := Nat.pos_of_ne_zero (fun h => by subst h; omega)
  have he1 : e ≠ 1 := fun h => by subst h; omega
  obtain ⟨r, hr, hrd⟩ := ex d (by omega)
  obtain ⟨s, hs, hse⟩ := ex e (by omega)
  have k1 := h r hr (Nat.dvd_trans hrd (Nat.dvd_mul_right d e))
  have k2 := h s hs (Nat.dvd_trans hse (Nat.dvd_mul_left e d))
  have l1 := Nat.le_of_dvd hdp hrd
  have l2 := Nat.le_of_dvd hep hse
  rcases Nat.le_total r s with h3 | h3
  · have := Nat.mul_le_mul l1 l2
    have := Nat.mul_le_mul_left r h3
    omega
  · have := Nat.mul_le_mul l1 l2
    have := Nat.mul_le_mul_right s h3
    omega
/-- n's prime factors are above F's product where its primes divide each of them less 1. -/
theorem pr_one {n q : Nat} (h2 : 2 ≤ n) (hq : n < q * q) (h : ∀ r, Pr r → r ∣ n → q ∣ r - 1) : Pr n := by
  refine pr_of h2 fun r hr hrn => ?_
  have := Nat.le_of_dvd (by have := hr.1; omega) (h r hr hrn)
  have : q * q ≤ r * r := Nat.mul_le_mul (by omega) (by omega)
  omega
theorem pr_two {n q s : Nat} (h2 : 2 ≤ n) (hs : Nat.Coprime q s) (hq : n < (q * s) * (q * s)) (h : ∀ r, Pr r → r ∣ n → q ∣ r - 1) (h' : ∀ r, Pr r → r ∣ n → s ∣ r - 1) : Pr n :=
  pr_one h2 hq fun r hr hrn => hs.mul_dvd_of_dvd_of_dvd (h r hr hrn) (h' r hr hrn)
/-- By trial. -/
def noDiv (n : Nat) : Nat → Nat → Bool
  | _, 0 => true
  | d, f + 1 => (n % d != 0) && noDiv n (d + 1) f
theorem noDiv_ok {n : Nat} : ∀ f d, noDiv n d f = true → ∀ e, d ≤ e → e < d + f → n % e ≠ 0
  | 0, d, _, e, h1, h2 => by omega
  | f + 1, d, h, e, h1, h2 => by
    simp only [noDiv, Bool.and_eq_true, bne_iff_ne] at h
    by_cases he : e = d
    · subst he; exact h.1
    · exact noDiv_ok f (d + 1) h.2 e (by omega) (by omega)
theorem pr_small {n : Nat} (f : Nat) (h2 : 2 ≤ n) (hf : n < (f + 2) * (f + 2)) (h : noDiv n 2 f = true) : Pr n := by
  refine pr_of h2 fun r hr hrn => ?_
  have h3 := noDiv_ok f 2 h r hr.1
  have : f + 2 ≤ r := by
    refine Nat.le_of_not_lt fun hlt => h3 (by omega) (Nat.mod_eq_zero_of_dvd hrn)
  have := Nat.mul_le_mul this this
  omega
/-- Powers by squares. -/
def pwm (n : Nat) : Nat → Nat → Nat → Nat
  | 0, _, _ => 1 % n
  | f + 1, a, e => (fun s => bif e % 2 == 1 then s * a % n else s) ((fun h => h * h % n) (pwm n f a (e / 2)))
theorem pwm_ok (n : Nat) : ∀ f a e, e < 2 ^ f → pwm n f a e = a ^ e % n
  | 0, a, e, h => by
    obtain rfl : e = 0 := by simpa using h
    simp [pwm]
  | f + 1, a, e, h => by
    have ih := pwm_ok n f a (e / 2) (by rw [Nat.pow_succ] at h; omega)
    unfold pwm
    simp only [ih]
    have e2 : e = e / 2 + e / 2 + e % 2 := by omega
    rcases Nat.mod_two_eq_zero_or_one e with h1 | h1
    · simp only [h1]
      show (a ^ (e / 2) % n) * (a ^ (e / 2) % n) % n = a ^ e % n
      rw [← Nat.mul_mod, ← Nat.pow_add]
      congr 2; omega
    · simp only [h1]
      show (a ^ (e / 2) % n) * (a ^ (e / 2) % n) % n * a % n = a ^ e % n
      rw [← Nat.mul_mod, ← Nat.pow_add, Nat.mod_mul_mod, ← Nat.pow_succ]
      congr 2; omega
theorem pock_q {n q k : Nat} (f : Nat) (hq : Pr q) (hf : k * q < 2 ^ f) (h : (pwm n f 2 (k * q) == 1 % n && (1 ≤ pwm n f 2 k && Nat.gcd (pwm n f 2 k - 1) n == 1)) = true) (r : Nat) (hr : Pr r) (hrn : r ∣ n) : q ∣ r - 1 := by
  simp only [Bool.and_eq_true, beq_iff_eq, decide_eq_true_eq] at h
  have hq2 := hq.1
  have hk : k < 2 ^ f := Nat.lt_of_le_of_lt (Nat.le_mul_of_pos_right _ (by omega)) hf
  refine pock (k := k) (a := 2) hr hrn hq (by rw [← pwm_ok n f 2 _ hf]; exact h.1) (pwm n f 2 k) (by rw [pwm_ok n f 2 k hk, Nat.mod_mod]) h.2.1 h.2.2
theorem pr_127 : Pr 127 := pr_small 20 (by decide) (by decide) (by decide +kernel)
theorem pr_75707 : Pr 75707 := pr_small 300 (by decide) (by decide) (by decide +kernel)
theorem pr_1923133 : Pr 1923133 := pr_small 1400 (by decide) (by decide) (by decide +kernel)
theorem pr_8574133 : Pr 8574133 := pr_small 3000 (by decide) (by decide) (by decide +kernel)
theorem pr_c : Pr 1919519569386763 :=
  pr_two (q := 8574133) (s := 127) (by decide) (by decide +kernel) (by decide)
    (pock_q (k := 1919519569386762 / 8574133) 64 pr_8574133 (by decide) (by decide +kernel))
    (pock_q (k := 1919519569386762 / 127) 64 pr_127 (by decide) (by decide +kernel))
theorem pr_b : Pr 75445702479781427272750846543864801 :=
  pr_two (q := 1919519569386763) (s := 75707) (by decide) (by decide +kernel) (by decide)
    (pock_q (k := 75445702479781427272750846543864800 / 1919519569386763) 128 pr_c (by decide) (by decide +kernel))
    (pock_q (k := 75445702479781427272750846543864800 / 75707) 128 pr_75707 (by decide) (by decide +kernel))
theorem pr_a : Pr 74058212732561358302231226437062788676166966415465897661863160754340907 :=
  pr_two (q := 75445702479781427272750846543864801) (s := 1923133) (by decide) (by decide +kernel) (by decide)
    (pock_q (k := 74058212732561358302231226437062788676166966415465897661863160754340906 / 75445702479781427272750846543864801) 256 pr_b (by decide) (by decide +kernel))
    (pock_q (k := 74058212732561358302231226437062788676166966415465897661863160754340906 / 1923133) 256 pr_1923133 (by decide) (by decide +kernel))
theorem pr_p : Pr 57896044618658097711785492504343953926634992332820282019728792003956564819949 :=
  pr_one (q := 74058212732561358302231226437062788676166966415465897661863160754340907) (by decide) (by decide)
    (pock_q (k := 57896044618658097711785492504343953926634992332820282019728792003956564819948 / 74058212732561358302231226437062788676166966415465897661863160754340907) 256 pr_a (by decide) (by decide +kernel))
end

section
open Go Go.RowKit
set_option linter.unusedVariables false
set_option linter.unusedSimpArgs false
set_option maxRecDepth 100000
set_option maxHeartbeats 8000000

def pN : Nat := 57896044618658097711785492504343953926634992332820282019728792003956564819949
/-- A power of an element. -/
def pwX (X : Int) (e : Nat) : Int := X ^ e % pN
theorem pwX_el (X : Int) (e : Nat) : El (pwX X e) := by unfold El pwX pN; omega
theorem pwX_zero (X : Int) : pwX X 0 = 1 := by unfold pwX pN; rw [Int.pow_zero]; omega
theorem mulM_p (X Y : Int) : mulM X Y = X * Y % pN := rfl
theorem pwX_sq (X : Int) (e : Nat) : mulM (pwX X e) (pwX X e) = pwX X (2 * e) := by
  rw [mulM_p]; unfold pwX
  rw [← Int.mul_emod, ← Int.pow_add, Nat.two_mul]
theorem pwX_mul (X : Int) (e : Nat) : mulM (pwX X e) X = pwX X (e + 1) := by
  rw [mulM_p]; unfold pwX
  rw [Int.pow_succ, Int.mul_emod, Int.emod_emod, ← Int.mul_emod]
/-- The exponent behind n rounds. -/
def eI : Nat → Nat
  | 0 => 0
  | n + 1 => 2 * eI n + (if n == 252 || n == 250 then 0 else 1)
theorem eI_end : eI 255 = pN - 2 := by decide +kernel
def invM (X : Int) : Int := pwX X (eI 255)
theorem invM_el (X : Int) : El (invM X) := pwX_el _ _
theorem pwX_cast (x e : Nat) : pwX (x : Int) e = ((x ^ e % pN : Nat) : Int) := by
  unfold pwX
  rw [Int.natCast_emod, Int.natCast_pow]
theorem inv_mul {X : Int} (hX : El X) (h0 : X ≠ 0) : mulM (invM X) X = 1 := by
  unfold invM
  rw [pwX_mul, eI_end]
  obtain ⟨x, rfl⟩ := Int.eq_ofNat_of_zero_le hX.1
  have h1 : x < pN := by have := hX.2; unfold pN; omega
  have h2 : 0 < x := by omega
  rw [pwX_cast, show pN - 2 + 1 = pN - 1 from by decide]
  rw [flt (show Pr pN from pr_p) (a := x) (fun hd => absurd (Nat.le_of_dvd h2 hd) (Nat.not_le_of_lt h1))]
  rfl
theorem inv_zero : invM 0 = 0 := by
  unfold invM pwX
  rw [eI_end, Int.zero_pow (by decide)]
  rfl
theorem inv_inv {X : Int} (hX : El X) : invM (invM X) = X := by
  by_cases h0 : X = 0
  · subst h0; rw [inv_zero, inv_zero]
  · have e1 := inv_mul hX h0
    have hY := invM_el X
    have hZ := invM_el (invM X)
    have hy0 : invM X ≠ 0 := fun e => by rw [e] at e1; unfold mulM at e1; omega
    have e2 := inv_mul hY hy0
    generalize invM (invM X) = Z at *
    generalize invM X = Y at *
    rw [mulM_p] at e1 e2
    have p1 : (1 : Int) % pN = 1 := by decide
    have a1 : Z * (Y * X) % pN = Z := by
      rw [Int.mul_emod, e1, ← p1, ← Int.mul_emod, Int.mul_one]
      exact Int.emod_eq_of_lt hZ.1 hZ.2
    have a2 : Z * Y * X % pN = X := by
      rw [Int.mul_emod, e2, ← p1, ← Int.mul_emod, Int.one_mul]
      exact Int.emod_eq_of_lt hX.1 hX.2
    rw [← a1, ← Int.mul_assoc, a2]
attribute [local irreducible] wl addM subM mulM pM qM le fromM bytesM dv digL pwX pN eI invM
theorem inverse_rc {H : AH} (hG : GP H) {X : Int} (hX : El X) : AC Tryd.prog H.length gm 23 #[nv X] H (fun v' _ => v' = nv (invM X)) := by
  have hl : 0 < H.length := by obtain ⟨t, h⟩ := hG; exact hget_lt h
  have hs : VC Tryd.prog 13 #[.int .u32 1] (nv (pwX X (eI 0))) := by
    rw [show eI 0 = 0 by unfold eI; rfl, pwX_zero]
    exact small_vc (n := 1) (by omega)
  have hend : invM X = pwX X (eI 255) := by unfold invM; rfl
  simp only [nv_el] at hs ⊢
  refine ac_of_aw Tryd.func23 rfl Tryd.ntmps23 Tryd.results23 (by simp) ?_
  refine aw_seq ?_
  (refine aw_ops (by kernel_rfl) (fun K hK => ?_); simp (disch := first | omega | (simp only [List.length_set, List.length_append, List.length_cons, List.length_nil, iv_length, zl_length]; done) | (simp only [List.length_set, List.length_append, List.length_cons, List.length_nil, iv_length, zl_length]; omega)) [wb_bool, wb_undef, XL_nil, XL_cons, XLc_val, XLc_call, step1_eq, stepW_t, stepW_f, stepC_n, stepC_s, stepX_s, xop_eq, xopR_s, xopR_n, wantedA_eq, wantedG_n, wantedG_s, plain1_int, plain1_bool, plain1_string, bits_i64, bits_u64, bits_u32, bits_u16, bits_u8, xeqA, xarr, allK_iv, num_iv, calleeOf, xread, xeff, xbin, xint, xnil, xun, xstr, xload, xconv, xpart, xfield, xfieldAddr, xindexAddr, xindex, bnd, asInt?, xslice, xlen, xmin, xmax, xbuild, xfill, xappend, xcopy, xcells, eval_tmp, eval_const, put_at, put_none, fr0_at, cells_agg, cells_int, cells_bool, cells_string, cells_ptr, cells_slice, notTuple, tab, iv_all, hget_app, hget_app0, hget_cons0, hget_cons, set_app, set_app0, setR, setR_one, QL_nil, QL_cons, QLc_val, stepQ_t, stepQ_f, stepQC_n, stepQC_s, stepQX_s, SL_nil, SL_cons, SLc_val, stepS_t, stepS_f, ← wl_zero, ltT, ltF, leT, leF, eqT, eqF, ltTn, ltFn, leTn, leFn, eqTn, eqFn, beqT, beqF, bneT, bneF, wi64, wu64, wu32, wu16, wu8, tmodP, tdivP, hgetL, hgetNe, hgetEq, setL, nums_def, nums_len, Nat.succ_le_of_lt, List.getElem?_cons_zero, List.getElem?_cons_succ, Option.getD_some, -getElem?_pos, -getElem?_neg, Int.toNat_add, Int.toNat_mul, agB, agI, agS, agP, agL, agA, okB, okI, okS, okP, okSl, okA]; refine hK _ _ ?_; clear hK K)
  refine aw_seq ?_
  refine aw_ops (by kernel_rfl) (fun K hK => ?_)
  simp (disch := first | omega | (simp only [List.length_set, List.length_append, List.length_cons, List.length_nil, iv_length, zl_length]; done) | (simp only [List.length_set, List.length_append, List.length_cons, List.length_nil, iv_length, zl_length]; omega)) [wb_bool, wb_undef, XL_nil, XL_cons, XLc_val, XLc_call, step1_eq, stepW_t, stepW_f, stepC_n, stepC_s, stepX_s, xop_eq, xopR_s, xopR_n, wantedA_eq, wantedG_n, wantedG_s, plain1_int, plain1_bool, plain1_string, bits_i64, bits_u64, bits_u32, bits_u16, bits_u8, xeqA, xarr, allK_iv, num_iv, calleeOf, xread, xeff, xbin, xint, xnil, xun, xstr, xload, xconv, xpart, xfield, xfieldAddr, xindexAddr, xindex, bnd, asInt?, xslice, xlen, xmin, xmax, xbuild, xfill, xappend, xcopy, xcells, eval_tmp, eval_const, put_at, put_none, fr0_at, cells_agg, cells_int, cells_bool, cells_string, cells_ptr, cells_slice, notTuple, tab, iv_all, hget_app, hget_app0, hget_cons0, hget_cons, set_app, set_app0, setR, setR_one, QL_nil, QL_cons, QLc_val, stepQ_t, stepQ_f, stepQC_n, stepQC_s, stepQX_s, SL_nil, SL_cons, SLc_val, stepS_t, stepS_f, ltT, ltF, leT, leF, eqT, eqF, ltTn, ltFn, leTn, leFn, eqTn, eqFn, beqT, beqF, bneT, bneF, wi64, wu64, wu32, wu16, wu8, tmodP, tdivP, hgetL, hgetNe, hgetEq, setL, nums_def, nums_len, Nat.succ_le_of_lt, List.getElem?_cons_zero, List.getElem?_cons_succ, Option.getD_some, -getElem?_pos, -getElem?_neg, Int.toNat_add, Int.toNat_mul, agB, agI, agS, agP, agL, agA, okB, okI, okS, okP, okSl, okA]
  refine ⟨by kernel_rfl, ac_of_vc (by simp [pv_iv, pv_int, pv_bool, pv_string, pv_tup2, pv_tup3, iv_plain, p2_int, p2_bool, p2_string]) hs ?_⟩
  simp (disch := first | omega | (simp only [List.length_set, List.length_append, List.length_cons, List.length_nil, iv_length, zl_length]; done) | (simp only [List.length_set, List.length_append, List.length_cons, List.length_nil, iv_length, zl_length]; omega)) [wb_bool, wb_undef, XL_nil, XL_cons, XLc_val, XLc_call, step1_eq, stepW_t, stepW_f, stepC_n, stepC_s, stepX_s, xop_eq, xopR_s, xopR_n, wantedA_eq, wantedG_n, wantedG_s, plain1_int, plain1_bool, plain1_string, bits_i64, bits_u64, bits_u32, bits_u16, bits_u8, xeqA, xarr, allK_iv, num_iv, calleeOf, xread, xeff, xbin, xint, xnil, xun, xstr, xload, xconv, xpart, xfield, xfieldAddr, xindexAddr, xindex, bnd, asInt?, xslice, xlen, xmin, xmax, xbuild, xfill, xappend, xcopy, xcells, eval_tmp, eval_const, put_at, put_none, fr0_at, cells_agg, cells_int, cells_bool, cells_string, cells_ptr, cells_slice, notTuple, tab, iv_all, hget_app, hget_app0, hget_cons0, hget_cons, set_app, set_app0, setR, setR_one, QL_nil, QL_cons, QLc_val, stepQ_t, stepQ_f, stepQC_n, stepQC_s, stepQX_s, SL_nil, SL_cons, SLc_val, stepS_t, stepS_f, set_zw, ltT, ltF, leT, leF, eqT, eqF, ltTn, ltFn, leTn, leFn, eqTn, eqFn, beqT, beqF, bneT, bneF, wi64, wu64, wu32, wu16, wu8, tmodP, tdivP, hgetL, hgetNe, hgetEq, setL, nums_def, nums_len, Nat.succ_le_of_lt, List.getElem?_cons_zero, List.getElem?_cons_succ, Option.getD_some, -getElem?_pos, -getElem?_neg, Int.toNat_add, Int.toNat_mul, agB, agI, agS, agP, agL, agA, okB, okI, okS, okP, okSl, okA]
  refine hK _ _ ?_; clear hK K
  refine aw_seq ?_
  refine aw_seq ?_
  (refine aw_ops (by kernel_rfl) (fun K hK => ?_); simp (disch := first | omega | (simp only [List.length_set, List.length_append, List.length_cons, List.length_nil, iv_length, zl_length]; done) | (simp only [List.length_set, List.length_append, List.length_cons, List.length_nil, iv_length, zl_length]; omega)) [wb_bool, wb_undef, XL_nil, XL_cons, XLc_val, XLc_call, step1_eq, stepW_t, stepW_f, stepC_n, stepC_s, stepX_s, xop_eq, xopR_s, xopR_n, wantedA_eq, wantedG_n, wantedG_s, plain1_int, plain1_bool, plain1_string, bits_i64, bits_u64, bits_u32, bits_u16, bits_u8, xeqA, xarr, allK_iv, num_iv, calleeOf, xread, xeff, xbin, xint, xnil, xun, xstr, xload, xconv, xpart, xfield, xfieldAddr, xindexAddr, xindex, bnd, asInt?, xslice, xlen, xmin, xmax, xbuild, xfill, xappend, xcopy, xcells, eval_tmp, eval_const, put_at, put_none, fr0_at, cells_agg, cells_int, cells_bool, cells_string, cells_ptr, cells_slice, notTuple, tab, iv_all, hget_app, hget_app0, hget_cons0, hget_cons, set_app, set_app0, setR, setR_one, QL_nil, QL_cons, QLc_val, stepQ_t, stepQ_f, stepQC_n, stepQC_s, stepQX_s, SL_nil, SL_cons, SLc_val, stepS_t, stepS_f, ltT, ltF, leT, leF, eqT, eqF, ltTn, ltFn, leTn, leFn, eqTn, eqFn, beqT, beqF, bneT, bneF, wi64, wu64, wu32, wu16, wu8, tmodP, tdivP, hgetL, hgetNe, hgetEq, setL, nums_def, nums_len, Nat.succ_le_of_lt, List.getElem?_cons_zero, List.getElem?_cons_succ, Option.getD_some, -getElem?_pos, -getElem?_neg, Int.toNat_add, Int.toNat_mul, agB, agI, agS, agP, agL, agA, okB, okI, okS, okP, okSl, okA]; refine hK _ _ ?_; clear hK K)
  refine aw_block ?_
  refine aw_loop (fun q α H' => ∃ (n : Nat) (j : Int), n + q = 255 ∧ j = 254 - (n : Int) ∧ α 4 = .int .i64 j ∧ α 1 = .pointer (some ⟨H.length, 0, none⟩) ∧ α 2 = .pointer (some ⟨H.length + 1, 0, none⟩) ∧ α 3 = .pointer (some ⟨H.length + 2, 0, none⟩) ∧ H.length + 3 ≤ H'.length ∧
    (∀ i, i < H.length → hget H' i = hget H i) ∧ hget H' H.length = some ⟨iv .u64 (wl X), 30, none⟩ ∧ hget H' (H.length + 1) = some ⟨iv .u64 (wl 0), 30, none⟩ ∧ hget H' (H.length + 2) = some ⟨iv .u64 (wl (pwX X (eI n))), 30, none⟩) 255 ?_ ?_
  · exact ⟨0, 254, by omega, by omega, by (first | (simp [put_at, put_none, fr0_at]; done) | rfl), by (first | (simp [put_at, put_none, fr0_at]; done) | rfl), by (first | (simp [put_at, put_none, fr0_at]; done) | rfl), by (first | (simp [put_at, put_none, fr0_at]; done) | rfl), by simp, fun i hi => by simp [hget_left hi], by simp [hget_app0, hget_cons0], by simp [hget_app, hget], by simp [hget_app, hget]⟩
  clear hs
  rintro q α H' ⟨n, j, hnq, hj, h4, h1, h2, h3, hl3, hlow, c0, c1, c2⟩
  refine aw_seq ?_
  refine aw_seq ?_
  by_cases hn : n < 255
  · have hj0 : 0 ≤ j := by omega
    have hj1 : j ≤ 254 := by omega
    have hG' := hG.low hlow
    have hPe := pwX_el X (eI n)
    have hPe2 := pwX_el X (2 * eI n)
    have hT1 := fun (L : AH) (k : Nat) hk => times1 hG' (pwX X (eI n)) (pwX X (eI n)) hPe hPe L k hk
    rw [pwX_sq] at hT1
    have hT2 := fun (H : AH) (hG : GP H) (L : AH) (k : Nat) hk => times1 hG (pwX X (2 * eI n)) X hPe2 hX L k hk
    rw [pwX_mul] at hT2
    have hn1 : j ≠ 2 → j ≠ 4 → pwX X (2 * eI n + 1) = pwX X (eI (n + 1)) := fun k1 k2 => by
      have : (n == 252 || n == 250) = false := by simp; omega
      conv => rhs; unfold eI
      rw [this]; rfl
    have hn2 : j = 2 ∨ j = 4 → pwX X (2 * eI n) = pwX X (eI (n + 1)) := fun k => by
      have : (n == 252 || n == 250) = true := by simp; omega
      conv => rhs; unfold eI
      rw [this]; rfl
    generalize pwX X (eI n) = P at *
    generalize pwX X (2 * eI n) = P2 at *
    generalize pwX X (2 * eI n + 1) = P3 at *
    obtain ⟨P4, hP4⟩ : ∃ P4, P4 = pwX X (eI (n + 1)) := ⟨_, rfl⟩
    rw [← hP4] at hn1 hn2
    clear hPe hPe2 hX hend
    (refine aw_ops (by kernel_rfl) (fun K hK => ?_); simp (disch := first | omega | (simp only [List.length_set, List.length_append, List.length_cons, List.length_nil, iv_length, zl_length]; done) | (simp only [List.length_set, List.length_append, List.length_cons, List.length_nil, iv_length, zl_length]; omega)) [wb_bool, wb_undef, XL_nil, XL_cons, XLc_val, XLc_call, step1_eq, stepW_t, stepW_f, stepC_n, stepC_s, stepX_s, xop_eq, xopR_s, xopR_n, wantedA_eq, wantedG_n, wantedG_s, plain1_int, plain1_bool, plain1_string, bits_i64, bits_u64, bits_u32, bits_u16, bits_u8, xeqA, xarr, allK_iv, num_iv, calleeOf, xread, xeff, xbin, xint, xnil, xun, xstr, xload, xconv, xpart, xfield, xfieldAddr, xindexAddr, xindex, bnd, asInt?, xslice, xlen, xmin, xmax, xbuild, xfill, xappend, xcopy, xcells, eval_tmp, eval_const, put_at, put_none, fr0_at, cells_agg, cells_int, cells_bool, cells_string, cells_ptr, cells_slice, notTuple, tab, iv_all, hget_app, hget_app0, hget_cons0, hget_cons, set_app, set_app0, setR, setR_one, QL_nil, QL_cons, QLc_val, stepQ_t, stepQ_f, stepQC_n, stepQC_s, stepQX_s, SL_nil, SL_cons, SLc_val, stepS_t, stepS_f, h4, ltT, ltF, leT, leF, eqT, eqF, ltTn, ltFn, leTn, leFn, eqTn, eqFn, beqT, beqF, bneT, bneF, wi64, wu64, wu32, wu16, wu8, tmodP, tdivP, hgetL, hgetNe, hgetEq, setL, nums_def, nums_len, Nat.succ_le_of_lt, List.getElem?_cons_zero, List.getElem?_cons_succ, Option.getD_some, -getElem?_pos, -getElem?_neg, Int.toNat_add, Int.toNat_mul, agB, agI, agS, agP, agL, agA, okB, okI, okS, okP, okSl, okA]; refine hK _ _ ?_; clear hK K)
    refine aw_t (by (first | (simp [eval_tmp, put_at, hj0]; done) | (simp [eval_tmp, put_at, hj0]; omega))) (by kernel_rfl) ?_
    refine aw_skip ?_
    refine aw_seq ?_
    refine aw_block ?_
    refine aw_seq ?_
    refine aw_ops (by kernel_rfl) (fun K hK => ?_)
    simp (disch := first | omega | (simp only [List.length_set, List.length_append, List.length_cons, List.length_nil, iv_length, zl_length]; done) | (simp only [List.length_set, List.length_append, List.length_cons, List.length_nil, iv_length, zl_length]; omega)) [wb_bool, wb_undef, XL_nil, XL_cons, XLc_val, XLc_call, step1_eq, stepW_t, stepW_f, stepC_n, stepC_s, stepX_s, xop_eq, xopR_s, xopR_n, wantedA_eq, wantedG_n, wantedG_s, plain1_int, plain1_bool, plain1_string, bits_i64, bits_u64, bits_u32, bits_u16, bits_u8, xeqA, xarr, allK_iv, num_iv, calleeOf, xread, xeff, xbin, xint, xnil, xun, xstr, xload, xconv, xpart, xfield, xfieldAddr, xindexAddr, xindex, bnd, asInt?, xslice, xlen, xmin, xmax, xbuild, xfill, xappend, xcopy, xcells, eval_tmp, eval_const, put_at, put_none, fr0_at, cells_agg, cells_int, cells_bool, cells_string, cells_ptr, cells_slice, notTuple, tab, iv_all, hget_app, hget_app0, hget_cons0, hget_cons, set_app, set_app0, setR, setR_one, QL_nil, QL_cons, QLc_val, stepQ_t, stepQ_f, stepQC_n, stepQC_s, stepQX_s, SL_nil, SL_cons, SLc_val, stepS_t, stepS_f, h3, c2, take_wl, bs1, ltT, ltF, leT, leF, eqT, eqF, ltTn, ltFn, leTn, leFn, eqTn, eqFn, beqT, beqF, bneT, bneF, wi64, wu64, wu32, wu16, wu8, tmodP, tdivP, hgetL, hgetNe, hgetEq, setL, nums_def, nums_len, Nat.succ_le_of_lt, List.getElem?_cons_zero, List.getElem?_cons_succ, Option.getD_some, -getElem?_pos, -getElem?_neg, Int.toNat_add, Int.toNat_mul, agB, agI, agS, agP, agL, agA, okB, okI, okS, okP, okSl, okA]
    refine ⟨by kernel_rfl, ac_of_rc (hT1 _ _ (by rw [hget_app0]; rfl)) (by simp [pv_iv, pv_int, pv_bool, pv_string, pv_tup2, pv_tup3, iv_plain, p2_int, p2_bool, p2_string]) ?_⟩
    simp (disch := first | omega | (simp only [List.length_set, List.length_append, List.length_cons, List.length_nil, iv_length, zl_length]; done) | (simp only [List.length_set, List.length_append, List.length_cons, List.length_nil, iv_length, zl_length]; omega)) [wb_bool, wb_undef, XL_nil, XL_cons, XLc_val, XLc_call, step1_eq, stepW_t, stepW_f, stepC_n, stepC_s, stepX_s, xop_eq, xopR_s, xopR_n, wantedA_eq, wantedG_n, wantedG_s, plain1_int, plain1_bool, plain1_string, bits_i64, bits_u64, bits_u32, bits_u16, bits_u8, xeqA, xarr, allK_iv, num_iv, calleeOf, xread, xeff, xbin, xint, xnil, xun, xstr, xload, xconv, xpart, xfield, xfieldAddr, xindexAddr, xindex, bnd, asInt?, xslice, xlen, xmin, xmax, xbuild, xfill, xappend, xcopy, xcells, eval_tmp, eval_const, put_at, put_none, fr0_at, cells_agg, cells_int, cells_bool, cells_string, cells_ptr, cells_slice, notTuple, tab, iv_all, hget_app, hget_app0, hget_cons0, hget_cons, set_app, set_app0, setR, setR_one, QL_nil, QL_cons, QLc_val, stepQ_t, stepQ_f, stepQC_n, stepQC_s, stepQX_s, SL_nil, SL_cons, SLc_val, stepS_t, stepS_f, h3, c2, set_wl, ltT, ltF, leT, leF, eqT, eqF, ltTn, ltFn, leTn, leFn, eqTn, eqFn, beqT, beqF, bneT, bneF, wi64, wu64, wu32, wu16, wu8, tmodP, tdivP, hgetL, hgetNe, hgetEq, setL, nums_def, nums_len, Nat.succ_le_of_lt, List.getElem?_cons_zero, List.getElem?_cons_succ, Option.getD_some, -getElem?_pos, -getElem?_neg, Int.toNat_add, Int.toNat_mul, agB, agI, agS, agP, agL, agA, okB, okI, okS, okP, okSl, okA]
    refine hK _ _ ?_; clear hK K
    obtain ⟨H1, hH1⟩ : ∃ H1, H1 = H'.set (H.length + 2) (some ⟨iv .u64 (wl P2), 30, none⟩) ++ [some ⟨iv .u64 (wl P), 30, some 4⟩] := ⟨_, rfl⟩
    have d0 : hget H1 H.length = some ⟨iv .u64 (wl X), 30, none⟩ := by rw [hH1, hget_left (by simp; omega), hget_set_ne (by omega)]; exact c0
    have d1 : hget H1 (H.length + 1) = some ⟨iv .u64 (wl 0), 30, none⟩ := by rw [hH1, hget_left (by simp; omega), hget_set_ne (by omega)]; exact c1
    have d2 : hget H1 (H.length + 2) = some ⟨iv .u64 (wl P2), 30, none⟩ := by rw [hH1, hget_left (by simp; omega), hget_set_eq (by omega)]
    have dl : H.length + 3 ≤ H1.length := by rw [hH1]; simp; omega
    have dlow : ∀ i, i < H.length → hget H1 i = hget H i := fun i hi => by rw [hH1, hget_left (by simp; omega), hget_set_ne (by omega)]; exact hlow i hi
    rw [← hH1]
    clear hH1 c0 c1 c2 hlow hl3 hT1 hG'
    have hT3 := hT2 H1 (hG.low dlow)
    by_cases j2 : j = 2
    · have e4 := hn2 (.inl j2)
      subst j2
      rw [e4] at d2
      refine aw_seq ?_
      (refine aw_ops (by kernel_rfl) (fun K hK => ?_); simp (disch := first | omega | (simp only [List.length_set, List.length_append, List.length_cons, List.length_nil, iv_length, zl_length]; done) | (simp only [List.length_set, List.length_append, List.length_cons, List.length_nil, iv_length, zl_length]; omega)) [wb_bool, wb_undef, XL_nil, XL_cons, XLc_val, XLc_call, step1_eq, stepW_t, stepW_f, stepC_n, stepC_s, stepX_s, xop_eq, xopR_s, xopR_n, wantedA_eq, wantedG_n, wantedG_s, plain1_int, plain1_bool, plain1_string, bits_i64, bits_u64, bits_u32, bits_u16, bits_u8, xeqA, xarr, allK_iv, num_iv, calleeOf, xread, xeff, xbin, xint, xnil, xun, xstr, xload, xconv, xpart, xfield, xfieldAddr, xindexAddr, xindex, bnd, asInt?, xslice, xlen, xmin, xmax, xbuild, xfill, xappend, xcopy, xcells, eval_tmp, eval_const, put_at, put_none, fr0_at, cells_agg, cells_int, cells_bool, cells_string, cells_ptr, cells_slice, notTuple, tab, iv_all, hget_app, hget_app0, hget_cons0, hget_cons, set_app, set_app0, setR, setR_one, QL_nil, QL_cons, QLc_val, stepQ_t, stepQ_f, stepQC_n, stepQC_s, stepQX_s, SL_nil, SL_cons, SLc_val, stepS_t, stepS_f, h4, ltT, ltF, leT, leF, eqT, eqF, ltTn, ltFn, leTn, leFn, eqTn, eqFn, beqT, beqF, bneT, bneF, wi64, wu64, wu32, wu16, wu8, tmodP, tdivP, hgetL, hgetNe, hgetEq, setL, nums_def, nums_len, Nat.succ_le_of_lt, List.getElem?_cons_zero, List.getElem?_cons_succ, Option.getD_some, -getElem?_pos, -getElem?_neg, Int.toNat_add, Int.toNat_mul, agB, agI, agS, agP, agL, agA, okB, okI, okS, okP, okSl, okA]; refine hK _ _ ?_; clear hK K)
      refine aw_f (by (first | (simp [eval_tmp, put_at]; done) | (simp [eval_tmp, put_at]; omega))) (by kernel_rfl) ?_
      refine aw_skip ?_
      (refine aw_ops (by kernel_rfl) (fun K hK => ?_); simp (disch := first | omega | (simp only [List.length_set, List.length_append, List.length_cons, List.length_nil, iv_length, zl_length]; done) | (simp only [List.length_set, List.length_append, List.length_cons, List.length_nil, iv_length, zl_length]; omega)) [wb_bool, wb_undef, XL_nil, XL_cons, XLc_val, XLc_call, step1_eq, stepW_t, stepW_f, stepC_n, stepC_s, stepX_s, xop_eq, xopR_s, xopR_n, wantedA_eq, wantedG_n, wantedG_s, plain1_int, plain1_bool, plain1_string, bits_i64, bits_u64, bits_u32, bits_u16, bits_u8, xeqA, xarr, allK_iv, num_iv, calleeOf, xread, xeff, xbin, xint, xnil, xun, xstr, xload, xconv, xpart, xfield, xfieldAddr, xindexAddr, xindex, bnd, asInt?, xslice, xlen, xmin, xmax, xbuild, xfill, xappend, xcopy, xcells, eval_tmp, eval_const, put_at, put_none, fr0_at, cells_agg, cells_int, cells_bool, cells_string, cells_ptr, cells_slice, notTuple, tab, iv_all, hget_app, hget_app0, hget_cons0, hget_cons, set_app, set_app0, setR, setR_one, QL_nil, QL_cons, QLc_val, stepQ_t, stepQ_f, stepQC_n, stepQC_s, stepQX_s, SL_nil, SL_cons, SLc_val, stepS_t, stepS_f, h4, ltT, ltF, leT, leF, eqT, eqF, ltTn, ltFn, leTn, leFn, eqTn, eqFn, beqT, beqF, bneT, bneF, wi64, wu64, wu32, wu16, wu8, tmodP, tdivP, hgetL, hgetNe, hgetEq, setL, nums_def, nums_len, Nat.succ_le_of_lt, List.getElem?_cons_zero, List.getElem?_cons_succ, Option.getD_some, -getElem?_pos, -getElem?_neg, Int.toNat_add, Int.toNat_mul, agB, agI, agS, agP, agL, agA, okB, okI, okS, okP, okSl, okA]; refine hK _ _ ?_; clear hK K)
      exact ⟨q - 1, by omega, n + 1, 1, by omega, by omega, by (first | (simp [put_at, put_none, fr0_at]; done) | rfl), by (first | (simp [put_at, put_none, fr0_at, h1]; done) | rfl), by (first | (simp [put_at, put_none, fr0_at, h2]; done) | rfl), by (first | (simp [put_at, put_none, fr0_at, h3]; done) | rfl), dl, dlow, d0, d1, by rw [← hP4]; exact d2⟩
    by_cases j4 : j = 4
    · have e4 := hn2 (.inr j4)
      subst j4
      rw [e4] at d2
      refine aw_seq ?_
      (refine aw_ops (by kernel_rfl) (fun K hK => ?_); simp (disch := first | omega | (simp only [List.length_set, List.length_append, List.length_cons, List.length_nil, iv_length, zl_length]; done) | (simp only [List.length_set, List.length_append, List.length_cons, List.length_nil, iv_length, zl_length]; omega)) [wb_bool, wb_undef, XL_nil, XL_cons, XLc_val, XLc_call, step1_eq, stepW_t, stepW_f, stepC_n, stepC_s, stepX_s, xop_eq, xopR_s, xopR_n, wantedA_eq, wantedG_n, wantedG_s, plain1_int, plain1_bool, plain1_string, bits_i64, bits_u64, bits_u32, bits_u16, bits_u8, xeqA, xarr, allK_iv, num_iv, calleeOf, xread, xeff, xbin, xint, xnil, xun, xstr, xload, xconv, xpart, xfield, xfieldAddr, xindexAddr, xindex, bnd, asInt?, xslice, xlen, xmin, xmax, xbuild, xfill, xappend, xcopy, xcells, eval_tmp, eval_const, put_at, put_none, fr0_at, cells_agg, cells_int, cells_bool, cells_string, cells_ptr, cells_slice, notTuple, tab, iv_all, hget_app, hget_app0, hget_cons0, hget_cons, set_app, set_app0, setR, setR_one, QL_nil, QL_cons, QLc_val, stepQ_t, stepQ_f, stepQC_n, stepQC_s, stepQX_s, SL_nil, SL_cons, SLc_val, stepS_t, stepS_f, h4, ltT, ltF, leT, leF, eqT, eqF, ltTn, ltFn, leTn, leFn, eqTn, eqFn, beqT, beqF, bneT, bneF, wi64, wu64, wu32, wu16, wu8, tmodP, tdivP, hgetL, hgetNe, hgetEq, setL, nums_def, nums_len, Nat.succ_le_of_lt, List.getElem?_cons_zero, List.getElem?_cons_succ, Option.getD_some, -getElem?_pos, -getElem?_neg, Int.toNat_add, Int.toNat_mul, agB, agI, agS, agP, agL, agA, okB, okI, okS, okP, okSl, okA]; refine hK _ _ ?_; clear hK K)
      refine aw_f (by (first | (simp [eval_tmp, put_at]; done) | (simp [eval_tmp, put_at]; omega))) (by kernel_rfl) ?_
      refine aw_skip ?_
      (refine aw_ops (by kernel_rfl) (fun K hK => ?_); simp (disch := first | omega | (simp only [List.length_set, List.length_append, List.length_cons, List.length_nil, iv_length, zl_length]; done) | (simp only [List.length_set, List.length_append, List.length_cons, List.length_nil, iv_length, zl_length]; omega)) [wb_bool, wb_undef, XL_nil, XL_cons, XLc_val, XLc_call, step1_eq, stepW_t, stepW_f, stepC_n, stepC_s, stepX_s, xop_eq, xopR_s, xopR_n, wantedA_eq, wantedG_n, wantedG_s, plain1_int, plain1_bool, plain1_string, bits_i64, bits_u64, bits_u32, bits_u16, bits_u8, xeqA, xarr, allK_iv, num_iv, calleeOf, xread, xeff, xbin, xint, xnil, xun, xstr, xload, xconv, xpart, xfield, xfieldAddr, xindexAddr, xindex, bnd, asInt?, xslice, xlen, xmin, xmax, xbuild, xfill, xappend, xcopy, xcells, eval_tmp, eval_const, put_at, put_none, fr0_at, cells_agg, cells_int, cells_bool, cells_string, cells_ptr, cells_slice, notTuple, tab, iv_all, hget_app, hget_app0, hget_cons0, hget_cons, set_app, set_app0, setR, setR_one, QL_nil, QL_cons, QLc_val, stepQ_t, stepQ_f, stepQC_n, stepQC_s, stepQX_s, SL_nil, SL_cons, SLc_val, stepS_t, stepS_f, h4, ltT, ltF, leT, leF, eqT, eqF, ltTn, ltFn, leTn, leFn, eqTn, eqFn, beqT, beqF, bneT, bneF, wi64, wu64, wu32, wu16, wu8, tmodP, tdivP, hgetL, hgetNe, hgetEq, setL, nums_def, nums_len, Nat.succ_le_of_lt, List.getElem?_cons_zero, List.getElem?_cons_succ, Option.getD_some, -getElem?_pos, -getElem?_neg, Int.toNat_add, Int.toNat_mul, agB, agI, agS, agP, agL, agA, okB, okI, okS, okP, okSl, okA]; refine hK _ _ ?_; clear hK K)
      exact ⟨q - 1, by omega, n + 1, 3, by omega, by omega, by (first | (simp [put_at, put_none, fr0_at]; done) | rfl), by (first | (simp [put_at, put_none, fr0_at, h1]; done) | rfl), by (first | (simp [put_at, put_none, fr0_at, h2]; done) | rfl), by (first | (simp [put_at, put_none, fr0_at, h3]; done) | rfl), dl, dlow, d0, d1, by rw [← hP4]; exact d2⟩
    have e4 := hn1 j2 j4
    have b2 : (j != 2) = true := by simp [j2]
    have b4 : (j != 4) = true := by simp [j4]
    refine aw_seq ?_
    (refine aw_ops (by kernel_rfl) (fun K hK => ?_); simp (disch := first | omega | (simp only [List.length_set, List.length_append, List.length_cons, List.length_nil, iv_length, zl_length]; done) | (simp only [List.length_set, List.length_append, List.length_cons, List.length_nil, iv_length, zl_length]; omega)) [wb_bool, wb_undef, XL_nil, XL_cons, XLc_val, XLc_call, step1_eq, stepW_t, stepW_f, stepC_n, stepC_s, stepX_s, xop_eq, xopR_s, xopR_n, wantedA_eq, wantedG_n, wantedG_s, plain1_int, plain1_bool, plain1_string, bits_i64, bits_u64, bits_u32, bits_u16, bits_u8, xeqA, xarr, allK_iv, num_iv, calleeOf, xread, xeff, xbin, xint, xnil, xun, xstr, xload, xconv, xpart, xfield, xfieldAddr, xindexAddr, xindex, bnd, asInt?, xslice, xlen, xmin, xmax, xbuild, xfill, xappend, xcopy, xcells, eval_tmp, eval_const, put_at, put_none, fr0_at, cells_agg, cells_int, cells_bool, cells_string, cells_ptr, cells_slice, notTuple, tab, iv_all, hget_app, hget_app0, hget_cons0, hget_cons, set_app, set_app0, setR, setR_one, QL_nil, QL_cons, QLc_val, stepQ_t, stepQ_f, stepQC_n, stepQC_s, stepQX_s, SL_nil, SL_cons, SLc_val, stepS_t, stepS_f, h4, b2, b4, ltT, ltF, leT, leF, eqT, eqF, ltTn, ltFn, leTn, leFn, eqTn, eqFn, beqT, beqF, bneT, bneF, wi64, wu64, wu32, wu16, wu8, tmodP, tdivP, hgetL, hgetNe, hgetEq, setL, nums_def, nums_len, Nat.succ_le_of_lt, List.getElem?_cons_zero, List.getElem?_cons_succ, Option.getD_some, -getElem?_pos, -getElem?_neg, Int.toNat_add, Int.toNat_mul, agB, agI, agS, agP, agL, agA, okB, okI, okS, okP, okSl, okA]; refine hK _ _ ?_; clear hK K)
    refine aw_t (by (first | (simp [eval_tmp, put_at]; done) | (simp [eval_tmp, put_at]; omega))) (by kernel_rfl) ?_
    refine aw_ops (by kernel_rfl) (fun K hK => ?_)
    simp (disch := first | omega | (simp only [List.length_set, List.length_append, List.length_cons, List.length_nil, iv_length, zl_length]; done) | (simp only [List.length_set, List.length_append, List.length_cons, List.length_nil, iv_length, zl_length]; omega)) [wb_bool, wb_undef, XL_nil, XL_cons, XLc_val, XLc_call, step1_eq, stepW_t, stepW_f, stepC_n, stepC_s, stepX_s, xop_eq, xopR_s, xopR_n, wantedA_eq, wantedG_n, wantedG_s, plain1_int, plain1_bool, plain1_string, bits_i64, bits_u64, bits_u32, bits_u16, bits_u8, xeqA, xarr, allK_iv, num_iv, calleeOf, xread, xeff, xbin, xint, xnil, xun, xstr, xload, xconv, xpart, xfield, xfieldAddr, xindexAddr, xindex, bnd, asInt?, xslice, xlen, xmin, xmax, xbuild, xfill, xappend, xcopy, xcells, eval_tmp, eval_const, put_at, put_none, fr0_at, cells_agg, cells_int, cells_bool, cells_string, cells_ptr, cells_slice, notTuple, tab, iv_all, hget_app, hget_app0, hget_cons0, hget_cons, set_app, set_app0, setR, setR_one, QL_nil, QL_cons, QLc_val, stepQ_t, stepQ_f, stepQC_n, stepQC_s, stepQX_s, SL_nil, SL_cons, SLc_val, stepS_t, stepS_f, h1, h3, d0, d2, take_wl, bs1, ltT, ltF, leT, leF, eqT, eqF, ltTn, ltFn, leTn, leFn, eqTn, eqFn, beqT, beqF, bneT, bneF, wi64, wu64, wu32, wu16, wu8, tmodP, tdivP, hgetL, hgetNe, hgetEq, setL, nums_def, nums_len, Nat.succ_le_of_lt, List.getElem?_cons_zero, List.getElem?_cons_succ, Option.getD_some, -getElem?_pos, -getElem?_neg, Int.toNat_add, Int.toNat_mul, agB, agI, agS, agP, agL, agA, okB, okI, okS, okP, okSl, okA]
    refine ⟨by kernel_rfl, ac_of_rc (hT3 _ _ (by rw [hget_app0]; rfl)) (by simp [pv_iv, pv_int, pv_bool, pv_string, pv_tup2, pv_tup3, iv_plain, p2_int, p2_bool, p2_string]) ?_⟩
    simp (disch := first | omega | (simp only [List.length_set, List.length_append, List.length_cons, List.length_nil, iv_length, zl_length]; done) | (simp only [List.length_set, List.length_append, List.length_cons, List.length_nil, iv_length, zl_length]; omega)) [wb_bool, wb_undef, XL_nil, XL_cons, XLc_val, XLc_call, step1_eq, stepW_t, stepW_f, stepC_n, stepC_s, stepX_s, xop_eq, xopR_s, xopR_n, wantedA_eq, wantedG_n, wantedG_s, plain1_int, plain1_bool, plain1_string, bits_i64, bits_u64, bits_u32, bits_u16, bits_u8, xeqA, xarr, allK_iv, num_iv, calleeOf, xread, xeff, xbin, xint, xnil, xun, xstr, xload, xconv, xpart, xfield, xfieldAddr, xindexAddr, xindex, bnd, asInt?, xslice, xlen, xmin, xmax, xbuild, xfill, xappend, xcopy, xcells, eval_tmp, eval_const, put_at, put_none, fr0_at, cells_agg, cells_int, cells_bool, cells_string, cells_ptr, cells_slice, notTuple, tab, iv_all, hget_app, hget_app0, hget_cons0, hget_cons, set_app, set_app0, setR, setR_one, QL_nil, QL_cons, QLc_val, stepQ_t, stepQ_f, stepQC_n, stepQC_s, stepQX_s, SL_nil, SL_cons, SLc_val, stepS_t, stepS_f, h3, d2, set_wl, ltT, ltF, leT, leF, eqT, eqF, ltTn, ltFn, leTn, leFn, eqTn, eqFn, beqT, beqF, bneT, bneF, wi64, wu64, wu32, wu16, wu8, tmodP, tdivP, hgetL, hgetNe, hgetEq, setL, nums_def, nums_len, Nat.succ_le_of_lt, List.getElem?_cons_zero, List.getElem?_cons_succ, Option.getD_some, -getElem?_pos, -getElem?_neg, Int.toNat_add, Int.toNat_mul, agB, agI, agS, agP, agL, agA, okB, okI, okS, okP, okSl, okA]
    refine hK _ _ ?_; clear hK K
    (refine aw_ops (by kernel_rfl) (fun K hK => ?_); simp (disch := first | omega | (simp only [List.length_set, List.length_append, List.length_cons, List.length_nil, iv_length, zl_length]; done) | (simp only [List.length_set, List.length_append, List.length_cons, List.length_nil, iv_length, zl_length]; omega)) [wb_bool, wb_undef, XL_nil, XL_cons, XLc_val, XLc_call, step1_eq, stepW_t, stepW_f, stepC_n, stepC_s, stepX_s, xop_eq, xopR_s, xopR_n, wantedA_eq, wantedG_n, wantedG_s, plain1_int, plain1_bool, plain1_string, bits_i64, bits_u64, bits_u32, bits_u16, bits_u8, xeqA, xarr, allK_iv, num_iv, calleeOf, xread, xeff, xbin, xint, xnil, xun, xstr, xload, xconv, xpart, xfield, xfieldAddr, xindexAddr, xindex, bnd, asInt?, xslice, xlen, xmin, xmax, xbuild, xfill, xappend, xcopy, xcells, eval_tmp, eval_const, put_at, put_none, fr0_at, cells_agg, cells_int, cells_bool, cells_string, cells_ptr, cells_slice, notTuple, tab, iv_all, hget_app, hget_app0, hget_cons0, hget_cons, set_app, set_app0, setR, setR_one, QL_nil, QL_cons, QLc_val, stepQ_t, stepQ_f, stepQC_n, stepQC_s, stepQX_s, SL_nil, SL_cons, SLc_val, stepS_t, stepS_f, h4, ltT, ltF, leT, leF, eqT, eqF, ltTn, ltFn, leTn, leFn, eqTn, eqFn, beqT, beqF, bneT, bneF, wi64, wu64, wu32, wu16, wu8, tmodP, tdivP, hgetL, hgetNe, hgetEq, setL, nums_def, nums_len, Nat.succ_le_of_lt, List.getElem?_cons_zero, List.getElem?_cons_succ, Option.getD_some, -getElem?_pos, -getElem?_neg, Int.toNat_add, Int.toNat_mul, agB, agI, agS, agP, agL, agA, okB, okI, okS, okP, okSl, okA]; refine hK _ _ ?_; clear hK K)
    refine ⟨q - 1, by omega, n + 1, j - 1, by omega, by omega, by (first | (simp [put_at, put_none, fr0_at]; done) | rfl), by (first | (simp [put_at, put_none, fr0_at, h1]; done) | rfl), by (first | (simp [put_at, put_none, fr0_at, h2]; done) | rfl), by (first | (simp [put_at, put_none, fr0_at, h3]; done) | rfl), ?_, fun i hi => ?_, ?_, ?_, ?_⟩
    · simp; omega
    · rw [hget_left (by simp; omega), hget_set_ne (by omega)]; exact dlow i hi
    · rw [hget_left (by simp; omega), hget_set_ne (by omega)]; exact d0
    · rw [hget_left (by simp; omega), hget_set_ne (by omega)]; exact d1
    · rw [hget_left (by simp; omega), hget_set_eq (by omega), e4, hP4]
  · obtain rfl : n = 255 := by omega
    obtain rfl : j = -1 := by omega
    rw [← hend] at c2
    clear hX hend
    generalize invM X = Y at *
    (refine aw_ops (by kernel_rfl) (fun K hK => ?_); simp (disch := first | omega | (simp only [List.length_set, List.length_append, List.length_cons, List.length_nil, iv_length, zl_length]; done) | (simp only [List.length_set, List.length_append, List.length_cons, List.length_nil, iv_length, zl_length]; omega)) [wb_bool, wb_undef, XL_nil, XL_cons, XLc_val, XLc_call, step1_eq, stepW_t, stepW_f, stepC_n, stepC_s, stepX_s, xop_eq, xopR_s, xopR_n, wantedA_eq, wantedG_n, wantedG_s, plain1_int, plain1_bool, plain1_string, bits_i64, bits_u64, bits_u32, bits_u16, bits_u8, xeqA, xarr, allK_iv, num_iv, calleeOf, xread, xeff, xbin, xint, xnil, xun, xstr, xload, xconv, xpart, xfield, xfieldAddr, xindexAddr, xindex, bnd, asInt?, xslice, xlen, xmin, xmax, xbuild, xfill, xappend, xcopy, xcells, eval_tmp, eval_const, put_at, put_none, fr0_at, cells_agg, cells_int, cells_bool, cells_string, cells_ptr, cells_slice, notTuple, tab, iv_all, hget_app, hget_app0, hget_cons0, hget_cons, set_app, set_app0, setR, setR_one, QL_nil, QL_cons, QLc_val, stepQ_t, stepQ_f, stepQC_n, stepQC_s, stepQX_s, SL_nil, SL_cons, SLc_val, stepS_t, stepS_f, h4, ltT, ltF, leT, leF, eqT, eqF, ltTn, ltFn, leTn, leFn, eqTn, eqFn, beqT, beqF, bneT, bneF, wi64, wu64, wu32, wu16, wu8, tmodP, tdivP, hgetL, hgetNe, hgetEq, setL, nums_def, nums_len, Nat.succ_le_of_lt, List.getElem?_cons_zero, List.getElem?_cons_succ, Option.getD_some, -getElem?_pos, -getElem?_neg, Int.toNat_add, Int.toNat_mul, agB, agI, agS, agP, agL, agA, okB, okI, okS, okP, okSl, okA]; refine hK _ _ ?_; clear hK K)
    refine aw_f (by (first | (simp [eval_tmp, put_at]; done) | (simp [eval_tmp, put_at]; omega))) (by kernel_rfl) ?_
    refine aw_exit ?_
    refine aw_seq ?_
    (refine aw_ops (by kernel_rfl) (fun K hK => ?_); simp (disch := first | omega | (simp only [List.length_set, List.length_append, List.length_cons, List.length_nil, iv_length, zl_length]; done) | (simp only [List.length_set, List.length_append, List.length_cons, List.length_nil, iv_length, zl_length]; omega)) [wb_bool, wb_undef, XL_nil, XL_cons, XLc_val, XLc_call, step1_eq, stepW_t, stepW_f, stepC_n, stepC_s, stepX_s, xop_eq, xopR_s, xopR_n, wantedA_eq, wantedG_n, wantedG_s, plain1_int, plain1_bool, plain1_string, bits_i64, bits_u64, bits_u32, bits_u16, bits_u8, xeqA, xarr, allK_iv, num_iv, calleeOf, xread, xeff, xbin, xint, xnil, xun, xstr, xload, xconv, xpart, xfield, xfieldAddr, xindexAddr, xindex, bnd, asInt?, xslice, xlen, xmin, xmax, xbuild, xfill, xappend, xcopy, xcells, eval_tmp, eval_const, put_at, put_none, fr0_at, cells_agg, cells_int, cells_bool, cells_string, cells_ptr, cells_slice, notTuple, tab, iv_all, hget_app, hget_app0, hget_cons0, hget_cons, set_app, set_app0, setR, setR_one, QL_nil, QL_cons, QLc_val, stepQ_t, stepQ_f, stepQC_n, stepQC_s, stepQX_s, SL_nil, SL_cons, SLc_val, stepS_t, stepS_f, h2, h3, c1, c2, take_wl, set_wl, ltT, ltF, leT, leF, eqT, eqF, ltTn, ltFn, leTn, leFn, eqTn, eqFn, beqT, beqF, bneT, bneF, wi64, wu64, wu32, wu16, wu8, tmodP, tdivP, hgetL, hgetNe, hgetEq, setL, nums_def, nums_len, Nat.succ_le_of_lt, List.getElem?_cons_zero, List.getElem?_cons_succ, Option.getD_some, -getElem?_pos, -getElem?_neg, Int.toNat_add, Int.toNat_mul, agB, agI, agS, agP, agL, agA, okB, okI, okS, okP, okSl, okA]; refine hK _ _ ?_; clear hK K)
    (refine aw_ret ?_; simp (disch := first | omega | (simp only [List.length_set, List.length_append, List.length_cons, List.length_nil, iv_length, zl_length]; done) | (simp only [List.length_set, List.length_append, List.length_cons, List.length_nil, iv_length, zl_length]; omega)) [wb_bool, wb_undef, XL_nil, XL_cons, XLc_val, XLc_call, step1_eq, stepW_t, stepW_f, stepC_n, stepC_s, stepX_s, xop_eq, xopR_s, xopR_n, wantedA_eq, wantedG_n, wantedG_s, plain1_int, plain1_bool, plain1_string, bits_i64, bits_u64, bits_u32, bits_u16, bits_u8, xeqA, xarr, allK_iv, num_iv, calleeOf, xread, xeff, xbin, xint, xnil, xun, xstr, xload, xconv, xpart, xfield, xfieldAddr, xindexAddr, xindex, bnd, asInt?, xslice, xlen, xmin, xmax, xbuild, xfill, xappend, xcopy, xcells, eval_tmp, eval_const, put_at, put_none, fr0_at, cells_agg, cells_int, cells_bool, cells_string, cells_ptr, cells_slice, notTuple, tab, iv_all, hget_app, hget_app0, hget_cons0, hget_cons, set_app, set_app0, setR, setR_one, QL_nil, QL_cons, QLc_val, stepQ_t, stepQ_f, stepQC_n, stepQC_s, stepQX_s, SL_nil, SL_cons, SLc_val, stepS_t, stepS_f, thenQ_ret, inBlockQ_ret, RQ, resL, resV, h2, take_wl, ltT, ltF, leT, leF, eqT, eqF, ltTn, ltFn, leTn, leFn, eqTn, eqFn, beqT, beqF, bneT, bneF, wi64, wu64, wu32, wu16, wu8, tmodP, tdivP, hgetL, hgetNe, hgetEq, setL, nums_def, nums_len, Nat.succ_le_of_lt, List.getElem?_cons_zero, List.getElem?_cons_succ, Option.getD_some, -getElem?_pos, -getElem?_neg, Int.toNat_add, Int.toNat_mul, agB, agI, agS, agP, agL, agA, okB, okI, okS, okP, okSl, okA])
theorem inverse_law {H : AH} (hG : GP H) (a : List Int) (ha : a.length = 32) (ha' : By a) : AC Tryd.prog H.length gm 7 #[.agg (iv .u8 a).toArray] H (fun v' _ => v' = .bool true) := by
  have hfa := fun L : AH => from_rc (hG.app L) a ha ha'
  have hoa := fun H : AH => of_rc (H := H) (γ := gm) ha' ha
  have hal := fun L : AH => alive_rc (hG.app L)
  have hta : (iv .u8 a).take 32 = iv .u8 a := List.take_of_length_le (by simp [ha])
  have hbt : ∀ X, (iv .u8 (bytesM X)).take 32 = iv .u8 (bytesM X) := fun X => List.take_of_length_le (by simp [bytesM_len])
  have hxa := fromM_el a
  have hX : fromM a = fromM a := rfl
  generalize hXa : fromM a = X at *
  simp only [nv_el] at hfa
  have hzl : bytesM 0 = zl 32 := by decide +kernel
  have hib := fun H : AH => fun hG : GP H => inverse_rc hG hxa
  have hib2 := fun H : AH => fun hG : GP H => inverse_rc hG (invM_el X)
  rw [inv_inv hxa] at hib2
  have hE := is_true hxa (rfl : X = X)
  have B1 := bytes_vc (invM_el X).big
  have hT := fun H : AH => rtimes_rc (H := H) (γ := gm) (bytesM_by (invM X)) ha' (bytesM_len _) ha
  rw [mul_dig _ (invM_el X) ha' ha, hXa] at hT
  have hz := bytes_inj hxa (Y := 0) (by unfold El; omega)
  have lY := bytesM_len (invM X)
  have lX := bytesM_len X
  simp only [nv_el] at hib hib2 hE B1
  rw [hzl] at hz
  have hm : X ≠ 0 → mulM (invM X) X = 1 := inv_mul hxa
  have h1 : (bytesM 1 == (zl 32).set 0 1) = true := by decide +kernel
  have hz2 : X = 0 → (bytesM (invM X) == zl 32) = true := fun h => by rw [h, inv_zero, hzl]; exact beq_self_eq_true _
  have l1 := bytesM_len 1
  clear hxa hzl hX hXa
  generalize invM X = Y at *
  refine ac_of_aw Tryd.func7 rfl Tryd.ntmps7 Tryd.results7 (by simp) ?_
  refine aw_seq ?_
  (refine aw_ops (by kernel_rfl) (fun K hK => ?_); simp (disch := first | omega | (simp only [List.length_set, List.length_append, List.length_cons, List.length_nil, iv_length, zl_length]; done) | (simp only [List.length_set, List.length_append, List.length_cons, List.length_nil, iv_length, zl_length]; omega)) [wb_bool, wb_undef, XL_nil, XL_cons, XLc_val, XLc_call, step1_eq, stepW_t, stepW_f, stepC_n, stepC_s, stepX_s, xop_eq, xopR_s, xopR_n, wantedA_eq, wantedG_n, wantedG_s, plain1_int, plain1_bool, plain1_string, bits_i64, bits_u64, bits_u32, bits_u16, bits_u8, xeqA, xarr, allK_iv, num_iv, calleeOf, xread, xeff, xbin, xint, xnil, xun, xstr, xload, xconv, xpart, xfield, xfieldAddr, xindexAddr, xindex, bnd, asInt?, xslice, xlen, xmin, xmax, xbuild, xfill, xappend, xcopy, xcells, eval_tmp, eval_const, put_at, put_none, fr0_at, cells_agg, cells_int, cells_bool, cells_string, cells_ptr, cells_slice, notTuple, tab, iv_all, hget_app, hget_app0, hget_cons0, hget_cons, set_app, set_app0, setR, setR_one, QL_nil, QL_cons, QLc_val, stepQ_t, stepQ_f, stepQC_n, stepQC_s, stepQX_s, SL_nil, SL_cons, SLc_val, stepS_t, stepS_f, ltT, ltF, leT, leF, eqT, eqF, ltTn, ltFn, leTn, leFn, eqTn, eqFn, beqT, beqF, bneT, bneF, wi64, wu64, wu32, wu16, wu8, tmodP, tdivP, hgetL, hgetNe, hgetEq, setL, nums_def, nums_len, Nat.succ_le_of_lt, List.getElem?_cons_zero, List.getElem?_cons_succ, Option.getD_some, -getElem?_pos, -getElem?_neg, Int.toNat_add, Int.toNat_mul, agB, agI, agS, agP, agL, agA, okB, okI, okS, okP, okSl, okA]; refine hK _ _ ?_; clear hK K)
  refine aw_seq ?_
  refine aw_seq ?_
  refine aw_ops (by kernel_rfl) (fun K hK => ?_)
  simp (disch := first | omega | (simp only [List.length_set, List.length_append, List.length_cons, List.length_nil, iv_length, zl_length]; done) | (simp only [List.length_set, List.length_append, List.length_cons, List.length_nil, iv_length, zl_length]; omega)) [wb_bool, wb_undef, XL_nil, XL_cons, XLc_val, XLc_call, step1_eq, stepW_t, stepW_f, stepC_n, stepC_s, stepX_s, xop_eq, xopR_s, xopR_n, wantedA_eq, wantedG_n, wantedG_s, plain1_int, plain1_bool, plain1_string, bits_i64, bits_u64, bits_u32, bits_u16, bits_u8, xeqA, xarr, allK_iv, num_iv, calleeOf, xread, xeff, xbin, xint, xnil, xun, xstr, xload, xconv, xpart, xfield, xfieldAddr, xindexAddr, xindex, bnd, asInt?, xslice, xlen, xmin, xmax, xbuild, xfill, xappend, xcopy, xcells, eval_tmp, eval_const, put_at, put_none, fr0_at, cells_agg, cells_int, cells_bool, cells_string, cells_ptr, cells_slice, notTuple, tab, iv_all, hget_app, hget_app0, hget_cons0, hget_cons, set_app, set_app0, setR, setR_one, QL_nil, QL_cons, QLc_val, stepQ_t, stepQ_f, stepQC_n, stepQC_s, stepQX_s, SL_nil, SL_cons, SLc_val, stepS_t, stepS_f, ltT, ltF, leT, leF, eqT, eqF, ltTn, ltFn, leTn, leFn, eqTn, eqFn, beqT, beqF, bneT, bneF, wi64, wu64, wu32, wu16, wu8, tmodP, tdivP, hgetL, hgetNe, hgetEq, setL, nums_def, nums_len, Nat.succ_le_of_lt, List.getElem?_cons_zero, List.getElem?_cons_succ, Option.getD_some, -getElem?_pos, -getElem?_neg, Int.toNat_add, Int.toNat_mul, agB, agI, agS, agP, agL, agA, okB, okI, okS, okP, okSl, okA]
  refine ⟨by kernel_rfl, ac_of_rc (hal _) (by simp [pv_iv, pv_int, pv_bool, pv_string, pv_tup2, pv_tup3, iv_plain, p2_int, p2_bool, p2_string]) ?_⟩
  simp (disch := first | omega | (simp only [List.length_set, List.length_append, List.length_cons, List.length_nil, iv_length, zl_length]; done) | (simp only [List.length_set, List.length_append, List.length_cons, List.length_nil, iv_length, zl_length]; omega)) [wb_bool, wb_undef, XL_nil, XL_cons, XLc_val, XLc_call, step1_eq, stepW_t, stepW_f, stepC_n, stepC_s, stepX_s, xop_eq, xopR_s, xopR_n, wantedA_eq, wantedG_n, wantedG_s, plain1_int, plain1_bool, plain1_string, bits_i64, bits_u64, bits_u32, bits_u16, bits_u8, xeqA, xarr, allK_iv, num_iv, calleeOf, xread, xeff, xbin, xint, xnil, xun, xstr, xload, xconv, xpart, xfield, xfieldAddr, xindexAddr, xindex, bnd, asInt?, xslice, xlen, xmin, xmax, xbuild, xfill, xappend, xcopy, xcells, eval_tmp, eval_const, put_at, put_none, fr0_at, cells_agg, cells_int, cells_bool, cells_string, cells_ptr, cells_slice, notTuple, tab, iv_all, hget_app, hget_app0, hget_cons0, hget_cons, set_app, set_app0, setR, setR_one, QL_nil, QL_cons, QLc_val, stepQ_t, stepQ_f, stepQC_n, stepQC_s, stepQX_s, SL_nil, SL_cons, SLc_val, stepS_t, stepS_f, ltT, ltF, leT, leF, eqT, eqF, ltTn, ltFn, leTn, leFn, eqTn, eqFn, beqT, beqF, bneT, bneF, wi64, wu64, wu32, wu16, wu8, tmodP, tdivP, hgetL, hgetNe, hgetEq, setL, nums_def, nums_len, Nat.succ_le_of_lt, List.getElem?_cons_zero, List.getElem?_cons_succ, Option.getD_some, -getElem?_pos, -getElem?_neg, Int.toNat_add, Int.toNat_mul, agB, agI, agS, agP, agL, agA, okB, okI, okS, okP, okSl, okA]
  refine hK _ _ ?_; clear hK K
  refine aw_f (by (first | (simp [eval_tmp, put_at]; done) | (simp [eval_tmp, put_at]; omega))) (by kernel_rfl) ?_
  refine aw_skip ?_
  refine aw_seq ?_
  refine aw_ops (by kernel_rfl) (fun K hK => ?_)
  simp (disch := first | omega | (simp only [List.length_set, List.length_append, List.length_cons, List.length_nil, iv_length, zl_length]; done) | (simp only [List.length_set, List.length_append, List.length_cons, List.length_nil, iv_length, zl_length]; omega)) [wb_bool, wb_undef, XL_nil, XL_cons, XLc_val, XLc_call, step1_eq, stepW_t, stepW_f, stepC_n, stepC_s, stepX_s, xop_eq, xopR_s, xopR_n, wantedA_eq, wantedG_n, wantedG_s, plain1_int, plain1_bool, plain1_string, bits_i64, bits_u64, bits_u32, bits_u16, bits_u8, xeqA, xarr, allK_iv, num_iv, calleeOf, xread, xeff, xbin, xint, xnil, xun, xstr, xload, xconv, xpart, xfield, xfieldAddr, xindexAddr, xindex, bnd, asInt?, xslice, xlen, xmin, xmax, xbuild, xfill, xappend, xcopy, xcells, eval_tmp, eval_const, put_at, put_none, fr0_at, cells_agg, cells_int, cells_bool, cells_string, cells_ptr, cells_slice, notTuple, tab, iv_all, hget_app, hget_app0, hget_cons0, hget_cons, set_app, set_app0, setR, setR_one, QL_nil, QL_cons, QLc_val, stepQ_t, stepQ_f, stepQC_n, stepQC_s, stepQX_s, SL_nil, SL_cons, SLc_val, stepS_t, stepS_f, ha, hta, ltT, ltF, leT, leF, eqT, eqF, ltTn, ltFn, leTn, leFn, eqTn, eqFn, beqT, beqF, bneT, bneF, wi64, wu64, wu32, wu16, wu8, tmodP, tdivP, hgetL, hgetNe, hgetEq, setL, nums_def, nums_len, Nat.succ_le_of_lt, List.getElem?_cons_zero, List.getElem?_cons_succ, Option.getD_some, -getElem?_pos, -getElem?_neg, Int.toNat_add, Int.toNat_mul, agB, agI, agS, agP, agL, agA, okB, okI, okS, okP, okSl, okA]
  refine ⟨by kernel_rfl, ac_of_rc (hfa _) (by simp [pv_iv, pv_int, pv_bool, pv_string, pv_tup2, pv_tup3, iv_plain, p2_int, p2_bool, p2_string]) ?_⟩
  simp (disch := first | omega | (simp only [List.length_set, List.length_append, List.length_cons, List.length_nil, iv_length, zl_length]; done) | (simp only [List.length_set, List.length_append, List.length_cons, List.length_nil, iv_length, zl_length]; omega)) [wb_bool, wb_undef, XL_nil, XL_cons, XLc_val, XLc_call, step1_eq, stepW_t, stepW_f, stepC_n, stepC_s, stepX_s, xop_eq, xopR_s, xopR_n, wantedA_eq, wantedG_n, wantedG_s, plain1_int, plain1_bool, plain1_string, bits_i64, bits_u64, bits_u32, bits_u16, bits_u8, xeqA, xarr, allK_iv, num_iv, calleeOf, xread, xeff, xbin, xint, xnil, xun, xstr, xload, xconv, xpart, xfield, xfieldAddr, xindexAddr, xindex, bnd, asInt?, xslice, xlen, xmin, xmax, xbuild, xfill, xappend, xcopy, xcells, eval_tmp, eval_const, put_at, put_none, fr0_at, cells_agg, cells_int, cells_bool, cells_string, cells_ptr, cells_slice, notTuple, tab, iv_all, hget_app, hget_app0, hget_cons0, hget_cons, set_app, set_app0, setR, setR_one, QL_nil, QL_cons, QLc_val, stepQ_t, stepQ_f, stepQC_n, stepQC_s, stepQX_s, SL_nil, SL_cons, SLc_val, stepS_t, stepS_f, set_zw, ltT, ltF, leT, leF, eqT, eqF, ltTn, ltFn, leTn, leFn, eqTn, eqFn, beqT, beqF, bneT, bneF, wi64, wu64, wu32, wu16, wu8, tmodP, tdivP, hgetL, hgetNe, hgetEq, setL, nums_def, nums_len, Nat.succ_le_of_lt, List.getElem?_cons_zero, List.getElem?_cons_succ, Option.getD_some, -getElem?_pos, -getElem?_neg, Int.toNat_add, Int.toNat_mul, agB, agI, agS, agP, agL, agA, okB, okI, okS, okP, okSl, okA]
  refine hK _ _ ?_; clear hK K
  refine aw_seq ?_
  refine aw_ops (by kernel_rfl) (fun K hK => ?_)
  simp (disch := first | omega | (simp only [List.length_set, List.length_append, List.length_cons, List.length_nil, iv_length, zl_length]; done) | (simp only [List.length_set, List.length_append, List.length_cons, List.length_nil, iv_length, zl_length]; omega)) [wb_bool, wb_undef, XL_nil, XL_cons, XLc_val, XLc_call, step1_eq, stepW_t, stepW_f, stepC_n, stepC_s, stepX_s, xop_eq, xopR_s, xopR_n, wantedA_eq, wantedG_n, wantedG_s, plain1_int, plain1_bool, plain1_string, bits_i64, bits_u64, bits_u32, bits_u16, bits_u8, xeqA, xarr, allK_iv, num_iv, calleeOf, xread, xeff, xbin, xint, xnil, xun, xstr, xload, xconv, xpart, xfield, xfieldAddr, xindexAddr, xindex, bnd, asInt?, xslice, xlen, xmin, xmax, xbuild, xfill, xappend, xcopy, xcells, eval_tmp, eval_const, put_at, put_none, fr0_at, cells_agg, cells_int, cells_bool, cells_string, cells_ptr, cells_slice, notTuple, tab, iv_all, hget_app, hget_app0, hget_cons0, hget_cons, set_app, set_app0, setR, setR_one, QL_nil, QL_cons, QLc_val, stepQ_t, stepQ_f, stepQC_n, stepQC_s, stepQX_s, SL_nil, SL_cons, SLc_val, stepS_t, stepS_f, take_wl, ltT, ltF, leT, leF, eqT, eqF, ltTn, ltFn, leTn, leFn, eqTn, eqFn, beqT, beqF, bneT, bneF, wi64, wu64, wu32, wu16, wu8, tmodP, tdivP, hgetL, hgetNe, hgetEq, setL, nums_def, nums_len, Nat.succ_le_of_lt, List.getElem?_cons_zero, List.getElem?_cons_succ, Option.getD_some, -getElem?_pos, -getElem?_neg, Int.toNat_add, Int.toNat_mul, agB, agI, agS, agP, agL, agA, okB, okI, okS, okP, okSl, okA]
  refine ⟨by kernel_rfl, ac_of_rc (hib _ (hG.app _)) (by simp [pv_iv, pv_int, pv_bool, pv_string, pv_tup2, pv_tup3, iv_plain, p2_int, p2_bool, p2_string]) ?_⟩
  simp (disch := first | omega | (simp only [List.length_set, List.length_append, List.length_cons, List.length_nil, iv_length, zl_length]; done) | (simp only [List.length_set, List.length_append, List.length_cons, List.length_nil, iv_length, zl_length]; omega)) [wb_bool, wb_undef, XL_nil, XL_cons, XLc_val, XLc_call, step1_eq, stepW_t, stepW_f, stepC_n, stepC_s, stepX_s, xop_eq, xopR_s, xopR_n, wantedA_eq, wantedG_n, wantedG_s, plain1_int, plain1_bool, plain1_string, bits_i64, bits_u64, bits_u32, bits_u16, bits_u8, xeqA, xarr, allK_iv, num_iv, calleeOf, xread, xeff, xbin, xint, xnil, xun, xstr, xload, xconv, xpart, xfield, xfieldAddr, xindexAddr, xindex, bnd, asInt?, xslice, xlen, xmin, xmax, xbuild, xfill, xappend, xcopy, xcells, eval_tmp, eval_const, put_at, put_none, fr0_at, cells_agg, cells_int, cells_bool, cells_string, cells_ptr, cells_slice, notTuple, tab, iv_all, hget_app, hget_app0, hget_cons0, hget_cons, set_app, set_app0, setR, setR_one, QL_nil, QL_cons, QLc_val, stepQ_t, stepQ_f, stepQC_n, stepQC_s, stepQX_s, SL_nil, SL_cons, SLc_val, stepS_t, stepS_f, set_zw, ltT, ltF, leT, leF, eqT, eqF, ltTn, ltFn, leTn, leFn, eqTn, eqFn, beqT, beqF, bneT, bneF, wi64, wu64, wu32, wu16, wu8, tmodP, tdivP, hgetL, hgetNe, hgetEq, setL, nums_def, nums_len, Nat.succ_le_of_lt, List.getElem?_cons_zero, List.getElem?_cons_succ, Option.getD_some, -getElem?_pos, -getElem?_neg, Int.toNat_add, Int.toNat_mul, agB, agI, agS, agP, agL, agA, okB, okI, okS, okP, okSl, okA]
  refine hK _ _ ?_; clear hK K
  refine aw_seq ?_
  refine aw_seq ?_
  by_cases h0 : X = 0
  · have e1 : (bytesM X == zl 32) = true := by rw [hz]; simp [h0]
    have e2 := hz2 h0
    refine aw_ops (by kernel_rfl) (fun K hK => ?_)
    simp (disch := first | omega | (simp only [List.length_set, List.length_append, List.length_cons, List.length_nil, iv_length, zl_length]; done) | (simp only [List.length_set, List.length_append, List.length_cons, List.length_nil, iv_length, zl_length]; omega)) [wb_bool, wb_undef, XL_nil, XL_cons, XLc_val, XLc_call, step1_eq, stepW_t, stepW_f, stepC_n, stepC_s, stepX_s, xop_eq, xopR_s, xopR_n, wantedA_eq, wantedG_n, wantedG_s, plain1_int, plain1_bool, plain1_string, bits_i64, bits_u64, bits_u32, bits_u16, bits_u8, xeqA, xarr, allK_iv, num_iv, calleeOf, xread, xeff, xbin, xint, xnil, xun, xstr, xload, xconv, xpart, xfield, xfieldAddr, xindexAddr, xindex, bnd, asInt?, xslice, xlen, xmin, xmax, xbuild, xfill, xappend, xcopy, xcells, eval_tmp, eval_const, put_at, put_none, fr0_at, cells_agg, cells_int, cells_bool, cells_string, cells_ptr, cells_slice, notTuple, tab, iv_all, hget_app, hget_app0, hget_cons0, hget_cons, set_app, set_app0, setR, setR_one, QL_nil, QL_cons, QLc_val, stepQ_t, stepQ_f, stepQC_n, stepQC_s, stepQX_s, SL_nil, SL_cons, SLc_val, stepS_t, stepS_f, ha, hta, ltT, ltF, leT, leF, eqT, eqF, ltTn, ltFn, leTn, leFn, eqTn, eqFn, beqT, beqF, bneT, bneF, wi64, wu64, wu32, wu16, wu8, tmodP, tdivP, hgetL, hgetNe, hgetEq, setL, nums_def, nums_len, Nat.succ_le_of_lt, List.getElem?_cons_zero, List.getElem?_cons_succ, Option.getD_some, -getElem?_pos, -getElem?_neg, Int.toNat_add, Int.toNat_mul, agB, agI, agS, agP, agL, agA, okB, okI, okS, okP, okSl, okA]
    refine ⟨by kernel_rfl, ac_of_rc (hoa _) (by simp [pv_iv, pv_int, pv_bool, pv_string, pv_tup2, pv_tup3, iv_plain, p2_int, p2_bool, p2_string]) ?_⟩
    simp (disch := first | omega | (simp only [List.length_set, List.length_append, List.length_cons, List.length_nil, iv_length, zl_length]; done) | (simp only [List.length_set, List.length_append, List.length_cons, List.length_nil, iv_length, zl_length]; omega)) [wb_bool, wb_undef, XL_nil, XL_cons, XLc_val, XLc_call, step1_eq, stepW_t, stepW_f, stepC_n, stepC_s, stepX_s, xop_eq, xopR_s, xopR_n, wantedA_eq, wantedG_n, wantedG_s, plain1_int, plain1_bool, plain1_string, bits_i64, bits_u64, bits_u32, bits_u16, bits_u8, xeqA, xarr, allK_iv, num_iv, calleeOf, xread, xeff, xbin, xint, xnil, xun, xstr, xload, xconv, xpart, xfield, xfieldAddr, xindexAddr, xindex, bnd, asInt?, xslice, xlen, xmin, xmax, xbuild, xfill, xappend, xcopy, xcells, eval_tmp, eval_const, put_at, put_none, fr0_at, cells_agg, cells_int, cells_bool, cells_string, cells_ptr, cells_slice, notTuple, tab, iv_all, hget_app, hget_app0, hget_cons0, hget_cons, set_app, set_app0, setR, setR_one, QL_nil, QL_cons, QLc_val, stepQ_t, stepQ_f, stepQC_n, stepQC_s, stepQX_s, SL_nil, SL_cons, SLc_val, stepS_t, stepS_f, e1, ltT, ltF, leT, leF, eqT, eqF, ltTn, ltFn, leTn, leFn, eqTn, eqFn, beqT, beqF, bneT, bneF, wi64, wu64, wu32, wu16, wu8, tmodP, tdivP, hgetL, hgetNe, hgetEq, setL, nums_def, nums_len, Nat.succ_le_of_lt, List.getElem?_cons_zero, List.getElem?_cons_succ, Option.getD_some, -getElem?_pos, -getElem?_neg, Int.toNat_add, Int.toNat_mul, agB, agI, agS, agP, agL, agA, okB, okI, okS, okP, okSl, okA]
    refine hK _ _ ?_; clear hK K
    refine aw_t (by (first | (simp [eval_tmp, put_at]; done) | (simp [eval_tmp, put_at]; omega))) (by kernel_rfl) ?_
    refine aw_seq ?_
    refine aw_ops (by kernel_rfl) (fun K hK => ?_)
    simp (disch := first | omega | (simp only [List.length_set, List.length_append, List.length_cons, List.length_nil, iv_length, zl_length]; done) | (simp only [List.length_set, List.length_append, List.length_cons, List.length_nil, iv_length, zl_length]; omega)) [wb_bool, wb_undef, XL_nil, XL_cons, XLc_val, XLc_call, step1_eq, stepW_t, stepW_f, stepC_n, stepC_s, stepX_s, xop_eq, xopR_s, xopR_n, wantedA_eq, wantedG_n, wantedG_s, plain1_int, plain1_bool, plain1_string, bits_i64, bits_u64, bits_u32, bits_u16, bits_u8, xeqA, xarr, allK_iv, num_iv, calleeOf, xread, xeff, xbin, xint, xnil, xun, xstr, xload, xconv, xpart, xfield, xfieldAddr, xindexAddr, xindex, bnd, asInt?, xslice, xlen, xmin, xmax, xbuild, xfill, xappend, xcopy, xcells, eval_tmp, eval_const, put_at, put_none, fr0_at, cells_agg, cells_int, cells_bool, cells_string, cells_ptr, cells_slice, notTuple, tab, iv_all, hget_app, hget_app0, hget_cons0, hget_cons, set_app, set_app0, setR, setR_one, QL_nil, QL_cons, QLc_val, stepQ_t, stepQ_f, stepQC_n, stepQC_s, stepQX_s, SL_nil, SL_cons, SLc_val, stepS_t, stepS_f, ltT, ltF, leT, leF, eqT, eqF, ltTn, ltFn, leTn, leFn, eqTn, eqFn, beqT, beqF, bneT, bneF, wi64, wu64, wu32, wu16, wu8, tmodP, tdivP, hgetL, hgetNe, hgetEq, setL, nums_def, nums_len, Nat.succ_le_of_lt, List.getElem?_cons_zero, List.getElem?_cons_succ, Option.getD_some, -getElem?_pos, -getElem?_neg, Int.toNat_add, Int.toNat_mul, agB, agI, agS, agP, agL, agA, okB, okI, okS, okP, okSl, okA]
    refine ⟨by kernel_rfl, ac_of_rc (hal _) (by simp [pv_iv, pv_int, pv_bool, pv_string, pv_tup2, pv_tup3, iv_plain, p2_int, p2_bool, p2_string]) ?_⟩
    simp (disch := first | omega | (simp only [List.length_set, List.length_append, List.length_cons, List.length_nil, iv_length, zl_length]; done) | (simp only [List.length_set, List.length_append, List.length_cons, List.length_nil, iv_length, zl_length]; omega)) [wb_bool, wb_undef, XL_nil, XL_cons, XLc_val, XLc_call, step1_eq, stepW_t, stepW_f, stepC_n, stepC_s, stepX_s, xop_eq, xopR_s, xopR_n, wantedA_eq, wantedG_n, wantedG_s, plain1_int, plain1_bool, plain1_string, bits_i64, bits_u64, bits_u32, bits_u16, bits_u8, xeqA, xarr, allK_iv, num_iv, calleeOf, xread, xeff, xbin, xint, xnil, xun, xstr, xload, xconv, xpart, xfield, xfieldAddr, xindexAddr, xindex, bnd, asInt?, xslice, xlen, xmin, xmax, xbuild, xfill, xappend, xcopy, xcells, eval_tmp, eval_const, put_at, put_none, fr0_at, cells_agg, cells_int, cells_bool, cells_string, cells_ptr, cells_slice, notTuple, tab, iv_all, hget_app, hget_app0, hget_cons0, hget_cons, set_app, set_app0, setR, setR_one, QL_nil, QL_cons, QLc_val, stepQ_t, stepQ_f, stepQC_n, stepQC_s, stepQX_s, SL_nil, SL_cons, SLc_val, stepS_t, stepS_f, take_wl, ltT, ltF, leT, leF, eqT, eqF, ltTn, ltFn, leTn, leFn, eqTn, eqFn, beqT, beqF, bneT, bneF, wi64, wu64, wu32, wu16, wu8, tmodP, tdivP, hgetL, hgetNe, hgetEq, setL, nums_def, nums_len, Nat.succ_le_of_lt, List.getElem?_cons_zero, List.getElem?_cons_succ, Option.getD_some, -getElem?_pos, -getElem?_neg, Int.toNat_add, Int.toNat_mul, agB, agI, agS, agP, agL, agA, okB, okI, okS, okP, okSl, okA]
    refine ⟨by kernel_rfl, ac_of_vc (by simp [pv_iv, pv_int, pv_bool, pv_string, pv_tup2, pv_tup3, iv_plain, p2_int, p2_bool, p2_string]) B1 ?_⟩
    simp (disch := first | omega | (simp only [List.length_set, List.length_append, List.length_cons, List.length_nil, iv_length, zl_length]; done) | (simp only [List.length_set, List.length_append, List.length_cons, List.length_nil, iv_length, zl_length]; omega)) [wb_bool, wb_undef, XL_nil, XL_cons, XLc_val, XLc_call, step1_eq, stepW_t, stepW_f, stepC_n, stepC_s, stepX_s, xop_eq, xopR_s, xopR_n, wantedA_eq, wantedG_n, wantedG_s, plain1_int, plain1_bool, plain1_string, bits_i64, bits_u64, bits_u32, bits_u16, bits_u8, xeqA, xarr, allK_iv, num_iv, calleeOf, xread, xeff, xbin, xint, xnil, xun, xstr, xload, xconv, xpart, xfield, xfieldAddr, xindexAddr, xindex, bnd, asInt?, xslice, xlen, xmin, xmax, xbuild, xfill, xappend, xcopy, xcells, eval_tmp, eval_const, put_at, put_none, fr0_at, cells_agg, cells_int, cells_bool, cells_string, cells_ptr, cells_slice, notTuple, tab, iv_all, hget_app, hget_app0, hget_cons0, hget_cons, set_app, set_app0, setR, setR_one, QL_nil, QL_cons, QLc_val, stepQ_t, stepQ_f, stepQC_n, stepQC_s, stepQX_s, SL_nil, SL_cons, SLc_val, stepS_t, stepS_f, e2, ltT, ltF, leT, leF, eqT, eqF, ltTn, ltFn, leTn, leFn, eqTn, eqFn, beqT, beqF, bneT, bneF, wi64, wu64, wu32, wu16, wu8, tmodP, tdivP, hgetL, hgetNe, hgetEq, setL, nums_def, nums_len, Nat.succ_le_of_lt, List.getElem?_cons_zero, List.getElem?_cons_succ, Option.getD_some, -getElem?_pos, -getElem?_neg, Int.toNat_add, Int.toNat_mul, agB, agI, agS, agP, agL, agA, okB, okI, okS, okP, okSl, okA]
    refine hK _ _ ?_; clear hK K
    (refine aw_ret ?_; simp (disch := first | omega | (simp only [List.length_set, List.length_append, List.length_cons, List.length_nil, iv_length, zl_length]; done) | (simp only [List.length_set, List.length_append, List.length_cons, List.length_nil, iv_length, zl_length]; omega)) [wb_bool, wb_undef, XL_nil, XL_cons, XLc_val, XLc_call, step1_eq, stepW_t, stepW_f, stepC_n, stepC_s, stepX_s, xop_eq, xopR_s, xopR_n, wantedA_eq, wantedG_n, wantedG_s, plain1_int, plain1_bool, plain1_string, bits_i64, bits_u64, bits_u32, bits_u16, bits_u8, xeqA, xarr, allK_iv, num_iv, calleeOf, xread, xeff, xbin, xint, xnil, xun, xstr, xload, xconv, xpart, xfield, xfieldAddr, xindexAddr, xindex, bnd, asInt?, xslice, xlen, xmin, xmax, xbuild, xfill, xappend, xcopy, xcells, eval_tmp, eval_const, put_at, put_none, fr0_at, cells_agg, cells_int, cells_bool, cells_string, cells_ptr, cells_slice, notTuple, tab, iv_all, hget_app, hget_app0, hget_cons0, hget_cons, set_app, set_app0, setR, setR_one, QL_nil, QL_cons, QLc_val, stepQ_t, stepQ_f, stepQC_n, stepQC_s, stepQX_s, SL_nil, SL_cons, SLc_val, stepS_t, stepS_f, thenQ_ret, inBlockQ_ret, RQ, resL, resV, ltT, ltF, leT, leF, eqT, eqF, ltTn, ltFn, leTn, leFn, eqTn, eqFn, beqT, beqF, bneT, bneF, wi64, wu64, wu32, wu16, wu8, tmodP, tdivP, hgetL, hgetNe, hgetEq, setL, nums_def, nums_len, Nat.succ_le_of_lt, List.getElem?_cons_zero, List.getElem?_cons_succ, Option.getD_some, -getElem?_pos, -getElem?_neg, Int.toNat_add, Int.toNat_mul, agB, agI, agS, agP, agL, agA, okB, okI, okS, okP, okSl, okA])
  · have e1 : (bytesM X == zl 32) = false := by rw [hz]; simp [h0]
    rw [hm h0] at hT
    refine aw_ops (by kernel_rfl) (fun K hK => ?_)
    simp (disch := first | omega | (simp only [List.length_set, List.length_append, List.length_cons, List.length_nil, iv_length, zl_length]; done) | (simp only [List.length_set, List.length_append, List.length_cons, List.length_nil, iv_length, zl_length]; omega)) [wb_bool, wb_undef, XL_nil, XL_cons, XLc_val, XLc_call, step1_eq, stepW_t, stepW_f, stepC_n, stepC_s, stepX_s, xop_eq, xopR_s, xopR_n, wantedA_eq, wantedG_n, wantedG_s, plain1_int, plain1_bool, plain1_string, bits_i64, bits_u64, bits_u32, bits_u16, bits_u8, xeqA, xarr, allK_iv, num_iv, calleeOf, xread, xeff, xbin, xint, xnil, xun, xstr, xload, xconv, xpart, xfield, xfieldAddr, xindexAddr, xindex, bnd, asInt?, xslice, xlen, xmin, xmax, xbuild, xfill, xappend, xcopy, xcells, eval_tmp, eval_const, put_at, put_none, fr0_at, cells_agg, cells_int, cells_bool, cells_string, cells_ptr, cells_slice, notTuple, tab, iv_all, hget_app, hget_app0, hget_cons0, hget_cons, set_app, set_app0, setR, setR_one, QL_nil, QL_cons, QLc_val, stepQ_t, stepQ_f, stepQC_n, stepQC_s, stepQX_s, SL_nil, SL_cons, SLc_val, stepS_t, stepS_f, ha, hta, ltT, ltF, leT, leF, eqT, eqF, ltTn, ltFn, leTn, leFn, eqTn, eqFn, beqT, beqF, bneT, bneF, wi64, wu64, wu32, wu16, wu8, tmodP, tdivP, hgetL, hgetNe, hgetEq, setL, nums_def, nums_len, Nat.succ_le_of_lt, List.getElem?_cons_zero, List.getElem?_cons_succ, Option.getD_some, -getElem?_pos, -getElem?_neg, Int.toNat_add, Int.toNat_mul, agB, agI, agS, agP, agL, agA, okB, okI, okS, okP, okSl, okA]
    refine ⟨by kernel_rfl, ac_of_rc (hoa _) (by simp [pv_iv, pv_int, pv_bool, pv_string, pv_tup2, pv_tup3, iv_plain, p2_int, p2_bool, p2_string]) ?_⟩
    simp (disch := first | omega | (simp only [List.length_set, List.length_append, List.length_cons, List.length_nil, iv_length, zl_length]; done) | (simp only [List.length_set, List.length_append, List.length_cons, List.length_nil, iv_length, zl_length]; omega)) [wb_bool, wb_undef, XL_nil, XL_cons, XLc_val, XLc_call, step1_eq, stepW_t, stepW_f, stepC_n, stepC_s, stepX_s, xop_eq, xopR_s, xopR_n, wantedA_eq, wantedG_n, wantedG_s, plain1_int, plain1_bool, plain1_string, bits_i64, bits_u64, bits_u32, bits_u16, bits_u8, xeqA, xarr, allK_iv, num_iv, calleeOf, xread, xeff, xbin, xint, xnil, xun, xstr, xload, xconv, xpart, xfield, xfieldAddr, xindexAddr, xindex, bnd, asInt?, xslice, xlen, xmin, xmax, xbuild, xfill, xappend, xcopy, xcells, eval_tmp, eval_const, put_at, put_none, fr0_at, cells_agg, cells_int, cells_bool, cells_string, cells_ptr, cells_slice, notTuple, tab, iv_all, hget_app, hget_app0, hget_cons0, hget_cons, set_app, set_app0, setR, setR_one, QL_nil, QL_cons, QLc_val, stepQ_t, stepQ_f, stepQC_n, stepQC_s, stepQX_s, SL_nil, SL_cons, SLc_val, stepS_t, stepS_f, e1, ltT, ltF, leT, leF, eqT, eqF, ltTn, ltFn, leTn, leFn, eqTn, eqFn, beqT, beqF, bneT, bneF, wi64, wu64, wu32, wu16, wu8, tmodP, tdivP, hgetL, hgetNe, hgetEq, setL, nums_def, nums_len, Nat.succ_le_of_lt, List.getElem?_cons_zero, List.getElem?_cons_succ, Option.getD_some, -getElem?_pos, -getElem?_neg, Int.toNat_add, Int.toNat_mul, agB, agI, agS, agP, agL, agA, okB, okI, okS, okP, okSl, okA]
    refine hK _ _ ?_; clear hK K
    refine aw_f (by (first | (simp [eval_tmp, put_at]; done) | (simp [eval_tmp, put_at]; omega))) (by kernel_rfl) ?_
    refine aw_skip ?_
    refine aw_seq ?_
    (refine aw_plan [] [] [0, 1, 2, 3, 4, 5, 6, 7, 8, 9, 10, 11, 12, 13, 14, 15] 16 0 (by kernel_rfl) (by kernel_rfl) (by kernel_rfl) (fun K hK => ?_)); simp only [sel, List.getElem?_cons_succ, List.getElem?_cons_zero, List.drop_succ_cons, List.drop_zero]; simp (disch := first | omega | (simp only [List.length_set, List.length_append, List.length_cons, List.length_nil, iv_length, zl_length]; done) | (simp only [List.length_set, List.length_append, List.length_cons, List.length_nil, iv_length, zl_length]; omega)) [wb_bool, wb_undef, XL_nil, XL_cons, XLc_val, XLc_call, step1_eq, stepW_t, stepW_f, stepC_n, stepC_s, stepX_s, xop_eq, xopR_s, xopR_n, wantedA_eq, wantedG_n, wantedG_s, plain1_int, plain1_bool, plain1_string, bits_i64, bits_u64, bits_u32, bits_u16, bits_u8, xeqA, xarr, allK_iv, num_iv, calleeOf, xread, xeff, xbin, xint, xnil, xun, xstr, xload, xconv, xpart, xfield, xfieldAddr, xindexAddr, xindex, bnd, asInt?, xslice, xlen, xmin, xmax, xbuild, xfill, xappend, xcopy, xcells, eval_tmp, eval_const, put_at, put_none, fr0_at, cells_agg, cells_int, cells_bool, cells_string, cells_ptr, cells_slice, notTuple, tab, iv_all, hget_app, hget_app0, hget_cons0, hget_cons, set_app, set_app0, setR, setR_one, QL_nil, QL_cons, QLc_val, stepQ_t, stepQ_f, stepQC_n, stepQC_s, stepQX_s, SL_nil, SL_cons, SLc_val, stepS_t, stepS_f, take_wl, ha, hta, hbt, lY, PL_nil, PL_cons, PLc_val, PLc_new, stepP_t, stepP_f, stepPC_n, stepPC_s, stepPX_s, stepPX_n, stepPA_t, stepPN_s, allocOp, reloc_sl, reloc_ptr, List.map_cons, List.map_nil, List.nil_append, List.append_assoc, List.cons_append, Nat.add_assoc, ltT, ltF, leT, leF, eqT, eqF, ltTn, ltFn, leTn, leFn, eqTn, eqFn, beqT, beqF, bneT, bneF, wi64, wu64, wu32, wu16, wu8, tmodP, tdivP, hgetL, hgetNe, hgetEq, setL, nums_def, nums_len, Nat.succ_le_of_lt, List.getElem?_cons_zero, List.getElem?_cons_succ, Option.getD_some, -getElem?_pos, -getElem?_neg, Int.toNat_add, Int.toNat_mul, agB, agI, agS, agP, agL, agA, okB, okI, okS, okP, okSl, okA]
    refine PLc_call (by kernel_rfl) (fun L hL => by rw [List.append_assoc]; exact hal _) (by simp [pv_iv, pv_int, pv_bool, pv_string, pv_tup2, pv_tup3, iv_plain, p2_int, p2_bool, p2_string]) ?_
    try simp (disch := first | omega | (simp only [List.length_set, List.length_append, List.length_cons, List.length_nil, iv_length, zl_length]; done) | (simp only [List.length_set, List.length_append, List.length_cons, List.length_nil, iv_length, zl_length]; omega)) [wb_bool, wb_undef, XL_nil, XL_cons, XLc_val, XLc_call, step1_eq, stepW_t, stepW_f, stepC_n, stepC_s, stepX_s, xop_eq, xopR_s, xopR_n, wantedA_eq, wantedG_n, wantedG_s, plain1_int, plain1_bool, plain1_string, bits_i64, bits_u64, bits_u32, bits_u16, bits_u8, xeqA, xarr, allK_iv, num_iv, calleeOf, xread, xeff, xbin, xint, xnil, xun, xstr, xload, xconv, xpart, xfield, xfieldAddr, xindexAddr, xindex, bnd, asInt?, xslice, xlen, xmin, xmax, xbuild, xfill, xappend, xcopy, xcells, eval_tmp, eval_const, put_at, put_none, fr0_at, cells_agg, cells_int, cells_bool, cells_string, cells_ptr, cells_slice, notTuple, tab, iv_all, hget_app, hget_app0, hget_cons0, hget_cons, set_app, set_app0, setR, setR_one, QL_nil, QL_cons, QLc_val, stepQ_t, stepQ_f, stepQC_n, stepQC_s, stepQX_s, SL_nil, SL_cons, SLc_val, stepS_t, stepS_f, take_wl, ha, hta, hbt, lY, PL_nil, PL_cons, PLc_val, PLc_new, stepP_t, stepP_f, stepPC_n, stepPC_s, stepPX_s, stepPX_n, stepPA_t, stepPN_s, allocOp, reloc_sl, reloc_ptr, List.map_cons, List.map_nil, List.nil_append, List.append_assoc, List.cons_append, Nat.add_assoc, ltT, ltF, leT, leF, eqT, eqF, ltTn, ltFn, leTn, leFn, eqTn, eqFn, beqT, beqF, bneT, bneF, wi64, wu64, wu32, wu16, wu8, tmodP, tdivP, hgetL, hgetNe, hgetEq, setL, nums_def, nums_len, Nat.succ_le_of_lt, List.getElem?_cons_zero, List.getElem?_cons_succ, Option.getD_some, -getElem?_pos, -getElem?_neg, Int.toNat_add, Int.toNat_mul, agB, agI, agS, agP, agL, agA, okB, okI, okS, okP, okSl, okA]
    refine PLc_call (by kernel_rfl) (fun L hL => ac_of_vc (by simp [pv_iv, pv_int, pv_bool, pv_string, pv_tup2, pv_tup3, iv_plain, p2_int, p2_bool, p2_string]) B1 rfl) (by simp [pv_iv, pv_int, pv_bool, pv_string, pv_tup2, pv_tup3, iv_plain, p2_int, p2_bool, p2_string]) ?_
    try simp (disch := first | omega | (simp only [List.length_set, List.length_append, List.length_cons, List.length_nil, iv_length, zl_length]; done) | (simp only [List.length_set, List.length_append, List.length_cons, List.length_nil, iv_length, zl_length]; omega)) [wb_bool, wb_undef, XL_nil, XL_cons, XLc_val, XLc_call, step1_eq, stepW_t, stepW_f, stepC_n, stepC_s, stepX_s, xop_eq, xopR_s, xopR_n, wantedA_eq, wantedG_n, wantedG_s, plain1_int, plain1_bool, plain1_string, bits_i64, bits_u64, bits_u32, bits_u16, bits_u8, xeqA, xarr, allK_iv, num_iv, calleeOf, xread, xeff, xbin, xint, xnil, xun, xstr, xload, xconv, xpart, xfield, xfieldAddr, xindexAddr, xindex, bnd, asInt?, xslice, xlen, xmin, xmax, xbuild, xfill, xappend, xcopy, xcells, eval_tmp, eval_const, put_at, put_none, fr0_at, cells_agg, cells_int, cells_bool, cells_string, cells_ptr, cells_slice, notTuple, tab, iv_all, hget_app, hget_app0, hget_cons0, hget_cons, set_app, set_app0, setR, setR_one, QL_nil, QL_cons, QLc_val, stepQ_t, stepQ_f, stepQC_n, stepQC_s, stepQX_s, SL_nil, SL_cons, SLc_val, stepS_t, stepS_f, take_wl, ha, hta, hbt, lY, PL_nil, PL_cons, PLc_val, PLc_new, stepP_t, stepP_f, stepPC_n, stepPC_s, stepPX_s, stepPX_n, stepPA_t, stepPN_s, allocOp, reloc_sl, reloc_ptr, List.map_cons, List.map_nil, List.nil_append, List.append_assoc, List.cons_append, Nat.add_assoc, ltT, ltF, leT, leF, eqT, eqF, ltTn, ltFn, leTn, leFn, eqTn, eqFn, beqT, beqF, bneT, bneF, wi64, wu64, wu32, wu16, wu8, tmodP, tdivP, hgetL, hgetNe, hgetEq, setL, nums_def, nums_len, Nat.succ_le_of_lt, List.getElem?_cons_zero, List.getElem?_cons_succ, Option.getD_some, -getElem?_pos, -getElem?_neg, Int.toNat_add, Int.toNat_mul, agB, agI, agS, agP, agL, agA, okB, okI, okS, okP, okSl, okA]
    refine PLc_call (by kernel_rfl) (fun L hL => hT _) (by simp [pv_iv, pv_int, pv_bool, pv_string, pv_tup2, pv_tup3, iv_plain, p2_int, p2_bool, p2_string]) ?_
    try simp (disch := first | omega | (simp only [List.length_set, List.length_append, List.length_cons, List.length_nil, iv_length, zl_length]; done) | (simp only [List.length_set, List.length_append, List.length_cons, List.length_nil, iv_length, zl_length]; omega)) [wb_bool, wb_undef, XL_nil, XL_cons, XLc_val, XLc_call, step1_eq, stepW_t, stepW_f, stepC_n, stepC_s, stepX_s, xop_eq, xopR_s, xopR_n, wantedA_eq, wantedG_n, wantedG_s, plain1_int, plain1_bool, plain1_string, bits_i64, bits_u64, bits_u32, bits_u16, bits_u8, xeqA, xarr, allK_iv, num_iv, calleeOf, xread, xeff, xbin, xint, xnil, xun, xstr, xload, xconv, xpart, xfield, xfieldAddr, xindexAddr, xindex, bnd, asInt?, xslice, xlen, xmin, xmax, xbuild, xfill, xappend, xcopy, xcells, eval_tmp, eval_const, put_at, put_none, fr0_at, cells_agg, cells_int, cells_bool, cells_string, cells_ptr, cells_slice, notTuple, tab, iv_all, hget_app, hget_app0, hget_cons0, hget_cons, set_app, set_app0, setR, setR_one, QL_nil, QL_cons, QLc_val, stepQ_t, stepQ_f, stepQC_n, stepQC_s, stepQX_s, SL_nil, SL_cons, SLc_val, stepS_t, stepS_f, take_wl, ha, hta, hbt, lY, iv_set, h1, PL_nil, PL_cons, PLc_val, PLc_new, stepP_t, stepP_f, stepPC_n, stepPC_s, stepPX_s, stepPX_n, stepPA_t, stepPN_s, allocOp, reloc_sl, reloc_ptr, List.map_cons, List.map_nil, List.nil_append, List.append_assoc, List.cons_append, Nat.add_assoc, ltT, ltF, leT, leF, eqT, eqF, ltTn, ltFn, leTn, leFn, eqTn, eqFn, beqT, beqF, bneT, bneF, wi64, wu64, wu32, wu16, wu8, tmodP, tdivP, hgetL, hgetNe, hgetEq, setL, nums_def, nums_len, Nat.succ_le_of_lt, List.getElem?_cons_zero, List.getElem?_cons_succ, Option.getD_some, -getElem?_pos, -getElem?_neg, Int.toNat_add, Int.toNat_mul, agB, agI, agS, agP, agL, agA, okB, okI, okS, okP, okSl, okA]
    refine PLc_call (by kernel_rfl) (fun L hL => hib2 _ ((hG.app _).app L)) (by simp [pv_iv, pv_int, pv_bool, pv_string, pv_tup2, pv_tup3, iv_plain, p2_int, p2_bool, p2_string]) ?_
    try simp (disch := first | omega | (simp only [List.length_set, List.length_append, List.length_cons, List.length_nil, iv_length, zl_length]; done) | (simp only [List.length_set, List.length_append, List.length_cons, List.length_nil, iv_length, zl_length]; omega)) [wb_bool, wb_undef, XL_nil, XL_cons, XLc_val, XLc_call, step1_eq, stepW_t, stepW_f, stepC_n, stepC_s, stepX_s, xop_eq, xopR_s, xopR_n, wantedA_eq, wantedG_n, wantedG_s, plain1_int, plain1_bool, plain1_string, bits_i64, bits_u64, bits_u32, bits_u16, bits_u8, xeqA, xarr, allK_iv, num_iv, calleeOf, xread, xeff, xbin, xint, xnil, xun, xstr, xload, xconv, xpart, xfield, xfieldAddr, xindexAddr, xindex, bnd, asInt?, xslice, xlen, xmin, xmax, xbuild, xfill, xappend, xcopy, xcells, eval_tmp, eval_const, put_at, put_none, fr0_at, cells_agg, cells_int, cells_bool, cells_string, cells_ptr, cells_slice, notTuple, tab, iv_all, hget_app, hget_app0, hget_cons0, hget_cons, set_app, set_app0, setR, setR_one, QL_nil, QL_cons, QLc_val, stepQ_t, stepQ_f, stepQC_n, stepQC_s, stepQX_s, SL_nil, SL_cons, SLc_val, stepS_t, stepS_f, take_wl, ha, hta, hbt, lY, iv_set, h1, PL_nil, PL_cons, PLc_val, PLc_new, stepP_t, stepP_f, stepPC_n, stepPC_s, stepPX_s, stepPX_n, stepPA_t, stepPN_s, allocOp, reloc_sl, reloc_ptr, List.map_cons, List.map_nil, List.nil_append, List.append_assoc, List.cons_append, Nat.add_assoc, ltT, ltF, leT, leF, eqT, eqF, ltTn, ltFn, leTn, leFn, eqTn, eqFn, beqT, beqF, bneT, bneF, wi64, wu64, wu32, wu16, wu8, tmodP, tdivP, hgetL, hgetNe, hgetEq, setL, nums_def, nums_len, Nat.succ_le_of_lt, List.getElem?_cons_zero, List.getElem?_cons_succ, Option.getD_some, -getElem?_pos, -getElem?_neg, Int.toNat_add, Int.toNat_mul, agB, agI, agS, agP, agL, agA, okB, okI, okS, okP, okSl, okA]
    refine PLc_call (by kernel_rfl) (fun L hL => ac_of_vc (by simp [pv_iv, pv_int, pv_bool, pv_string, pv_tup2, pv_tup3, iv_plain, p2_int, p2_bool, p2_string]) hE rfl) (by simp [pv_iv, pv_int, pv_bool, pv_string, pv_tup2, pv_tup3, iv_plain, p2_int, p2_bool, p2_string]) ?_
    try simp (disch := first | omega | (simp only [List.length_set, List.length_append, List.length_cons, List.length_nil, iv_length, zl_length]; done) | (simp only [List.length_set, List.length_append, List.length_cons, List.length_nil, iv_length, zl_length]; omega)) [wb_bool, wb_undef, XL_nil, XL_cons, XLc_val, XLc_call, step1_eq, stepW_t, stepW_f, stepC_n, stepC_s, stepX_s, xop_eq, xopR_s, xopR_n, wantedA_eq, wantedG_n, wantedG_s, plain1_int, plain1_bool, plain1_string, bits_i64, bits_u64, bits_u32, bits_u16, bits_u8, xeqA, xarr, allK_iv, num_iv, calleeOf, xread, xeff, xbin, xint, xnil, xun, xstr, xload, xconv, xpart, xfield, xfieldAddr, xindexAddr, xindex, bnd, asInt?, xslice, xlen, xmin, xmax, xbuild, xfill, xappend, xcopy, xcells, eval_tmp, eval_const, put_at, put_none, fr0_at, cells_agg, cells_int, cells_bool, cells_string, cells_ptr, cells_slice, notTuple, tab, iv_all, hget_app, hget_app0, hget_cons0, hget_cons, set_app, set_app0, setR, setR_one, QL_nil, QL_cons, QLc_val, stepQ_t, stepQ_f, stepQC_n, stepQC_s, stepQX_s, SL_nil, SL_cons, SLc_val, stepS_t, stepS_f, take_wl, ha, hta, hbt, lY, iv_set, h1, PL_nil, PL_cons, PLc_val, PLc_new, stepP_t, stepP_f, stepPC_n, stepPC_s, stepPX_s, stepPX_n, stepPA_t, stepPN_s, allocOp, reloc_sl, reloc_ptr, List.map_cons, List.map_nil, List.nil_append, List.append_assoc, List.cons_append, Nat.add_assoc, ltT, ltF, leT, leF, eqT, eqF, ltTn, ltFn, leTn, leFn, eqTn, eqFn, beqT, beqF, bneT, bneF, wi64, wu64, wu32, wu16, wu8, tmodP, tdivP, hgetL, hgetNe, hgetEq, setL, nums_def, nums_len, Nat.succ_le_of_lt, List.getElem?_cons_zero, List.getElem?_cons_succ, Option.getD_some, -getElem?_pos, -getElem?_neg, Int.toNat_add, Int.toNat_mul, agB, agI, agS, agP, agL, agA, okB, okI, okS, okP, okSl, okA]
    refine hK _ _ ?_; clear hK K
    (refine aw_ret ?_; simp (disch := first | omega | (simp only [List.length_set, List.length_append, List.length_cons, List.length_nil, iv_length, zl_length]; done) | (simp only [List.length_set, List.length_append, List.length_cons, List.length_nil, iv_length, zl_length]; omega)) [wb_bool, wb_undef, XL_nil, XL_cons, XLc_val, XLc_call, step1_eq, stepW_t, stepW_f, stepC_n, stepC_s, stepX_s, xop_eq, xopR_s, xopR_n, wantedA_eq, wantedG_n, wantedG_s, plain1_int, plain1_bool, plain1_string, bits_i64, bits_u64, bits_u32, bits_u16, bits_u8, xeqA, xarr, allK_iv, num_iv, calleeOf, xread, xeff, xbin, xint, xnil, xun, xstr, xload, xconv, xpart, xfield, xfieldAddr, xindexAddr, xindex, bnd, asInt?, xslice, xlen, xmin, xmax, xbuild, xfill, xappend, xcopy, xcells, eval_tmp, eval_const, put_at, put_none, fr0_at, cells_agg, cells_int, cells_bool, cells_string, cells_ptr, cells_slice, notTuple, tab, iv_all, hget_app, hget_app0, hget_cons0, hget_cons, set_app, set_app0, setR, setR_one, QL_nil, QL_cons, QLc_val, stepQ_t, stepQ_f, stepQC_n, stepQC_s, stepQX_s, SL_nil, SL_cons, SLc_val, stepS_t, stepS_f, thenQ_ret, inBlockQ_ret, RQ, resL, resV, ltT, ltF, leT, leF, eqT, eqF, ltTn, ltFn, leTn, leFn, eqTn, eqFn, beqT, beqF, bneT, bneF, wi64, wu64, wu32, wu16, wu8, tmodP, tdivP, hgetL, hgetNe, hgetEq, setL, nums_def, nums_len, Nat.succ_le_of_lt, List.getElem?_cons_zero, List.getElem?_cons_succ, Option.getD_some, -getElem?_pos, -getElem?_neg, Int.toNat_add, Int.toNat_mul, agB, agI, agS, agP, agL, agA, okB, okI, okS, okP, okSl, okA])
end
end Go.Proofs.YtdokbnohlpbfbaaDoor
