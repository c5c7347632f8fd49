/-
  Sums, differences and products: the reference's and the elements'.
  2^255 - 19 is prime (Pocklington), and Fermat's theorem. Free of any program.
-/
import Derived.Test.YtnddofgabipknaaDoorRfB
import Derived.Test.YtnddofgabipknaaDoorFlB
import Derived.Test.YtnddofgabipknaaDoorLibB
import Derived.Test.YtnddofgabipknaaDoorLibA
namespace Go.Proofs.YtnddofgabipknaaDoor
section
open Go Go.RowKit
set_option linter.unusedVariables false
set_option linter.unusedSimpArgs false
set_option maxRecDepth 100000
set_option maxHeartbeats 8000000

theorem add_dig {X : Int} (k : List Int) (hX : El X) (hk : By k) (lk : k.length = 32) : (dv (digL (bytesM X)) + dv (digL k)) % pM = addM X (fromM k) := by
  rw [dig_bytes hX, digL_dv hk lk]
  unfold addM fromM qM pM
  omega
theorem sub_dig {X : Int} (k : List Int) (hX : El X) (hk : By k) (lk : k.length = 32) : (dv (digL (bytesM X)) + dv (digL (bytesM ((pM - dv (digL k) % pM) % pM)))) % pM = subM X (fromM k) := by
  have h1 : El ((pM - dv (digL k) % pM) % pM) := by unfold El pM; omega
  rw [dig_bytes hX, dig_bytes h1, digL_dv hk lk]
  unfold subM fromM qM pM
  omega
theorem mul_dig {X : Int} (k : List Int) (hX : El X) (hk : By k) (lk : k.length = 32) : dv (digL (bytesM X)) * dv (digL k) % pM = mulM X (fromM k) := by
  rw [dig_bytes hX, digL_dv hk lk]
  have : fromM k = le k 32 % qM % pM := rfl
  rw [this]
  unfold mulM
  show _ = X * (le k 32 % qM % pM) % pM
  rw [mm_r]
theorem from_bytes {X : Int} (hX : El X) : fromM (bytesM X) = X := by
  unfold fromM
  rw [bytes_le hX]
  unfold El at hX
  omega
theorem bytes_inj {X Y : Int} (hX : El X) (hY : El Y) : (bytesM X == bytesM Y) = decide (X = Y) := by
  by_cases h : X = Y
  · subst h; simp
  · rw [decide_eq_false h, beq_eq_false_iff_ne]
    intro e
    apply h
    rw [← from_bytes hX, ← from_bytes hY, e]
end

section
set_option linter.unusedVariables false
set_option linter.unusedSimpArgs false
set_option maxRecDepth 100000

def Pr (n : Nat) : Prop := 2 ≤ n ∧ ∀ d, d ∣ n → d = 1 ∨ d = n
theorem Pr.cop {r a : Nat} (h : Pr r) (ha : ¬ r ∣ a) : Nat.Coprime r a := by
  rcases h.2 _ (Nat.gcd_dvd_left r a) with h1 | h1
  · exact h1
  · exact absurd (h1 ▸ Nat.gcd_dvd_right r a) ha
def ch : Nat → Nat → Nat
  | _, 0 => 1
  | 0, _ + 1 => 0
  | n + 1, k + 1 => ch n k + ch n (k + 1)
theorem ch_zero (n : Nat) : ch n 0 = 1 := by cases n <;> rfl
theorem ch_big : ∀ n k, n < k → ch n k = 0
  | 0, k + 1, _ => rfl
  | n + 1, k + 1, h => by
    show ch n k + ch n (k + 1) = 0
    rw [ch_big n k (by omega), ch_big n (k + 1) (by omega)]
theorem ch_self : ∀ n, ch n n = 1
  | 0 => rfl
  | n + 1 => by
    show ch n n + ch n (n + 1) = 1
    rw [ch_self n, ch_big n (n + 1) (by omega)]
theorem ch_mul : ∀ n k, (k + 1) * ch (n + 1) (k + 1) = (n + 1) * ch n k
  | 0, 0 => rfl
  | 0, k + 1 => by
    show (k + 1 + 1) * (0 + 0) = (0 + 1) * 0
    simp
  | n + 1, 0 => by
    have := ch_mul n 0
    show (0 + 1) * (ch (n + 1) 0 + ch (n + 1) 1) = (n + 1 + 1) * ch (n + 1) 0
    rw [ch_zero] at this ⊢
    rw [Nat.zero_add, Nat.one_mul] at *
    omega
  | n + 1, j + 1 => by
    have h1 := ch_mul n j
    have h2 := ch_mul n (j + 1)
    show (j + 1 + 1) * (ch (n + 1) (j + 1) + ch (n + 1) (j + 1 + 1)) = (n + 1 + 1) * ch (n + 1) (j + 1)
    have h3 : ch (n + 1) (j + 1) = ch n j + ch n (j + 1) := rfl
    rw [Nat.mul_add, h2, Nat.add_mul (j + 1) 1, h1, Nat.one_mul, Nat.add_mul (n + 1) 1, Nat.one_mul, h3, Nat.mul_add]
    omega
def sm (a n : Nat) : Nat → Nat
  | 0 => 0
  | m + 1 => sm a n m + ch n m * a ^ m
theorem sm_step (a n : Nat) : ∀ m, sm a (n + 1) (m + 1) = sm a n (m + 1) + a * sm a n m
  | 0 => by simp [sm, ch_zero]
  | m + 1 => by
    have := sm_step a n m
    show sm a (n + 1) (m + 1) + ch (n + 1) (m + 1) * a ^ (m + 1) = sm a n (m + 1) + ch n (m + 1) * a ^ (m + 1) + a * (sm a n m + ch n m * a ^ m)
    rw [this, show ch (n + 1) (m + 1) = ch n m + ch n (m + 1) from rfl, Nat.add_mul, Nat.mul_add, Nat.pow_succ, Nat.mul_left_comm a (ch n m), Nat.mul_comm a (a ^ m)]
    omega
theorem sm_pow (a : Nat) : ∀ n, sm a n (n + 1) = (a + 1) ^ n
  | 0 => by simp [sm, ch]
  | n + 1 => by
    have := sm_pow a n
    rw [sm_step]
    have h2 : sm a n (n + 1 + 1) = sm a n (n + 1) := by
      show sm a n (n + 1) + ch n (n + 1) * a ^ (n + 1) = _
      rw [ch_big n (n + 1) (by omega)]; omega
    rw [h2, this, Nat.pow_succ, Nat.mul_add, Nat.mul_one, Nat.mul_comm a]
    omega
theorem ch_dvd {r : Nat} (hr : Pr r) {k : Nat} (h0 : 0 < k) (h1 : k < r) : r ∣ ch r k := by
  obtain ⟨n, rfl⟩ : ∃ n, r = n + 1 := ⟨r - 1, by have := hr.1; omega⟩
  obtain ⟨j, rfl⟩ : ∃ j, k = j + 1 := ⟨k - 1, by omega⟩
  have h := ch_mul n j
  refine (hr.cop (fun h2 => ?_)).dvd_of_dvd_mul_left (m := j + 1) (h ▸ Nat.dvd_mul_right _ _)
  have := Nat.le_of_dvd (by omega) h2
  omega
theorem sm_mod {r : Nat} (hr : Pr r) (a : Nat) : ∀ m, m + 1 ≤ r → sm a r (m + 1) % r = 1 % r
  | 0, _ => by simp [sm, ch_zero]
  | m + 1, h => by
    have := sm_mod hr a m (by omega)
    show (sm a r (m + 1) + ch r (m + 1) * a ^ (m + 1)) % r = 1 % r
    rw [Nat.add_mod, this, Nat.mod_eq_zero_of_dvd (Nat.dvd_trans (ch_dvd hr (by omega) (by omega)) (Nat.dvd_mul_right _ _))]
    simp
theorem flt_step {r : Nat} (hr : Pr r) (a : Nat) : (a + 1) ^ r % r = (1 + a ^ r) % r := by
  rw [← sm_pow]
  show (sm a r r + ch r r * a ^ r) % r = _
  obtain ⟨n, hn⟩ : ∃ n, r = n + 1 := ⟨r - 1, by have := hr.1; omega⟩
  have h := sm_mod hr a n (by omega)
  rw [← hn] at h
  rw [ch_self, Nat.one_mul, Nat.add_mod, h, ← Nat.add_mod]
theorem flt_all {r : Nat} (hr : Pr r) : ∀ a, a ^ r % r = a % r
  | 0 => by rw [Nat.zero_pow (by have := hr.1; omega)]
  | a + 1 => by rw [flt_step hr, Nat.add_mod, flt_all hr a, ← Nat.add_mod, Nat.add_comm]
theorem flt {r : Nat} (hr : Pr r) {a : Nat} (ha : ¬ r ∣ a) : a ^ (r - 1) % r = 1 := by
  have h2 := hr.1
  have h := flt_all hr a
  have hp : 0 < a := Nat.pos_of_ne_zero (fun e => ha (e ▸ Nat.dvd_zero r))
  obtain ⟨n, rfl⟩ : ∃ n, r = n + 1 := ⟨r - 1, by omega⟩
  rw [Nat.add_sub_cancel]
  have hpp : 1 ≤ a ^ n := Nat.pow_pos hp
  have hd : n + 1 ∣ a * (a ^ n - 1) := by
    rw [Nat.mul_sub, Nat.mul_one, Nat.mul_comm, ← Nat.pow_succ]
    exact Nat.dvd_of_mod_eq_zero (Nat.sub_mod_eq_zero_of_mod_eq h)
  have hd2 := (hr.cop ha).dvd_of_dvd_mul_left hd
  obtain ⟨c, hc⟩ := hd2
  have : a ^ n = 1 + (n + 1) * c := by omega
  rw [this, Nat.add_mul_mod_self_left, Nat.mod_eq_of_lt (by omega)]
theorem pow_gcd {r b : Nat} (m n : Nat) : b ^ m % r = 1 % r → b ^ n % r = 1 % r → b ^ (Nat.gcd m n) % r = 1 % r := by
  induction m, n using Nat.gcd.induction with
  | H0 n => intro _ h; simpa using h
  | H1 m n hm ih =>
    intro h1 h2
    rw [Nat.gcd_rec]
    refine ih ?_ h1
    have e : b ^ n = (b ^ m) ^ (n / m) * b ^ (n % m) := by rw [← Nat.pow_mul, ← Nat.pow_add, Nat.div_add_mod]
    rw [e, Nat.mul_mod, Nat.pow_mod, h1, ← Nat.pow_mod, Nat.one_pow, ← Nat.mul_mod, Nat.one_mul] at h2
    exact h2
theorem mod_dvd {r n a b : Nat} (hrn : r ∣ n) (h : a % n = b % n) : a % r = b % r := by
  rw [← Nat.mod_mod_of_dvd a hrn, h, Nat.mod_mod_of_dvd b hrn]
/-- A prime's factor of n - 1 is one of r - 1, r a prime factor of n. -/
theorem pock {n q k a r : Nat} (hr : Pr r) (hrn : r ∣ n) (hq : Pr q) (h1 : a ^ (k * q) % n = 1 % n) (c : Nat) (hc : a ^ k % n = c % n) (hc1 : 1 ≤ c) (g : Nat.gcd (c - 1) n = 1) : q ∣ r - 1 := by
  refine Classical.byContradiction fun hn => ?_
  have r2 := hr.1
  have hb := mod_dvd hrn h1
  rw [Nat.pow_mul] at hb
  have hnd : ¬ r ∣ a ^ k := fun hd => by
    have h0 : a ^ k % r = 0 := Nat.mod_eq_zero_of_dvd hd
    rw [Nat.pow_mod, h0, Nat.zero_pow (by have := hq.1; omega), Nat.zero_mod, Nat.mod_eq_of_lt (by omega)] at hb
    omega
  have h3 := flt hr hnd
  have h4 := pow_gcd (r := r) (b := a ^ k) q (r - 1) hb (by rw [h3, Nat.mod_eq_of_lt (by omega)])
  rw [hq.cop hn, Nat.pow_one, mod_dvd hrn hc] at h4
  have h5 : r ∣ c - 1 := Nat.dvd_of_mod_eq_zero (Nat.sub_mod_eq_zero_of_mod_eq h4)
  have h6 := Nat.dvd_gcd h5 hrn
  rw [g] at h6
  have := Nat.le_of_dvd (by omega) h6
  omega
theorem pr_of {n : Nat} (h2 : 2 ≤ n) (h : ∀ r, Pr r → r ∣ n → n < r * r) : Pr n := by
  have ex : ∀ m, 2 ≤ m → ∃ r, Pr r ∧ r ∣ m := by
    intro m
    induction m using Nat.strongRecOn with
    | ind m ih =>
      intro hm
      by_cases hp : Pr m
      · exact ⟨m, hp, Nat.dvd_refl _⟩
      · have : ∃ d, d ∣ m ∧ d ≠ 1 ∧ d ≠ m := by
          refine Classical.byContradiction fun hc => hp ⟨hm, fun d hd => ?_⟩
          refine Classical.byContradiction fun he => hc ⟨d, hd, fun e => he (.inl e), fun e => he (.inr e)⟩
        obtain ⟨d, hd, d1, dm⟩ := this
        have hle := Nat.le_of_dvd (by omega) hd
        have hpos := Nat.pos_of_dvd_of_pos hd (by omega)
        obtain ⟨r, hr, hrd⟩ := ih d (by omega) (by omega)
        exact ⟨r, hr, Nat.dvd_trans hrd hd⟩
  refine ⟨h2, fun d hd => ?_⟩
  refine Classical.byContradiction fun he => ?_
  have hd1 : d ≠ 1 := fun e => he (.inl e)
  have hdn : d ≠ n := fun e => he (.inr e)
  obtain ⟨e, rfl⟩ := hd
  have hdp : 0 < d := Nat.pos_of_ne_zero (fun h => by subst h; omega)
  have hep : 0 < e := Nat.pos_of_ne_zero (fun h => by subst h; omega)
  have he1 : e ≠ 1 := fun h => by subst h; omega
  obtain ⟨r, hr, hrd⟩ := ex d (by omega)
  obtain ⟨s, hs, hse⟩ := ex e (by omega)
  have k1 := h r hr (Nat.dvd_trans hrd (Nat.dvd_mul_right d e))
  have k2 := h s hs (Nat.dvd_trans hse (Nat.dvd_mul_left e d))
  have l1 := Nat.le_of_dvd hdp hrd
  have l2 := Nat.le_of_dvd hep hse
  rcases Nat.le_total r s with h3 | h3
  · have := Nat.mul_le_mul l1 l2
    have := Nat.mul_le_mul_left r h3
    omega
  · have := Nat.mul_le_mul l1 l2
    have := Nat.mul_le_mul_right s h3
    omega
/-- n's prime factors are above F's product where its primes divide each of them less 1. -/
theorem pr_one {n q : Nat} (h2 : 2 ≤ n) (hq : n < q * q) (h : ∀ r, Pr r → r ∣ n → q ∣ r - 1) : Pr n := by
  refine pr_of h2 fun r hr hrn => ?_
  have := Nat.le_of_dvd (by have := hr.1; omega) (h r hr hrn)
  have : q * q ≤ r * r := Nat.mul_le_mul (by omega) (by omega)
  omega
theorem pr_two {n q s : Nat} (h2 : 2 ≤ n) (hs : Nat.Coprime q s) (hq : n < (q * s) * (q * s)) (h : ∀ r, Pr r → r ∣ n → q ∣ r - 1) (h' : ∀ r, Pr r → r ∣ n → s ∣ r - 1) : Pr n :=
  pr_one h2 hq fun r hr hrn => hs.mul_dvd_of_dvd_of_dvd (h r hr hrn) (h' r hr hrn)
/-- By trial. -/
def noDiv (n : Nat) : Nat → Nat → Bool
  | _, 0 => true
  | d, f + 1 => (n % d != 0) && noDiv n (d + 1) f
theorem noDiv_ok {n : Nat} : ∀ f d, noDiv n d f = true → ∀ e, d ≤ e → e < d + f → n % e ≠ 0
  | 0, d, _, e, h1, h2 => by omega
  | f + 1, d, h, e, h1, h2 => by
    simp only [noDiv, Bool.and_eq_true, bne_iff_ne] at h
    by_cases he : e = d
    · subst he; exact h.1
    · exact noDiv_ok f (d + 1) h.2 e (by omega) (by omega)
theorem pr_small {n : Nat} (f : Nat) (h2 : 2 ≤ n) (hf : n < (f + 2) * (f + 2)) (h : noDiv n 2 f = true) : Pr n := by
  refine pr_of h2 fun r hr hrn => ?_
  have h3 := noDiv_ok f 2 h r hr.1
  have : f + 2 ≤ r := by
    refine Nat.le_of_not_lt fun hlt => h3 (by omega) (Nat.mod_eq_zero_of_dvd hrn)
  have := Nat.mul_le_mul this this
  omega
/-- Powers by squares. -/
def pwm (n : Nat) : Nat → Nat → Nat → Nat
  | 0, _, _ => 1 % n
  | f + 1, a, e => (fun s => bif e % 2 == 1 then s * a % n else s) ((fun h => h * h % n) (pwm n f a (e / 2)))
theorem pwm_ok (n : Nat) : ∀ f a e, e < 2 ^ f → pwm n f a e = a ^ e % n
  | 0, a, e, h => by
    obtain rfl : e = 0 := by simpa using h
    simp [pwm]
  | f + 1, a, e, h => by
    have ih := pwm_ok n f a (e / 2) (by rw [Nat.pow_succ] at h; omega)
    unfold pwm
    simp only [ih]
    have e2 : e = e / 2 + e / 2 + e % 2 := by omega
    rcases Nat.mod_two_eq_zero_or_one e with h1 | h1
    · simp only [h1]
      show (a ^ (e / 2) % n) * (a ^ (e / 2) % n) % n = a ^ e % n
      rw [← Nat.mul_mod, ← Nat.pow_add]
      congr 2; omega
    · simp only [h1]
      show (a ^ (e / 2) % n) * (a ^ (e / 2) % n) % n * a % n = a ^ e % n
      rw [← Nat.mul_mod, ← Nat.pow_add, Nat.mod_mul_mod, ← Nat.pow_succ]
      congr 2; omega
theorem pock_q {n q k : Nat} (f : Nat) (hq : Pr q) (hf : k * q < 2 ^ f) (h : (pwm n f 2 (k * q) == 1 % n && (1 ≤ pwm n f 2 k && Nat.gcd (pwm n f 2 k - 1) n == 1)) = true) (r : Nat) (hr : Pr r) (hrn : r ∣ n) : q ∣ r - 1 := by
  simp only [Bool.and_eq_true, beq_iff_eq, decide_eq_true_eq] at h
  have hq2 := hq.1
  have hk : k < 2 ^ f := Nat.lt_of_le_of_lt (Nat.le_mul_of_pos_right _ (by omega)) hf
  refine pock (k := k) (a := 2) hr hrn hq (by rw [← pwm_ok n f 2 _ hf]; exact h.1) (pwm n f 2 k) (by rw [pwm_ok n f 2 k hk, Nat.mod_mod]) h.2.1 h.2.2
theorem pr_127 : Pr 127 := pr_small 20 (by decide) (by decide) (by decide +kernel)
theorem pr_75707 : Pr 75707 := pr_small 300 (by decide) (by decide) (by decide +kernel)
theorem pr_1923133 : Pr 1923133 := pr_small 1400 (by decide) (by decide) (by decide +kernel)
theorem pr_8574133 : Pr 8574133 := pr_small 3000 (by decide) (by decide) (by decide +kernel)
theorem pr_c : Pr 1919519569386763 :=
  pr_two (q := 8574133) (s := 127) (by decide) (by decide +kernel) (by decide)
    (pock_q (k := 1919519569386762 / 8574133) 64 pr_8574133 (by decide) (by decide +kernel))
    (pock_q (k := 1919519569386762 / 127) 64 pr_127 (by decide) (by decide +kernel))
theorem pr_b : Pr 75445702479781427272750846543864801 :=
  pr_two (q := 1919519569386763) (s := 75707) (by decide) (by decide +kernel) (by decide)
    (pock_q (k := 75445702479781427272750846543864800 / 1919519569386763) 128 pr_c (by decide) (by decide +kernel))
    (pock_q (k := 75445702479781427272750846543864800 / 75707) 128 pr_75707 (by decide) (by decide +kernel))
theorem pr_a : Pr 74058212732561358302231226437062788676166966415465897661863160754340907 :=
  pr_two (q := 75445702479781427272750846543864801) (s := 1923133) (by decide) (by decide +kernel) (by decide)
    (pock_q (k := 74058212732561358302231226437062788676166966415465897661863160754340906 / 75445702479781427272750846543864801) 256 pr_b (by decide) (by decide +kernel))
    (pock_q (k := 74058212732561358302231226437062788676166966415465897661863160754340906 / 1923133) 256 pr_1923133 (by decide) (by decide +kernel))
theorem pr_p : Pr 57896044618658097711785492504343953926634992332820282019728792003956564819949 :=
  pr_one (q := 74058212732561358302231226437062788676166966415465897661863160754340907) (by decide) (by decide)
    (pock_q (k := 57896044618658097711785492504343953926634992332820282019728792003956564819948 / 74058212732561358302231226437062788676166966415465897661863160754340907) 256 pr_a (by decide) (by decide +kernel))
end
end Go.Proofs.YtnddofgabipknaaDoor
