/-
  2^255 - 19 is prime (Fermat, Pocklington): of no program. By an AI agent.
-/
namespace Go.Proofs.Ytecphnhdcphgbaa
/-- binomials -/
def ch : Nat → Nat → Nat
  | _, 0 => 1
  | 0, _ + 1 => 0
  | n + 1, k + 1 => ch n k + ch n (k + 1)
theorem ch_big : ∀ n k, n < k → ch n k = 0
  | 0, 0, h => absurd h (by omega)
  | 0, _ + 1, _ => rfl
  | _ + 1, 0, h => absurd h (by omega)
  | n + 1, k + 1, h => by rw [ch, ch_big n k (by omega), ch_big n (k + 1) (by omega)]
theorem ch_self : ∀ n, ch n n = 1
  | 0 => rfl
  | n + 1 => by rw [ch, ch_self n, ch_big n (n + 1) (by omega)]
theorem ch_mul : ∀ n k, (k + 1) * ch (n + 1) (k + 1) = (n + 1) * ch n k
  | 0, 0 => rfl
  | 0, k + 1 => by simp [ch]
  | n + 1, 0 => by
    have := ch_mul n 0
    have e : ch (n + 1 + 1) (0 + 1) = ch (n + 1) 0 + ch (n + 1) (0 + 1) := rfl
    have e0 : ch (n + 1) 0 = 1 := rfl
    have e1 : ch n 0 = 1 := by cases n <;> rfl
    rw [e, Nat.mul_add, this, e0, e1]; omega
  | n + 1, k + 1 => by
    have h1 := ch_mul n k
    have h2 := ch_mul n (k + 1)
    rw [ch, Nat.mul_add]
    have e1 : (k + 1 + 1) * ch (n + 1) (k + 1) = (n + 1) * ch n k + ch (n + 1) (k + 1) := by rw [Nat.succ_mul (k + 1), h1]
    rw [e1, h2]
    have e3 : ch (n + 1) (k + 1) = ch n k + ch n (k + 1) := rfl
    have e2 : (n + 1 + 1) * ch (n + 1) (k + 1) = (n + 1) * (ch n k + ch n (k + 1)) + ch (n + 1) (k + 1) := by rw [Nat.succ_mul (n + 1), e3]
    rw [e2, Nat.mul_add]; omega
def sm (f : Nat → Nat) : Nat → Nat
  | 0 => 0
  | n + 1 => sm f n + f n
theorem sm_congr {f g : Nat → Nat} : ∀ n, (∀ i, i < n → f i = g i) → sm f n = sm g n
  | 0, _ => rfl
  | n + 1, h => by rw [sm, sm, sm_congr n (fun i hi => h i (by omega)), h n (by omega)]
theorem sm_add (f g : Nat → Nat) : ∀ n, sm (fun i => f i + g i) n = sm f n + sm g n
  | 0 => rfl
  | n + 1 => by rw [sm, sm, sm, sm_add f g n]; omega
theorem sm_mul (c : Nat) (f : Nat → Nat) : ∀ n, sm (fun i => c * f i) n = c * sm f n
  | 0 => rfl
  | n + 1 => by rw [sm, sm, sm_mul c f n, Nat.mul_add]
theorem sm_head (f : Nat → Nat) : ∀ n, sm f (n + 1) = f 0 + sm (fun i => f (i + 1)) n
  | 0 => by simp [sm]
  | n + 1 => by rw [sm, sm_head f n, sm]; omega
theorem binom (a : Nat) : ∀ n, (a + 1) ^ n = sm (fun k => ch n k * a ^ k) (n + 1)
  | 0 => by simp [sm, ch]
  | n + 1 => by
    rw [Nat.pow_succ, Nat.mul_add, Nat.mul_one, Nat.mul_comm, binom a n, ← sm_mul, sm_head (fun k => ch (n + 1) k * a ^ k)]
    have e1 : sm (fun i => ch (n + 1) (i + 1) * a ^ (i + 1)) (n + 1) = sm (fun i => a * (ch n i * a ^ i)) (n + 1) + sm (fun i => ch n (i + 1) * a ^ (i + 1)) (n + 1) := by
      rw [← sm_add]
      refine sm_congr _ fun i _ => ?_
      rw [ch, Nat.add_mul, Nat.pow_succ, Nat.mul_comm (a ^ i) a, Nat.mul_left_comm]
    have e2 : sm (fun k => ch n k * a ^ k) (n + 1) = ch n 0 * a ^ 0 + sm (fun i => ch n (i + 1) * a ^ (i + 1)) n := sm_head _ n
    have e3 : sm (fun i => ch n (i + 1) * a ^ (i + 1)) (n + 1) = sm (fun i => ch n (i + 1) * a ^ (i + 1)) n := by
      show _ + ch n (n + 1) * a ^ (n + 1) = _
      rw [ch_big n (n + 1) (by omega)]; omega
    rw [e1, e2, e3]
    simp [ch]; omega
/-- prime -/
structure Pr (p : Nat) : Prop where
  two : 2 ≤ p
  div : ∀ d, d ∣ p → d = 1 ∨ d = p
theorem Pr.cop {p a : Nat} (h : Pr p) (ha : ¬ p ∣ a) : Nat.Coprime p a := by
  rcases h.div _ (Nat.gcd_dvd_left p a) with e | e
  · exact e
  · exact absurd (e ▸ Nat.gcd_dvd_right p a) ha
theorem Pr.mul {p a b : Nat} (h : Pr p) (hd : p ∣ a * b) : p ∣ a ∨ p ∣ b := by
  by_cases ha : p ∣ a
  · exact .inl ha
  · exact .inr ((h.cop ha).dvd_of_dvd_mul_left hd)
theorem sm_mod {p : Nat} {f : Nat → Nat} : ∀ n, (∀ i, i < n → p ∣ f i) → p ∣ sm f n
  | 0, _ => ⟨0, rfl⟩
  | n + 1, h => (Nat.dvd_add (sm_mod n fun i hi => h i (by omega)) (h n (by omega)))
theorem Pr.fermat1 {p : Nat} (h : Pr p) (a : Nat) : (a + 1) ^ p % p = (a ^ p + 1) % p := by
  obtain ⟨q, rfl⟩ : ∃ q, p = q + 1 := ⟨p - 1, by have := h.two; omega⟩
  rw [binom, sm, sm_head, ch_self]
  have : q + 1 ∣ sm (fun i => ch (q + 1) (i + 1) * a ^ (i + 1)) q := by
    refine sm_mod _ fun i hi => ?_
    have h1 := ch_mul q i
    have h2 : (q + 1) ∣ (i + 1) * ch (q + 1) (i + 1) := ⟨_, h1⟩
    rcases h.mul h2 with h3 | h3
    · exact absurd (Nat.le_of_dvd (by omega) h3) (by omega)
    · exact Nat.dvd_mul_right_of_dvd h3 _
  obtain ⟨c, hc⟩ := this
  rw [hc]
  simp [ch]
  rw [show 1 + (q + 1) * c + a ^ (q + 1) = a ^ (q + 1) + 1 + (q + 1) * c by omega, Nat.add_mul_mod_self_left]
theorem Pr.fermat0 {p : Nat} (h : Pr p) : ∀ a, a ^ p % p = a % p
  | 0 => by have := h.two; rw [Nat.zero_pow (by omega)]
  | a + 1 => by rw [h.fermat1, Nat.add_mod, h.fermat0 a, ← Nat.add_mod]
theorem dvd_sub_of_mod {p x y : Nat} (h : x % p = y % p) : p ∣ x - y := Nat.dvd_of_mod_eq_zero (Nat.sub_mod_eq_zero_of_mod_eq h)
theorem mod_cancel {p a x y : Nat} (h : Pr p) (ha : ¬ p ∣ a) (he : a * x % p = a * y % p) : x % p = y % p := by
  have key : ∀ x y, y ≤ x → a * x % p = a * y % p → x % p = y % p := by
    intro x y hl he
    have h1 := dvd_sub_of_mod he
    rw [← Nat.mul_sub] at h1
    obtain ⟨c, hc⟩ := (h.cop ha).dvd_of_dvd_mul_left h1
    rw [show x = y + p * c by omega, Nat.add_mul_mod_self_left]
  rcases Nat.le_total y x with hl | hl
  · exact key x y hl he
  · exact (key y x hl he.symm).symm
theorem Pr.fermat {p a : Nat} (h : Pr p) (ha : ¬ p ∣ a) : a ^ (p - 1) % p = 1 := by
  have h0 := h.fermat0 a
  obtain ⟨q, rfl⟩ : ∃ q, p = q + 1 := ⟨p - 1, by have := h.two; omega⟩
  rw [Nat.pow_succ, Nat.mul_comm] at h0
  have := mod_cancel h ha (x := a ^ q) (y := 1) (by rw [h0, Nat.mul_one])
  rw [Nat.add_sub_cancel, this]
  exact Nat.mod_eq_of_lt (by have := h.two; omega)
theorem exists_prime : ∀ n, 2 ≤ n → ∃ r, Pr r ∧ r ∣ n := by
  intro n
  induction n using Nat.strongRecOn with
  | _ n ih =>
    intro hn
    by_cases h : ∃ d, d ∣ n ∧ d ≠ 1 ∧ d ≠ n
    · obtain ⟨d, hd, h1, h2⟩ := h
      have hle := Nat.le_of_dvd (by omega) hd
      have h0 : d ≠ 0 := by rintro rfl; rw [Nat.zero_dvd] at hd; omega
      obtain ⟨r, hr, hrd⟩ := ih d (by omega) (by omega)
      exact ⟨r, hr, Nat.dvd_trans hrd hd⟩
    · refine ⟨n, ⟨hn, fun d hd => ?_⟩, Nat.dvd_refl _⟩
      by_cases h1 : d = 1
      · exact .inl h1
      · exact .inr (Classical.byContradiction fun h2 => h ⟨d, hd, h1, h2⟩)
theorem prime_of {n s : Nat} (hn : 2 ≤ n) (hs : n < s * s) (h : ∀ r, Pr r → r ∣ n → s ≤ r) : Pr n := by
  refine ⟨hn, fun d hd => ?_⟩
  by_cases h1 : d = 1
  · exact .inl h1
  refine .inr (Classical.byContradiction fun h2 => ?_)
  obtain ⟨e, he⟩ := hd
  have hd0 : d ≠ 0 := by rintro rfl; rw [Nat.zero_mul] at he; omega
  have he0 : e ≠ 0 := by rintro rfl; rw [Nat.mul_zero] at he; omega
  have he1 : e ≠ 1 := by rintro rfl; rw [Nat.mul_one] at he; omega
  obtain ⟨r, hr, hrd⟩ := exists_prime d (by omega)
  obtain ⟨t, ht, hte⟩ := exists_prime e (by omega)
  have a1 := h r hr (Nat.dvd_trans hrd ⟨e, he⟩)
  have a2 := h t ht (Nat.dvd_trans hte ⟨d, by rw [Nat.mul_comm]; exact he⟩)
  have b1 := Nat.le_of_dvd (by omega) hrd
  have b2 := Nat.le_of_dvd (by omega) hte
  have := Nat.mul_le_mul (Nat.le_trans a1 b1) (Nat.le_trans a2 b2)
  omega
/-- powers, of which two are 1 -/
theorem pow_one_mod {r b m : Nat} (hr : 2 ≤ r) (h : b ^ m % r = 1) (k : Nat) : b ^ (m * k) % r = 1 := by
  rw [Nat.pow_mul, Nat.pow_mod, h, Nat.one_pow]; exact Nat.mod_eq_of_lt (by omega)
theorem pow_gcd {r b : Nat} (hr : 2 ≤ r) : ∀ m n, b ^ m % r = 1 → b ^ n % r = 1 → b ^ (Nat.gcd m n) % r = 1 := by
  intro m n
  induction m, n using Nat.gcd.induction with
  | H0 n => intro _ h; rw [Nat.gcd_zero_left]; exact h
  | H1 m n hm ih =>
    intro h1 h2
    rw [Nat.gcd_rec]
    refine ih ?_ h1
    have e : b ^ n = b ^ (m * (n / m)) * b ^ (n % m) := by rw [← Nat.pow_add, Nat.div_add_mod]
    rw [e, Nat.mul_mod, pow_one_mod hr h1, Nat.one_mul, Nat.mod_mod] at h2
    exact h2
/-- Pocklington's step: each prime of n is 1 more than a multiple of q. -/
theorem pock {n q a : Nat} (hn : 2 ≤ n) (hq : Pr q) (hqn : q ∣ n - 1) (h1 : a ^ (n - 1) % n = 1) (h2 : Nat.Coprime (a ^ ((n - 1) / q) + (n - 1)) n) (r : Nat) (hr : Pr r) (hrn : r ∣ n) : q ∣ r - 1 := by
  obtain ⟨m, hm⟩ := hqn
  have hq0 : 0 < q := by have := hq.two; omega
  have h1r : a ^ (n - 1) % r = 1 := by
    rw [← Nat.mod_mod_of_dvd _ hrn, h1]; exact Nat.mod_eq_of_lt hr.two
  have hm' : (n - 1) / q = m := by rw [hm, Nat.mul_div_cancel_left _ hq0]
  rw [hm'] at h2
  have hbq : (a ^ m) ^ q % r = 1 := by rw [← Nat.pow_mul, Nat.mul_comm, ← hm]; exact h1r
  have hb1 : a ^ m % r ≠ 1 := by
    intro hb
    have : r ∣ a ^ m + (n - 1) := by
      refine Nat.dvd_of_mod_eq_zero ?_
      rw [Nat.add_mod, hb, ← Nat.add_mod_mod]
      obtain ⟨c, hc⟩ := hrn
      have hc' : 1 + (n - 1) = r * c := by omega
      rw [Nat.mod_mod, Nat.add_mod_mod, hc', Nat.mul_mod_right]
    have hg : r ∣ Nat.gcd (a ^ m + (n - 1)) n := Nat.dvd_gcd this hrn
    rw [h2] at hg
    have := Nat.le_of_dvd (by omega) hg
    have := hr.two
    omega
  have hra : ¬ r ∣ a ^ m := by
    intro hd
    have hq1 : q ≠ 0 := by omega
    have : r ∣ (a ^ m) ^ q := by
      obtain ⟨k, rfl⟩ : ∃ k, q = k + 1 := ⟨q - 1, by omega⟩
      rw [Nat.pow_succ]
      exact Nat.dvd_mul_left_of_dvd hd _
    rw [Nat.mod_eq_zero_of_dvd this] at hbq
    omega
  have hf := hr.fermat hra
  by_cases hd : q ∣ r - 1
  · exact hd
  · have hg := pow_gcd (b := a ^ m) hr.two q (r - 1) hbq hf
    rw [hq.cop hd, Nat.pow_one] at hg
    exact absurd hg hb1
/-- powers modulo n, by squares -/
def pm (n : Nat) : Nat → Nat → Nat → Nat
  | 0, _, _ => 1 % n
  | f + 1, a, e => if e = 0 then 1 % n else if e % 2 = 1 then a * pm n f (a * a % n) (e / 2) % n else pm n f (a * a % n) (e / 2)
theorem pm_eq (n : Nat) : ∀ f a e, e < 2 ^ f → pm n f a e = a ^ e % n
  | 0, a, e, h => by obtain rfl : e = 0 := by omega
                     rfl
  | f + 1, a, e, h => by
    rw [pm]
    by_cases h0 : e = 0
    · rw [if_pos h0, h0, Nat.pow_zero]
    rw [if_neg h0, pm_eq n f _ _ (by rw [Nat.pow_succ] at h; omega)]
    have e1 : (a * a % n) ^ (e / 2) % n = a ^ (2 * (e / 2)) % n := by rw [← Nat.pow_mod, Nat.pow_mul, show a ^ 2 = a * a by rw [Nat.pow_succ, Nat.pow_one]]
    by_cases h1 : e % 2 = 1
    · rw [if_pos h1, e1, Nat.mul_mod_mod, ← Nat.pow_succ', show (2 * (e / 2)).succ = e by omega]
    · rw [if_neg h1, e1, show 2 * (e / 2) = e by omega]
/-- a prime by trial -/
def noDiv (n : Nat) : Nat → Bool
  | 0 => true
  | k + 1 => n % (k + 2) != 0 && noDiv n k
theorem noDiv_all {n : Nat} : ∀ k, noDiv n k = true → ∀ d, 2 ≤ d → d < k + 2 → ¬ d ∣ n
  | 0, _, d, h1, h2 => by omega
  | k + 1, h, d, h1, h2 => by
    rw [noDiv, Bool.and_eq_true] at h
    by_cases e : d = k + 2
    · subst e
      intro hd
      rw [Nat.mod_eq_zero_of_dvd hd] at h
      exact absurd h.1 (by decide)
    · exact noDiv_all k h.2 d h1 (by omega)
theorem prime_trial {n k : Nat} (hn : 2 ≤ n) (hs : n < (k + 2) * (k + 2)) (h : noDiv n k = true) : Pr n :=
  prime_of hn hs fun r hr hrn => Nat.le_of_not_lt fun hl => noDiv_all k h r hr.two hl hrn
theorem cop_of {n a e c : Nat} (hf : e < 2 ^ 256) (h : Nat.gcd (pm n 256 a e + c) n = 1) : Nat.Coprime (a ^ e + c) n := by
  rw [pm_eq n 256 a e hf] at h
  have h1 : (a ^ e + c) % n = (a ^ e % n + c) % n := (Nat.mod_add_mod _ _ _).symm
  unfold Nat.Coprime
  rw [← h, Nat.gcd_comm, Nat.gcd_comm _ n, Nat.gcd_rec n (a ^ e + c), Nat.gcd_rec n (a ^ e % n + c), h1]
theorem prime_pock2 {n q s a : Nat} (hn : 2 ≤ n) (hn2 : n < 2 ^ 256) (hq : Pr q) (hs : Pr s) (hqs : q ≠ s) (hqn : q ∣ n - 1) (hsn : s ∣ n - 1) (h1 : pm n 256 a (n - 1) = 1)
    (h2 : Nat.gcd (pm n 256 a ((n - 1) / q) + (n - 1)) n = 1) (h3 : Nat.gcd (pm n 256 a ((n - 1) / s) + (n - 1)) n = 1) (hb : n < q * s * (q * s)) : Pr n := by
  refine prime_of hn hb fun r hr hrn => ?_
  rw [pm_eq _ _ _ _ (by omega)] at h1
  have l1 : (n - 1) / q ≤ n - 1 := Nat.div_le_self _ _
  have l2 : (n - 1) / s ≤ n - 1 := Nat.div_le_self _ _
  have a1 := pock hn hq hqn h1 (cop_of (by omega) h2) r hr hrn
  have a2 := pock hn hs hsn h1 (cop_of (by omega) h3) r hr hrn
  have hc : Nat.Coprime q s := hq.cop fun hd => by
    rcases hs.div q hd with e | e
    · have := hq.two; omega
    · exact hqs e
  have := Nat.le_of_dvd (by have := hr.two; omega) (hc.mul_dvd_of_dvd_of_dvd a1 a2)
  omega
theorem prime_pock1 {n q a : Nat} (hn : 2 ≤ n) (hn2 : n < 2 ^ 256) (hq : Pr q) (hqn : q ∣ n - 1) (h1 : pm n 256 a (n - 1) = 1)
    (h2 : Nat.gcd (pm n 256 a ((n - 1) / q) + (n - 1)) n = 1) (hb : n < q * q) : Pr n := by
  refine prime_of hn hb fun r hr hrn => ?_
  rw [pm_eq _ _ _ _ (by omega)] at h1
  have l1 : (n - 1) / q ≤ n - 1 := Nat.div_le_self _ _
  have a1 := pock hn hq hqn h1 (cop_of (by omega) h2) r hr hrn
  have := Nat.le_of_dvd (by have := hr.two; omega) a1
  omega
theorem p127 : Pr 127 := prime_trial (k := 10) (by decide) (by decide) (by decide +kernel)
theorem p75707 : Pr 75707 := prime_trial (k := 300) (by decide) (by decide) (by decide +kernel)
theorem p1923133 : Pr 1923133 := prime_trial (k := 1400) (by decide) (by decide) (by decide +kernel)
theorem p8574133 : Pr 8574133 := prime_trial (k := 3000) (by decide) (by decide) (by decide +kernel)
theorem prq3 : Pr 1919519569386763 :=
  prime_pock2 (q := 8574133) (s := 127) (a := 2) (by decide) (by decide +kernel) p8574133 p127 (by decide) (by decide +kernel) (by decide +kernel) (by decide +kernel) (by decide +kernel) (by decide +kernel) (by decide +kernel)
theorem prq2 : Pr 75445702479781427272750846543864801 :=
  prime_pock2 (q := 1919519569386763) (s := 75707) (a := 2) (by decide) (by decide +kernel) prq3 p75707 (by decide) (by decide +kernel) (by decide +kernel) (by decide +kernel) (by decide +kernel) (by decide +kernel) (by decide +kernel)
theorem prq1 : Pr 74058212732561358302231226437062788676166966415465897661863160754340907 :=
  prime_pock2 (q := 75445702479781427272750846543864801) (s := 1923133) (a := 2) (by decide) (by decide +kernel) prq2 p1923133 (by decide) (by decide +kernel) (by decide +kernel) (by decide +kernel) (by decide +kernel) (by decide +kernel) (by decide +kernel)
def P25 : Nat := 57896044618658097711785492504343953926634992332820282019728792003956564819949
theorem prP : Pr P25 :=
  prime_pock1 (q := 74058212732561358302231226437062788676166966415465897661863160754340907) (a := 2) (by decide +kernel) (by decide +kernel) prq1 (by decide +kernel) (by decide +kernel) (by decide +kernel) (by decide +kernel)
end Go.Proofs.Ytecphnhdcphgbaa
