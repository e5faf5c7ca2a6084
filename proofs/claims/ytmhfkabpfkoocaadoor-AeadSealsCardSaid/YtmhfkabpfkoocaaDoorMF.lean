import Derived.Test.YtmhfkabpfkoocaaDoorMD
import Derived.Deep.DeepCutAuto
import Derived.Deep.Cut
import Derived.KernelRfl
import Derived.StillTail
/-
  2^255 - 19 is prime (Fermat, Pocklington): of no program. By an AI agent.
-/
namespace Go.Proofs.YtmhfkabpfkoocaaDoor
/-- binomials -/
def ch : Nat → Nat → Nat
  | _, 0 => 1
  | 0, _ + 1 => 0
  | n + 1, k + 1 => ch n k + ch n (k + 1)
theorem ch_big : ∀ n k, n < k → ch n k = 0
  | 0, 0, h => absurd h (by omega)
  | 0, _ + 1, _ => rfl
  | _ + 1, 0, h => absurd h (by omega)
  | n + 1, k + 1, h => by rw [ch, ch_big n k (by omega), ch_big n (k + 1) (by omega)]
theorem ch_self : ∀ n, ch n n = 1
  | 0 => rfl
  | n + 1 => by rw [ch, ch_self n, ch_big n (n + 1) (by omega)]
theorem ch_mul : ∀ n k, (k + 1) * ch (n + 1) (k + 1) = (n + 1) * ch n k
  | 0, 0 => rfl
  | 0, k + 1 => by simp [ch]
  | n + 1, 0 => by
    have := ch_mul n 0
    have e : ch (n + 1 + 1) (0 + 1) = ch (n + 1) 0 + ch (n + 1) (0 + 1) := rfl
    have e0 : ch (n + 1) 0 = 1 := rfl
    have e1 : ch n 0 = 1 := by cases n <;> rfl
    rw [e, Nat.mul_add, this, e0, e1]; omega
  | n + 1, k + 1 => by
    have h1 := ch_mul n k
    have h2 := ch_mul n (k + 1)
    rw [ch, Nat.mul_add]
    have e1 : (k + 1 + 1) * ch (n + 1) (k + 1) = (n + 1) * ch n k + ch (n + 1) (k + 1) := by rw [Nat.succ_mul (k + 1), h1]
    rw [e1, h2]
    have e3 : ch (n + 1) (k + 1) = ch n k + ch n (k + 1) := rfl
    have e2 : (n + 1 + 1) * ch (n + 1) (k + 1) = (n + 1) * (ch n k + ch n (k + 1)) + ch (n + 1) (k + 1) := by rw [Nat.succ_mul (n + 1), e3]
    rw [e2, Nat.mul_add]; omega
def sm (f : Nat → Nat) : Nat → Nat
  | 0 => 0
  | n + 1 => sm f n + f n
theorem sm_congr {f g : Nat → Nat} : ∀ n, (∀ i, i < n → f i = g i) → sm f n = sm g n
  | 0, _ => rfl
  | n + 1, h => by rw [sm, sm, sm_congr n (fun i hi => h i (by omega)), h n (by omega)]
theorem sm_add (f g : Nat → Nat) : ∀ n, sm (fun i => f i + g i) n = sm f n + sm g n
  | 0 => rfl
  | n + 1 => by rw [sm, sm, sm, sm_add f g n]; omega
theorem sm_mul (c : Nat) (f : Nat → Nat) : ∀ n, sm (fun i => c * f i) n = c * sm f n
  | 0 => rfl
  | n + 1 => by rw [sm, sm, sm_mul c f n, Nat.mul_add]
theorem sm_head (f : Nat → Nat) : ∀ n, sm f (n + 1) = f 0 + sm (fun i => f (i + 1)) n
  | 0 => by simp [sm]
  | n + 1 => by rw [sm, sm_head f n, sm]; omega
theorem binom (a : Nat) : ∀ n, (a + 1) ^ n = sm (fun k => ch n k * a ^ k) (n + 1)
  | 0 => by simp [sm, ch]
  | n + 1 => by
    rw [Nat.pow_succ, Nat.mul_add, Nat.mul_one, Nat.mul_comm, binom a n, ← sm_mul, sm_head (fun k => ch (n + 1) k * a ^ k)]
    have e1 : sm (fun i => ch (n + 1) (i + 1) * a ^ (i + 1)) (n + 1) = sm (fun i => a * (ch n i * a ^ i)) (n + 1) + sm (fun i => ch n (i + 1) * a ^ (i + 1)) (n + 1) := by
      rw [← sm_add]
      refine sm_congr _ fun i _ => ?_
      rw [ch, Nat.add_mul, Nat.pow_succ, Nat.mul_comm (a ^ i) a, Nat.mul_left_comm]
    have e2 : sm (fun k => ch n k * a ^ k) (n + 1) = ch n 0 * a ^ 0 + sm (fun i => ch n (i + 1) * a ^ (i + 1)) n := sm_head _ n
    have e3 : sm (fun i => ch n (i + 1) * a ^ (i + 1)) (n + 1) = sm (fun i => ch n (i + 1) * a ^ (i + 1)) n := by
      show _ + ch n (n + 1) * a ^ (n + 1) = _
      rw [ch_big n (n + 1) (by omega)]; omega
    rw [e1, e2, e3]
    simp [ch]; omega
/-- prime -/
structure Pr (p : Nat) : Prop where
  two : 2 ≤ p
  div : ∀ d, d ∣ p → d = 1 ∨ d = p
theorem Pr.cop {p a : Nat} (h : Pr p) (ha : ¬ p ∣ a) : Nat.Coprime p a := by
  rcases h.div _ (Nat.gcd_dvd_left p a) with e | e
  · exact e
  · exact absurd (e ▸ Nat.gcd_dvd_right p a) ha
theorem Pr.mul {p a b : Nat} (h : Pr p) (hd : p ∣ a * b) : p ∣ a ∨ p ∣ b := by
  by_cases ha : p ∣ a
  · exact .inl ha
  · exact .inr ((h.cop ha).dvd_of_dvd_mul_left hd)
theorem sm_mod {p : Nat} {f : Nat → Nat} : ∀ n, (∀ i, i < n → p ∣ f i) → p ∣ sm f n
  | 0, _ => ⟨0, rfl⟩
  | n + 1, h => (Nat.dvd_add (sm_mod n fun i hi => h i (by omega)) (h n (by omega)))
theorem Pr.fermat1 {p : Nat} (h : Pr p) (a : Nat) : (a + 1) ^ p % p = (a ^ p + 1) % p := by
  obtain ⟨q, rfl⟩ : ∃ q, p = q + 1 := ⟨p - 1, by have := h.two; omega⟩
  rw [binom, sm, sm_head, ch_self]
  have : q + 1 ∣ sm (fun i => ch (q + 1) (i + 1) * a ^ (i + 1)) q := by
    refine sm_mod _ fun i hi => ?_
    have h1 := ch_mul q i
    have h2 : (q + 1) ∣ (i + 1) * ch (q + 1) (i + 1) := ⟨_, h1⟩
    rcases h.mul h2 with h3 | h3
    · exact absurd (Nat.le_of_dvd (by omega) h3) (by omega)
    · exact Nat.dvd_mul_right_of_dvd h3 _
  obtain ⟨c, hc⟩ := this
  rw [hc]
  simp [ch]
  rw [show 1 + (q + 1) * c + a ^ (q + 1) = a ^ (q + 1) + 1 + (q + 1) * c by omega, Nat.add_mul_mod_self_left]
theorem Pr.fermat0 {p : Nat} (h : Pr p) : ∀ a, a ^ p % p = a % p
  | 0 => by have := h.two; rw [Nat.zero_pow (by omega)]
  | a + 1 => by rw [h.fermat1, Nat.add_mod, h.fermat0 a, ← Nat.add_mod]
theorem dvd_sub_of_mod {p x y : Nat} (h : x % p = y % p) : p ∣ x - y := Nat.dvd_of_mod_eq_zero (Nat.sub_mod_eq_zero_of_mod_eq h)
theorem mod_cancel {p a x y : Nat} (h : Pr p) (ha : ¬ p ∣ a) (he : a * x % p = a * y % p) : x % p = y % p := by
  have key : ∀ x y, y ≤ x → a * x % p = a * y % p → x % p = y % p := by
    intro x y hl he
    have h1 := dvd_sub_of_mod he
    rw [← Nat.mul_sub] at h1
    obtain ⟨c, hc⟩ := (h.cop ha).dvd_of_dvd_mul_left h1
    rw [show x = y + p * c by omega, Nat.add_mul_mod_self_left]
  rcases Nat.le_total y x with hl | hl
  · exact key x y hl he
  · exact (key y x hl he.symm).symm
theorem Pr.fermat {p a : Nat} (h : Pr p) (ha : ¬ p ∣ a) : a ^ (p - 1) % p = 1 := by
  have h0 := h.fermat0 a
  obtain ⟨q, rfl⟩ : ∃ q, p = q + 1 := ⟨p - 1, by have := h.two; omega⟩
  rw [Nat.pow_succ, Nat.mul_comm] at h0
  have := mod_cancel h ha (x := a ^ q) (y := 1) (by rw [h0, Nat.mul_one])
  rw [Nat.add_sub_cancel, this]
  exact Nat.mod_eq_of_lt (by have := h.two; omega)
theorem exists_prime : ∀ n, 2 ≤ n → ∃ r, Pr r ∧ r ∣ n := by
  intro n
  induction n using Nat.strongRecOn with
  | _ n ih =>
    intro hn
    by_cases h : ∃ d, d ∣ n ∧ d ≠ 1 ∧ d ≠ n
    · obtain ⟨d, hd, h1, h2⟩ := h
      have hle := Nat.le_of_dvd (by omega) hd
      have h0 : d ≠ 0 := by rintro rfl; rw [Nat.zero_dvd] at hd; omega
      obtain ⟨r, hr, hrd⟩ := ih d (by omega) (by omega)
      exact ⟨r, hr, Nat.dvd_trans hrd hd⟩
    · refine ⟨n, ⟨hn, fun d hd => ?_⟩, Nat.dvd_refl _⟩
      by_cases h1 : d = 1
      · exact .inl h1
      · exact .inr (Classical.byContradiction fun h2 => h ⟨d, hd, h1, h2⟩)
theorem prime_of {n s : Nat} (hn : 2 ≤ n) (hs : n < s * s) (h : ∀ r, Pr r → r ∣ n → s ≤ r) : Pr n := by
  refine ⟨hn, fun d hd => ?_⟩
  by_cases h1 : d = 1
  · exact .inl h1
  refine .inr (Classical.byContradiction fun h2 => ?_)
  obtain ⟨e, he⟩ := hd
  have hd0 : d ≠ 0 := by rintro rfl; rw [Nat.zero_mul] at he; omega
  have he0 : e ≠ 0 := by rintro rfl; rw [Nat.mul_zero] at he; omega
  have he1 : e ≠ 1 := by rintro rfl; rw [Nat.mul_one] at he; omega
  obtain ⟨r, hr, hrd⟩ := exists_prime d (by omega)
  obtain ⟨t, ht, hte⟩ := exists_prime e (by omega)
  have a1 := h r hr (Nat.dvd_trans hrd ⟨e, he⟩)
  have a2 := h t ht (Nat.dvd_trans hte ⟨d, by rw [Nat.mul_comm]; exact he⟩)
  have b1 := Nat.le_of_dvd (by omega) hrd
  have b2 := Nat.le_of_dvd (by omega) hte
  have := Nat.mul_le_mul (Nat.le_trans a1 b1) (Nat.le_trans a2 b2)
  omega
/-- powers, of which two are 1 -/
theorem pow_one_mod {r b m : Nat} (hr : 2 ≤ r) (h : b ^ m % r = 1) (k : Nat) : b ^ (m * k) % r = 1 := by
  rw [Nat.pow_mul, Nat.pow_mod, h, Nat.one_pow]; exact Nat.mod_eq_of_lt (by omega)
theorem pow_gcd {r b : Nat} (hr : 2 ≤ r) : ∀ m n, b ^ m % r = 1 → b ^ n % r = 1 → b ^ (Nat.gcd m n) % r = 1 := by
  intro m n
  induction m, n using Nat.gcd.induction with
  | H0 n => intro _ h; rw [Nat.gcd_zero_left]; exact h
  | H1 m n hm ih =>
    intro h1 h2
    rw [Nat.gcd_rec]
    refine ih ?_ h1
    have e : b ^ n = b ^ (m * (n / m)) * b ^ (n % m) := by rw [← Nat.pow_add, Nat.div_add_mod]
    rw [e, Nat.mul_mod, pow_one_mod hr h1, Nat.one_mul, Nat.mod_mod] at h2
    exact h2
/-- Pocklington's step: each prime of n is 1 more than a multiple of q. -/
theorem pock {n q a : Nat} (hn : 2 ≤ n) (hq : Pr q) (hqn : q ∣ n - 1) (h1 : a ^ (n - 1) % n = 1) (h2 : Nat.Coprime (a ^ ((n - 1) / q) + (n - 1)) n) (r : Nat) (hr : Pr r) (hrn : r ∣ n) : q ∣ r - 1 := by
  obtain ⟨m, hm⟩ := hqn
  have hq0 : 0 < q := by have := hq.two; omega
  have h1r : a ^ (n - 1) % r = 1 := by
    rw [← Nat.mod_mod_of_dvd _ hrn, h1]; exact Nat.mod_eq_of_lt hr.two
  have hm' : (n - 1) / q = m := by rw [hm, Nat.mul_div_cancel_left _ hq0]
  rw [hm'] at h2
  have hbq : (a ^ m) ^ q % r = 1 := by rw [← Nat.pow_mul, Nat.mul_comm, ← hm]; exact h1r
  have hb1 : a ^ m % r ≠ 1 := by
    intro hb
    have : r ∣ a ^ m + (n - 1) := by
      refine Nat.dvd_of_mod_eq_zero ?_
      rw [Nat.add_mod, hb, ← Nat.add_mod_mod]
      obtain ⟨c, hc⟩ := hrn
      have hc' : 1 + (n - 1) = r * c := by omega
      rw [Nat.mod_mod, Nat.add_mod_mod, hc', Nat.mul_mod_right]
    have hg : r ∣ Nat.gcd (a ^ m + (n - 1)) n := Nat.dvd_gcd this hrn
    rw [h2] at hg
    have := Nat.le_of_dvd (by omega) hg
    have := hr.two
    omega
  have hra : ¬ r ∣ a ^ m := by
    intro hd
    have hq1 : q ≠ 0 := by omega
    have : r ∣ (a ^ m) ^ q := by
      obtain ⟨k, rfl⟩ : ∃ k, q = k + 1 := ⟨q - 1, by omega⟩
      rw [Nat.pow_succ]
      exact Nat.dvd_mul_left_of_dvd hd _
    rw [Nat.mod_eq_zero_of_dvd this] at hbq
    omega
  have hf := hr.fermat hra
  by_cases hd : q ∣ r - 1
  · exact hd
  · have hg := pow_gcd (b := a ^ m) hr.two q (r - 1) hbq hf
    rw [hq.cop hd, Nat.pow_one] at hg
    exact absurd hg hb1
/-- powers modulo n, by squares -/
def pm (n : Nat) : Nat → Nat → Nat → Nat
  | 0, _, _ => 1 % n
  | f + 1, a, e => if e = 0 then 1 % n else if e % 2 = 1 then a * pm n f (a * a % n) (e / 2) % n else pm n f (a * a % n) (e / 2)
theorem pm_eq (n : Nat) : ∀ f a e, e < 2 ^ f → pm n f a e = a ^ e % n
  | 0, a, e, h => by obtain rfl : e = 0 := by omega
                     rfl
  | f + 1, a, e, h => by
    rw [pm]
    by_cases h0 : e = 0
    · rw [if_pos h0, h0, Nat.pow_zero]
    rw [if_neg h0, pm_eq n f _ _ (by rw [Nat.pow_succ] at h; omega)]
    have e1 : (a * a % n) ^ (e / 2) % n = a ^ (2 * (e / 2)) % n := by rw [← Nat.pow_mod, Nat.pow_mul, show a ^ 2 = a * a by rw [Nat.pow_succ, Nat.pow_one]]
    by_cases h1 : e % 2 = 1
    · rw [if_pos h1, e1, Nat.mul_mod_mod, ← Nat.pow_succ', show (2 * (e / 2)).succ = e by omega]
    · rw [if_neg h1, e1, show 2 * (e / 2) = e by omega]
/-- a prime by trial -/
def noDiv (n : Nat) : Nat → Bool
  | 0 => true
  | k + 1 => n % (k + 2) != 0 && noDiv n k
theorem noDiv_all {n : Nat} : ∀ k, noDiv n k = true → ∀ d, 2 ≤ d → d < k + 2 → ¬ d ∣ n
  | 0, _, d, h1, h2 => by omega
  | k + 1, h, d, h1, h2 => by
    rw [noDiv, Bool.and_eq_true] at h
    by_cases e : d = k + 2
    · subst e
      intro hd
      rw [Nat.mod_eq_zero_of_dvd hd] at h
      exact absurd h.1 (by decide)
    · exact noDiv_all k h.2 d h1 (by omega)
theorem prime_trial {n k : Nat} (hn : 2 ≤ n) (hs : n < (k + 2) * (k + 2)) (h : noDiv n k = true) : Pr n :=
  prime_of hn hs fun r hr hrn => Nat.le_of_not_lt fun hl => noDiv_all k h r hr.two hl hrn
theorem cop_of {n a e c : Nat} (hf : e < 2 ^ 256) (h : Nat.gcd (pm n 256 a e + c) n = 1) : Nat.Coprime (a ^ e + c) n := by
  rw [pm_eq n 256 a e hf] at h
  have h1 : (a ^ e + c) % n = (a ^ e % n + c) % n := (Nat.mod_add_mod _ _ _).symm
  unfold Nat.Coprime
  rw [← h, Nat.gcd_comm, Nat.gcd_comm _ n, Nat.gcd_rec n (a ^ e + c), Nat.gcd_rec n (a ^ e % n + c), h1]
theorem prime_pock2 {n q s a : Nat} (hn : 2 ≤ n) (hn2 : n < 2 ^ 256) (hq : Pr q) (hs : Pr s) (hqs : q ≠ s) (hqn : q ∣ n - 1) (hsn : s ∣ n - 1) (h1 : pm n 256 a (n - 1) = 1)
    (h2 : Nat.gcd (pm n 256 a ((n - 1) / q) + (n - 1)) n = 1) (h3 : Nat.gcd (pm n 256 a ((n - 1) / s) + (n - 1)) n = 1) (hb : n < q * s * (q * s)) : Pr n := by
  refine prime_of hn hb fun r hr hrn => ?_
  rw [pm_eq _ _ _ _ (by omega)] at h1
  have l1 : (n - 1) / q ≤ n - 1 := Nat.div_le_self _ _
  have l2 : (n - 1) / s ≤ n - 1 := Nat.div_le_self _ _
  have a1 := pock hn hq hqn h1 (cop_of (by omega) h2) r hr hrn
  have a2 := pock hn hs hsn h1 (cop_of (by omega) h3) r hr hrn
  have hc : Nat.Coprime q s := hq.cop fun hd => by
    rcases hs.div q hd with e | e
    · have := hq.two; omega
    · exact hqs e
  have := Nat.le_of_dvd (by have := hr.two; omega) (hc.mul_dvd_of_dvd_of_dvd a1 a2)
  omega
theorem prime_pock1 {n q a : Nat} (hn : 2 ≤ n) (hn2 : n < 2 ^ 256) (hq : Pr q) (hqn : q ∣ n - 1) (h1 : pm n 256 a (n - 1) = 1)
    (h2 : Nat.gcd (pm n 256 a ((n - 1) / q) + (n - 1)) n = 1) (hb : n < q * q) : Pr n := by
  refine prime_of hn hb fun r hr hrn => ?_
  rw [pm_eq _ _ _ _ (by omega)] at h1
  have l1 : (n - 1) / q ≤ n - 1 := Nat.div_le_self _ _
  have a1 := pock hn hq hqn h1 (cop_of (by omega) h2) r hr hrn
  have := Nat.le_of_dvd (by have := hr.two; omega) a1
  omega
theorem p127 : Pr 127 := prime_trial (k := 10) (by decide) (by decide) (by decide +kernel)
theorem p75707 : Pr 75707 := prime_trial (k := 300) (by decide) (by decide) (by decide +kernel)
theorem p1923133 : Pr 1923133 := prime_trial (k := 1400) (by decide) (by decide) (by decide +kernel)
theorem p8574133 : Pr 8574133 := prime_trial (k := 3000) (by decide) (by decide) (by decide +kernel)
theorem prq3 : Pr 1919519569386763 :=
  prime_pock2 (q := 8574133) (s := 127) (a := 2) (by decide) (by decide +kernel) p8574133 p127 (by decide) (by decide +kernel) (by decide +kernel) (by decide +kernel) (by decide +kernel) (by decide +kernel) (by decide +kernel)
theorem prq2 : Pr 75445702479781427272750846543864801 :=
  prime_pock2 (q := 1919519569386763) (s := 75707) (a := 2) (by decide) (by decide +kernel) prq3 p75707 (by decide) (by decide +kernel) (by decide +kernel) (by decide +kernel) (by decide +kernel) (by decide +kernel) (by decide +kernel)
theorem prq1 : Pr 74058212732561358302231226437062788676166966415465897661863160754340907 :=
  prime_pock2 (q := 75445702479781427272750846543864801) (s := 1923133) (a := 2) (by decide) (by decide +kernel) prq2 p1923133 (by decide) (by decide +kernel) (by decide +kernel) (by decide +kernel) (by decide +kernel) (by decide +kernel) (by decide +kernel)
def P25 : Nat := 57896044618658097711785492504343953926634992332820282019728792003956564819949
theorem prP : Pr P25 :=
  prime_pock1 (q := 74058212732561358302231226437062788676166966415465897661863160754340907) (a := 2) (by decide +kernel) (by decide +kernel) prq1 (by decide +kernel) (by decide +kernel) (by decide +kernel) (by decide +kernel)
end Go.Proofs.YtmhfkabpfkoocaaDoor

/-
  Numbers of four words in blocks of the call's own. By an AI agent.
-/
namespace Go.Proofs.YtmhfkabpfkoocaaDoor
open Go Go.RowKit
/-- The block 'g', which the call made (from 'B' on), holds the number x. -/
def O4 (w : World) (B g x : Nat) : Prop := OwnF w B 65 (some ⟨g, 0, none⟩) 4 4 (wv x)
section
variable {w w' : World} {B g x : Nat}
theorem O4.keep (h : O4 w B g x) (hb : Below w.heap.size w w') : O4 w' B g x := OwnF.keep h hb
theorem O4.alloc (h : O4 w B g x) (o : Obj) : O4 (w.alloc o) B g x := OwnF.keep h ((Below.refl _ w).alloc (Nat.le_refl _) o)
theorem O4.new (hB : B ≤ w.heap.size) (x : Nat) : O4 (w.alloc (A4 x)) B w.heap.size x := own_A4 hB x
theorem O4.drew (h : O4 w B g x) : O4 w.drew B g x := OwnF.drew h
theorem O4.lt (h : O4 w B g x) : g < w.heap.size := OwnF.lt h
theorem O4.ge (h : O4 w B g x) : B ≤ g := OwnF.ge h
theorem O4.mono {B' : Nat} (h : O4 w B g x) (hb : B' ≤ B) : O4 w B' g x := OwnF.mono h hb
theorem O4.c4 (h : O4 w B g x) : w.cell? ⟨g, 0, none⟩ = some (.int .u64 (wd x 0 : Int)) ∧ w.cell? ⟨g, 1, none⟩ = some (.int .u64 (wd x 1 : Int)) ∧ w.cell? ⟨g, 2, none⟩ = some (.int .u64 (wd x 2 : Int)) ∧ w.cell? ⟨g, 3, none⟩ = some (.int .u64 (wd x 3 : Int)) :=
  ⟨OwnF.cell h (k := 0) (by decide), OwnF.cell h (k := 1) (by decide), OwnF.cell h (k := 2) (by decide), OwnF.cell h (k := 3) (by decide)⟩
theorem O4.f4 (h : O4 w B g x) : w.frozen? ⟨g, 0, none⟩ = false ∧ w.frozen? ⟨g, 1, none⟩ = false ∧ w.frozen? ⟨g, 2, none⟩ = false ∧ w.frozen? ⟨g, 3, none⟩ = false :=
  ⟨OwnF.free h 0, OwnF.free h 1, OwnF.free h 2, OwnF.free h 3⟩
/-- Another number is laid there. -/
def set4w (w : World) (g x : Nat) : World := ((((w.setCell ⟨g, 0, none⟩ (.int .u64 (wd x 0 : Int))).setCell ⟨g, 1, none⟩ (.int .u64 (wd x 1 : Int))).setCell ⟨g, 2, none⟩ (.int .u64 (wd x 2 : Int))).setCell ⟨g, 3, none⟩ (.int .u64 (wd x 3 : Int)))
theorem set4w_below (w : World) (g x : Nat) : Below g w (set4w w g x) :=
  ((((Below.refl g w).setCell (p := ⟨g, 0, none⟩) (Nat.le_refl g) _).setCell (p := ⟨g, 1, none⟩) (Nat.le_refl g) _).setCell (p := ⟨g, 2, none⟩) (Nat.le_refl g) _).setCell (p := ⟨g, 3, none⟩) (Nat.le_refl g) _
theorem put4o {e : TypeId} {f : Nat → Value} (h : OwnF w B e (some ⟨g, 0, none⟩) 4 4 f) (y : Nat) : OwnF (set4w w g y) B e (some ⟨g, 0, none⟩) 4 4 (wv y) := by
  have h4 := (((h.set_ 0 (.int .u64 (wd y 0 : Int))).set_ 1 (.int .u64 (wd y 1 : Int))).set_ 2 (.int .u64 (wd y 2 : Int))).set_ 3 (.int .u64 (wd y 3 : Int))
  refine OwnF.congr h4 fun k hk => ?_
  have : k = 0 ∨ k = 1 ∨ k = 2 ∨ k = 3 := by omega
  rcases this with rfl | rfl | rfl | rfl <;> rfl
theorem O4.put (h : O4 w B g x) (y : Nat) : O4 (set4w w g y) B g y := put4o h y
theorem O4.zput (h : OwnF w B 65 (some ⟨g, 0, none⟩) 4 4 (fun _ => .int .u64 0)) (y : Nat) : O4 (set4w w g y) B g y := put4o h y
theorem other4 {e : TypeId} {n c g' : Nat} {f : Nat → Value} (h : OwnF w B e (some ⟨g, 0, none⟩) c n f) (hg : g' ≠ g) (y : Nat) : OwnF (set4w w g' y) B e (some ⟨g, 0, none⟩) c n f :=
  (((OwnF.other h (p := ⟨g', 0, none⟩) hg _).other (p := ⟨g', 1, none⟩) hg _).other (p := ⟨g', 2, none⟩) hg _).other (p := ⟨g', 3, none⟩) hg _
theorem O4.other {g' : Nat} (h : O4 w B g x) (hg : g' ≠ g) (y : Nat) : O4 (set4w w g' y) B g x := other4 h hg y
theorem set4w_size (w : World) (g x : Nat) : (set4w w g x).heap.size = w.heap.size := by simp [set4w]
theorem O4.below (h : O4 w B g x) (y : Nat) : Below B w (set4w w g y) := (set4w_below w g y).mono h.ge
theorem O4.zero (h : OwnF w B 65 (some ⟨g, 0, none⟩) 4 4 (fun _ => .int .u64 0)) : O4 w B g 0 := h.congr fun k _ => by simp [wv, wd, dgt]
end
theorem A4_zero : Z4 = A4 0 := by simp [wd, dgt]
theorem set4_fold (w : World) (g x : Nat) : ((((w.setCell ⟨g, 0, none⟩ (.int .u64 (wd x 0 : Int))).setCell ⟨g, 1, none⟩ (.int .u64 (wd x 1 : Int))).setCell ⟨g, 2, none⟩ (.int .u64 (wd x 2 : Int))).setCell ⟨g, 3, none⟩ (.int .u64 (wd x 3 : Int))) = set4w w g x := rfl
abbrev lit4 (a b c d : Int) : Value := .agg #[.int .u64 a, .int .u64 b, .int .u64 c, .int .u64 d]
theorem l_prime : nv P25 = lit4 18446744073709551597 18446744073709551615 18446744073709551615 9223372036854775807 := by kernel_rfl
theorem P25_W4 : P25 < W4 := by decide +kernel
theorem O4.out {w : World} {B g x : Nat} (h : O4 w B g x) (y : Nat) : ∃ wz, wz = ((((w.setCell ⟨g, 0, none⟩ (.int .u64 (wd y 0 : Int))).setCell ⟨g, 1, none⟩ (.int .u64 (wd y 1 : Int))).setCell ⟨g, 2, none⟩ (.int .u64 (wd y 2 : Int))).setCell ⟨g, 3, none⟩ (.int .u64 (wd y 3 : Int))) ∧
    O4 wz B g y ∧ Below B w wz ∧ wz.heap.size = w.heap.size := ⟨_, rfl, h.put y, h.below y, set4w_size w g y⟩
/-- The result's block, behind a call that came after some boxes. -/
theorem zres1 {w w1 : World} (h : Below (w.alloc Z4).heap.size (w.alloc Z4) w1) : O4 w1 w.heap.size w.heap.size 0 ∧ Below w.heap.size w w1 :=
  ⟨(O4.zero (own_Z4 (w := w) (Nat.le_refl _))).keep h, ((Below.refl _ w).alloc (Nat.le_refl _) Z4).trans (h.mono (by simp))⟩
theorem zres2 {w w1 : World} {X : Obj} (h : Below ((w.alloc X).alloc Z4).heap.size ((w.alloc X).alloc Z4) w1) : O4 w1 w.heap.size (w.heap.size + 1) 0 ∧ Below w.heap.size w w1 := by
  have s1 : (w.alloc X).heap.size = w.heap.size + 1 := by simp
  have o := (O4.zero (own_Z4 (w := w.alloc X) (Nat.le_refl _))).keep h
  rw [s1] at o
  exact ⟨o.mono (by omega), (((Below.refl _ w).alloc (Nat.le_refl _) X).alloc (by omega) Z4).trans (h.mono (by simp; omega))⟩
theorem zres3 {w w1 : World} {X Y : Obj} (h : Below (((w.alloc X).alloc Y).alloc Z4).heap.size (((w.alloc X).alloc Y).alloc Z4) w1) : O4 w1 w.heap.size (w.heap.size + 2) 0 ∧ Below w.heap.size w w1 := by
  have s1 : ((w.alloc X).alloc Y).heap.size = w.heap.size + 2 := by simp
  have o := (O4.zero (own_Z4 (w := (w.alloc X).alloc Y) (Nat.le_refl _))).keep h
  rw [s1] at o
  exact ⟨o.mono (by omega), ((((Below.refl _ w).alloc (Nat.le_refl _) X).alloc (by simp) Y).alloc (by omega) Z4).trans (h.mono (by simp; omega))⟩
/-- The first box, the second one, behind a call. -/
theorem box1 {w w1 : World} {x : Nat} {Y : Obj} (h : Below ((w.alloc (A4 x)).alloc Y).heap.size ((w.alloc (A4 x)).alloc Y) w1) : O4 w1 w.heap.size w.heap.size x :=
  ((O4.new (w := w) (Nat.le_refl _) x).alloc Y).keep h
theorem box13 {w w1 : World} {x : Nat} {Y Z : Obj} (h : Below (((w.alloc (A4 x)).alloc Y).alloc Z).heap.size (((w.alloc (A4 x)).alloc Y).alloc Z) w1) : O4 w1 w.heap.size w.heap.size x :=
  (((O4.new (w := w) (Nat.le_refl _) x).alloc Y).alloc Z).keep h
theorem box23 {w w1 : World} {y : Nat} {X Z : Obj} (h : Below (((w.alloc X).alloc (A4 y)).alloc Z).heap.size (((w.alloc X).alloc (A4 y)).alloc Z) w1) : O4 w1 w.heap.size (w.heap.size + 1) y := by
  have s1 : (w.alloc X).heap.size = w.heap.size + 1 := by simp
  have o := ((O4.new (w := w.alloc X) (Nat.le_refl _) y).alloc Z).keep h
  rw [s1] at o
  exact o.mono (by omega)
theorem keepZ {W w' : World} (h : Below (W.alloc Z4).heap.size (W.alloc Z4) w') : O4 w' W.heap.size W.heap.size 0 := (O4.zero (own_Z4 (w := W) (Nat.le_refl _))).keep h
theorem keepZd {W w' : World} (h : Below (W.alloc Z4).drew.heap.size (W.alloc Z4).drew w') : O4 w' W.heap.size W.heap.size 0 := ((O4.zero (own_Z4 (w := W) (Nat.le_refl _))).drew).keep h
theorem keep4 {w : World} {B g x : Nat} (h : O4 w B g x) : ∀ wz, Below w.heap.size w wz → wz.cell? ⟨g, 0, none⟩ = some (.int .u64 (wd x 0 : Int)) ∧ wz.cell? ⟨g, 1, none⟩ = some (.int .u64 (wd x 1 : Int)) ∧ wz.cell? ⟨g, 2, none⟩ = some (.int .u64 (wd x 2 : Int)) ∧ wz.cell? ⟨g, 3, none⟩ = some (.int .u64 (wd x 3 : Int)) := fun _ hz => (h.keep hz).c4
theorem keep44 {w : World} {B g x g' x' : Nat} (h : O4 w B g x) (h' : O4 w B g' x') : ∀ wz, Below w.heap.size w wz → wz.cell? ⟨g, 0, none⟩ = some (.int .u64 (wd x 0 : Int)) ∧ wz.cell? ⟨g, 1, none⟩ = some (.int .u64 (wd x 1 : Int)) ∧ wz.cell? ⟨g, 2, none⟩ = some (.int .u64 (wd x 2 : Int)) ∧ wz.cell? ⟨g, 3, none⟩ = some (.int .u64 (wd x 3 : Int)) ∧ wz.cell? ⟨g', 0, none⟩ = some (.int .u64 (wd x' 0 : Int)) ∧ wz.cell? ⟨g', 1, none⟩ = some (.int .u64 (wd x' 1 : Int)) ∧ wz.cell? ⟨g', 2, none⟩ = some (.int .u64 (wd x' 2 : Int)) ∧ wz.cell? ⟨g', 3, none⟩ = some (.int .u64 (wd x' 3 : Int)) := fun wz hz => by
  obtain ⟨a0, a1, a2, a3⟩ := (h.keep hz).c4
  obtain ⟨b0, b1, b2, b3⟩ := (h'.keep hz).c4
  exact ⟨a0, a1, a2, a3, b0, b1, b2, b3⟩
end Go.Proofs.YtmhfkabpfkoocaaDoor

/-
  A region that draws its order, whose operations each yield one value in every world that meets S, and keep S; a tail that waits for all of them: one order is enough. Of no program. By an AI agent.
-/
namespace Go.Proofs.YtmhfkabpfkoocaaDoor
open Go Go.RowKit
section
variable {P : Program} {ops : Array Oper} {md : Region.Mode} {S : World → Prop}
/-- In state a, in every world that meets S, the operation leaves v in its slot, and S holds behind it. -/
def Gives (P : Program) (ops : Array Oper) (S : World → Prop) (o : Oper) (v : Value) (a : Act) : Prop :=
  (Region.wanted o (yielded ops a.tmps) = true ∧ ∀ w, S w → (execOp a.eval o).run P w = .ok (.value v) w ∨ ∃ f args, (execOp a.eval o).run P w = .ok (.enter f args) w ∧ Calls P f args w (fun e w' => e = .returned v ∧ S w')) ∨
  (Region.wanted o (yielded ops a.tmps) = false ∧ v = undef)
theorem Gives.same {o : Oper} {v : Value} {a a' : Act} (h : Gives P ops S o v a) (he : execOp a'.eval o = execOp a.eval o) (hw : Region.wanted o (yielded ops a'.tmps) = Region.wanted o (yielded ops a.tmps)) : Gives P ops S o v a' := by
  unfold Gives at *
  rw [he, hw]
  exact h
theorem Gives.wpOp {Q : Exit → Act → World → Prop} {i : Nat} {o : Oper} {v : Value} {a : Act} (hi : ops[i]? = some o) (h : Gives P ops S o v a) {K : Act → World → Prop} {w : World} (hS : S w) (hK : ∀ w', S w' → K (a.put o.dst v) w') : wpOp P ops Q i K a w := by
  unfold Go.wpOp
  simp only [hi]
  rcases h with ⟨hw, hv⟩ | ⟨hw, rfl⟩
  · rw [if_pos hw]
    refine .inl ?_
    unfold Oper.wp
    rcases hv w hS with hv | ⟨f, args, hv, hc⟩
    · rw [hv]; exact hK w hS
    · rw [hv]
      refine hc.mono ?_
      rintro e w' ⟨rfl, hS'⟩
      exact hK w' hS'
  · rw [hw]; exact hK w hS
/-- The operations in the order of the text: each gives its value; then Lq. -/
def Seq (P : Program) (ops : Array Oper) (S : World → Prop) (Lq : Act → Prop) : List Oper → Act → Prop
  | [], a => Lq a
  | o :: l, a => ∃ v, Gives P ops S o v a ∧ Seq P ops S Lq l (a.put o.dst v)
/-- In whatever order. -/
def AnyS (P : Program) (md : Region.Mode) (ops : Array Oper) (S : World → Prop) (n : Nat) (L : Array Bool → Act → Prop) : Nat → Array Bool → Act → Prop
  | 0, listed, a => L listed a
  | f + 1, listed, a => Region.ready md ops listed ≠ [] ∧ ∀ i ∈ Region.ready md ops listed, i < n ∧ ∃ o v, ops[i]? = some o ∧ Gives P ops S o v a ∧ AnyS P md ops S n L f (listed.setIfInBounds i true) (a.put o.dst v)
theorem AnyS.any {Q : Exit → Act → World → Prop} {n g : Nat} {L : Array Bool → Act → Prop} (hL : ∀ listed a, L listed a → ∀ w, S w → wpAny P md ops Q g listed a w) :
    ∀ (f : Nat) (listed : Array Bool) (a : Act), AnyS P md ops S n L f listed a → ∀ w, S w → wpAny P md ops Q (f + g) listed a w
  | 0, listed, a, h, w, hS => by rw [Nat.zero_add]; exact hL _ _ h w hS
  | f + 1, listed, a, h, w, hS => by
    rw [show f + 1 + g = (f + g) + 1 by omega]
    refine ⟨fun h0 => absurd h0 h.1, fun i hi => ?_⟩
    obtain ⟨_, o, v, ho, hg, hr⟩ := h.2 i hi
    exact hg.wpOp ho hS fun w' hS' => AnyS.any hL f _ _ hr w' hS'
theorem AnyS.first {n i : Nat} {oi : Oper} {v : Value} {L : Array Bool → Act → Prop} (hi : ops[i]? = some oi) (hsel : Region.noSelect ops = true)
    (hs : Region.sinkB md ops n = true) (hc : Region.chainB md ops n = true) (hn : n < ops.size) (hin : i < n) (hdone : ∀ listed a, L listed a → ∀ j ∈ Region.ready md ops listed, n ≤ j) :
    ∀ (f : Nat) (listed : Array Bool) (a : Act), HeadInv md ops n listed →
      (∀ j oj, ops[j]? = some oj → j ≠ i → listed.getD j true = false → (∀ e ∈ oj.after, Region.binds md e = true → e.on ≠ i) → oi.apart ops oj = true) →
      i ∈ Region.ready md ops listed → Gives P ops S oi v a → AnyS P md ops S n L f (listed.setIfInBounds i true) (a.put oi.dst v) → AnyS P md ops S n L (f + 1) listed a := by
  intro f
  induction f with
  | zero =>
    intro listed a inv _ hr hy H
    have hun := (mem_ready.1 hr).1
    refine ⟨fun h => (by rw [h] at hr; cases hr), fun j hj => ?_⟩
    have hjn : j < n := Nat.lt_of_not_le fun h => tail_waits hs hc hn inv _ i rfl hin hun j h hj
    by_cases hji : j = i
    · subst hji; exact ⟨hjn, oi, v, hi, hy, H⟩
    · have := hdone _ _ H j (ready_mono hj hji)
      omega
  | succ f ih =>
    intro listed a inv hfree hr hy H
    have hun := (mem_ready.1 hr).1
    refine ⟨fun h => (by rw [h] at hr; cases hr), fun j hj => ?_⟩
    have hjn : j < n := Nat.lt_of_not_le fun h => tail_waits hs hc hn inv _ i rfl hin hun j h hj
    by_cases hji : j = i
    · subst hji; exact ⟨hjn, oi, v, hi, hy, H⟩
    · obtain ⟨_, o', u, ho', hu, hrest⟩ := H.2 j (ready_mono hj hji)
      obtain ⟨hjun, oj, hoj, hall⟩ := mem_ready.1 hj
      obtain rfl : o' = oj := Option.some.inj (ho'.symm.trans hoj)
      have hnot : ∀ e ∈ o'.after, Region.binds md e = true → e.on ≠ i := fun e he hb heq => by
        have h1 := hall e he hb
        rw [heq, getD_both hun] at h1
        cases h1
      obtain ⟨h1, h2, h3⟩ := Oper.apart_spec (hfree j o' hoj hji hjun hnot)
      have hsj := Region.noSelect_spec hsel j o'
      have hsi := Region.noSelect_spec hsel i oi
      refine ⟨hjn, o', u, hoj, hu.same (execOp_put o' (fun cs b => hsj cs b hoj) a oi.dst v h1).symm (wanted_put o' a oi.dst v h1).symm, ?_⟩
      refine ih (listed.setIfInBounds j true) _ (inv.set hj hjn) (fun k ok hk hki hunk hno => ?_) (ready_mono hr (Ne.symm hji)) (hy.same (execOp_put oi (fun cs b => hsi cs b hi) a o'.dst u h3) (wanted_put oi a o'.dst u h3)) ?_
      · refine hfree k ok hk hki ?_ hno
        by_cases hjk : j = k
        · subst hjk; exact hjun
        · rw [getD_set_ne true hjk] at hunk; exact hunk
      · rw [Array.setIfInBounds_comm _ _ hji, ← Act.put_comm a v u h2]
        exact hrest
theorem AnyS.lex {n g : Nat} {Lq : Act → Prop} (hsel : Region.noSelect ops = true) (hs : Region.sinkB md ops n = true) (hc : Region.chainB md ops n = true) (hn : n < ops.size) :
    ∀ (l : List Oper) (k : Nat) (listed : Array Bool) (a : Act), (∀ j, j < l.length → l[j]? = ops[k + j]?) → k + l.length = n → HeadInv md ops n listed →
    Region.lexHead md ops g l.length k listed = true → Seq P ops S Lq l a → AnyS P md ops S n (fun listed' a' => Region.seqB md ops g n listed' = true ∧ Lq a') l.length listed a
  | [], k, listed, a, _, hk, _, hB, h => by
    obtain rfl : k = n := by simpa using hk
    exact ⟨by simpa [Region.lexHead] using hB, h⟩
  | o :: l, k, listed, a, hl, hk, inv, hB, h => by
    have h0 : ops[k]? = some o := by simpa using (hl 0 (by simp)).symm
    simp only [List.length_cons, Region.lexHead, Bool.and_eq_true] at hB
    obtain ⟨⟨hr, hf⟩, hB'⟩ := hB
    have hkn : k < n := by simp only [List.length_cons] at hk; omega
    have hr' : k ∈ Region.ready md ops listed := by simpa using hr
    obtain ⟨v, hy, hK⟩ := h
    exact AnyS.first h0 hsel hs hc hn hkn (fun listed' a' hL => seqB_ready hL.1) l.length listed a inv (Region.free_spec h0 hf) hr' hy
      (AnyS.lex hsel hs hc hn l (k + 1) _ _ (fun j hj => by have := hl (j + 1) (by simp; omega); simpa [Nat.add_assoc, Nat.add_comm 1 j] using this) (by simp only [List.length_cons] at hk; omega) (inv.set hr' hkn) hB' hK)
theorem wp_region_seq {id : Nat} {Q : Exit → Act → World → Prop} {a : Act} {w : World} {l : List Oper} (n : Nat) (S : World → Prop) (hm : P.follows .mixedOrders = true) (hB : Region.lexTailB .any l.toArray n = true) (hS : S w.drew)
    (h : Seq P l.toArray S (fun a' => ∀ w', S w' → wpList P l.toArray Q (l.drop n) a' w') (l.take n) a) : (Code.region id l.toArray true).wp P Q a w := by
  simp only [Region.lexTailB, Bool.and_eq_true, decide_eq_true_eq] at hB
  obtain ⟨⟨⟨⟨hsel, hn⟩, hs⟩, hc⟩, hlex⟩ := hB
  have hn' : n < l.length := by simpa using hn
  have htl : (l.take n).length = n := by simp; omega
  have inv0 : HeadInv .any l.toArray n (Array.replicate l.toArray.size false) :=
    ⟨by simp, fun j oj _ hl => (by rw [getD_replicate_false] at hl; cases hl), fun t _ ht => getD_in (by simpa using ht) (getD_replicate_false _ _)⟩
  have H := AnyS.lex (md := .any) (g := l.toArray.size - n) hsel hs hc hn (l.take n) 0 _ a (fun j hj => by
    have hj' : j < n := by rw [htl] at hj; exact hj
    simp [hj']) (by simpa using htl) inv0 (by rw [htl]; exact hlex) h
  refine wp_region_any hm ?_
  have H2 := AnyS.any (Q := Q) (g := l.toArray.size - n) (fun listed a' hL w' hS' => by
    have := wpAny_of_seq (P := P) (md := .any) (ops := l.toArray) (Q' := Q) (l.drop n) n listed a' w' (fun j => by simp) (by simpa using hL.1) (hL.2 w' hS')
    simpa using this) _ _ _ H w.drew hS
  rw [htl, show n + (l.toArray.size - n) = l.toArray.size by simp; omega] at H2
  exact H2
theorem Seq.nil {Lq : Act → Prop} {a : Act} (h : Lq a) : Seq P ops S Lq [] a := h
theorem Seq.run {Lq : Act → Prop} {a : Act} {o : Oper} {l : List Oper} (v : Value) (hg : o.guard = none) (hv : ∀ w, S w → (execOp a.eval o).run P w = .ok (.value v) w) (h : Seq P ops S Lq l (a.put o.dst v)) : Seq P ops S Lq (o :: l) a :=
  ⟨v, .inl ⟨by simp [Region.wanted, hg], fun w hS => .inl (hv w hS)⟩, h⟩
theorem Seq.call {Lq : Act → Prop} {a : Act} {o : Oper} {l : List Oper} (v : Value) (f : FuncId) (args : Array Value) (hg : o.guard = none) (hv : ∀ w, S w → (execOp a.eval o).run P w = .ok (.enter f args) w) (hc : ∀ w, S w → Calls P f args w fun e w' => e = .returned v ∧ S w')
    (h : Seq P ops S Lq l (a.put o.dst v)) : Seq P ops S Lq (o :: l) a :=
  ⟨v, .inl ⟨by simp [Region.wanted, hg], fun w hS => .inr ⟨f, args, hv w hS, hc w hS⟩⟩, h⟩
end
theorem nv_small {x : Nat} (h : x < 18446744073709551616) : nv x = lit4 x 0 0 0 := by
  have h0 : wd x 0 = x := by unfold wd dgt; rw [Nat.pow_zero, Nat.div_one, Nat.mod_eq_of_lt h]
  have hk : ∀ k, 1 ≤ k → wd x k = 0 := fun k hk => dgt_zero_of_lt (Nat.lt_of_lt_of_le h (by have := Nat.pow_le_pow_right (n := 18446744073709551616) (by decide) hk; rwa [Nat.pow_one] at this))
  unfold nv
  rw [h0, hk 1 (by omega), hk 2 (by omega), hk 3 (by omega)]
  rfl
theorem nv_z : nv 0 = lit4 0 0 0 0 := nv_small (by decide)
theorem vb_lt {bs : List UInt8} (h : bs.length = 32) : vb bs < W4 := by
  have := vk_lt bs bs.length
  rw [h] at this
  unfold vb
  rw [h]
  exact Nat.lt_of_lt_of_eq this (by decide +kernel)
end Go.Proofs.YtmhfkabpfkoocaaDoor
