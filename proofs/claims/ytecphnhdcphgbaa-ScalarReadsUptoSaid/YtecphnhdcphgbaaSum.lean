import Derived.Test.YtecphnhdcphgbaaWide
namespace Go.Proofs.Ytecphnhdcphgbaa
open Go Go.RowKit
theorem DOwn.trim {w : World} {B B' n n' c x : Nat} {A : Option Addr} (h : OwnF w B 3 A c n (dg8 x)) (hB : B' ≤ B) (hn : n' ≤ n) (hx : x < 256 ^ n') (hc : Can n' x) : DOwn w B' A c n' x := ⟨(h.mono hB).take hn, hx, hc⟩
/-- What is carried into byte k of a sum; the sum of the bytes with it. -/
def c8 (x y k : Nat) : Nat := cry 256 x y k
def t8 (x y k : Nat) : Nat := by8 x k + by8 y k + c8 x y k
theorem c8_le (x y k : Nat) : c8 x y k ≤ 1 := cry_le (by decide) _ _ _
theorem t8_le (x y k : Nat) : t8 x y k ≤ 511 := by
  have h1 := by8_lt x k
  have h2 := by8_lt y k
  have h3 := c8_le x y k
  unfold t8; omega
theorem t8_mod (x y k : Nat) : t8 x y k % 256 = by8 (x + y) k := (dgt_add (b := 256) (by decide) x y k).symm
theorem t8_div (x y k : Nat) : t8 x y k / 256 = c8 x y (k + 1) := (cry_succ (b := 256) (by decide) x y k).symm
theorem wrap3 {p q r : Nat} (hp : p < 256) (hq : q < 256) (hr : r ≤ 1) : IntKind.i64.wrap ((p : Int) + (q : Int)) = (p : Int) + (q : Int) ∧ IntKind.i64.wrap ((p : Int) + (q : Int) + (r : Int)) = ((p + q + r : Nat) : Int) := by
  constructor
  · rw [IntKind.wrap_i64]; omega
  · rw [IntKind.wrap_i64]; omega
theorem nmod {a b : Nat} (h : a % 256 = b) : (a : Int).tmod 256 = (b : Int) ∧ (a : Int) % 256 = (b : Int) := by
  refine ⟨?_, by omega⟩
  rw [Int.tmod_eq_emod_of_nonneg (by omega)]; omega
theorem ndiv {a b : Nat} (h : a / 256 = b) : (a : Int).tdiv 256 = (b : Int) ∧ (a : Int) / 256 = (b : Int) := by
  refine ⟨?_, by omega⟩
  rw [Int.tdiv_eq_ediv_of_nonneg (by omega)]; omega
set_option maxHeartbeats 400000 in
theorem sum_any {A A' : Option Addr} {B c c' n n' x y : Nat} (w : World) (h : Dig w B A c n x) (h' : Dig w B A' c' n' y) (hB : B ≤ w.heap.size) (hn : n ≤ 1000) (hn' : n' ≤ 1000) :
    Calls Try.prog 45 #[.slice A n c, .slice A' n' c'] w fun e w' => ∃ A c n, e = .returned (.slice A n c) ∧ DOwn w' w.heap.size A c n (x + y) ∧ Below w.heap.size w w' := by
  obtain ⟨i0, hi, hz0, hz1, hz2⟩ := info_parts infoInt
  obtain ⟨N, hN⟩ : ∃ N, N = max n n' := ⟨_, rfl⟩
  have hmax : (if n < n' then (n' : Int) else (n : Int)) = (N : Int) := by split <;> omega
  have hxN : x < 256 ^ N := Nat.lt_of_lt_of_le h.lt (Nat.pow_le_pow_right (by decide) (by omega))
  have hyN : y < 256 ^ N := Nat.lt_of_lt_of_le h'.lt (Nat.pow_le_pow_right (by decide) (by omega))
  have hNb : N ≤ 1000 := by omega
  have HN := Lib.hid hN
  clear hN
  go_enter Try.func45, Try.ntmps45
  go_wp2_with fail
  go_loopw [5, 6, 7] (fun v cc i wr => ∃ k : Nat, k ≤ N + 1 ∧ i = .int .i64 k ∧ cc = .int .i64 (c8 x y k : Int) ∧ (∃ A c, v = .slice A k c ∧ OwnF wr w.heap.size 3 A c k (dg8 (x + y))) ∧ Below w.heap.size w wr)
    (fun _ _ i _ => N + 1 - (intOf i).toNat)
  case atStart => exact ⟨0, by omega, rfl, by rw [show c8 x y 0 = 0 from cry_zero _ _ _]; rfl, ⟨none, 0, rfl, OwnF.nothing _ _ _ _⟩, Below.refl _ _⟩
  case round =>
    obtain ⟨k, hk, rfl, rfl, ⟨Av, cv, rfl, ow⟩, hb⟩ := hrel
    by_cases hlt : k ≤ N
    · have g1 : (k : Int) ≤ (N : Int) := by omega
      have ha := h.keep (hb.mono hB)
      have ha' := h'.keep (hb.mono hB)
      have ha1 := Lib.hid ha
      have ha2 := Lib.hid ha'
      obtain ⟨h1, ht⟩ := wrap3 (by8_lt x k) (by8_lt y k) (c8_le x y k)
      rw [← show t8 x y k = by8 x k + by8 y k + c8 x y k from rfl] at ht
      obtain ⟨e1, e1'⟩ := nmod (t8_mod x y k)
      obtain ⟨e2, e2'⟩ := ndiv (t8_div x y k)
      have e3 : IntKind.i64.wrap (c8 x y (k + 1) : Int) = (c8 x y (k + 1) : Int) := by have := c8_le x y (k + 1); rw [IntKind.wrap_i64]; omega
      have hv : Value.int .i64 (by8 (x + y) k : Int) = dg8 (x + y) k := rfl
      have HV := Lib.hid hv
      clear hv ha ha'
      go_wp2_with fail
      go_at_call 43
      refine (at_any _ ha1.out k).mono ?_
      rintro e w' ⟨rfl, rfl⟩
      go_wp2_with fail
      go_at_call 43
      refine (at_any _ ha2.out k).mono ?_
      rintro e w' ⟨rfl, rfl⟩
      go_wp2_with (at_builtin; refine wpList_appF1 _ rfl (.tmp 27) (.tmp 30) _ rfl w.heap.size 3 i0 _ Try.underlying29 hi hz0 hz1 hz2 (by decide) rfl rfl ow HV.out rfl rfl (by omega) (by omega) hb.size ?_; intro A' c' w' ho' hb')
      refine ⟨⟨k + 1, by omega, by go_num, rfl, ⟨A', c', rfl, ho'⟩, hb.trans hb'⟩, by simp [intOf]; omega⟩
    · have hk' : k = N + 1 := by omega
      subst hk'
      have g1 : ¬ ((N : Int) + 1) ≤ (N : Int) := by omega
      have hlt : x + y < 256 ^ (N + 1) := by rw [Nat.pow_succ]; omega
      go_wp2_with fail
      go_at_call 40
      refine (trim_any (x := x + y) _ ⟨ow.rd, hlt⟩ (by omega)).mono ?_
      rintro e w1 ⟨n', hn', rfl, hx', hc, rfl⟩
      go_wp2
      go_ret
      exact ⟨Av, cv, n', rfl, DOwn.trim ow (Nat.le_refl _) hn' hx' hc, hb⟩
end Go.Proofs.Ytecphnhdcphgbaa
