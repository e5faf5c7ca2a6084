/-
  octet.Equal (layer 1). By an AI agent.
-/
import Derived.Test.YtmhfkabpfkoocaaDoorMA
import Derived.BigQuiet
namespace Go.Proofs.YtmhfkabpfkoocaaDoor
open Go Go.RowKit
/-- Are two lists of bytes the same? -/
def sameB (xs ys : List UInt8) : Bool := decide (xs = ys)
theorem sameB_iff {xs ys : List UInt8} : sameB xs ys = true ↔ xs = ys := by simp [sameB]
/-- What the loop of Equal has gathered behind k rounds. -/
def unl (xs ys : List UInt8) : Nat → Nat
  | 0 => 0
  | k + 1 => unl xs ys k ||| (nth xs k ^^^ nth ys k)
theorem unl_lt (xs ys : List UInt8) : ∀ k, unl xs ys k < 256
  | 0 => by simp [unl]
  | k + 1 => by
    have := nth_lt xs k
    have := nth_lt ys k
    exact Nat.or_lt_two_pow (n := 8) (unl_lt xs ys k) (Nat.xor_lt_two_pow (by omega) (by omega))

theorem nxor_zero {a b : Nat} : a ^^^ b = 0 ↔ a = b := by
  constructor
  · intro h
    have : a ^^^ b ^^^ b = 0 ^^^ b := by rw [h]
    simpa [Nat.xor_assoc] using this
  · rintro rfl; simp
theorem unl_zero (xs ys : List UInt8) : ∀ n, unl xs ys n = 0 ↔ ∀ k, k < n → nth xs k = nth ys k
  | 0 => by simp [unl]
  | n + 1 => by
    rw [unl, Nat.or_eq_zero_iff, unl_zero xs ys n, nxor_zero]
    constructor
    · rintro ⟨h1, h2⟩ k hk
      by_cases hkn : k = n
      · subst hkn; exact h2
      · exact h1 k (by omega)
    · exact fun h => ⟨fun k hk => h k (by omega), h n (by omega)⟩
theorem same_unl {xs ys : List UInt8} (hn : xs.length = ys.length) : ((unl xs ys xs.length : Int) == 0) = sameB xs ys := by
  rw [Bool.eq_iff_iff, sameB_iff]
  have := unl_zero xs ys xs.length
  constructor
  · intro h
    have h' : unl xs ys xs.length = 0 := by simpa using h
    exact nth_ext hn (this.1 h')
  · rintro rfl
    have h' := this.2 fun _ _ => rfl
    simp [h']

set_option maxHeartbeats 400000 in
theorem octEqual {A1 A2 : Option Addr} {c1 c2 B1 B2: Nat} {xs ys : List UInt8} (w : World) (h1 : Rd w B1 A1 c1 xs) (h2 : Rd w B2 A2 c2 ys) (hl : xs.length ≤ 140737488355328) :
    Calls Tryd.prog 24 #[.slice A1 xs.length c1, .slice A2 ys.length c2] w fun e w' => e = .returned (.bool (sameB xs ys)) ∧ ∃ n, w' = w.drewN n := by
  by_cases hn : xs.length = ys.length
  · have ht : ((xs.length : Int) != (ys.length : Int)) = false := by simp [hn]
    have HN := Lib.hid hn
    clear hn
    go_enter Tryd.func24, Tryd.ntmps24
    go_wp2
    go_loopw [5, 14] (fun u i wr => ∃ k : Nat, k ≤ xs.length ∧ i = .int .i64 k ∧ u = .int .u8 (unl xs ys k) ∧ ∃ n, wr = w.drewN n) (fun _ i _ => xs.length - (intOf i).toNat)
    case atStart => exact ⟨0, Nat.zero_le _, rfl, rfl, 0, rfl⟩
    case round =>
      obtain ⟨k, hk, rfl, rfl, n, rfl⟩ := hrel
      by_cases hlt : k < xs.length
      · obtain ⟨b1, o1, rfl, _, e1⟩ := h1.at_ hlt
        obtain ⟨b2, o2, rfl, _, e2⟩ := h2.at_ (by rw [← HN.out]; exact hlt)
        have g1 : (k : Int) < (xs.length : Int) := by omega
        have g2 : (k : Int) < (ys.length : Int) := by have := HN.out; omega
        go_wp2
        go_quiet (fail)
        go_wp2
        go_roundw
        case rel =>
          refine ⟨k + 1, by omega, by go_num, ?_, n + nq, rfl⟩
          have a1 := nth_lt xs k
          have a2 := nth_lt ys k
          rw [u8_xor_nat _ _ a1 a2, u8_or_nat _ _ (unl_lt xs ys k) (Nat.xor_lt_two_pow (n := 8) (by omega) (by omega))]
          rfl
        case measure => simp [intOf]; omega
      · go_wp2
        go_ret
        have hk' : k = xs.length := by omega
        subst hk'
        exact ⟨congrArg (fun b => Ending.returned (.bool b)) (same_unl HN.out), n, rfl⟩
  · have ht : ((xs.length : Int) != (ys.length : Int)) = true := by simp; omega
    go_enter Tryd.func24, Tryd.ntmps24
    go_wp2
    go_ret
    exact ⟨congrArg (fun b => Ending.returned (.bool b)) (by rw [sameB, eq_comm, decide_eq_false_iff_not]; rintro rfl; exact hn rfl), 0, rfl⟩
end Go.Proofs.YtmhfkabpfkoocaaDoor
