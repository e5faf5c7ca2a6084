import Derived.Test.YtifcjfeepgfmfaaDoorLSquares
import Derived.Test.YtifcjfeepgfmfaaDoorFerm2
import Derived.Test.YtifcjfeepgfmfaaDoorLUndoneW
namespace Go.Proofs.YtifcjfeepgfmfaaDoor
open Go Go.RowKit
theorem root_to {x r : Nat} {p q : Bool} {F : FuncId} {args : Array Value} {w : World} {y : Nat} (hx : x = r) (hp : p = q) (h : Calls Tryd.prog F args w fun e w' => e = .returned (.tuple #[nv x, .bool p]) ∧ Below w.heap.size w w') : Calls Tryd.prog F args w fun e w' => e = .returned (.tuple #[nv r, .bool q]) ∧ Below w.heap.size w w' := by
  subst hx hp; exact h
theorem rtq_bool (y : Nat) {q : Bool} (h : HasRoot y ↔ q = true) : decide (rtq y = 1) = q := by
  have h1 := (rtq_iff y).trans h
  cases q
  · exact decide_eq_false fun h2 => absurd (h1.1 h2) (by decide)
  · exact decide_eq_true (h1.2 rfl)
theorem squares_law {a b : Nat} (ha : a < W4) (hb : b < W4) (w : World) (hG : Glb w) :
    Calls Tryd.prog 11 #[nv a, nv b] w fun e w' => e = .returned (.bool true) ∧ Below w.heap.size w w' := by
  have hm : HasRoot (a * a % P25) := ⟨a, rfl⟩
  have hmm : a * a % P25 % P25 = a * a % P25 := Nat.mod_mod _ _
  have hx : a % P25 < P25 := Nat.mod_lt _ P25_pos
  have hnW : fsub 0 a < W4 := by unfold fsub; exact red_W4 _
  have hnP : fsub 0 a < P25 := by unfold fsub; exact Nat.mod_lt _ P25_pos
  have hnm : fsub 0 a % P25 = fsub 0 a := Nat.mod_eq_of_lt hnP
  have hrr : rt2 (a * a % P25) * rt2 (a * a % P25) % P25 = a * a % P25 := rt2_sq hm
  have hev : wd (rt2 (a * a % P25)) 0 % 2 = 0 := by rw [wd_par]; exact rt2_even _
  have hpst : (!decide (rtq (a % P25) = 1) || !decide (rtq (b % P25) = 1) || decide (rtq (a * b % P25) = 1)) = true := by
    by_cases h1 : rtq (a % P25) = 1
    · by_cases h2 : rtq (b % P25) = 1
      · have h3 := (rtq_iff _).2 (has_mul ((rtq_iff _).1 h1) ((rtq_iff _).1 h2))
        rw [← Nat.mul_mod] at h3
        simp [h3]
      · simp [h2]
    · simp [h1]
  have k2 : ∀ w, Glb w → Calls Tryd.prog 33 #[nv (a * a % P25)] w fun e w' => e = .returned (.tuple #[nv (rt2 (a * a % P25)), .bool true]) ∧ Below w.heap.size w w' := fun w hG => by
    have h := froot_any (red_W4 (a * a)) w hG
    rw [hmm, rtr_sq hm, decide_eq_true ((rtq_iff _).2 hm)] at h
    exact h
  have k6 : ∀ w, Glb w → Calls Tryd.prog 33 #[nv (fsub 0 a)] w fun e w' => e = .returned (.tuple #[nv (rtr (fsub 0 a)), .bool (decide (rtq (a % P25) = 1))]) ∧ Below w.heap.size w w' := fun w hG => by
    have h := froot_any hnW w hG
    rw [hnm, rtq_bool (fsub 0 a) (q := decide (rtq (a % P25) = 1)) (by rw [fneg_mod ha, has_neg_iff hx, ← rtq_iff]; simp)] at h
    exact h
  have k9 : ∀ w, Glb w → Calls Tryd.prog 33 #[nv (a * b % P25)] w fun e w' => e = .returned (.tuple #[nv (rtr (a * b % P25)), .bool (decide (rtq (a * b % P25) = 1))]) ∧ Below w.heap.size w w' := fun w hG => by
    have h := froot_any (red_W4 (a * b)) w hG
    rw [Nat.mod_mod] at h
    exact h
  by_cases hs : rt2 (a * a % P25) = a % P25
  · exact squares_same (rt2_W4 _) (red_W4 _) hev hpst (fun w => fmul_any ha ha w) k2 (fun w => reduce_any ha w) (fun w => fneg_any ha w) (fun w hG => froot_any ha w hG) k6 (fun w hG => froot_any hb w hG) (fun w => fmul_any ha hb w) k9 hs w hG
  · have hn : rt2 (a * a % P25) = fsub 0 a := (root_of ha (rt2_lt _) hrr).resolve_left hs
    exact squares_other (rt2_W4 _) (decide_eq_false hs) (red_W4 _) hev hpst (fun w => fmul_any ha ha w) k2 (fun w => reduce_any ha w) (fun w => fneg_any ha w) (fun w hG => froot_any ha w hG) k6 (fun w hG => froot_any hb w hG) (fun w => fmul_any ha hb w) k9 hn w hG
end Go.Proofs.YtifcjfeepgfmfaaDoor
