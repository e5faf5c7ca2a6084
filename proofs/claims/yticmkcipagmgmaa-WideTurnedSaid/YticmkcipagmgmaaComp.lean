import Derived.Test.YticmkcipagmgmaaEq
namespace Go.Proofs.Yticmkcipagmgmaa
open Go Go.RowKit
theorem own_pair (x y : Nat) (w : World) : OwnF ((w.alloc (A4 x)).alloc (A4 y)) w.heap.size 25 (some ⟨w.heap.size, 0, none⟩) 4 4 (wv x) ∧ OwnF ((w.alloc (A4 x)).alloc (A4 y)) w.heap.size 25 (some ⟨w.heap.size + 1, 0, none⟩) 4 4 (wv y) ∧ Below w.heap.size w ((w.alloc (A4 x)).alloc (A4 y)) := by
  have s1 : (w.alloc (A4 x)).heap.size = w.heap.size + 1 := by simp
  have h1 := (own_A4 (w := w) (B := w.heap.size) (Nat.le_refl _) x).keepAt ((Below.refl (w.heap.size + 1) (w.alloc (A4 x))).alloc (by omega) (A4 y))
  have h2 := own_A4 (w := w.alloc (A4 x)) (B := w.heap.size) (by omega) y
  rw [s1] at h2
  exact ⟨h1, h2, ((Below.refl _ w).alloc (Nat.le_refl _) _).alloc (by omega) _⟩
theorem comp_any (x y : Nat) (hx : x < W4) (hy : y < W4) (w : World) :
    Calls Try.prog 29 #[nv x, nv y] w fun e w' => e = .returned (.int .i64 (if x = y then 0 else if x < y then -1 else 1)) ∧ Below w.heap.size w w' := by
  have hbw := bw_four hx hy
  have heq := eq4 x y hx hy
  obtain ⟨h1, h2, hb⟩ := own_pair x y w
  unfold nv at heq ⊢
  by_cases h : x = y
  · rw [if_pos h]
    have hd : decide (x = y) = true := by simp [h]
    clear h
    go_enter Try.func29, Try.ntmps29
    go_wp2_with fail
    go_ret
    exact ⟨rfl, hb⟩
  · rw [if_neg h]
    have hd : decide (x = y) = false := by simp [h]
    clear h
    by_cases hl : x < y
    · rw [if_pos hl] at hbw ⊢
      have g1 : ((bw x y 4 : Nat) : Int) = 1 := by omega
      go_enter Try.func29, Try.ntmps29
      go_wp2_with (go_at_call 23; refine (sub_any x y hy _).mono ?_; rintro e w1 ⟨rfl, hb1⟩)
      go_ret
      have hs : w.heap.size ≤ w1.heap.size := by have := hb1.size; simp at this; omega
      have hb0 := hb.trans (hb1.mono (by simp; omega))
      exact ⟨rfl, by repeat (first | exact hb0 | (refine Below.setCell ?_ (by first | omega | (simp; done) | (simp; omega)) _) | (refine Below.alloc ?_ (by first | omega | (simp; done) | (simp; omega)) _) | refine Below.drew ?_)⟩
    · rw [if_neg hl] at hbw ⊢
      have g1 : ((bw x y 4 : Nat) : Int) = 0 := by omega
      go_enter Try.func29, Try.ntmps29
      go_wp2_with (go_at_call 23; refine (sub_any x y hy _).mono ?_; rintro e w1 ⟨rfl, hb1⟩)
      go_ret
      have hs : w.heap.size ≤ w1.heap.size := by have := hb1.size; simp at this; omega
      have hb0 := hb.trans (hb1.mono (by simp; omega))
      exact ⟨rfl, by repeat (first | exact hb0 | (refine Below.setCell ?_ (by first | omega | (simp; done) | (simp; omega)) _) | (refine Below.alloc ?_ (by first | omega | (simp; done) | (simp; omega)) _) | refine Below.drew ?_)⟩
end Go.Proofs.Yticmkcipagmgmaa
