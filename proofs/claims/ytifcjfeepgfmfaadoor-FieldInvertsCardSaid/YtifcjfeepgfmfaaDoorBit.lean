import Derived.Test.YtifcjfeepgfmfaaDoorPick
import Derived.Laws.ShiftsVar
namespace Go.Proofs.YtifcjfeepgfmfaaDoor
open Go Go.RowKit
/-- The i-th bit. -/
def bt (x i : Nat) : Nat := x / 2 ^ i % 2
theorem bt_wd (x i : Nat) : wd x (i / 64) / 2 ^ (i % 64) % 2 = bt x i := by
  have h : ∀ y s, s < 64 → (y % 18446744073709551616) / 2 ^ s % 2 = y / 2 ^ s % 2 := fun y s hs => dgt_mod (b := 2) (n := 64) y hs
  unfold wd dgt bt
  rw [h _ _ (by omega), Nat.div_div_eq_div_mul, show (18446744073709551616 : Nat) = 2 ^ 64 from rfl, ← Nat.pow_mul, ← Nat.pow_add, Nat.div_add_mod]
theorem and_one (a s : Nat) (ha : a < 18446744073709551616) : bits .and .u64 ((a : Int) / 2 ^ s) 1 = ((a / 2 ^ s % 2 : Nat) : Int) := by
  have e : (a : Int) / 2 ^ s = ((a / 2 ^ s : Nat) : Int) := by rw [Int.natCast_ediv, Int.natCast_pow]; rfl
  have hl : a / 2 ^ s < 18446744073709551616 := Nat.lt_of_le_of_lt (Nat.div_le_self _ _) ha
  rw [e]
  have := bits_and_u64_nat (a / 2 ^ s) 1 hl (by omega)
  rw [Nat.and_one_is_mod] at this
  exact this
theorem bit_out (x : Nat) (i : Int) (h : i < 0 ∨ 256 ≤ i) (w : World) :
    Calls Tryd.prog 56 #[nv x, .int .i64 i] w fun e w' => e = .returned (.int .u64 0) ∧ Below w.heap.size w w' := by
  have hb := (Below.refl _ w).alloc (Nat.le_refl _) (A4 x)
  unfold nv
  rcases h with h | h
  · go_enter Tryd.func56, Tryd.ntmps56
    go_wp2
    go_ret
    exact ⟨rfl, hb⟩
  · have h' : ¬ i < 0 := by omega
    go_enter Tryd.func56, Tryd.ntmps56
    go_wp2
    go_ret
    exact ⟨rfl, hb⟩
theorem bit_in (x i : Nat) (h : i < 256) (w : World) :
    Calls Tryd.prog 56 #[nv x, .int .i64 i] w fun e w' => e = .returned (.int .u64 (bt x i : Int)) ∧ Below w.heap.size w w' := by
  have hb := (Below.refl _ w).alloc (Nat.le_refl _) (A4 x)
  have h1 := own_A4 (w := w) (B := w.heap.size) (Nat.le_refl _) x
  have c := h1.cell (k := i / 64) (by omega)
  unfold wv at c
  have g1 : ¬ (i : Int) < 0 := by omega
  have g2 : ¬ (256 : Int) ≤ i := by omega
  have g3 : (i : Int).tdiv 64 = ((i / 64 : Nat) : Int) := by rw [Int.tdiv_eq_ediv_of_nonneg (by omega)]; rfl
  have g4 : (i : Int).tmod 64 = ((i % 64 : Nat) : Int) := by rw [Int.tmod_eq_emod_of_nonneg (by omega)]; rfl
  unfold nv
  go_enter Tryd.func56, Tryd.ntmps56
  go_wp2
  go_ret
  refine ⟨?_, hb⟩
  rw [and_one _ _ (wd_lt _ _), bt_wd]
  rfl
end Go.Proofs.YtifcjfeepgfmfaaDoor
