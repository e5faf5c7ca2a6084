import Derived.Test.YtecphnhdcphgbaaPick
import Derived.ChangeKeysEq
import Derived.Laws.StructEq
namespace Go.Proofs.Ytecphnhdcphgbaa
open Go Go.RowKit
theorem part_u64 (xs : Array Value) (i : Nat) (v : Value) (h : xs[i]? = some v) (w : World) : (part 23 xs (i * Try.prog.cellsOf 23)).run Try.prog w = .ok v w := by
  have e : Try.prog.cellsOf 23 = 1 := by kernel_rfl
  rw [e, Nat.mul_one]
  simp [part, go_sem, h]
theorem items_u64 (xs ys : Array Value) (a b : Nat → Int) (w : World) : ∀ is : List Nat, (∀ i ∈ is, xs[i]? = some (.int .u64 (a i)) ∧ ys[i]? = some (.int .u64 (b i))) →
    (Op.eqItems 9999 23 (Try.prog.cellsOf 23) xs ys is).run Try.prog w = .ok (is.all fun i => a i == b i) w
  | [], _ => rfl
  | i :: is, h => by
    have h0 := h i (by simp)
    have ih := items_u64 xs ys a b w is (fun j hj => h j (by simp [hj]))
    simp only [Op.eqItems, Sem.run_bind, part_u64 _ _ _ h0.1, part_u64 _ _ _ h0.2, Result.andThen_ok, run_equalIn_int w 9998 23 .u64 .u64 (a i) (b i) Try.underlying23, List.all_cons]
    cases he : (a i == b i)
    · simp
    · simpa using ih
theorem eqw (x y n : Nat) (hx : x < 18446744073709551616 ^ n) (hy : y < 18446744073709551616 ^ n) : ((List.range n).all fun i => ((wd x i : Nat) : Int) == ((wd y i : Nat) : Int)) = decide (x = y) := by
  by_cases h : x = y
  · subst h; simp
  · rw [decide_eq_false h]
    cases hb : (List.range n).all fun i => ((wd x i : Nat) : Int) == ((wd y i : Nat) : Int)
    · rfl
    · refine absurd (dgt_ext hx hy fun i hi => ?_) h
      have := List.all_eq_true.1 hb i (by simpa using hi)
      have : ((wd x i : Nat) : Int) = ((wd y i : Nat) : Int) := by simpa using this
      exact Int.ofNat.inj this
theorem eq4 (x y : Nat) (hx : x < W4) (hy : y < W4) (w : World) : (Op.equalIn 10000 35 (nv x) (nv y)).run Try.prog w = .ok (decide (x = y)) w := by
  obtain ⟨i0, hi⟩ : ∃ i, Try.prog.info? 23 = some i := by
    have := infoU64
    cases h : Try.prog.info? 23 with
    | none => rw [h] at this; simp at this
    | some i => exact ⟨i, rfl⟩
  rw [run_equalIn_array (P := Try.prog) (w := w) 9999 _ _ Try.underlying35 hi, items_u64 _ _ (fun i => (wd x i : Int)) (fun i => (wd y i : Int)) w (List.range 4), eqw x y 4 hx hy]
  intro i hi
  have : i = 0 ∨ i = 1 ∨ i = 2 ∨ i = 3 := by have hi' : i < 4 := (by simpa using hi); omega
  rcases this with rfl | rfl | rfl | rfl <;> exact ⟨rfl, rfl⟩
theorem eq8 (x y : Nat) (hx : x < W8) (hy : y < W8) (w : World) : (Op.equalIn 10000 55 (dv x) (dv y)).run Try.prog w = .ok (decide (x = y)) w := by
  obtain ⟨i0, hi⟩ : ∃ i, Try.prog.info? 23 = some i := by
    have := infoU64
    cases h : Try.prog.info? 23 with
    | none => rw [h] at this; simp at this
    | some i => exact ⟨i, rfl⟩
  rw [run_equalIn_array (P := Try.prog) (w := w) 9999 _ _ Try.underlying55 hi, items_u64 _ _ (fun i => (wd x i : Int)) (fun i => (wd y i : Int)) w (List.range 8), eqw x y 8 hx hy]
  intro i hi
  have : i = 0 ∨ i = 1 ∨ i = 2 ∨ i = 3 ∨ i = 4 ∨ i = 5 ∨ i = 6 ∨ i = 7 := by have hi' : i < 8 := (by simpa using hi); omega
  rcases this with rfl | rfl | rfl | rfl | rfl | rfl | rfl | rfl <;> exact ⟨rfl, rfl⟩
end Go.Proofs.Ytecphnhdcphgbaa
