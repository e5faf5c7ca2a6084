/-
  math/bits by contracts, words of numbers. By an AI agent.
-/
import Derived.Test.YtecphnhdcphgbaaMem
import Derived.Test.YtecphnhdcphgbaaChecked
import Derived.Ground.NamesProg
import Derived.Shelf.Spec.BitsCarry
import Derived.Shelf.Bits.Mul64
namespace Go.Proofs
open Go.Shelf
/-- The numbers that this program gives to math/bits.Mul64 and its two types. -/
def Try.ren264 : Go.Shelf.Ren := ⟨fun n => if n = 264 then 55 else n, fun t => if t = 53 then 23 else if t = 46 then 78 else t, fun g => g⟩
theorem Try.lays264 : Lays.n264 Try.prog Try.ren264 where
  mixed := by kernel_rfl
  f264 := Try.func55.trans (congrArg some (by kernel_rfl))
  t46 := Try.underlying78
  a46 := Try.isAgg78
  z46 := Try.sizeOf78
  v46 := Try.zeroValue78
  t53 := Try.underlying23
  a53 := Try.isAgg23
  z53 := Try.sizeOf23
  v53 := Try.zeroValue23
end Go.Proofs
namespace Go.Proofs.Ytecphnhdcphgbaa
open Go Go.RowKit Go.Shelf
theorem run_add64' (x y c : Nat) (hc : c ≤ 1) (w : World) : (callFunc 52 #[.int .u64 (x : Int), .int .u64 (y : Int), .int .u64 (c : Int)]).run Try.prog w =
    .ok (.value (.tuple #[.int .u64 (((x + y + c) % 18446744073709551616 : Nat) : Int), .int .u64 (((x + y + c) / 18446744073709551616 : Nat) : Int)])) w := by
  rw [run_callFunc_extern Try.func52 (by kernel_rfl) (by kernel_rfl) (by kernel_rfl) (e := add64Entry) (by kernel_rfl), run_add64 x y c (by omega) (by omega) (by omega) (by omega)]
  simp only [Result.andThen]
  congr 5 <;> omega
theorem run_sub64' (x y b : Nat) (hb : b ≤ 1) (w : World) : (callFunc 51 #[.int .u64 (x : Int), .int .u64 (y : Int), .int .u64 (b : Int)]).run Try.prog w =
    .ok (.value (.tuple #[.int .u64 (((x + 18446744073709551616 - y - b) % 18446744073709551616 : Nat) : Int), .int .u64 ((if x < y + b then 1 else 0 : Nat) : Int)])) w := by
  rw [run_callFunc_extern Try.func51 (by kernel_rfl) (by kernel_rfl) (by kernel_rfl) (e := sub64Entry) (by kernel_rfl), run_sub64 x y b hb]
  rfl
theorem mul64_any (x y : Nat) (hx : x < 18446744073709551616) (hy : y < 18446744073709551616) (w : World) :
    Calls Try.prog 55 #[.int .u64 x, .int .u64 y] w fun e w' => e = .returned (.tuple #[.int .u64 ((x * y / 18446744073709551616 : Nat) : Int), .int .u64 ((x * y % 18446744073709551616 : Nat) : Int)]) ∧ w' = w :=
  Any.bits_Mul64 Try.lays264 x y hx hy w

/-- The k-th word of a number, its k-th byte. -/
def wd (x k : Nat) : Nat := dgt 18446744073709551616 x k
def by8 (x k : Nat) : Nat := dgt 256 x k
theorem wd_lt (x k : Nat) : wd x k < 18446744073709551616 := dgt_lt (by decide) _ _
theorem by8_lt (x k : Nat) : by8 x k < 256 := dgt_lt (by decide) _ _
/-- 2^256, 2^512. -/
def W4 : Nat := 18446744073709551616 ^ 4
def W8 : Nat := 18446744073709551616 ^ 8
theorem W4_eq : W4 = 115792089237316195423570985008687907853269984665640564039457584007913129639936 := by decide
theorem W4_pos : 0 < W4 := by decide
theorem W8_eq : W8 = W4 * W4 := by decide
/-- A number of four words, of eight. -/
abbrev nv (x : Nat) : Value := .agg #[.int .u64 (wd x 0 : Int), .int .u64 (wd x 1 : Int), .int .u64 (wd x 2 : Int), .int .u64 (wd x 3 : Int)]
abbrev dv (x : Nat) : Value := .agg #[.int .u64 (wd x 0 : Int), .int .u64 (wd x 1 : Int), .int .u64 (wd x 2 : Int), .int .u64 (wd x 3 : Int), .int .u64 (wd x 4 : Int), .int .u64 (wd x 5 : Int), .int .u64 (wd x 6 : Int), .int .u64 (wd x 7 : Int)]
/-- What is carried into word k of a sum, borrowed off word k of a difference. -/
def cw (x y k : Nat) : Nat := cry 18446744073709551616 x y k
def bw (x y k : Nat) : Nat := brw 18446744073709551616 x y k
theorem cw_le (x y k : Nat) : cw x y k ≤ 1 := cry_le (by decide) _ _ _
theorem bw_le (x y k : Nat) : bw x y k ≤ 1 := brw_le _ _ _ _
theorem cw_zero (x y : Nat) : cw x y 0 = 0 := cry_zero _ _ _
theorem bw_zero (x y : Nat) : bw x y 0 = 0 := brw_zero _ _ _
theorem cw_four {x y : Nat} (hx : x < W4) (hy : y < W4) : cw x y 4 = (x + y) / W4 := cry_full hx hy
theorem bw_four {x y : Nat} (hx : x < W4) (hy : y < W4) : bw x y 4 = if x < y then 1 else 0 := brw_full hx hy
theorem wd_mod (x : Nat) {k : Nat} (hk : k < 4) : wd (x % W4) k = wd x k := dgt_mod x hk
theorem wd_mod8 (x : Nat) {k : Nat} (hk : k < 8) : wd (x % W8) k = wd x k := dgt_mod x hk
theorem wd_ext {x y : Nat} (hx : x < W4) (hy : y < W4) (h : ∀ k, k < 4 → wd x k = wd y k) : x = y := dgt_ext hx hy h
theorem wd_ext8 {x y : Nat} (hx : x < W8) (hy : y < W8) (h : ∀ k, k < 8 → wd x k = wd y k) : x = y := dgt_ext hx hy h

theorem add64_wd (x y k : Nat) (w : World) : (callFunc 52 #[.int .u64 (wd x k : Int), .int .u64 (wd y k : Int), .int .u64 (cw x y k : Int)]).run Try.prog w =
    .ok (.value (.tuple #[.int .u64 (wd (x + y) k : Int), .int .u64 (cw x y (k + 1) : Int)])) w := by
  rw [run_add64' _ _ _ (cw_le _ _ _)]
  rw [show wd (x + y) k = (wd x k + wd y k + cw x y k) % 18446744073709551616 from dgt_add (by decide) _ _ _,
    show cw x y (k + 1) = (wd x k + wd y k + cw x y k) / 18446744073709551616 from cry_succ (by decide) _ _ _]
theorem wd_sub (x y : Nat) {k : Nat} (hk : k < 4) (hy : y < W4) : wd (x + W4 - y) k = (wd x k + 18446744073709551616 - wd y k - bw x y k) % 18446744073709551616 := by
  have h := dgt_sub (b := 18446744073709551616) (by decide) x y hk hy
  have h1 := wd_lt y k
  have h2 := bw_le x y k
  unfold wd W4 bw at *
  generalize dgt 18446744073709551616 x k = a at *
  generalize dgt 18446744073709551616 y k = b at *
  generalize brw 18446744073709551616 x y k = c at *
  omega
theorem sub64_wd (x y : Nat) {k : Nat} (hk : k < 4) (hy : y < W4) (w : World) : (callFunc 51 #[.int .u64 (wd x k : Int), .int .u64 (wd y k : Int), .int .u64 (bw x y k : Int)]).run Try.prog w =
    .ok (.value (.tuple #[.int .u64 (wd (x + W4 - y) k : Int), .int .u64 (bw x y (k + 1) : Int)])) w := by
  rw [run_sub64' _ _ _ (bw_le _ _ _), wd_sub x y hk hy,
    show bw x y (k + 1) = if wd x k < wd y k + bw x y k then 1 else 0 from brw_succ (by decide) _ _ _]
theorem infoU64 : (Try.prog.info? 23).map (fun i => (i.zero, i.size, i.bytes)) = some (some (.int .u64 0), 1, 8) := by kernel_rfl
theorem infoInt : (Try.prog.info? 3).map (fun i => (i.zero, i.size, i.bytes)) = some (some (.int .i64 0), 1, 8) := by kernel_rfl
end Go.Proofs.Ytecphnhdcphgbaa
