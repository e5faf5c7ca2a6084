/-
  ! The document's way to a root: one of four numbers. Numbers of four words in blocks of the call's own, of whatever type (api.Num, scalar.Scalar); the order L. By an AI agent.
-/
import Derived.Test.YtgaofocjnifjdaaDoorJ10
import Derived.Test.YtgaofocjnifjdaaDoorJ02
import Derived.Test.YtgaofocjnifjdaaDoorME
namespace Go.Proofs.YtgaofocjnifjdaaDoor
/-! The document's way to a root: one of four numbers. -/
def TE : Nat := (P25 - 1) / 4
def TT : Nat := pm P25 256 2 TE
def XX (a : Nat) : Nat → Nat
  | 0 => a ^ ((P25 - 5) / 8) % P25 * a % P25
  | k + 1 => XX a k * TT % P25
def EE (a k : Nat) : Bool := decide (XX a k % 2 = 0) && decide (XX a k * XX a k % P25 = a)
end Go.Proofs.YtgaofocjnifjdaaDoor
namespace Go.Proofs.YtgaofocjnifjdaaDoor
open Go Go.RowKit
abbrev AE (e : TypeId) (x : Nat) : Obj := .cells #[.int .u64 (wd x 0 : Int), .int .u64 (wd x 1 : Int), .int .u64 (wd x 2 : Int), .int .u64 (wd x 3 : Int)] e
abbrev ZE (e : TypeId) : Obj := .cells #[.int .u64 0, .int .u64 0, .int .u64 0, .int .u64 0] e
/-- The block 'g', which the call made (from 'B' on), holds the number x. -/
def T4 (w : World) (B g x : Nat) : Prop := ∃ e, OwnF w B e (some ⟨g, 0, none⟩) 4 4 (wv x)
section
variable {w w' : World} {B g x : Nat}
theorem T4.keep (h : T4 w B g x) (hb : Below w.heap.size w w') : T4 w' B g x := let ⟨e, o⟩ := h; ⟨e, OwnF.keep o hb⟩
theorem T4.alloc (h : T4 w B g x) (o : Obj) : T4 (w.alloc o) B g x := h.keep ((Below.refl _ w).alloc (Nat.le_refl _) o)
theorem T4.new (hB : B ≤ w.heap.size) (e : TypeId) (x : Nat) : T4 (w.alloc (AE e x)) B w.heap.size x := ⟨e, OwnF.lit _ hB _ 4 _ (by decide) rfl⟩
theorem T4.zero (hB : B ≤ w.heap.size) (e : TypeId) : T4 (w.alloc (ZE e)) B w.heap.size 0 := ⟨e, (OwnF.lit e hB #[.int .u64 0, .int .u64 0, .int .u64 0, .int .u64 0] 4 (fun _ => .int .u64 0) (by decide) rfl).congr fun k _ => by simp [wv, wd, dgt]⟩
theorem T4.drew (h : T4 w B g x) : T4 w.drew B g x := let ⟨e, o⟩ := h; ⟨e, OwnF.drew o⟩
theorem T4.lt (h : T4 w B g x) : g < w.heap.size := let ⟨_, o⟩ := h; OwnF.lt o
theorem T4.ge (h : T4 w B g x) : B ≤ g := let ⟨_, o⟩ := h; OwnF.ge o
theorem T4.mono {B' : Nat} (h : T4 w B g x) (hb : B' ≤ B) : T4 w B' g x := let ⟨e, o⟩ := h; ⟨e, OwnF.mono o hb⟩
theorem T4.c4 (h : T4 w B g x) : w.cell? ⟨g, 0, none⟩ = some (.int .u64 (wd x 0 : Int)) ∧ w.cell? ⟨g, 1, none⟩ = some (.int .u64 (wd x 1 : Int)) ∧ w.cell? ⟨g, 2, none⟩ = some (.int .u64 (wd x 2 : Int)) ∧ w.cell? ⟨g, 3, none⟩ = some (.int .u64 (wd x 3 : Int)) :=
  let ⟨_, h⟩ := h; ⟨OwnF.cell h (k := 0) (by decide), OwnF.cell h (k := 1) (by decide), OwnF.cell h (k := 2) (by decide), OwnF.cell h (k := 3) (by decide)⟩
theorem T4.f4 (h : T4 w B g x) : w.frozen? ⟨g, 0, none⟩ = false ∧ w.frozen? ⟨g, 1, none⟩ = false ∧ w.frozen? ⟨g, 2, none⟩ = false ∧ w.frozen? ⟨g, 3, none⟩ = false :=
  let ⟨_, h⟩ := h; ⟨OwnF.free h 0, OwnF.free h 1, OwnF.free h 2, OwnF.free h 3⟩
theorem T4.put (h : T4 w B g x) (y : Nat) : T4 (set4w w g y) B g y := let ⟨e, o⟩ := h; ⟨e, put4o o y⟩
theorem T4.other {g' : Nat} (h : T4 w B g x) (hg : g' ≠ g) (y : Nat) : T4 (set4w w g' y) B g x := let ⟨e, o⟩ := h; ⟨e, other4 o hg y⟩
theorem T4.below (h : T4 w B g x) (y : Nat) : Below B w (set4w w g y) := (set4w_below w g y).mono h.ge
theorem T4.out (h : T4 w B g x) (y : Nat) : ∃ wz, wz = ((((w.setCell ⟨g, 0, none⟩ (.int .u64 (wd y 0 : Int))).setCell ⟨g, 1, none⟩ (.int .u64 (wd y 1 : Int))).setCell ⟨g, 2, none⟩ (.int .u64 (wd y 2 : Int))).setCell ⟨g, 3, none⟩ (.int .u64 (wd y 3 : Int))) ∧
    T4 wz B g y ∧ Below B w wz ∧ wz.heap.size = w.heap.size := ⟨_, rfl, h.put y, h.below y, set4w_size w g y⟩
theorem T4.nv (h : T4 w B g x) {y : Nat} (e : ∀ k, k < 4 → wd x k = wd y k) : T4 w B g y := let ⟨t, o⟩ := h; ⟨t, OwnF.congr o fun k hk => by unfold wv; rw [e k hk]⟩
end
/-- The result's block, behind a call that came after some boxes. -/
theorem tres1 {w w1 : World} {e : TypeId} (h : Below (w.alloc (ZE e)).heap.size (w.alloc (ZE e)) w1) : T4 w1 w.heap.size w.heap.size 0 ∧ Below w.heap.size w w1 :=
  ⟨(T4.zero (w := w) (Nat.le_refl _) e).keep h, ((Below.refl _ w).alloc (Nat.le_refl _) (ZE e)).trans (h.mono (by simp))⟩
theorem tres2 {w w1 : World} {X : Obj} {e : TypeId} (h : Below ((w.alloc X).alloc (ZE e)).heap.size ((w.alloc X).alloc (ZE e)) w1) : T4 w1 w.heap.size (w.heap.size + 1) 0 ∧ Below w.heap.size w w1 := by
  have s1 : (w.alloc X).heap.size = w.heap.size + 1 := by simp
  have o := (T4.zero (w := w.alloc X) (Nat.le_refl _) e).keep h
  rw [s1] at o
  exact ⟨o.mono (by omega), (((Below.refl _ w).alloc (Nat.le_refl _) X).alloc (by omega) (ZE e)).trans (h.mono (by simp; omega))⟩
theorem tres3 {w w1 : World} {X Y : Obj} {e : TypeId} (h : Below (((w.alloc X).alloc Y).alloc (ZE e)).heap.size (((w.alloc X).alloc Y).alloc (ZE e)) w1) : T4 w1 w.heap.size (w.heap.size + 2) 0 ∧ Below w.heap.size w w1 := by
  have s1 : ((w.alloc X).alloc Y).heap.size = w.heap.size + 2 := by simp
  have o := (T4.zero (w := (w.alloc X).alloc Y) (Nat.le_refl _) e).keep h
  rw [s1] at o
  exact ⟨o.mono (by omega), ((((Below.refl _ w).alloc (Nat.le_refl _) X).alloc (by simp) Y).alloc (by omega) (ZE e)).trans (h.mono (by simp; omega))⟩
theorem tkeepZ {W w' : World} {e : TypeId} (h : Below (W.alloc (ZE e)).heap.size (W.alloc (ZE e)) w') : T4 w' W.heap.size W.heap.size 0 := (T4.zero (w := W) (Nat.le_refl _) e).keep h
theorem tkeepZd {W w' : World} {e : TypeId} (h : Below (W.alloc (ZE e)).drew.heap.size (W.alloc (ZE e)).drew w') : T4 w' W.heap.size W.heap.size 0 := ((T4.zero (w := W) (Nat.le_refl _) e).drew).keep h
theorem tkeep4 {w : World} {B g x : Nat} (h : T4 w B g x) : ∀ wz, Below w.heap.size w wz → wz.cell? ⟨g, 0, none⟩ = some (.int .u64 (wd x 0 : Int)) ∧ wz.cell? ⟨g, 1, none⟩ = some (.int .u64 (wd x 1 : Int)) ∧ wz.cell? ⟨g, 2, none⟩ = some (.int .u64 (wd x 2 : Int)) ∧ wz.cell? ⟨g, 3, none⟩ = some (.int .u64 (wd x 3 : Int)) := fun _ hz => (h.keep hz).c4
theorem keep8 {w : World} {B g x : Nat} {e : TypeId} (h : OwnF w B e (some ⟨g, 0, none⟩) 8 8 (wv x)) : ∀ wz, Below w.heap.size w wz → wz.cell? ⟨g, 0, none⟩ = some (.int .u64 (wd x 0 : Int)) ∧ wz.cell? ⟨g, 1, none⟩ = some (.int .u64 (wd x 1 : Int)) ∧ wz.cell? ⟨g, 2, none⟩ = some (.int .u64 (wd x 2 : Int)) ∧ wz.cell? ⟨g, 3, none⟩ = some (.int .u64 (wd x 3 : Int)) ∧ wz.cell? ⟨g, 4, none⟩ = some (.int .u64 (wd x 4 : Int)) ∧ wz.cell? ⟨g, 5, none⟩ = some (.int .u64 (wd x 5 : Int)) ∧ wz.cell? ⟨g, 6, none⟩ = some (.int .u64 (wd x 6 : Int)) ∧ wz.cell? ⟨g, 7, none⟩ = some (.int .u64 (wd x 7 : Int)) := fun _ hz =>
  let h := OwnF.keep h hz; ⟨OwnF.cell h (k := 0) (by decide), OwnF.cell h (k := 1) (by decide), OwnF.cell h (k := 2) (by decide), OwnF.cell h (k := 3) (by decide), OwnF.cell h (k := 4) (by decide), OwnF.cell h (k := 5) (by decide), OwnF.cell h (k := 6) (by decide), OwnF.cell h (k := 7) (by decide)⟩
/-- The order of the base point. -/
def LL : Nat := 7237005577332262213973186563042994240857116359379907606001950938285454250989
theorem LL_pos : 0 < LL := by decide
theorem LL_W4 : LL < W4 := by decide +kernel
theorem LL_lt (x : Nat) : x % LL < W4 := Nat.lt_trans (Nat.mod_lt _ LL_pos) LL_W4
theorem l_order : nv LL = lit4 6346243789798364141 1503914060200516822 0 1152921504606846976 := by kernel_rfl
/-- Four words and one above them. -/
abbrev dv5 (s : Nat) (c : Int) : Value := .agg #[.int .u64 (wd s 0 : Int), .int .u64 (wd s 1 : Int), .int .u64 (wd s 2 : Int), .int .u64 (wd s 3 : Int), .int .u64 c, .int .u64 0, .int .u64 0, .int .u64 0]
theorem dv_five (s : Nat) {c : Nat} (hc : c < 18446744073709551616) : dv5 s c = dv (s % W4 + W4 * c) := by
  have h0 : wd c 0 = c := by unfold wd dgt; rw [Nat.pow_zero, Nat.div_one, Nat.mod_eq_of_lt hc]
  have hk : ∀ k, 1 ≤ k → wd c k = 0 := fun k hk => dgt_zero_of_lt (Nat.lt_of_lt_of_le hc (by have := Nat.pow_le_pow_right (n := 18446744073709551616) (by decide) hk; rwa [Nat.pow_one] at this))
  have e1 : (s % W4 + W4 * c) % W4 = s % W4 := by rw [Nat.add_mul_mod_self_left, Nat.mod_mod]
  have e2 : (s % W4 + W4 * c) / W4 = c := by rw [Nat.add_mul_div_left _ _ W4_pos, Nat.div_eq_of_lt (Nat.mod_lt _ W4_pos), Nat.zero_add]
  rw [dv_split, e1, e2]
  unfold dv5 dvs
  rw [h0, hk 1 (by omega), hk 2 (by omega), hk 3 (by omega), wd_mod s (by decide), wd_mod s (by decide), wd_mod s (by decide), wd_mod s (by decide)]
  rfl
theorem order_any (w : World) : Calls Tryd.prog 35 #[] w fun e w' => e = .returned (nv LL) ∧ Below w.heap.size w w' := by
  rw [l_order]
  go_enter Tryd.func35, Tryd.ntmps35
  go_wp2_with fail
  refine bodyPost_ret (v := lit4 6346243789798364141 1503914060200516822 0 1152921504606846976) (by simp [results, Tryd.results35, go_sem]) rfl ⟨rfl, (Below.refl _ w).alloc (Nat.le_refl _) _⟩
end Go.Proofs.YtgaofocjnifjdaaDoor
