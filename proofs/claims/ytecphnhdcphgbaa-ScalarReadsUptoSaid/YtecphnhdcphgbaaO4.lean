/-
  Numbers of four words in blocks of the call's own. By an AI agent.
-/
import Derived.Test.YtecphnhdcphgbaaRead
import Derived.Test.YtecphnhdcphgbaaPrime
import Derived.Deep.DeepCutAuto
import Derived.Deep.Cut
import Derived.KernelRfl
namespace Go.Proofs.Ytecphnhdcphgbaa
open Go Go.RowKit
/-- The block 'g', which the call made (from 'B' on), holds the number x. -/
def O4 (w : World) (B g x : Nat) : Prop := OwnF w B 35 (some ⟨g, 0, none⟩) 4 4 (wv x)
section
variable {w w' : World} {B g x : Nat}
theorem O4.keep (h : O4 w B g x) (hb : Below w.heap.size w w') : O4 w' B g x := OwnF.keep h hb
theorem O4.alloc (h : O4 w B g x) (o : Obj) : O4 (w.alloc o) B g x := OwnF.keep h ((Below.refl _ w).alloc (Nat.le_refl _) o)
theorem O4.new (hB : B ≤ w.heap.size) (x : Nat) : O4 (w.alloc (A4 x)) B w.heap.size x := own_A4 hB x
theorem O4.drew (h : O4 w B g x) : O4 w.drew B g x := OwnF.drew h
theorem O4.lt (h : O4 w B g x) : g < w.heap.size := OwnF.lt h
theorem O4.ge (h : O4 w B g x) : B ≤ g := OwnF.ge h
theorem O4.mono {B' : Nat} (h : O4 w B g x) (hb : B' ≤ B) : O4 w B' g x := OwnF.mono h hb
theorem O4.c4 (h : O4 w B g x) : w.cell? ⟨g, 0, none⟩ = some (.int .u64 (wd x 0 : Int)) ∧ w.cell? ⟨g, 1, none⟩ = some (.int .u64 (wd x 1 : Int)) ∧ w.cell? ⟨g, 2, none⟩ = some (.int .u64 (wd x 2 : Int)) ∧ w.cell? ⟨g, 3, none⟩ = some (.int .u64 (wd x 3 : Int)) :=
  ⟨OwnF.cell h (k := 0) (by decide), OwnF.cell h (k := 1) (by decide), OwnF.cell h (k := 2) (by decide), OwnF.cell h (k := 3) (by decide)⟩
theorem O4.f4 (h : O4 w B g x) : w.frozen? ⟨g, 0, none⟩ = false ∧ w.frozen? ⟨g, 1, none⟩ = false ∧ w.frozen? ⟨g, 2, none⟩ = false ∧ w.frozen? ⟨g, 3, none⟩ = false :=
  ⟨OwnF.free h 0, OwnF.free h 1, OwnF.free h 2, OwnF.free h 3⟩
/-- Another number is laid there. -/
def set4w (w : World) (g x : Nat) : World := ((((w.setCell ⟨g, 0, none⟩ (.int .u64 (wd x 0 : Int))).setCell ⟨g, 1, none⟩ (.int .u64 (wd x 1 : Int))).setCell ⟨g, 2, none⟩ (.int .u64 (wd x 2 : Int))).setCell ⟨g, 3, none⟩ (.int .u64 (wd x 3 : Int)))
theorem set4w_below (w : World) (g x : Nat) : Below g w (set4w w g x) :=
  ((((Below.refl g w).setCell (p := ⟨g, 0, none⟩) (Nat.le_refl g) _).setCell (p := ⟨g, 1, none⟩) (Nat.le_refl g) _).setCell (p := ⟨g, 2, none⟩) (Nat.le_refl g) _).setCell (p := ⟨g, 3, none⟩) (Nat.le_refl g) _
theorem put4o {e : TypeId} {f : Nat → Value} (h : OwnF w B e (some ⟨g, 0, none⟩) 4 4 f) (y : Nat) : OwnF (set4w w g y) B e (some ⟨g, 0, none⟩) 4 4 (wv y) := by
  have h4 := (((h.set_ 0 (.int .u64 (wd y 0 : Int))).set_ 1 (.int .u64 (wd y 1 : Int))).set_ 2 (.int .u64 (wd y 2 : Int))).set_ 3 (.int .u64 (wd y 3 : Int))
  refine OwnF.congr h4 fun k hk => ?_
  have : k = 0 ∨ k = 1 ∨ k = 2 ∨ k = 3 := by omega
  rcases this with rfl | rfl | rfl | rfl <;> rfl
theorem O4.put (h : O4 w B g x) (y : Nat) : O4 (set4w w g y) B g y := put4o h y
theorem O4.zput (h : OwnF w B 35 (some ⟨g, 0, none⟩) 4 4 (fun _ => .int .u64 0)) (y : Nat) : O4 (set4w w g y) B g y := put4o h y
theorem other4 {e : TypeId} {n c g' : Nat} {f : Nat → Value} (h : OwnF w B e (some ⟨g, 0, none⟩) c n f) (hg : g' ≠ g) (y : Nat) : OwnF (set4w w g' y) B e (some ⟨g, 0, none⟩) c n f :=
  (((OwnF.other h (p := ⟨g', 0, none⟩) hg _).other (p := ⟨g', 1, none⟩) hg _).other (p := ⟨g', 2, none⟩) hg _).other (p := ⟨g', 3, none⟩) hg _
theorem O4.other {g' : Nat} (h : O4 w B g x) (hg : g' ≠ g) (y : Nat) : O4 (set4w w g' y) B g x := other4 h hg y
theorem set4w_size (w : World) (g x : Nat) : (set4w w g x).heap.size = w.heap.size := by simp [set4w]
theorem O4.below (h : O4 w B g x) (y : Nat) : Below B w (set4w w g y) := (set4w_below w g y).mono h.ge
theorem O4.zero (h : OwnF w B 35 (some ⟨g, 0, none⟩) 4 4 (fun _ => .int .u64 0)) : O4 w B g 0 := h.congr fun k _ => by simp [wv, wd, dgt]
end
theorem A4_zero : Z4 = A4 0 := by simp [wd, dgt]
theorem set4_fold (w : World) (g x : Nat) : ((((w.setCell ⟨g, 0, none⟩ (.int .u64 (wd x 0 : Int))).setCell ⟨g, 1, none⟩ (.int .u64 (wd x 1 : Int))).setCell ⟨g, 2, none⟩ (.int .u64 (wd x 2 : Int))).setCell ⟨g, 3, none⟩ (.int .u64 (wd x 3 : Int))) = set4w w g x := rfl
abbrev lit4 (a b c d : Int) : Value := .agg #[.int .u64 a, .int .u64 b, .int .u64 c, .int .u64 d]
theorem l_prime : nv P25 = lit4 18446744073709551597 18446744073709551615 18446744073709551615 9223372036854775807 := by kernel_rfl
theorem P25_W4 : P25 < W4 := by decide +kernel
theorem O4.out {w : World} {B g x : Nat} (h : O4 w B g x) (y : Nat) : ∃ wz, wz = ((((w.setCell ⟨g, 0, none⟩ (.int .u64 (wd y 0 : Int))).setCell ⟨g, 1, none⟩ (.int .u64 (wd y 1 : Int))).setCell ⟨g, 2, none⟩ (.int .u64 (wd y 2 : Int))).setCell ⟨g, 3, none⟩ (.int .u64 (wd y 3 : Int))) ∧
    O4 wz B g y ∧ Below B w wz ∧ wz.heap.size = w.heap.size := ⟨_, rfl, h.put y, h.below y, set4w_size w g y⟩
/-- The result's block, behind a call that came after some boxes. -/
theorem zres1 {w w1 : World} (h : Below (w.alloc Z4).heap.size (w.alloc Z4) w1) : O4 w1 w.heap.size w.heap.size 0 ∧ Below w.heap.size w w1 :=
  ⟨(O4.zero (own_Z4 (w := w) (Nat.le_refl _))).keep h, ((Below.refl _ w).alloc (Nat.le_refl _) Z4).trans (h.mono (by simp))⟩
theorem zres2 {w w1 : World} {X : Obj} (h : Below ((w.alloc X).alloc Z4).heap.size ((w.alloc X).alloc Z4) w1) : O4 w1 w.heap.size (w.heap.size + 1) 0 ∧ Below w.heap.size w w1 := by
  have s1 : (w.alloc X).heap.size = w.heap.size + 1 := by simp
  have o := (O4.zero (own_Z4 (w := w.alloc X) (Nat.le_refl _))).keep h
  rw [s1] at o
  exact ⟨o.mono (by omega), (((Below.refl _ w).alloc (Nat.le_refl _) X).alloc (by omega) Z4).trans (h.mono (by simp; omega))⟩
theorem zres3 {w w1 : World} {X Y : Obj} (h : Below (((w.alloc X).alloc Y).alloc Z4).heap.size (((w.alloc X).alloc Y).alloc Z4) w1) : O4 w1 w.heap.size (w.heap.size + 2) 0 ∧ Below w.heap.size w w1 := by
  have s1 : ((w.alloc X).alloc Y).heap.size = w.heap.size + 2 := by simp
  have o := (O4.zero (own_Z4 (w := (w.alloc X).alloc Y) (Nat.le_refl _))).keep h
  rw [s1] at o
  exact ⟨o.mono (by omega), ((((Below.refl _ w).alloc (Nat.le_refl _) X).alloc (by simp) Y).alloc (by omega) Z4).trans (h.mono (by simp; omega))⟩
/-- The first box, the second one, behind a call. -/
theorem box1 {w w1 : World} {x : Nat} {Y : Obj} (h : Below ((w.alloc (A4 x)).alloc Y).heap.size ((w.alloc (A4 x)).alloc Y) w1) : O4 w1 w.heap.size w.heap.size x :=
  ((O4.new (w := w) (Nat.le_refl _) x).alloc Y).keep h
theorem box13 {w w1 : World} {x : Nat} {Y Z : Obj} (h : Below (((w.alloc (A4 x)).alloc Y).alloc Z).heap.size (((w.alloc (A4 x)).alloc Y).alloc Z) w1) : O4 w1 w.heap.size w.heap.size x :=
  (((O4.new (w := w) (Nat.le_refl _) x).alloc Y).alloc Z).keep h
theorem box23 {w w1 : World} {y : Nat} {X Z : Obj} (h : Below (((w.alloc X).alloc (A4 y)).alloc Z).heap.size (((w.alloc X).alloc (A4 y)).alloc Z) w1) : O4 w1 w.heap.size (w.heap.size + 1) y := by
  have s1 : (w.alloc X).heap.size = w.heap.size + 1 := by simp
  have o := ((O4.new (w := w.alloc X) (Nat.le_refl _) y).alloc Z).keep h
  rw [s1] at o
  exact o.mono (by omega)
theorem keepZ {W w' : World} (h : Below (W.alloc Z4).heap.size (W.alloc Z4) w') : O4 w' W.heap.size W.heap.size 0 := (O4.zero (own_Z4 (w := W) (Nat.le_refl _))).keep h
theorem keepZd {W w' : World} (h : Below (W.alloc Z4).drew.heap.size (W.alloc Z4).drew w') : O4 w' W.heap.size W.heap.size 0 := ((O4.zero (own_Z4 (w := W) (Nat.le_refl _))).drew).keep h
theorem keep4 {w : World} {B g x : Nat} (h : O4 w B g x) : ∀ wz, Below w.heap.size w wz → wz.cell? ⟨g, 0, none⟩ = some (.int .u64 (wd x 0 : Int)) ∧ wz.cell? ⟨g, 1, none⟩ = some (.int .u64 (wd x 1 : Int)) ∧ wz.cell? ⟨g, 2, none⟩ = some (.int .u64 (wd x 2 : Int)) ∧ wz.cell? ⟨g, 3, none⟩ = some (.int .u64 (wd x 3 : Int)) := fun _ hz => (h.keep hz).c4
theorem keep44 {w : World} {B g x g' x' : Nat} (h : O4 w B g x) (h' : O4 w B g' x') : ∀ wz, Below w.heap.size w wz → wz.cell? ⟨g, 0, none⟩ = some (.int .u64 (wd x 0 : Int)) ∧ wz.cell? ⟨g, 1, none⟩ = some (.int .u64 (wd x 1 : Int)) ∧ wz.cell? ⟨g, 2, none⟩ = some (.int .u64 (wd x 2 : Int)) ∧ wz.cell? ⟨g, 3, none⟩ = some (.int .u64 (wd x 3 : Int)) ∧ wz.cell? ⟨g', 0, none⟩ = some (.int .u64 (wd x' 0 : Int)) ∧ wz.cell? ⟨g', 1, none⟩ = some (.int .u64 (wd x' 1 : Int)) ∧ wz.cell? ⟨g', 2, none⟩ = some (.int .u64 (wd x' 2 : Int)) ∧ wz.cell? ⟨g', 3, none⟩ = some (.int .u64 (wd x' 3 : Int)) := fun wz hz => by
  obtain ⟨a0, a1, a2, a3⟩ := (h.keep hz).c4
  obtain ⟨b0, b1, b2, b3⟩ := (h'.keep hz).c4
  exact ⟨a0, a1, a2, a3, b0, b1, b2, b3⟩
end Go.Proofs.Ytecphnhdcphgbaa
