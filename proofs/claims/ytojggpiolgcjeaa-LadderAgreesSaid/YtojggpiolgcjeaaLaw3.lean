import Derived.Test.YtojggpiolgcjeaaEqO
namespace Go.Proofs.Ytojggpiolgcjeaa
open Go Go.RowKit
theorem to_eq {F : FuncId} {args : Array Value} {x y : Nat} (e : x = y) {w : World} (h : Calls Try.prog F args w fun e w' => e = .returned (nv x) ∧ Below w.heap.size w w') : Calls Try.prog F args w fun e w' => e = .returned (nv y) ∧ Below w.heap.size w w' := e ▸ h
theorem three (a b c : Nat) (w : World) : ∃ v, v = ((w.alloc (A4 a)).alloc (A4 b)).alloc (A4 c) ∧ O4 v w.heap.size w.heap.size a ∧ O4 v w.heap.size (w.heap.size + 1) b ∧ O4 v w.heap.size (w.heap.size + 2) c ∧ Below w.heap.size w v := by
  have s1 : (w.alloc (A4 a)).heap.size = w.heap.size + 1 := by simp
  have s2 : ((w.alloc (A4 a)).alloc (A4 b)).heap.size = w.heap.size + 2 := by simp
  have ob := (O4.new (w := w.alloc (A4 a)) (B := w.heap.size) (by omega) b).alloc (A4 c)
  have oc := O4.new (w := (w.alloc (A4 a)).alloc (A4 b)) (B := w.heap.size) (by omega) c
  rw [s1] at ob
  rw [s2] at oc
  exact ⟨_, rfl, ((O4.new (w := w) (Nat.le_refl _) a).alloc (A4 b)).alloc (A4 c), ob, oc, (((Below.refl _ w).alloc (Nat.le_refl _) _).alloc (by omega) _).alloc (by omega) _⟩
theorem two (a b : Nat) (w : World) : ∃ v, v = (w.alloc (A4 a)).alloc (A4 b) ∧ O4 v w.heap.size w.heap.size a ∧ O4 v w.heap.size (w.heap.size + 1) b ∧ Below w.heap.size w v := by
  have s1 : (w.alloc (A4 a)).heap.size = w.heap.size + 1 := by simp
  have ob := O4.new (w := w.alloc (A4 a)) (B := w.heap.size) (by omega) b
  rw [s1] at ob
  exact ⟨_, rfl, (O4.new (w := w) (Nat.le_refl _) a).alloc (A4 b), ob, ((Below.refl _ w).alloc (Nat.le_refl _) _).alloc (by omega) _⟩
theorem keep444 {w : World} {B g x g' x' g'' x'' : Nat} (h : O4 w B g x) (h' : O4 w B g' x') (h'' : O4 w B g'' x'') : ∀ wz, Below w.heap.size w wz → wz.cell? ⟨g, 0, none⟩ = some (.int .u64 (wd x 0 : Int)) ∧ wz.cell? ⟨g, 1, none⟩ = some (.int .u64 (wd x 1 : Int)) ∧ wz.cell? ⟨g, 2, none⟩ = some (.int .u64 (wd x 2 : Int)) ∧ wz.cell? ⟨g, 3, none⟩ = some (.int .u64 (wd x 3 : Int)) ∧ wz.cell? ⟨g', 0, none⟩ = some (.int .u64 (wd x' 0 : Int)) ∧ wz.cell? ⟨g', 1, none⟩ = some (.int .u64 (wd x' 1 : Int)) ∧ wz.cell? ⟨g', 2, none⟩ = some (.int .u64 (wd x' 2 : Int)) ∧ wz.cell? ⟨g', 3, none⟩ = some (.int .u64 (wd x' 3 : Int)) ∧ wz.cell? ⟨g'', 0, none⟩ = some (.int .u64 (wd x'' 0 : Int)) ∧ wz.cell? ⟨g'', 1, none⟩ = some (.int .u64 (wd x'' 1 : Int)) ∧ wz.cell? ⟨g'', 2, none⟩ = some (.int .u64 (wd x'' 2 : Int)) ∧ wz.cell? ⟨g'', 3, none⟩ = some (.int .u64 (wd x'' 3 : Int)) := fun wz hz => by
  obtain ⟨a0, a1, a2, a3⟩ := (h.keep hz).c4
  obtain ⟨b0, b1, b2, b3⟩ := (h'.keep hz).c4
  obtain ⟨c0, c1, c2, c3⟩ := (h''.keep hz).c4
  exact ⟨a0, a1, a2, a3, b0, b1, b2, b3, c0, c1, c2, c3⟩
theorem rt0_pm (a : Nat) : rt0 a = pm P25 256 a RE := (pm_eq P25 256 a RE (by decide +kernel)).symm
theorem l_254 : nv 28948022309329048855892746252171976963317496166410141009864396001978282409984 = lit4 0 0 0 4611686018427387904 := by kernel_rfl
def pt1 (z a : Nat) : Nat := if z * z % P25 = a then z else z * IM % P25
def pt2 (z a : Nat) : Nat := if bt (pt1 z a) 0 = 0 then pt1 z a else fsub 0 (pt1 z a)
def ptq (z a : Nat) : Nat := if pt2 z a * pt2 z a % P25 = a then 1 else 0
def ptr (z a : Nat) : Nat := if pt2 z a * pt2 z a % P25 = a then pt2 z a else 0
theorem rt_pt (a z : Nat) (h : rt0 a = z) : rtr a = ptr z a ∧ rtq a = ptq z a := by
  subst h
  exact ⟨rfl, rfl⟩
def z4 : Nat := pm P25 256 4 RE
def z2 : Nat := pm P25 256 2 RE
theorem rt_four : rtr (4 % P25) = 2 ∧ rtq (4 % P25) = 1 ∧ rtq (2 % P25) = 0 ∧ rtr (2 % P25) = 0 := by
  have h4 : 4 % P25 = 4 := by decide +kernel
  have h2 : 2 % P25 = 2 := by decide +kernel
  obtain ⟨a1, a2⟩ := rt_pt 4 z4 (rt0_pm 4)
  obtain ⟨b1, b2⟩ := rt_pt 2 z2 (rt0_pm 2)
  rw [h4, h2, a1, a2, b1, b2]
  decide +kernel
attribute [local irreducible] wd by8
set_option maxRecDepth 20000
end Go.Proofs.Ytojggpiolgcjeaa
