/-
  Layer 10's code: quarter, Quarter. By an AI agent.
-/
import Derived.Test.YtmhfkabpfkoocaaDoorY6
namespace Go.Proofs.YtmhfkabpfkoocaaDoor
open Go Go.RowKit
set_option maxRecDepth 20000
/-- Four words as a tuple, as an array. -/
def q4t (q : Q4) : Value := .tuple #[.int .u32 (q.a : Int), .int .u32 (q.b : Int), .int .u32 (q.c : Int), .int .u32 (q.d : Int)]
def q4a (q : Q4) : Value := .agg #[.int .u32 (q.a : Int), .int .u32 (q.b : Int), .int .u32 (q.c : Int), .int .u32 (q.d : Int)]
attribute [local irreducible] lfN ad32 xl32
theorem cquarter_gen {a b c d x1 x2 x3 x4 y1 y2 y3 y4 z1 z2 z3 z4 : Nat}
    (a1 : IntKind.u32.wrap ((a : Int) + (b : Int)) = (x1 : Int)) (o1 : bits .xor .u32 (d : Int) (x1 : Int) = (z1 : Int)) (k1 : ∀ w, Calls Tryd.prog 63 #[.int .u32 (z1 : Int), .int .i64 16] w fun e w' => e = .returned (.int .u32 (x4 : Int)) ∧ w' = w)
    (a2 : IntKind.u32.wrap ((c : Int) + (x4 : Int)) = (x3 : Int)) (o2 : bits .xor .u32 (b : Int) (x3 : Int) = (z2 : Int)) (k2 : ∀ w, Calls Tryd.prog 63 #[.int .u32 (z2 : Int), .int .i64 12] w fun e w' => e = .returned (.int .u32 (x2 : Int)) ∧ w' = w)
    (a3 : IntKind.u32.wrap ((x1 : Int) + (x2 : Int)) = (y1 : Int)) (o3 : bits .xor .u32 (x4 : Int) (y1 : Int) = (z3 : Int)) (k3 : ∀ w, Calls Tryd.prog 63 #[.int .u32 (z3 : Int), .int .i64 8] w fun e w' => e = .returned (.int .u32 (y4 : Int)) ∧ w' = w)
    (a4 : IntKind.u32.wrap ((x3 : Int) + (y4 : Int)) = (y3 : Int)) (o4 : bits .xor .u32 (x2 : Int) (y3 : Int) = (z4 : Int)) (k4 : ∀ w, Calls Tryd.prog 63 #[.int .u32 (z4 : Int), .int .i64 7] w fun e w' => e = .returned (.int .u32 (y2 : Int)) ∧ w' = w)
    (w : World) : Calls Tryd.prog 56 #[.int .u32 (a : Int), .int .u32 (b : Int), .int .u32 (c : Int), .int .u32 (d : Int)] w fun e w' => e = .returned (q4t ⟨y1, y2, y3, y4⟩) ∧ w' = w := by
  have K1 := Lib.hid k1
  have K2 := Lib.hid k2
  have K3 := Lib.hid k3
  have K4 := Lib.hid k4
  clear k1 k2 k3 k4
  go_enter Tryd.func56, Tryd.ntmps56
  go_wp2_with fail
  go_at_call 63
  refine (K1.out w).mono ?_
  rintro e v1 ⟨rfl, rfl⟩
  go_wp2_with fail
  go_at_call 63
  refine (K2.out v1).mono ?_
  rintro e v2 ⟨rfl, rfl⟩
  go_wp2_with fail
  go_at_call 63
  refine (K3.out v2).mono ?_
  rintro e v3 ⟨rfl, rfl⟩
  go_wp2_with fail
  go_at_call 63
  refine (K4.out v3).mono ?_
  rintro e v4 ⟨rfl, rfl⟩
  go_wp2_with fail
  go_returns
  exact ⟨rfl, rfl⟩
theorem cquarter_any {q : Q4} (h : q.ok) (w : World) : Calls Tryd.prog 56 #[.int .u32 (q.a : Int), .int .u32 (q.b : Int), .int .u32 (q.c : Int), .int .u32 (q.d : Int)] w fun e w' => e = .returned (q4t q.quarter) ∧ w' = w := by
  obtain ⟨h1, h2, h3, h4⟩ := h
  have hw : ∀ x y : Nat, IntKind.u32.wrap ((x : Int) + (y : Int)) = (ad32 x y : Int) := fun x y => by rw [IntKind.wrap_u32]; unfold ad32; omega
  have kk : ∀ x y n : Nat, x < 4294967296 → y < 4294967296 → n ≤ 32 → bits .and .u64 (n : Int) 31 = (n : Int) → ∀ w, Calls Tryd.prog 63 #[.int .u32 ((x ^^^ y : Nat) : Int), .int .i64 (n : Int)] w fun e w' => e = .returned (.int .u32 (xl32 x y n : Int)) ∧ w' = w := fun x y n hx hy hn hb w => by
    unfold xl32
    exact rot_any (xor32_lt hx hy) hn hb w
  obtain ⟨g1, g2, g3, g4⟩ := Q4.half_ok (q := q) ⟨h1, h2, h3, h4⟩ 16 12
  exact cquarter_gen (hw _ _) (x32n _ _ h4 (ad32_lt _ _)) (kk _ _ 16 h4 (ad32_lt _ _) (by decide) (by decide)) (hw _ _) (x32n _ _ h2 (ad32_lt _ _)) (kk _ _ 12 h2 (ad32_lt _ _) (by decide) (by decide))
    (hw _ _) (x32n _ _ g4 (ad32_lt _ _)) (kk _ _ 8 g4 (ad32_lt _ _) (by decide) (by decide)) (hw _ _) (x32n _ _ g2 (ad32_lt _ _)) (kk _ _ 7 g2 (ad32_lt _ _) (by decide) (by decide)) w
end Go.Proofs.YtmhfkabpfkoocaaDoor
