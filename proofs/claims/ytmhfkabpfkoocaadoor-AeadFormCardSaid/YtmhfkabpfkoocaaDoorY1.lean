/-
  Layer 10's document: left, Quarter. By an AI agent.
-/
import Derived.Test.YtmhfkabpfkoocaaDoorMA
import Derived.Laws.Bits64
namespace Go.Proofs.YtmhfkabpfkoocaaDoor
open Go Go.RowKit
set_option maxRecDepth 20000
/-- A word of 32 bits turned to the left, once. -/
def lf1 (x : Nat) : Nat := x * 2 % 4294967296 + x / 2147483648
def lfN (x : Nat) : Nat → Nat
  | 0 => x
  | n + 1 => lf1 (lfN x n)
theorem lf1_lt {x : Nat} (hx : x < 4294967296) : lf1 x < 4294967296 := by unfold lf1; omega
theorem lfN_lt {x : Nat} (hx : x < 4294967296) : ∀ n, lfN x n < 4294967296
  | 0 => hx
  | n + 1 => lf1_lt (lfN_lt hx n)
theorem left_gen {x n : Nat} {l : Nat → Nat} (hn : n ≤ 1000) (l0 : l 0 = x) (ls : ∀ k, l (k + 1) = l k * 2 % 4294967296 + l k / 2147483648) (ll : ∀ k, l k < 4294967296) (w : World) :
    Calls Tryd.prog 51 #[.int .u32 (x : Int), .int .i64 (n : Int)] w fun e w' => e = .returned (.int .u32 ((l n : Nat) : Int)) ∧ w' = w := by
  have HS := Lib.hid ls
  have HL := Lib.hid ll
  clear ls ll
  go_enter Tryd.func51, Tryd.ntmps51
  go_wp2_with fail
  go_loop [0, 5] (fun v i => ∃ k : Nat, k ≤ n ∧ i = .int .i64 (k : Int) ∧ v = .int .u32 ((l k : Nat) : Int))
    (fun _ i => n - (intOf i).toNat)
  case atStart => exact ⟨0, by omega, rfl, by rw [l0]⟩
  case round =>
    obtain ⟨k, hk, rfl, rfl⟩ := hrel
    have e2 := HS.out k
    have e3 := HL.out k
    have e4 := HL.out (k + 1)
    by_cases hlt : k < n
    · have g1 : (k : Int) < (n : Int) := by omega
      obtain ⟨p, hp⟩ : ∃ p, p = l k := ⟨_, rfl⟩
      obtain ⟨q, hq⟩ : ∃ q, q = l (k + 1) := ⟨_, rfl⟩
      rw [← hp] at e2 e3 ⊢
      rw [← hq] at e2 e4
      have HP := Lib.hid hp
      have HQ := Lib.hid hq
      clear hp hq
      obtain ⟨t, ht⟩ : ∃ t, t = p * 2 % 4294967296 := ⟨_, rfl⟩
      obtain ⟨s, hs⟩ : ∃ s, s = p / 2147483648 := ⟨_, rfl⟩
      have g2 : IntKind.u32.wrap ((p : Int) * 2) = (t : Int) := by rw [IntKind.wrap_u32]; omega
      have g3 : (p : Int).tdiv 2147483648 = (s : Int) := by rw [Int.tdiv_eq_ediv_of_nonneg (by omega)]; omega
      have g5 : IntKind.u32.wrap (s : Int) = (s : Int) := by rw [IntKind.wrap_u32]; omega
      have g4 : IntKind.u32.wrap ((t : Int) + (s : Int)) = (q : Int) := by rw [IntKind.wrap_u32]; omega
      clear e2 e3 e4 ht hs l0
      go_wp2_with fail
      go_round
      case rel => exact ⟨k + 1, by omega, by go_num, by rw [HQ.out]⟩
      case measure => simp [intOf]; omega
    · obtain rfl : k = n := by omega
      have g1 : ¬ (k : Int) < (k : Int) := by omega
      clear e2 e3 e4 l0
      go_wp2_with fail
      go_ret
      exact ⟨rfl, rfl⟩
theorem left10_any {x n : Nat} (hx : x < 4294967296) (hn : n ≤ 1000) (w : World) : Calls Tryd.prog 51 #[.int .u32 (x : Int), .int .i64 (n : Int)] w fun e w' => e = .returned (.int .u32 ((lfN x n : Nat) : Int)) ∧ w' = w :=
  left_gen hn rfl (fun _ => rfl) (lfN_lt hx) w
/-! The quarter, in numbers. -/
def ad32 (x y : Nat) : Nat := (x + y) % 4294967296
theorem ad32_lt (x y : Nat) : ad32 x y < 4294967296 := Nat.mod_lt _ (by decide)
def xl32 (x y n : Nat) : Nat := lfN (x ^^^ y) n
theorem xor32_lt {x y : Nat} (hx : x < 4294967296) (hy : y < 4294967296) : x ^^^ y < 4294967296 := Nat.xor_lt_two_pow (n := 32) hx hy
theorem xl32_lt {x y : Nat} (hx : x < 4294967296) (hy : y < 4294967296) (n : Nat) : xl32 x y n < 4294967296 := lfN_lt (xor32_lt hx hy) n
/-- Four words. -/
structure Q4 where
  (a b c d : Nat)
def Q4.ok (q : Q4) : Prop := q.a < 4294967296 ∧ q.b < 4294967296 ∧ q.c < 4294967296 ∧ q.d < 4294967296
def Q4.half (q : Q4) (m n : Nat) : Q4 :=
  ⟨ad32 q.a q.b, xl32 q.b (ad32 q.c (xl32 q.d (ad32 q.a q.b) m)) n, ad32 q.c (xl32 q.d (ad32 q.a q.b) m), xl32 q.d (ad32 q.a q.b) m⟩
def Q4.quarter (q : Q4) : Q4 := (q.half 16 12).half 8 7
def Q4.at (q : Q4) (k : Nat) : Nat := [q.a, q.b, q.c, q.d].getD k 0
theorem Q4.half_ok {q : Q4} (h : q.ok) (m n : Nat) : (q.half m n).ok := by
  obtain ⟨_, h2, _, h4⟩ := h
  have := xl32_lt h4 (ad32_lt q.a q.b) m
  exact ⟨ad32_lt _ _, xl32_lt h2 (ad32_lt _ _) n, ad32_lt _ _, this⟩
theorem Q4.quarter_ok {q : Q4} (h : q.ok) : q.quarter.ok := (Q4.half_ok (Q4.half_ok h 16 12) 8 7)
theorem x32n (a b : Nat) (ha : a < 4294967296) (hb : b < 4294967296) : bits .xor .u32 (a : Int) (b : Int) = ((a ^^^ b : Nat) : Int) := by rw [u32_xor _ _ (by omega) (by omega) (by omega) (by omega)]; simp
def q4v (q : Q4) (k : Nat) : Value := .int .u32 ((q.at k : Nat) : Int)
attribute [local irreducible] lfN ad32 xl32
theorem quarter_gen {a b c d x1 x2 x3 x4 y1 y2 y3 y4 z1 z2 z3 z4 : Nat}
    (a1 : IntKind.u32.wrap ((a : Int) + (b : Int)) = (x1 : Int)) (o1 : bits .xor .u32 (d : Int) (x1 : Int) = (z1 : Int)) (k1 : ∀ w, Calls Tryd.prog 51 #[.int .u32 (z1 : Int), .int .i64 16] w fun e w' => e = .returned (.int .u32 (x4 : Int)) ∧ w' = w)
    (a2 : IntKind.u32.wrap ((c : Int) + (x4 : Int)) = (x3 : Int)) (o2 : bits .xor .u32 (b : Int) (x3 : Int) = (z2 : Int)) (k2 : ∀ w, Calls Tryd.prog 51 #[.int .u32 (z2 : Int), .int .i64 12] w fun e w' => e = .returned (.int .u32 (x2 : Int)) ∧ w' = w)
    (a3 : IntKind.u32.wrap ((x1 : Int) + (x2 : Int)) = (y1 : Int)) (o3 : bits .xor .u32 (x4 : Int) (y1 : Int) = (z3 : Int)) (k3 : ∀ w, Calls Tryd.prog 51 #[.int .u32 (z3 : Int), .int .i64 8] w fun e w' => e = .returned (.int .u32 (y4 : Int)) ∧ w' = w)
    (a4 : IntKind.u32.wrap ((x3 : Int) + (y4 : Int)) = (y3 : Int)) (o4 : bits .xor .u32 (x2 : Int) (y3 : Int) = (z4 : Int)) (k4 : ∀ w, Calls Tryd.prog 51 #[.int .u32 (z4 : Int), .int .i64 7] w fun e w' => e = .returned (.int .u32 (y2 : Int)) ∧ w' = w)
    (w : World) : Calls Tryd.prog 33 #[.int .u32 (a : Int), .int .u32 (b : Int), .int .u32 (c : Int), .int .u32 (d : Int)] w fun e w' => ∃ A c, e = .returned (.slice A 4 c) ∧ OwnF w' w.heap.size 34 A c 4 (q4v ⟨y1, y2, y3, y4⟩) ∧ Below w.heap.size w w' := by
  have K1 := Lib.hid k1
  have K2 := Lib.hid k2
  have K3 := Lib.hid k3
  have K4 := Lib.hid k4
  clear k1 k2 k3 k4
  go_enter Tryd.func33, Tryd.ntmps33
  go_wp2_with fail
  go_at_call 51
  refine (K1.out w).mono ?_
  rintro e v ⟨rfl, rfl⟩
  go_wp2_with fail
  go_at_call 51
  refine (K2.out v).mono ?_
  rintro e v ⟨rfl, rfl⟩
  go_wp2_with fail
  go_at_call 51
  refine (K3.out v).mono ?_
  rintro e v ⟨rfl, rfl⟩
  go_wp2_with fail
  go_at_call 51
  refine (K4.out v).mono ?_
  rintro e v ⟨rfl, rfl⟩
  go_wp2_with fail
  go_ret
  exact ⟨some ⟨v.heap.size, 0, none⟩, 4, rfl, OwnF.lit _ (Nat.le_refl _) _ 4 _ (by decide) rfl, (Below.refl _ v).alloc (Nat.le_refl _) _⟩
theorem quarter_any {q : Q4} (h : q.ok) (w : World) : Calls Tryd.prog 33 #[.int .u32 (q.a : Int), .int .u32 (q.b : Int), .int .u32 (q.c : Int), .int .u32 (q.d : Int)] w fun e w' => ∃ A c, e = .returned (.slice A 4 c) ∧ OwnF w' w.heap.size 34 A c 4 (q4v q.quarter) ∧ Below w.heap.size w w' := by
  obtain ⟨h1, h2, h3, h4⟩ := h
  have hw : ∀ x y : Nat, IntKind.u32.wrap ((x : Int) + (y : Int)) = (ad32 x y : Int) := fun x y => by rw [IntKind.wrap_u32]; unfold ad32; omega
  have kk : ∀ x y n : Nat, x < 4294967296 → y < 4294967296 → n ≤ 1000 → ∀ w, Calls Tryd.prog 51 #[.int .u32 ((x ^^^ y : Nat) : Int), .int .i64 (n : Int)] w fun e w' => e = .returned (.int .u32 (xl32 x y n : Int)) ∧ w' = w := fun x y n hx hy hn w => by
    unfold xl32
    exact left10_any (xor32_lt hx hy) hn w
  obtain ⟨g1, g2, g3, g4⟩ := Q4.half_ok (q := q) ⟨h1, h2, h3, h4⟩ 16 12
  exact quarter_gen (hw _ _) (x32n _ _ h4 (ad32_lt _ _)) (kk _ _ 16 h4 (ad32_lt _ _) (by decide)) (hw _ _) (x32n _ _ h2 (ad32_lt _ _)) (kk _ _ 12 h2 (ad32_lt _ _) (by decide))
    (hw _ _) (x32n _ _ g4 (ad32_lt _ _)) (kk _ _ 8 g4 (ad32_lt _ _) (by decide)) (hw _ _) (x32n _ _ g2 (ad32_lt _ _)) (kk _ _ 7 g2 (ad32_lt _ _) (by decide)) w
end Go.Proofs.YtmhfkabpfkoocaaDoor
