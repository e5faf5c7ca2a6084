import Derived.Test.YtecphnhdcphgbaaSLaw
import Derived.Test.YtecphnhdcphgbaaSW
namespace Go.Proofs.Ytecphnhdcphgbaa
open Go Go.RowKit
theorem foldS_256 (f : Nat → Nat) (k : Nat) : foldS f k < 256 ^ 32 := by rw [← W4_256]; exact foldS_lt f k
theorem foldM_256 (f : Nat → Nat) (k : Nat) : foldM f k < 256 ^ 32 := by rw [← W4_256]; exact foldM_lt f k
theorem one_own {w : World} {B : Nat} (hB : B ≤ w.heap.size) : DOwn (w.alloc (.cells #[.int .i64 1] 3)) B (some ⟨w.heap.size, 0, none⟩) 1 1 1 :=
  ⟨OwnF.lit 3 hB #[.int .i64 1] 1 (dg8 1) (by decide) (by simp [dg8, by8, dgt]), by decide, can_of (n := 0) (by simp [by8, dgt])⟩
attribute [local irreducible] wd by8 foldS foldM
set_option maxRecDepth 20000
theorem folds_many {A : Option Addr} {c n : Nat} {b : Bool} (hn : 40 < n) (w : World) :
    Calls Try.prog 7 #[.slice A n c, .bool b] w fun e w' => e = .returned (.bool true) ∧ Below w.heap.size w w' := by
  have g1 : (40 : Int) < (n : Int) := by omega
  have KA := Lib.hid awake_any
  go_enter Try.func7, Try.ntmps7
  go_wp2_with fail
  go_at_call 15
  refine (KA.out _).mono ?_
  rintro e v1 ⟨rfl, h0⟩
  go_wp2_with fail
  go_ret
  exact ⟨rfl, h0⟩
set_option maxHeartbeats 800000 in
theorem folds_sum {A : Option Addr} {B c n : Nat} {f : Nat → Nat} (w : World) (h : RdS w B A n f) (hB : B ≤ w.heap.size) (hn : n ≤ 40) (hf : ∀ k, k < n → f k < W4) :
    Calls Try.prog 7 #[.slice A n c, .bool false] w fun e w' => e = .returned (.bool true) ∧ Below w.heap.size w w' := by
  have g1 : ¬ (40 : Int) < (n : Int) := by omega
  have KA := Lib.hid awake_any
  have HF := Lib.hid hf
  have KF := Lib.hid (fun w' (hb : Below w.heap.size w w') => tfold_sum (c := c) w' (h.keep (hb.mono hB)) (Nat.le_trans hB hb.size) (Nat.le_trans hn (by decide)) hf)
  clear hf
  go_enter Try.func7, Try.ntmps7
  go_wp2_with fail
  go_loopw [5, 16] (fun v i wr => ∃ k : Nat, k ≤ n ∧ i = .int .i64 k ∧ (∃ A' c' n', v = .slice A' n' c' ∧ DOwn wr w.heap.size A' c' n' (foldS f k)) ∧ Below w.heap.size w wr)
    (fun _ i _ => n - (intOf i).toNat)
  case atStart => exact ⟨0, by omega, rfl, ⟨none, 0, 0, rfl, by rw [foldS_zero]; exact DOwn.nothing _ _⟩, Below.refl _ _⟩
  case round =>
    obtain ⟨k, hk, rfl, ⟨A', c', n', rfl, dv⟩, hc⟩ := hrel
    by_cases hlt : k < n
    · have g2 : (k : Int) < (n : Int) := by omega
      obtain ⟨b, o, rfl, hbB, c0, c1, c2, c3⟩ := (h.keep (hc.mono hB)).at_ hlt
      obtain ⟨y, hy⟩ : ∃ y, y = f k := ⟨_, rfl⟩
      have KR := Lib.hid (fun w => rest_any (HF.out k hlt) w)
      rw [← hy] at c0 c1 c2 c3 KR
      have HY := Lib.hid hy
      clear hy
      replace dv := dv.keep ((Below.refl _ wr).alloc (Nat.le_refl _) (AE 25 y))
      replace hc := hc.alloc hc.size (AE 25 y)
      go_wp2_with fail
      clear c0 c1 c2 c3
      go_at_call 27
      refine (KR.out _).mono ?_
      rintro e v1 ⟨A2, c2, n2, rfl, d2, h0⟩
      replace dv := dv.keep h0
      have hs := hc.size
      replace hc := hc.trans (h0.mono hc.size)
      have KM := rsadd_any v1 dv.dig d2.dig (Nat.le_refl _) (can32 dv.can (foldS_256 f k)) (can32 d2.can (mod_LL_256 y)) (small200 (foldS_256 f k) (mod_LL_256 y)).1
      rw [Nat.add_mod, Nat.mod_mod, ← Nat.add_mod, HY.out, ← foldS_succ] at KM
      replace KM := Lib.hid KM
      clear d2 h0 dv KR
      go_wp2_with fail
      go_at_call 26
      refine KM.out.mono ?_
      rintro e v2 ⟨A3, c3, n3, rfl, d3, h0⟩
      clear KM
      go_wp2_with fail
      go_roundw
      case rel => exact ⟨k + 1, by omega, by go_num, ⟨A3, c3, n3, rfl, d3.mono hc.size⟩, hc.trans (h0.mono hc.size)⟩
      case measure => simp [intOf]; omega
    · obtain rfl : k = n := by omega
      have KI := Lib.hid (fun w' (hb : Below wr.heap.size wr w') => is_same (foldS_lt f k) w' _ _ _ (dv.keep hb).dig dv.can)
      clear dv
      go_wp2_with fail
      go_at_call 32
      refine (KF.out _ hc).mono ?_
      rintro e v1 ⟨rfl, h0⟩
      have KI' := Lib.hid (KI.out _ h0)
      replace hc := hc.trans (h0.mono hc.size)
      clear h0 KI KF
      go_wp2_with fail
      go_at_call 14
      refine KI'.out.mono ?_
      rintro e v2 ⟨rfl, h0⟩
      replace hc := hc.trans (h0.mono hc.size)
      clear h0 KI'
      go_wp2_with fail
      go_at_call 15
      refine (KA.out _).mono ?_
      rintro e v3 ⟨rfl, h0⟩
      go_wp2_with fail
      go_ret
      exact ⟨rfl, hc.trans (h0.mono hc.size)⟩
set_option maxHeartbeats 800000 in
theorem folds_mul {A : Option Addr} {B c n : Nat} {f : Nat → Nat} (w : World) (h : RdS w B A n f) (hB : B ≤ w.heap.size) (hn : n ≤ 40) (hf : ∀ k, k < n → f k < W4) :
    Calls Try.prog 7 #[.slice A n c, .bool true] w fun e w' => e = .returned (.bool true) ∧ Below w.heap.size w w' := by
  have g1 : ¬ (40 : Int) < (n : Int) := by omega
  have KA := Lib.hid awake_any
  have HF := Lib.hid hf
  have KF := Lib.hid (fun w' (hb : Below w.heap.size w w') => tfold_mul (c := c) w' (h.keep (hb.mono hB)) (Nat.le_trans hB hb.size) (Nat.le_trans hn (by decide)) hf)
  clear hf
  go_enter Try.func7, Try.ntmps7
  go_wp2_with fail
  go_loopw [5, 16] (fun v i wr => ∃ k : Nat, k ≤ n ∧ i = .int .i64 k ∧ (∃ A' c' n', v = .slice A' n' c' ∧ DOwn wr w.heap.size A' c' n' (foldM f k)) ∧ Below w.heap.size w wr)
    (fun _ i _ => n - (intOf i).toNat)
  case atStart => exact ⟨0, by omega, rfl, ⟨_, _, _, rfl, by rw [foldM_zero]; exact one_own (Nat.le_refl _)⟩, (Below.refl _ w).alloc (Nat.le_refl _) _⟩
  case round =>
    obtain ⟨k, hk, rfl, ⟨A', c', n', rfl, dv⟩, hc⟩ := hrel
    by_cases hlt : k < n
    · have g2 : (k : Int) < (n : Int) := by omega
      obtain ⟨b, o, rfl, hbB, c0, c1, c2, c3⟩ := (h.keep (hc.mono hB)).at_ hlt
      obtain ⟨y, hy⟩ : ∃ y, y = f k := ⟨_, rfl⟩
      have KR := Lib.hid (fun w => rest_any (HF.out k hlt) w)
      rw [← hy] at c0 c1 c2 c3 KR
      have HY := Lib.hid hy
      clear hy
      replace dv := dv.keep ((Below.refl _ wr).alloc (Nat.le_refl _) (AE 25 y))
      replace hc := hc.alloc hc.size (AE 25 y)
      go_wp2_with fail
      clear c0 c1 c2 c3
      go_at_call 27
      refine (KR.out _).mono ?_
      rintro e v1 ⟨A2, c2, n2, rfl, d2, h0⟩
      replace dv := dv.keep h0
      have hs := hc.size
      replace hc := hc.trans (h0.mono hc.size)
      have KM := rsmul_any v1 dv.dig d2.dig (Nat.le_refl _) (can32 dv.can (foldM_256 f k)) (can32 d2.can (mod_LL_256 y)) (small200 (foldM_256 f k) (mod_LL_256 y)).2
      rw [Nat.mul_mod, Nat.mod_mod, ← Nat.mul_mod, HY.out, ← foldM_succ] at KM
      replace KM := Lib.hid KM
      clear d2 h0 dv KR
      go_wp2_with fail
      go_at_call 31
      refine KM.out.mono ?_
      rintro e v2 ⟨A3, c3, n3, rfl, d3, h0⟩
      clear KM
      go_wp2_with fail
      go_roundw
      case rel => exact ⟨k + 1, by omega, by go_num, ⟨A3, c3, n3, rfl, d3.mono hc.size⟩, hc.trans (h0.mono hc.size)⟩
      case measure => simp [intOf]; omega
    · obtain rfl : k = n := by omega
      have KI := Lib.hid (fun w' (hb : Below wr.heap.size wr w') => is_same (foldM_lt f k) w' _ _ _ (dv.keep hb).dig dv.can)
      clear dv
      go_wp2_with fail
      go_at_call 32
      refine (KF.out _ hc).mono ?_
      rintro e v1 ⟨rfl, h0⟩
      have KI' := Lib.hid (KI.out _ h0)
      replace hc := hc.trans (h0.mono hc.size)
      clear h0 KI KF
      go_wp2_with fail
      go_at_call 14
      refine KI'.out.mono ?_
      rintro e v2 ⟨rfl, h0⟩
      replace hc := hc.trans (h0.mono hc.size)
      clear h0 KI'
      go_wp2_with fail
      go_at_call 15
      refine (KA.out _).mono ?_
      rintro e v3 ⟨rfl, h0⟩
      go_wp2_with fail
      go_ret
      exact ⟨rfl, hc.trans (h0.mono hc.size)⟩
theorem folds_law {A : Option Addr} {B c n : Nat} {b : Bool} {f : Nat → Nat} {w0 : World} (h : RdS w0 B A n f) (hB : B ≤ w0.heap.size) (hf : ∀ k, k < n → f k < W4) (w : World) (hw : w = w0) :
    Calls Try.prog 7 #[.slice A n c, .bool b] w fun e w' => e = .returned (.bool true) ∧ Below w.heap.size w w' := by
  subst hw
  by_cases hn : 40 < n
  · exact folds_many hn w
  · cases b
    · exact folds_sum w h hB (by omega) hf
    · exact folds_mul w h hB (by omega) hf
end Go.Proofs.Ytecphnhdcphgbaa
