import Derived.Test.YtebhefgfebghkaaDoorX7
namespace Go.Proofs.YtebhefgfebghkaaDoor
open Go Go.RowKit
theorem numV_bytes (n : Nat) : ∀ k, numV (bytesL n k) = n % 2 ^ (8 * k)
  | 0 => by simp [bytesL, gen, numV, Nat.mod_one]
  | k + 1 => by
    have h : (numd n k).toNat = n / 2 ^ (8 * k) % 256 := by
      simp only [numd, UInt8.toNat_ofNat']
      exact Nat.mod_mod _ _
    have hl : (bytesL n k).length = k := gen_length _ _
    rw [bytesL, gen_succ, ← bytesL, numV_append, numV_bytes n k, hl, show 8 * (k + 1) = 8 * k + 8 from by omega, Nat.pow_add, Nat.mod_mul]
    simp [numV, h]
theorem mod_same {n m : Nat} (h : 0 < m) : n % m = n ↔ n / m = 0 := by
  rw [Nat.mod_eq_iff_lt (by omega), Nat.div_eq_zero_iff]; omega
/-- What is read as a number, and why not. -/
def numX (xs : List UInt8) : Nat := if xs.length ≤ 8 then numV xs else 0
def numE (xs : List UInt8) : Nat := if xs.length ≤ 8 then 0 else 2
theorem number_any {A : Option Addr} {c B : Nat} {xs : List UInt8} (w : World) (h1 : Rd w B A c xs) :
    Calls Tryd.prog 26 #[.slice A xs.length c] w fun e w' => e = .returned (.tuple #[.int .u64 (numX xs : Int), .int .i64 (numE xs : Int)]) ∧ w = w' := by
  by_cases h : xs.length ≤ 8
  · have := number_good w h1 h
    simpa [numX, numE, h] using this
  · have := number_long (A := A) (c := c) (n := xs.length) w (by omega)
    simpa [numX, numE, h] using this
theorem rnumber_any {A : Option Addr} {c B : Nat} {xs : List UInt8} (w : World) (h1 : Rd w B A c xs) :
    Calls Tryd.prog 27 #[.slice A xs.length c] w fun e w' => e = .returned (.tuple #[.int .u64 (numX xs : Int), .int .i64 (numE xs : Int)]) ∧ w = w' := by
  by_cases h : xs.length ≤ 8
  · have := rnumber_good w h1 h
    simpa [numX, numE, h] using this
  · have := rnumber_long (A := A) (c := c) (n := xs.length) w (by omega)
    simpa [numX, numE, h] using this
theorem number_len {A : Option Addr} {c B n : Nat} {xs : List UInt8} (hn : n = xs.length) (w : World) (h1 : Rd w B A c xs) :
    Calls Tryd.prog 27 #[.slice A n c] w fun e w' => e = .returned (.tuple #[.int .u64 (numX xs : Int), .int .i64 (numE xs : Int)]) ∧ w = w' := by
  subst hn
  exact rnumber_any w h1
/-- A number in bytes, and why not. -/
def bysL (n : Nat) (size : Int) : List UInt8 := if 0 ≤ size ∧ size ≤ 8 ∧ n / 2 ^ (8 * size.toNat) = 0 then bytesL n size.toNat else []
def bysE (n : Nat) (size : Int) : Nat := if 0 ≤ size ∧ size ≤ 8 then (if n / 2 ^ (8 * size.toNat) = 0 then 0 else 6) else 1
def BysPost (n : Nat) (size : Int) (w : World) (e : Ending) (w' : World) : Prop :=
  ∃ A c, e = .returned (.tuple #[.slice A (bysL n size).length c, .int .i64 (bysE n size : Int)]) ∧ Rd w' w'.heap.size A c (bysL n size) ∧ Below w.heap.size w w'
theorem bytes_any (w : World) (n : Nat) (size : Int) : Calls Tryd.prog 28 #[.int .u64 (n : Int), .int .i64 size] w (BysPost n size w) := by
  by_cases h : 0 ≤ size ∧ size ≤ 8
  · obtain ⟨m, rfl⟩ := Int.eq_ofNat_of_zero_le h.1
    by_cases hr : n / 2 ^ (8 * m) = 0
    · refine (bytes_good w n m (by omega) hr).mono fun e w' ⟨A, c, he, ho, hb⟩ => ?_
      have e1 : bysL n (m : Int) = bytesL n m := by unfold bysL; rw [if_pos ⟨h.1, h.2, by simpa using hr⟩]; simp
      have e2 : bysE n (m : Int) = 0 := by unfold bysE; rw [if_pos h, if_pos (by simpa using hr)]
      refine ⟨A, c, ?_, ?_, hb⟩
      · rw [e1, e2, he, bytesL, gen_length]; rfl
      · rw [e1]; exact ho.rd
    · refine (bytes_range w n m (by omega) hr).mono fun e w' ⟨he, hw⟩ => ?_
      subst hw
      have e1 : bysL n (m : Int) = [] := by unfold bysL; rw [if_neg (fun h => hr (by simpa using h.2.2))]
      have e2 : bysE n (m : Int) = 6 := by unfold bysE; rw [if_pos h, if_neg (fun h => hr (by simpa using h))]
      exact ⟨none, 0, by rw [e1, e2, he]; rfl, by rw [e1]; exact rd_nil _ _, Below.refl _ _⟩
  · refine (bytes_arg w n size (by omega)).mono fun e w' ⟨he, hw⟩ => ?_
    subst hw
    have e1 : bysL n size = [] := by unfold bysL; rw [if_neg (fun h' => h ⟨h'.1, h'.2.1⟩)]
    have e2 : bysE n size = 1 := by unfold bysE; rw [if_neg h]
    exact ⟨none, 0, by rw [e1, e2, he]; rfl, by rw [e1]; exact rd_nil _ _, Below.refl _ _⟩
set_option maxHeartbeats 800000 in
theorem rbytes_any (w : World) (n : Nat) (hn : n < 18446744073709551616) (size : Int) : Calls Tryd.prog 29 #[.int .u64 (n : Int), .int .i64 size] w (BysPost n size w) := by
  by_cases h : 0 ≤ size ∧ size ≤ 8
  · obtain ⟨m, rfl⟩ := Int.eq_ofNat_of_zero_le h.1
    have t1 : decide ((m : Int) < 0) = false := by simp
    have t2 : decide ((8 : Int) < (m : Int)) = false := by simp; omega
    have hx : numX (bytesL n m) = n % 2 ^ (8 * m) := by
      rw [numX, if_pos (by rw [bytesL, gen_length]; omega), numV_bytes]
    have hp : 0 < 2 ^ (8 * m) := Nat.pow_pos (by decide)
    by_cases hr : n / 2 ^ (8 * m) = 0
    · have t3 : ((numX (bytesL n m) : Int) != (n : Int)) = false := by
        rw [hx, (mod_same hp).2 hr]; simp
      have HR := Lib.hid hr
      have HX := Lib.hid hx
      have H := Lib.hid h
      clear hr hx h
      go_enter Tryd.func29, Tryd.ntmps29
      go_wp2_with fail
      refine (low_any w n m hn (by have := H.out; omega)).mono ?_
      rintro e w1 ⟨A, c, rfl, ho, hb⟩
      have hl : m = (bytesL n m).length := (gen_length _ _).symm
      have HL := Lib.hid hl
      clear hl
      go_wp2_with fail
      refine (number_len (HL.out) _ ho.rd).mono ?_
      rintro e w1 ⟨rfl, rfl⟩
      go_wp2_with fail
      go_ret2
      have e1 : bysL n (m : Int) = bytesL n m := by unfold bysL; rw [if_pos ⟨H.out.1, H.out.2, by simpa using HR.out⟩]; simp
      have e2 : bysE n (m : Int) = 0 := by unfold bysE; rw [if_pos H.out, if_pos (by simpa using HR.out)]
      exact ⟨A, c, by rw [e1, e2, ← HL.out]; rfl, by rw [e1]; exact ho.rd, hb⟩
    · have t3 : ((numX (bytesL n m) : Int) != (n : Int)) = true := by
        rw [hx, bne_iff_ne]
        exact fun hh => hr ((mod_same hp).1 (Int.ofNat_inj.1 hh))
      have HR := Lib.hid hr
      have HX := Lib.hid hx
      have H := Lib.hid h
      clear hr hx h
      go_enter Tryd.func29, Tryd.ntmps29
      go_wp2_with fail
      refine (low_any w n m hn (by have := H.out; omega)).mono ?_
      rintro e w1 ⟨A, c, rfl, ho, hb⟩
      have hl : m = (bytesL n m).length := (gen_length _ _).symm
      have HL := Lib.hid hl
      clear hl
      go_wp2_with fail
      refine (number_len (HL.out) _ ho.rd).mono ?_
      rintro e w1 ⟨rfl, rfl⟩
      go_wp2_with fail
      go_ret2
      have e1 : bysL n (m : Int) = [] := by unfold bysL; rw [if_neg (fun h => HR.out (by simpa using h.2.2))]
      have e2 : bysE n (m : Int) = 6 := by unfold bysE; rw [if_pos H.out, if_neg (fun h => HR.out (by simpa using h))]
      exact ⟨none, 0, by rw [e1, e2]; rfl, by rw [e1]; exact rd_nil _ _, hb⟩
  · have e1 : bysL n size = [] := by unfold bysL; rw [if_neg (fun h' => h ⟨h'.1, h'.2.1⟩)]
    have e2 : bysE n size = 1 := by unfold bysE; rw [if_neg h]
    have E1 := Lib.hid e1
    have E2 := Lib.hid e2
    clear e1 e2
    rcases (show size < 0 ∨ 8 < size by omega) with h' | h'
    · have t1 : decide (size < 0) = true := by simpa using h'
      clear h h'
      go_enter Tryd.func29, Tryd.ntmps29
      go_wp2
      go_ret2
      exact ⟨none, 0, by rw [E1.out, E2.out]; rfl, by rw [E1.out]; exact rd_nil _ _, Below.refl _ _⟩
    · have t1 : decide (size < 0) = false := by simp; omega
      have t2 : decide (8 < size) = true := by simpa using h'
      clear h h'
      go_enter Tryd.func29, Tryd.ntmps29
      go_wp2
      go_ret2
      exact ⟨none, 0, by rw [E1.out, E2.out]; rfl, by rw [E1.out]; exact rd_nil _ _, Below.refl _ _⟩
end Go.Proofs.YtebhefgfebghkaaDoor
