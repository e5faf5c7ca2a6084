/-
  Layer 5's laws LadderClamps, LadderMults, LadderPublics, LadderShares, over contracts of both sides. By an AI agent.
-/
import Derived.Test.YtojggpiolgcjeaaD1
namespace Go.Proofs.Ytojggpiolgcjeaa
open Go Go.RowKit
attribute [local irreducible] wd by8 d16 set16w fl vk
set_option maxRecDepth 20000
/-- What an answer is: bytes, and why there are none. -/
def Ans (L : List UInt8) (z : Int) (e : Ending) (w' : World) : Prop := ∃ A c, e = .returned (.tuple #[.slice A L.length c, .int .i64 z]) ∧ Rd w' w'.heap.size A c L
set_option maxHeartbeats 800000 in
theorem clamps_gen {A : Option Addr} {B c : Nat} {bs L : List UInt8} {z : Int} (hl : bs.length ≤ 140737488355328)
    (kg : ∀ (A : Option Addr) (c : Nat) (w : World), Rd w w.heap.size A c bs → Calls Try.prog 10 #[.slice A bs.length c] w fun e w' => Ans L z e w' ∧ Below w.heap.size w w')
    (kw : ∀ (A : Option Addr) (c : Nat) (w : World), Rd w w.heap.size A c bs → Calls Try.prog 11 #[.slice A bs.length c] w fun e w' => Ans L z e w' ∧ Below w.heap.size w w')
    (ka : ∀ w, Calls Try.prog 12 #[] w fun e w' => e = .returned (.bool true) ∧ Below w.heap.size w w')
    (w : World) (hr : Rd w B A c bs) (hB : B ≤ w.heap.size) :
    Calls Try.prog 3 #[.slice A bs.length c] w fun e w' => e = .returned (.bool true) ∧ Below w.heap.size w w' := by
  have KG := Lib.hid kg
  have KW := Lib.hid kw
  have KA := Lib.hid ka
  have KO := Lib.hid (own5_any w hr hB hl)
  clear kg kw ka
  go_enter Try.func3, Try.ntmps3
  go_wp2_with fail
  go_at_call 9
  refine KO.out.mono ?_
  rintro e v1 ⟨A1, c1, rfl, o1, hc⟩
  clear KO
  have r0 := hr.keep (hc.mono hB)
  have r1 := o1.rd
  clear o1
  go_wp2_with fail
  go_at_call 10
  refine (KG.out _ _ _ r1).mono ?_
  rintro e v2 ⟨⟨A2, c2, rfl, r2⟩, h0⟩
  replace r0 := r0.keep (h0.mono (Nat.le_trans hB hc.size))
  replace r1 := (r1.keep h0).mono h0.size
  replace hc := hc.trans (h0.mono hc.size)
  clear h0 KG
  go_wp2_with fail
  go_at_call 11
  refine (KW.out _ _ _ (r0.mono (Nat.le_trans hB hc.size))).mono ?_
  rintro e v3 ⟨⟨A3, c3, rfl, r3⟩, h0⟩
  replace r0 := r0.keep (h0.mono (Nat.le_trans hB hc.size))
  replace r1 := (r1.keep h0).mono h0.size
  replace r2 := (r2.keep h0).mono h0.size
  replace hc := hc.trans (h0.mono hc.size)
  clear h0 KW
  have q0 := run_str (P := Try.prog) v3 22 5 Try.underlying22 Try.underlying5 (dst := 9) Try.underlying9 r0
  have q1 := run_str (P := Try.prog) v3 22 5 Try.underlying22 Try.underlying5 (dst := 9) Try.underlying9 r1
  have q2 := run_str (P := Try.prog) v3 22 5 Try.underlying22 Try.underlying5 (dst := 9) Try.underlying9 r2
  have q3 := run_str (P := Try.prog) v3 22 5 Try.underlying22 Try.underlying5 (dst := 9) Try.underlying9 r3
  clear r0 r1 r2 r3 hr
  go_wp2_with fail
  go_at_call 12
  refine (KA.out _).mono ?_
  rintro e v4 ⟨rfl, h0⟩
  go_wp2_with fail
  go_ret
  exact ⟨rfl, hc.trans (h0.mono hc.size)⟩
/-- more -/
def nineL : List UInt8 := gen (bf 9) 32
theorem nine_len : nineL.length = 32 := gen_length _ _
set_option maxHeartbeats 1600000 in
theorem mults_gen {A0 : Option Addr} {c0 : Nat} {ks : List UInt8} {A1 : Option Addr} {c1 : Nat} {us : List UInt8} {B : Nat} {L : List UInt8} {z : Int}  (hl0 : ks.length ≤ 140737488355328) (hl1 : us.length ≤ 140737488355328)
    (kg : ∀ (A0 : Option Addr) (c0 : Nat) (A1 : Option Addr) (c1 : Nat) (w : World), Rd w w.heap.size A0 c0 ks → Rd w w.heap.size A1 c1 us → Calls Try.prog 13 #[.slice A0 ks.length c0, .slice A1 us.length c1] w fun e w' => Ans L z e w' ∧ Below w.heap.size w w')
    (kw : ∀ (A0 : Option Addr) (c0 : Nat) (A1 : Option Addr) (c1 : Nat) (w : World), Rd w w.heap.size A0 c0 ks → Rd w w.heap.size A1 c1 us → Calls Try.prog 14 #[.slice A0 ks.length c0, .slice A1 us.length c1] w fun e w' => Ans L z e w' ∧ Below w.heap.size w w')
    (ka : ∀ w, Calls Try.prog 12 #[] w fun e w' => e = .returned (.bool true) ∧ Below w.heap.size w w')
    (w : World) (a0 : Rd w B A0 c0 ks) (a1 : Rd w B A1 c1 us) (hB : B ≤ w.heap.size) :
    Calls Try.prog 4 #[.slice A0 ks.length c0, .slice A1 us.length c1] w fun e w' => e = .returned (.bool true) ∧ Below w.heap.size w w' := by
  have KG := Lib.hid kg
  have KW := Lib.hid kw
  have KA := Lib.hid ka
  clear kg kw ka
  have hc : Below w.heap.size w w := Below.refl _ w
  go_enter Try.func4, Try.ntmps4
  go_wp2_with fail
  go_at_call 9
  refine (own5_any _ a0 (Nat.le_trans hB hc.size) hl0).mono ?_
  rintro e v1 ⟨A_r1, c_r1, rfl, r1, h0⟩
  replace a0 := a0.keep (h0.mono (Nat.le_trans hB hc.size))
  replace a1 := a1.keep (h0.mono (Nat.le_trans hB hc.size))
  replace r1 := r1.rd
  replace hc := hc.trans (h0.mono hc.size)
  clear h0
  go_wp2_with fail
  go_at_call 9
  refine (own5_any _ a1 (Nat.le_trans hB hc.size) hl1).mono ?_
  rintro e v2 ⟨A_r2, c_r2, rfl, r2, h0⟩
  replace a0 := a0.keep (h0.mono (Nat.le_trans hB hc.size))
  replace a1 := a1.keep (h0.mono (Nat.le_trans hB hc.size))
  replace r1 := (r1.keep h0).mono h0.size
  replace r2 := r2.rd
  replace hc := hc.trans (h0.mono hc.size)
  clear h0
  go_wp2_with fail
  go_at_call 13
  refine (KG.out _ _ _ _ _ r1 r2).mono ?_
  rintro e v3 ⟨⟨A_r3, c_r3, rfl, r3⟩, h0⟩
  replace a0 := a0.keep (h0.mono (Nat.le_trans hB hc.size))
  replace a1 := a1.keep (h0.mono (Nat.le_trans hB hc.size))
  replace r1 := (r1.keep h0).mono h0.size
  replace r2 := (r2.keep h0).mono h0.size
  replace hc := hc.trans (h0.mono hc.size)
  clear h0
  go_wp2_with fail
  go_at_call 14
  refine (KW.out _ _ _ _ _ (a0.mono (Nat.le_trans hB hc.size)) (a1.mono (Nat.le_trans hB hc.size))).mono ?_
  rintro e v4 ⟨⟨A_r4, c_r4, rfl, r4⟩, h0⟩
  replace a0 := a0.keep (h0.mono (Nat.le_trans hB hc.size))
  replace a1 := a1.keep (h0.mono (Nat.le_trans hB hc.size))
  replace r1 := (r1.keep h0).mono h0.size
  replace r2 := (r2.keep h0).mono h0.size
  replace r3 := (r3.keep h0).mono h0.size
  replace hc := hc.trans (h0.mono hc.size)
  clear h0
  have q_r1 := run_str (P := Try.prog) v4 22 5 Try.underlying22 Try.underlying5 (dst := 9) Try.underlying9 r1
  have q_r2 := run_str (P := Try.prog) v4 22 5 Try.underlying22 Try.underlying5 (dst := 9) Try.underlying9 r2
  have q_r3 := run_str (P := Try.prog) v4 22 5 Try.underlying22 Try.underlying5 (dst := 9) Try.underlying9 r3
  have q_r4 := run_str (P := Try.prog) v4 22 5 Try.underlying22 Try.underlying5 (dst := 9) Try.underlying9 r4
  have q_a0 := run_str (P := Try.prog) v4 22 5 Try.underlying22 Try.underlying5 (dst := 9) Try.underlying9 a0
  have q_a1 := run_str (P := Try.prog) v4 22 5 Try.underlying22 Try.underlying5 (dst := 9) Try.underlying9 a1
  clear r1 r2 r3 r4 a0 a1
  go_wp2_with fail
  go_at_call 12
  refine (KA.out _).mono ?_
  rintro e vz ⟨rfl, h0⟩
  go_wp2_with fail
  go_ret
  exact ⟨rfl, hc.trans (h0.mono hc.size)⟩
set_option maxHeartbeats 1600000 in
theorem publics_gen {A0 : Option Addr} {c0 : Nat} {ks : List UInt8} {B : Nat} {L : List UInt8} {z : Int}  (hl0 : ks.length ≤ 140737488355328)
    (kg : ∀ (A0 : Option Addr) (c0 : Nat) (w : World), Rd w w.heap.size A0 c0 ks → Calls Try.prog 15 #[.slice A0 ks.length c0] w fun e w' => Ans L z e w' ∧ Below w.heap.size w w')
    (kw : ∀ (A0 : Option Addr) (c0 : Nat) (A1 : Option Addr) (c1 : Nat) (w : World), Rd w w.heap.size A0 c0 ks → Rd w w.heap.size A1 c1 nineL → Calls Try.prog 14 #[.slice A0 ks.length c0, .slice A1 nineL.length c1] w fun e w' => Ans L z e w' ∧ Below w.heap.size w w')
    (kn : ∀ w, Calls Try.prog 16 #[] w fun e w' => ∃ A c, e = .returned (.slice A nineL.length c) ∧ Rd w' w'.heap.size A c nineL ∧ Below w.heap.size w w')
    (ka : ∀ w, Calls Try.prog 12 #[] w fun e w' => e = .returned (.bool true) ∧ Below w.heap.size w w')
    (w : World) (a0 : Rd w B A0 c0 ks) (hB : B ≤ w.heap.size) :
    Calls Try.prog 5 #[.slice A0 ks.length c0] w fun e w' => e = .returned (.bool true) ∧ Below w.heap.size w w' := by
  have KG := Lib.hid kg
  have KW := Lib.hid kw
  have KN := Lib.hid kn
  have KA := Lib.hid ka
  clear kg kw kn ka
  have hc : Below w.heap.size w w := Below.refl _ w
  go_enter Try.func5, Try.ntmps5
  go_wp2_with fail
  go_at_call 9
  refine (own5_any _ a0 (Nat.le_trans hB hc.size) hl0).mono ?_
  rintro e v1 ⟨A_r1, c_r1, rfl, r1, h0⟩
  replace a0 := a0.keep (h0.mono (Nat.le_trans hB hc.size))
  replace r1 := r1.rd
  replace hc := hc.trans (h0.mono hc.size)
  clear h0
  go_wp2_with fail
  go_at_call 15
  refine (KG.out _ _ _ r1).mono ?_
  rintro e v2 ⟨⟨A_r2, c_r2, rfl, r2⟩, h0⟩
  replace a0 := a0.keep (h0.mono (Nat.le_trans hB hc.size))
  replace r1 := (r1.keep h0).mono h0.size
  replace hc := hc.trans (h0.mono hc.size)
  clear h0
  go_wp2_with fail
  go_at_call 16
  refine (KN.out _).mono ?_
  rintro e v3 ⟨A_r3, c_r3, rfl, r3, h0⟩
  replace a0 := a0.keep (h0.mono (Nat.le_trans hB hc.size))
  replace r1 := (r1.keep h0).mono h0.size
  replace r2 := (r2.keep h0).mono h0.size
  replace hc := hc.trans (h0.mono hc.size)
  clear h0
  go_wp2_with fail
  go_at_call 14
  refine (KW.out _ _ _ _ _ (a0.mono (Nat.le_trans hB hc.size)) r3).mono ?_
  rintro e v4 ⟨⟨A_r4, c_r4, rfl, r4⟩, h0⟩
  replace a0 := a0.keep (h0.mono (Nat.le_trans hB hc.size))
  replace r1 := (r1.keep h0).mono h0.size
  replace r2 := (r2.keep h0).mono h0.size
  replace r3 := (r3.keep h0).mono h0.size
  replace hc := hc.trans (h0.mono hc.size)
  clear h0
  have q_r2 := run_str (P := Try.prog) v4 22 5 Try.underlying22 Try.underlying5 (dst := 9) Try.underlying9 r2
  have q_r4 := run_str (P := Try.prog) v4 22 5 Try.underlying22 Try.underlying5 (dst := 9) Try.underlying9 r4
  clear r1 r2 r3 r4 a0
  go_wp2_with fail
  go_at_call 12
  refine (KA.out _).mono ?_
  rintro e vz ⟨rfl, h0⟩
  go_wp2_with fail
  go_ret
  exact ⟨rfl, hc.trans (h0.mono hc.size)⟩
set_option maxHeartbeats 1600000 in
theorem shares_gen {A0 : Option Addr} {c0 : Nat} {ks : List UInt8} {A1 : Option Addr} {c1 : Nat} {us : List UInt8} {B : Nat} {L : List UInt8} {z : Int}  (hl0 : ks.length ≤ 140737488355328) (hl1 : us.length ≤ 140737488355328)
    (kg : ∀ (A0 : Option Addr) (c0 : Nat) (A1 : Option Addr) (c1 : Nat) (w : World), Rd w w.heap.size A0 c0 ks → Rd w w.heap.size A1 c1 us → Calls Try.prog 17 #[.slice A0 ks.length c0, .slice A1 us.length c1] w fun e w' => Ans L z e w' ∧ Below w.heap.size w w')
    (kw : ∀ (A0 : Option Addr) (c0 : Nat) (A1 : Option Addr) (c1 : Nat) (w : World), Rd w w.heap.size A0 c0 ks → Rd w w.heap.size A1 c1 us → Calls Try.prog 18 #[.slice A0 ks.length c0, .slice A1 us.length c1] w fun e w' => Ans L z e w' ∧ Below w.heap.size w w')
    (ka : ∀ w, Calls Try.prog 12 #[] w fun e w' => e = .returned (.bool true) ∧ Below w.heap.size w w')
    (w : World) (a0 : Rd w B A0 c0 ks) (a1 : Rd w B A1 c1 us) (hB : B ≤ w.heap.size) :
    Calls Try.prog 6 #[.slice A0 ks.length c0, .slice A1 us.length c1] w fun e w' => e = .returned (.bool true) ∧ Below w.heap.size w w' := by
  have KG := Lib.hid kg
  have KW := Lib.hid kw
  have KA := Lib.hid ka
  clear kg kw ka
  have hc : Below w.heap.size w w := Below.refl _ w
  go_enter Try.func6, Try.ntmps6
  go_wp2_with fail
  go_at_call 9
  refine (own5_any _ a0 (Nat.le_trans hB hc.size) hl0).mono ?_
  rintro e v1 ⟨A_r1, c_r1, rfl, r1, h0⟩
  replace a0 := a0.keep (h0.mono (Nat.le_trans hB hc.size))
  replace a1 := a1.keep (h0.mono (Nat.le_trans hB hc.size))
  replace r1 := r1.rd
  replace hc := hc.trans (h0.mono hc.size)
  clear h0
  go_wp2_with fail
  go_at_call 9
  refine (own5_any _ a1 (Nat.le_trans hB hc.size) hl1).mono ?_
  rintro e v2 ⟨A_r2, c_r2, rfl, r2, h0⟩
  replace a0 := a0.keep (h0.mono (Nat.le_trans hB hc.size))
  replace a1 := a1.keep (h0.mono (Nat.le_trans hB hc.size))
  replace r1 := (r1.keep h0).mono h0.size
  replace r2 := r2.rd
  replace hc := hc.trans (h0.mono hc.size)
  clear h0
  go_wp2_with fail
  go_at_call 17
  refine (KG.out _ _ _ _ _ r1 r2).mono ?_
  rintro e v3 ⟨⟨A_r3, c_r3, rfl, r3⟩, h0⟩
  replace a0 := a0.keep (h0.mono (Nat.le_trans hB hc.size))
  replace a1 := a1.keep (h0.mono (Nat.le_trans hB hc.size))
  replace r1 := (r1.keep h0).mono h0.size
  replace r2 := (r2.keep h0).mono h0.size
  replace hc := hc.trans (h0.mono hc.size)
  clear h0
  go_wp2_with fail
  go_at_call 18
  refine (KW.out _ _ _ _ _ (a0.mono (Nat.le_trans hB hc.size)) (a1.mono (Nat.le_trans hB hc.size))).mono ?_
  rintro e v4 ⟨⟨A_r4, c_r4, rfl, r4⟩, h0⟩
  replace a0 := a0.keep (h0.mono (Nat.le_trans hB hc.size))
  replace a1 := a1.keep (h0.mono (Nat.le_trans hB hc.size))
  replace r1 := (r1.keep h0).mono h0.size
  replace r2 := (r2.keep h0).mono h0.size
  replace r3 := (r3.keep h0).mono h0.size
  replace hc := hc.trans (h0.mono hc.size)
  clear h0
  have q_r3 := run_str (P := Try.prog) v4 22 5 Try.underlying22 Try.underlying5 (dst := 9) Try.underlying9 r3
  have q_r4 := run_str (P := Try.prog) v4 22 5 Try.underlying22 Try.underlying5 (dst := 9) Try.underlying9 r4
  clear r1 r2 r3 r4 a0 a1
  go_wp2_with fail
  go_at_call 12
  refine (KA.out _).mono ?_
  rintro e vz ⟨rfl, h0⟩
  go_wp2_with fail
  go_ret
  exact ⟨rfl, hc.trans (h0.mono hc.size)⟩
set_option maxHeartbeats 1600000 in
theorem agrees_good {A0 : Option Addr} {c0 : Nat} {js : List UInt8} {A1 : Option Addr} {c1 : Nat} {ks : List UInt8} {B : Nat} {L : List UInt8} {z : Int} {P Q : List UInt8} (hl0 : js.length ≤ 140737488355328) (hl1 : ks.length ≤ 140737488355328)
    (kp : ∀ (A0 : Option Addr) (c0 : Nat) (w : World), Rd w w.heap.size A0 c0 js → Calls Try.prog 15 #[.slice A0 js.length c0] w fun e w' => Ans P 0 e w' ∧ Below w.heap.size w w')
    (kq : ∀ (A0 : Option Addr) (c0 : Nat) (w : World), Rd w w.heap.size A0 c0 ks → Calls Try.prog 15 #[.slice A0 ks.length c0] w fun e w' => Ans Q 0 e w' ∧ Below w.heap.size w w')
    (kg : ∀ (A0 : Option Addr) (c0 : Nat) (A1 : Option Addr) (c1 : Nat) (w : World), Rd w w.heap.size A0 c0 js → Rd w w.heap.size A1 c1 Q → Calls Try.prog 17 #[.slice A0 js.length c0, .slice A1 Q.length c1] w fun e w' => Ans L z e w' ∧ Below w.heap.size w w')
    (kw : ∀ (A0 : Option Addr) (c0 : Nat) (A1 : Option Addr) (c1 : Nat) (w : World), Rd w w.heap.size A0 c0 ks → Rd w w.heap.size A1 c1 P → Calls Try.prog 17 #[.slice A0 ks.length c0, .slice A1 P.length c1] w fun e w' => Ans L z e w' ∧ Below w.heap.size w w')
    (ka : ∀ w, Calls Try.prog 12 #[] w fun e w' => e = .returned (.bool true) ∧ Below w.heap.size w w')
    (w : World) (a0 : Rd w B A0 c0 js) (a1 : Rd w B A1 c1 ks) (hB : B ≤ w.heap.size) :
    Calls Try.prog 8 #[.slice A0 js.length c0, .slice A1 ks.length c1] w fun e w' => e = .returned (.bool true) ∧ Below w.heap.size w w' := by
  have KP := Lib.hid kp
  have KQ := Lib.hid kq
  have KG := Lib.hid kg
  have KW := Lib.hid kw
  have KA := Lib.hid ka
  clear kp kq kg kw ka
  have hc : Below w.heap.size w w := Below.refl _ w
  go_enter Try.func8, Try.ntmps8
  go_wp2_with fail
  go_at_call 9
  refine (own5_any _ a0 (Nat.le_trans hB hc.size) hl0).mono ?_
  rintro e v1 ⟨A_r1, c_r1, rfl, r1, h0⟩
  replace a0 := a0.keep (h0.mono (Nat.le_trans hB hc.size))
  replace a1 := a1.keep (h0.mono (Nat.le_trans hB hc.size))
  replace r1 := r1.rd
  replace hc := hc.trans (h0.mono hc.size)
  clear h0
  go_wp2_with fail
  go_at_call 15
  refine (KP.out _ _ _ r1).mono ?_
  rintro e v2 ⟨⟨A_r2, c_r2, rfl, r2⟩, h0⟩
  replace a0 := a0.keep (h0.mono (Nat.le_trans hB hc.size))
  replace a1 := a1.keep (h0.mono (Nat.le_trans hB hc.size))
  replace r1 := (r1.keep h0).mono h0.size
  replace hc := hc.trans (h0.mono hc.size)
  clear h0
  go_wp2_with fail
  go_at_call 9
  refine (own5_any _ a1 (Nat.le_trans hB hc.size) hl1).mono ?_
  rintro e v3 ⟨A_r3, c_r3, rfl, r3, h0⟩
  replace a0 := a0.keep (h0.mono (Nat.le_trans hB hc.size))
  replace a1 := a1.keep (h0.mono (Nat.le_trans hB hc.size))
  replace r1 := (r1.keep h0).mono h0.size
  replace r2 := (r2.keep h0).mono h0.size
  replace r3 := r3.rd
  replace hc := hc.trans (h0.mono hc.size)
  clear h0
  go_wp2_with fail
  go_at_call 15
  refine (KQ.out _ _ _ r3).mono ?_
  rintro e v4 ⟨⟨A_r4, c_r4, rfl, r4⟩, h0⟩
  replace a0 := a0.keep (h0.mono (Nat.le_trans hB hc.size))
  replace a1 := a1.keep (h0.mono (Nat.le_trans hB hc.size))
  replace r1 := (r1.keep h0).mono h0.size
  replace r2 := (r2.keep h0).mono h0.size
  replace r3 := (r3.keep h0).mono h0.size
  replace hc := hc.trans (h0.mono hc.size)
  clear h0
  go_wp2_with fail
  go_at_call 9
  refine (own5_any _ a0 (Nat.le_trans hB hc.size) hl0).mono ?_
  rintro e v5 ⟨A_r5, c_r5, rfl, r5, h0⟩
  replace a0 := a0.keep (h0.mono (Nat.le_trans hB hc.size))
  replace a1 := a1.keep (h0.mono (Nat.le_trans hB hc.size))
  replace r1 := (r1.keep h0).mono h0.size
  replace r2 := (r2.keep h0).mono h0.size
  replace r3 := (r3.keep h0).mono h0.size
  replace r4 := (r4.keep h0).mono h0.size
  replace r5 := r5.rd
  replace hc := hc.trans (h0.mono hc.size)
  clear h0
  go_wp2_with fail
  go_at_call 17
  refine (KG.out _ _ _ _ _ r5 r4).mono ?_
  rintro e v6 ⟨⟨A_r6, c_r6, rfl, r6⟩, h0⟩
  replace a0 := a0.keep (h0.mono (Nat.le_trans hB hc.size))
  replace a1 := a1.keep (h0.mono (Nat.le_trans hB hc.size))
  replace r1 := (r1.keep h0).mono h0.size
  replace r2 := (r2.keep h0).mono h0.size
  replace r3 := (r3.keep h0).mono h0.size
  replace r4 := (r4.keep h0).mono h0.size
  replace r5 := (r5.keep h0).mono h0.size
  replace hc := hc.trans (h0.mono hc.size)
  clear h0
  go_wp2_with fail
  go_at_call 9
  refine (own5_any _ a1 (Nat.le_trans hB hc.size) hl1).mono ?_
  rintro e v7 ⟨A_r7, c_r7, rfl, r7, h0⟩
  replace a0 := a0.keep (h0.mono (Nat.le_trans hB hc.size))
  replace a1 := a1.keep (h0.mono (Nat.le_trans hB hc.size))
  replace r1 := (r1.keep h0).mono h0.size
  replace r2 := (r2.keep h0).mono h0.size
  replace r3 := (r3.keep h0).mono h0.size
  replace r4 := (r4.keep h0).mono h0.size
  replace r5 := (r5.keep h0).mono h0.size
  replace r6 := (r6.keep h0).mono h0.size
  replace r7 := r7.rd
  replace hc := hc.trans (h0.mono hc.size)
  clear h0
  go_wp2_with fail
  go_at_call 17
  refine (KW.out _ _ _ _ _ r7 r2).mono ?_
  rintro e v8 ⟨⟨A_r8, c_r8, rfl, r8⟩, h0⟩
  replace a0 := a0.keep (h0.mono (Nat.le_trans hB hc.size))
  replace a1 := a1.keep (h0.mono (Nat.le_trans hB hc.size))
  replace r1 := (r1.keep h0).mono h0.size
  replace r2 := (r2.keep h0).mono h0.size
  replace r3 := (r3.keep h0).mono h0.size
  replace r4 := (r4.keep h0).mono h0.size
  replace r5 := (r5.keep h0).mono h0.size
  replace r6 := (r6.keep h0).mono h0.size
  replace r7 := (r7.keep h0).mono h0.size
  replace hc := hc.trans (h0.mono hc.size)
  clear h0
  have q_r6 := run_str (P := Try.prog) v8 22 5 Try.underlying22 Try.underlying5 (dst := 9) Try.underlying9 r6
  have q_r8 := run_str (P := Try.prog) v8 22 5 Try.underlying22 Try.underlying5 (dst := 9) Try.underlying9 r8
  clear r1 r2 r3 r4 r5 r6 r7 r8 a0 a1
  go_wp2_with fail
  go_at_call 12
  refine (KA.out _).mono ?_
  rintro e vz ⟨rfl, h0⟩
  go_wp2_with fail
  go_ret
  exact ⟨rfl, hc.trans (h0.mono hc.size)⟩
set_option maxHeartbeats 1600000 in
theorem agrees_bg {A0 : Option Addr} {c0 : Nat} {js : List UInt8} {A1 : Option Addr} {c1 : Nat} {ks : List UInt8} {B : Nat} {P Q : List UInt8} (hj : js.length ≠ 32) (hk : ks.length = 32) (hl0 : js.length ≤ 140737488355328) (hl1 : ks.length ≤ 140737488355328)
    (kp : ∀ (A0 : Option Addr) (c0 : Nat) (w : World), Rd w w.heap.size A0 c0 js → Calls Try.prog 15 #[.slice A0 js.length c0] w fun e w' => Ans P 1 e w' ∧ Below w.heap.size w w')
    (kq : ∀ (A0 : Option Addr) (c0 : Nat) (w : World), Rd w w.heap.size A0 c0 ks → Calls Try.prog 15 #[.slice A0 ks.length c0] w fun e w' => Ans Q 0 e w' ∧ Below w.heap.size w w')
    (ka : ∀ w, Calls Try.prog 12 #[] w fun e w' => e = .returned (.bool true) ∧ Below w.heap.size w w')
    (w : World) (a0 : Rd w B A0 c0 js) (a1 : Rd w B A1 c1 ks) (hB : B ≤ w.heap.size) :
    Calls Try.prog 8 #[.slice A0 js.length c0, .slice A1 ks.length c1] w fun e w' => e = .returned (.bool true) ∧ Below w.heap.size w w' := by
  have KP := Lib.hid kp
  have KQ := Lib.hid kq
  have KA := Lib.hid ka
  clear kp kq ka
  have hc : Below w.heap.size w w := Below.refl _ w
  have hj1 : ((js.length : Int) == 32) = false := by simp; omega
  have hj2 : ((js.length : Int) != 32) = true := by simp; omega
  have hk1 : ((ks.length : Int) == 32) = true := by simp; omega
  have hk2 : ((ks.length : Int) != 32) = false := by simp; omega
  clear hj hk
  go_enter Try.func8, Try.ntmps8
  go_wp2_with fail
  go_at_call 9
  refine (own5_any _ a0 (Nat.le_trans hB hc.size) hl0).mono ?_
  rintro e v1 ⟨A_r1, c_r1, rfl, r1, h0⟩
  replace a0 := a0.keep (h0.mono (Nat.le_trans hB hc.size))
  replace a1 := a1.keep (h0.mono (Nat.le_trans hB hc.size))
  replace r1 := r1.rd
  replace hc := hc.trans (h0.mono hc.size)
  clear h0
  go_wp2_with fail
  go_at_call 15
  refine (KP.out _ _ _ r1).mono ?_
  rintro e v2 ⟨⟨A_r2, c_r2, rfl, r2⟩, h0⟩
  replace a0 := a0.keep (h0.mono (Nat.le_trans hB hc.size))
  replace a1 := a1.keep (h0.mono (Nat.le_trans hB hc.size))
  replace r1 := (r1.keep h0).mono h0.size
  replace hc := hc.trans (h0.mono hc.size)
  clear h0
  go_wp2_with fail
  go_at_call 9
  refine (own5_any _ a1 (Nat.le_trans hB hc.size) hl1).mono ?_
  rintro e v3 ⟨A_r3, c_r3, rfl, r3, h0⟩
  replace a0 := a0.keep (h0.mono (Nat.le_trans hB hc.size))
  replace a1 := a1.keep (h0.mono (Nat.le_trans hB hc.size))
  replace r1 := (r1.keep h0).mono h0.size
  replace r2 := (r2.keep h0).mono h0.size
  replace r3 := r3.rd
  replace hc := hc.trans (h0.mono hc.size)
  clear h0
  go_wp2_with fail
  go_at_call 15
  refine (KQ.out _ _ _ r3).mono ?_
  rintro e v4 ⟨⟨A_r4, c_r4, rfl, r4⟩, h0⟩
  replace a0 := a0.keep (h0.mono (Nat.le_trans hB hc.size))
  replace a1 := a1.keep (h0.mono (Nat.le_trans hB hc.size))
  replace r1 := (r1.keep h0).mono h0.size
  replace r2 := (r2.keep h0).mono h0.size
  replace r3 := (r3.keep h0).mono h0.size
  replace hc := hc.trans (h0.mono hc.size)
  clear h0
  clear r1 r2 r3 r4 a0 a1
  go_wp2_with fail
  go_at_call 12
  refine (KA.out _).mono ?_
  rintro e vz ⟨rfl, h0⟩
  go_wp2_with fail
  go_ret
  exact ⟨rfl, hc.trans (h0.mono hc.size)⟩
set_option maxHeartbeats 1600000 in
theorem agrees_bb {A0 : Option Addr} {c0 : Nat} {js : List UInt8} {A1 : Option Addr} {c1 : Nat} {ks : List UInt8} {B : Nat} {P Q : List UInt8} (hj : js.length ≠ 32) (hk : ks.length ≠ 32) (hl0 : js.length ≤ 140737488355328) (hl1 : ks.length ≤ 140737488355328)
    (kp : ∀ (A0 : Option Addr) (c0 : Nat) (w : World), Rd w w.heap.size A0 c0 js → Calls Try.prog 15 #[.slice A0 js.length c0] w fun e w' => Ans P 1 e w' ∧ Below w.heap.size w w')
    (kq : ∀ (A0 : Option Addr) (c0 : Nat) (w : World), Rd w w.heap.size A0 c0 ks → Calls Try.prog 15 #[.slice A0 ks.length c0] w fun e w' => Ans Q 1 e w' ∧ Below w.heap.size w w')
    (ka : ∀ w, Calls Try.prog 12 #[] w fun e w' => e = .returned (.bool true) ∧ Below w.heap.size w w')
    (w : World) (a0 : Rd w B A0 c0 js) (a1 : Rd w B A1 c1 ks) (hB : B ≤ w.heap.size) :
    Calls Try.prog 8 #[.slice A0 js.length c0, .slice A1 ks.length c1] w fun e w' => e = .returned (.bool true) ∧ Below w.heap.size w w' := by
  have KP := Lib.hid kp
  have KQ := Lib.hid kq
  have KA := Lib.hid ka
  clear kp kq ka
  have hc : Below w.heap.size w w := Below.refl _ w
  have hj1 : ((js.length : Int) == 32) = false := by simp; omega
  have hj2 : ((js.length : Int) != 32) = true := by simp; omega
  have hk1 : ((ks.length : Int) == 32) = false := by simp; omega
  have hk2 : ((ks.length : Int) != 32) = true := by simp; omega
  clear hj hk
  go_enter Try.func8, Try.ntmps8
  go_wp2_with fail
  go_at_call 9
  refine (own5_any _ a0 (Nat.le_trans hB hc.size) hl0).mono ?_
  rintro e v1 ⟨A_r1, c_r1, rfl, r1, h0⟩
  replace a0 := a0.keep (h0.mono (Nat.le_trans hB hc.size))
  replace a1 := a1.keep (h0.mono (Nat.le_trans hB hc.size))
  replace r1 := r1.rd
  replace hc := hc.trans (h0.mono hc.size)
  clear h0
  go_wp2_with fail
  go_at_call 15
  refine (KP.out _ _ _ r1).mono ?_
  rintro e v2 ⟨⟨A_r2, c_r2, rfl, r2⟩, h0⟩
  replace a0 := a0.keep (h0.mono (Nat.le_trans hB hc.size))
  replace a1 := a1.keep (h0.mono (Nat.le_trans hB hc.size))
  replace r1 := (r1.keep h0).mono h0.size
  replace hc := hc.trans (h0.mono hc.size)
  clear h0
  go_wp2_with fail
  go_at_call 9
  refine (own5_any _ a1 (Nat.le_trans hB hc.size) hl1).mono ?_
  rintro e v3 ⟨A_r3, c_r3, rfl, r3, h0⟩
  replace a0 := a0.keep (h0.mono (Nat.le_trans hB hc.size))
  replace a1 := a1.keep (h0.mono (Nat.le_trans hB hc.size))
  replace r1 := (r1.keep h0).mono h0.size
  replace r2 := (r2.keep h0).mono h0.size
  replace r3 := r3.rd
  replace hc := hc.trans (h0.mono hc.size)
  clear h0
  go_wp2_with fail
  go_at_call 15
  refine (KQ.out _ _ _ r3).mono ?_
  rintro e v4 ⟨⟨A_r4, c_r4, rfl, r4⟩, h0⟩
  replace a0 := a0.keep (h0.mono (Nat.le_trans hB hc.size))
  replace a1 := a1.keep (h0.mono (Nat.le_trans hB hc.size))
  replace r1 := (r1.keep h0).mono h0.size
  replace r2 := (r2.keep h0).mono h0.size
  replace r3 := (r3.keep h0).mono h0.size
  replace hc := hc.trans (h0.mono hc.size)
  clear h0
  clear r1 r2 r3 r4 a0 a1
  go_wp2_with fail
  go_at_call 12
  refine (KA.out _).mono ?_
  rintro e vz ⟨rfl, h0⟩
  go_wp2_with fail
  go_ret
  exact ⟨rfl, hc.trans (h0.mono hc.size)⟩
set_option maxHeartbeats 1600000 in
theorem agrees_gb {A0 : Option Addr} {c0 : Nat} {js : List UInt8} {A1 : Option Addr} {c1 : Nat} {ks : List UInt8} {B : Nat} {P Q : List UInt8} (hj : js.length = 32) (hk : ks.length ≠ 32) (hl0 : js.length ≤ 140737488355328) (hl1 : ks.length ≤ 140737488355328)
    (kp : ∀ (A0 : Option Addr) (c0 : Nat) (w : World), Rd w w.heap.size A0 c0 js → Calls Try.prog 15 #[.slice A0 js.length c0] w fun e w' => Ans P 0 e w' ∧ Below w.heap.size w w')
    (kq : ∀ (A0 : Option Addr) (c0 : Nat) (w : World), Rd w w.heap.size A0 c0 ks → Calls Try.prog 15 #[.slice A0 ks.length c0] w fun e w' => Ans Q 1 e w' ∧ Below w.heap.size w w')
    (ka : ∀ w, Calls Try.prog 12 #[] w fun e w' => e = .returned (.bool true) ∧ Below w.heap.size w w')
    (w : World) (a0 : Rd w B A0 c0 js) (a1 : Rd w B A1 c1 ks) (hB : B ≤ w.heap.size) :
    Calls Try.prog 8 #[.slice A0 js.length c0, .slice A1 ks.length c1] w fun e w' => e = .returned (.bool true) ∧ Below w.heap.size w w' := by
  have KP := Lib.hid kp
  have KQ := Lib.hid kq
  have KA := Lib.hid ka
  clear kp kq ka
  have hc : Below w.heap.size w w := Below.refl _ w
  have hj1 : ((js.length : Int) == 32) = true := by simp; omega
  have hj2 : ((js.length : Int) != 32) = false := by simp; omega
  have hk1 : ((ks.length : Int) == 32) = false := by simp; omega
  have hk2 : ((ks.length : Int) != 32) = true := by simp; omega
  clear hj hk
  go_enter Try.func8, Try.ntmps8
  go_wp2_with fail
  go_at_call 9
  refine (own5_any _ a0 (Nat.le_trans hB hc.size) hl0).mono ?_
  rintro e v1 ⟨A_r1, c_r1, rfl, r1, h0⟩
  replace a0 := a0.keep (h0.mono (Nat.le_trans hB hc.size))
  replace a1 := a1.keep (h0.mono (Nat.le_trans hB hc.size))
  replace r1 := r1.rd
  replace hc := hc.trans (h0.mono hc.size)
  clear h0
  go_wp2_with fail
  go_at_call 15
  refine (KP.out _ _ _ r1).mono ?_
  rintro e v2 ⟨⟨A_r2, c_r2, rfl, r2⟩, h0⟩
  replace a0 := a0.keep (h0.mono (Nat.le_trans hB hc.size))
  replace a1 := a1.keep (h0.mono (Nat.le_trans hB hc.size))
  replace r1 := (r1.keep h0).mono h0.size
  replace hc := hc.trans (h0.mono hc.size)
  clear h0
  go_wp2_with fail
  go_at_call 9
  refine (own5_any _ a1 (Nat.le_trans hB hc.size) hl1).mono ?_
  rintro e v3 ⟨A_r3, c_r3, rfl, r3, h0⟩
  replace a0 := a0.keep (h0.mono (Nat.le_trans hB hc.size))
  replace a1 := a1.keep (h0.mono (Nat.le_trans hB hc.size))
  replace r1 := (r1.keep h0).mono h0.size
  replace r2 := (r2.keep h0).mono h0.size
  replace r3 := r3.rd
  replace hc := hc.trans (h0.mono hc.size)
  clear h0
  go_wp2_with fail
  go_at_call 15
  refine (KQ.out _ _ _ r3).mono ?_
  rintro e v4 ⟨⟨A_r4, c_r4, rfl, r4⟩, h0⟩
  replace a0 := a0.keep (h0.mono (Nat.le_trans hB hc.size))
  replace a1 := a1.keep (h0.mono (Nat.le_trans hB hc.size))
  replace r1 := (r1.keep h0).mono h0.size
  replace r2 := (r2.keep h0).mono h0.size
  replace r3 := (r3.keep h0).mono h0.size
  replace hc := hc.trans (h0.mono hc.size)
  clear h0
  clear r1 r2 r3 r4 a0 a1
  go_wp2_with fail
  go_at_call 12
  refine (KA.out _).mono ?_
  rintro e vz ⟨rfl, h0⟩
  go_wp2_with fail
  go_ret
  exact ⟨rfl, hc.trans (h0.mono hc.size)⟩
end Go.Proofs.Ytojggpiolgcjeaa
