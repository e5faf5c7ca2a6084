/-
  The landed reader of layer 13: its Number, Fixed, Text, Flag. By an AI agent.
-/
import Derived.Test.YtonfdnihllhcbaaWk5
namespace Go.Proofs.Ytonfdnihllhcbaa
open Go Go.RowKit
set_option maxRecDepth 20000
/-- What the reader stood at, kept. -/
def wasF (A : Option Addr) (n c a : Nat) (k : Nat) : Value := if k = 0 then .slice A n c else .int .i64 (a : Int)
abbrev OWas (w : World) (B h : Nat) (A : Option Addr) (n c a : Nat) : Prop := OwnF w B 50 (some ⟨h, 0, none⟩) 2 2 (wasF A n c a)
theorem OWas.c0 {w : World} {B h n c a : Nat} {A : Option Addr} (o : OWas w B h A n c a) : w.cell? ⟨h, 0, none⟩ = some (.slice A n c) := OwnF.cell o (k := 0) (by decide)
theorem OWas.c1 {w : World} {B h n c a : Nat} {A : Option Addr} (o : OWas w B h A n c a) : w.cell? ⟨h, 1, none⟩ = some (.int .i64 (a : Int)) := OwnF.cell o (k := 1) (by decide)
theorem was_new {v : World} {B C g c a : Nat} {A : Option Addr} {all : List UInt8} {e : Int} (h : RdAt v B C g A c all a e) : ∃ v2 h0, v2 = v.alloc (.cells #[.slice A all.length c, .int .i64 (a : Int)] 50) ∧ h0 = v.heap.size ∧ OWas v2 B h0 A all.length c a ∧ RdAt v2 B C g A c all a e ∧ Below v.heap.size v v2 ∧ C ≤ h0 := by
  have hb := (Below.refl v.heap.size v).alloc (Nat.le_refl _) (.cells #[.slice A all.length c, .int .i64 (a : Int)] 50)
  exact ⟨_, _, rfl, rfl, OwnF.lit _ (Nat.le_trans (Nat.le_trans h.lo (Nat.le_of_lt h.hi)) h.top) _ 2 (wasF A all.length c a) (by decide) rfl, h.next hb, hb, h.top⟩
/-- Put back, with an error. -/
theorem RdAt.back {w : World} {B C g c a a2 : Nat} {A : Option Addr} {all : List UInt8} {e : Int} (h : RdAt w B C g A c all a2 e) (ha : a ≤ all.length) (e2 : Int) :
    RdAt (((w.setCell ⟨g, 0, none⟩ (.slice A all.length c)).setCell ⟨g, 1, none⟩ (.int .i64 (a : Int))).setCell ⟨g, 3, none⟩ (.int .i64 e2)) B C g A c all a e2 ∧ OutB B C w (((w.setCell ⟨g, 0, none⟩ (.slice A all.length c)).setCell ⟨g, 1, none⟩ (.int .i64 (a : Int))).setCell ⟨g, 3, none⟩ (.int .i64 e2)) :=
  ⟨((h.setPlace ha).1.setErr e2).1, (h.setPlace ha).2.trans ((h.setPlace ha).1.setErr e2).2⟩
theorem fstL_raw (bs : List UInt8) : fstL bs = if (rawL bs).2.2 ≠ 0 then (0, 0, (rawL bs).2.2) else if Far < (rawL bs).1 then (0, 0, 6) else ((rawL bs).1, (rawL bs).2.1, 0) := fst_raw 6 0 0 bs
theorem numR_raw (bs : List UInt8) (least most : Int) : numR bs 0 least most = if (rawL bs).2.2 ≠ 0 then (bs, ((rawL bs).2.2 : Int), 0) else if Far < (rawL bs).1 ∨ ((rawL bs).1 : Int) < least ∨ most < ((rawL bs).1 : Int) then (bs, 6, 0) else (bs.drop (rawL bs).2.1, 0, (rawL bs).1) := by
  unfold numR
  rw [if_neg (by decide), fstL_raw]
  generalize rawL bs = N
  obtain ⟨v, k, er⟩ := N
  by_cases h1 : er = 0
  · subst h1
    by_cases h2 : Far < v
    · simp [h2]
    · by_cases h3 : (v : Int) < least ∨ most < (v : Int)
      · simp [h2, h3]
      · simp [h2, h3]
  · simp [h1]
set_option maxHeartbeats 3200000 in
theorem rnumber_code {w : World} {B C g c a : Nat} {A : Option Addr} {all : List UInt8} {e : Int} (least most : Int) (h : RdAt w B C g A c all a e) :
    Calls Try.prog 24 #[.pointer (some ⟨g, 0, none⟩), .int .i64 least, .int .i64 most] w fun x w' => x = .returned (.int .i64 ((numR (all.drop a) e least most).2.2 : Int)) ∧ ∃ a2, RdAt w' B C g A c all a2 (numR (all.drop a) e least most).2.1 ∧ (numR (all.drop a) e least most).1 = all.drop a2 ∧ OutB B C w w' := by
  have KE := Lib.hid (err_code h)
  by_cases he : e = 0
  case neg =>
    have hx : numR (all.drop a) e least most = (all.drop a, e, 0) := by unfold numR; rw [if_pos he]
    rw [hx]
    have g1 : (e != 0) = true := by simp [he]
    have HN := Lib.hid h
    clear h hx he
    go_enter Try.func24, Try.ntmps24
    go_wp2_with fail
    go_at_call 20
    refine KE.out.mono ?_
    rintro x v1 ⟨rfl, h1⟩
    go_wp2_with fail
    go_ret
    exact ⟨rfl, a, HN.out.next h1, rfl, OutB.of h1⟩
  subst he
  obtain ⟨R, eR⟩ : ∃ R, R = numR (all.drop a) 0 least most := ⟨_, rfl⟩
  rw [← eR]
  rw [numR_raw] at eR
  have HR := Lib.hid eR
  have HN := Lib.hid h
  clear h eR
  obtain ⟨N, eN⟩ : ∃ N, N = rawL (all.drop a) := ⟨_, rfl⟩
  rw [← eN] at HR
  have HE := Lib.hid eN
  clear eN
  go_enter Try.func24, Try.ntmps24
  go_wp2_with fail
  go_at_call 20
  refine KE.out.mono ?_
  rintro x v1 ⟨rfl, h1⟩
  have q1 := HN.out.next h1
  have c0 := ORd.c0 q1.cells
  have c1 := ORd.c1 q1.cells
  obtain ⟨v2, h0, ev2, eh0, ow, q2, hb2, hC⟩ := was_new q1
  have HV := Lib.hid (And.intro ev2 eh0)
  have HW := Lib.hid (And.intro ow (And.intro (h1.trans (hb2.mono h1.size)) hC))
  have KN := Lib.hid (number_code q2)
  rw [← HE.out] at KN
  have hla := HN.out.at_
  have HA := Lib.hid hla
  clear q1 ev2 eh0 ow q2 hb2 hC h1 hla KE
  go_upto_region 4 with fail
  rw [← HV.out.1, ← HV.out.2]
  clear HV c0 c1
  go_wp2_with fail
  go_at_call 37
  refine KN.out.mono ?_
  rintro x v3 ⟨a2, rfl, q3, h3, hcnt⟩
  have ow3 : OWas v3 B h0 A all.length c a := OwnF.outb HW.out.1 h3 (fun h => by have := HW.out.2.2; omega)
  have d0 := OWas.c0 ow3
  have d1 := OWas.c1 ow3
  have c0 := ORd.c0 q3.cells
  have c1 := ORd.c1 q3.cells
  have c3 := ORd.c3 q3.cells
  have f0 := OwnF.free q3.cells 0
  have f1 := OwnF.free q3.cells 1
  have f3 := OwnF.free q3.cells 3
  have HB := Lib.hid ((OutB.of (B := B) (C := C) HW.out.2.1).trans h3)
  have HQ := Lib.hid (And.intro q3 hcnt)
  clear ow3 q3 h3 hcnt KN
  by_cases h4 : N.2.2 = 0
  case neg =>
    have hx : R = (all.drop a, (N.2.2 : Int), 0) := by rw [HR.out, if_pos h4]
    have g1 : ((N.2.2 : Int) == 0) = false := by simp; omega
    have g2 : ((N.2.2 : Int) != 0) = true := by simp; omega
    have HX := Lib.hid hx
    clear hx h4
    go_wp2_with fail
    go_ret
    rw [HX.out]
    have h5 := HQ.out.1.back HA.out (N.2.2 : Int)
    exact ⟨rfl, a, h5.1, rfl, HB.out.trans h5.2⟩
  have g0 : ((N.2.2 : Int) == 0) = true := by simp [h4]
  have g0' : ((N.2.2 : Int) != 0) = false := by simp [h4]
  have g00 : (N.2.2 : Int) = 0 := by omega
  by_cases h5 : Far < N.1
  · have hx : R = (all.drop a, 6, 0) := by rw [HR.out, if_neg (by omega), if_pos (.inl h5)]
    unfold Far at h5
    have g1 : (1099511627776 : Int) < (N.1 : Int) := by omega
    have HX := Lib.hid hx
    clear hx h4 h5
    go_wp2_with fail
    go_ret
    rw [HX.out]
    have h5 := HQ.out.1.back HA.out 6
    exact ⟨rfl, a, h5.1, rfl, HB.out.trans h5.2⟩
  by_cases h6 : (N.1 : Int) < least
  · have hx : R = (all.drop a, 6, 0) := by rw [HR.out, if_neg (by omega), if_pos (.inr (.inl h6))]
    unfold Far at h5
    have g1 : ¬ (1099511627776 : Int) < (N.1 : Int) := by omega
    have HX := Lib.hid hx
    clear hx h4 h5
    go_wp2_with fail
    go_ret
    rw [HX.out]
    have h5 := HQ.out.1.back HA.out 6
    exact ⟨rfl, a, h5.1, rfl, HB.out.trans h5.2⟩
  by_cases h7 : most < (N.1 : Int)
  · have hx : R = (all.drop a, 6, 0) := by rw [HR.out, if_neg (by omega), if_pos (.inr (.inr h7))]
    unfold Far at h5
    have g1 : ¬ (1099511627776 : Int) < (N.1 : Int) := by omega
    have HX := Lib.hid hx
    clear hx h4 h5
    go_wp2_with fail
    go_ret
    rw [HX.out]
    have h5 := HQ.out.1.back HA.out 6
    exact ⟨rfl, a, h5.1, rfl, HB.out.trans h5.2⟩
  have hx : R = (all.drop a2, 0, N.1) := by
    rw [HR.out, if_neg (by omega), if_neg (by omega), List.drop_drop, HQ.out.2 h4]
  unfold Far at h5
  have g1 : ¬ (1099511627776 : Int) < (N.1 : Int) := by omega
  have HX := Lib.hid hx
  clear hx h4 h5
  go_wp2_with fail
  go_ret
  rw [HX.out]
  exact ⟨rfl, a2, HQ.out.1, rfl, HB.out⟩
end Go.Proofs.Ytonfdnihllhcbaa
