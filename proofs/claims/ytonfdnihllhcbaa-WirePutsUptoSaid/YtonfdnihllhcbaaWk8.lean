/-
  The landed reader of layer 13: its Text; all of it together. By an AI agent.
-/
import Derived.Test.YtonfdnihllhcbaaWk7
namespace Go.Proofs.Ytonfdnihllhcbaa
open Go Go.RowKit
set_option maxRecDepth 20000
theorem RdAt.was {w w' : World} {B C h0 n c a : Nat} {A : Option Addr} (ow : OWas w B h0 A n c a) (ho : OutB B C w w') (hC : C ≤ h0) : OWas w' B h0 A n c a := OwnF.outb ow ho (fun h => by omega)
theorem fixR_err {bs : List UInt8} {e n : Int} (he : e ≠ 0) : fixR bs e n = (bs, e, []) := by unfold fixR; rw [if_pos (.inl he)]
set_option maxHeartbeats 6400000 in
theorem rtext_code {w : World} {B C g c a : Nat} {A : Option Addr} {all : List UInt8} {e : Int} (most : Int) (h : RdAt w B C g A c all a e) :
    Calls Try.prog 25 #[.pointer (some ⟨g, 0, none⟩), .int .i64 most] w fun x w' => ∃ A' c', x = .returned (.slice A' (textR (all.drop a) e most).2.2.length c') ∧ Rd w' w'.heap.size A' c' (textR (all.drop a) e most).2.2 ∧ (∀ ad, A' = some ad → w.heap.size ≤ ad.block) ∧ (∃ a2, RdAt w' B C g A c all a2 (textR (all.drop a) e most).2.1 ∧ (textR (all.drop a) e most).1 = all.drop a2) ∧ OutB B C w w' := by
  have KE := Lib.hid (err_code h)
  have HN := Lib.hid h
  have hnil : ∀ wz : World, Rd wz wz.heap.size none 0 [] := fun _ => ⟨Nat.le_refl _, fun _ => ⟨rfl, rfl⟩, fun h => absurd rfl h⟩
  have HNIL := Lib.hid hnil
  clear h hnil
  by_cases he : e = 0
  case neg =>
    have hx : textR (all.drop a) e most = (all.drop a, e, []) := by
      have h0 : numR (all.drop a) e 0 (Far : Int) = (all.drop a, e, 0) := by unfold numR; rw [if_pos he]
      unfold textR
      rw [h0, if_pos he]
    rw [hx]
    have g1 : (e != 0) = true := by simp [he]
    clear hx he
    go_enter Try.func25, Try.ntmps25
    go_wp2_with fail
    go_at_call 20
    refine KE.out.mono ?_
    rintro x v1 ⟨rfl, h1⟩
    go_wp2_with fail
    go_ret
    exact ⟨none, 0, rfl, HNIL.out _, fun ad h => by simp at h, ⟨a, HN.out.next h1, rfl⟩, OutB.of h1⟩
  subst he
  obtain ⟨N, eN⟩ : ∃ N, N = numR (all.drop a) 0 0 Far := ⟨_, rfl⟩
  have hcases := textR_cases (all.drop a) 0 most rfl N eN
  obtain ⟨R, eR⟩ : ∃ R, R = textR (all.drop a) 0 most := ⟨_, rfl⟩
  rw [← eR] at hcases ⊢
  have HC := Lib.hid hcases
  have HE := Lib.hid eN
  clear eR hcases eN
  go_enter Try.func25, Try.ntmps25
  go_wp2_with fail
  go_at_call 20
  refine KE.out.mono ?_
  rintro x v1 ⟨rfl, h1⟩
  have q1 := HN.out.next h1
  have c0 := ORd.c0 q1.cells
  have c1 := ORd.c1 q1.cells
  obtain ⟨v2, h0, ev2, eh0, ow, q2, hb2, hC⟩ := was_new q1
  have HV := Lib.hid (And.intro ev2 eh0)
  have HW := Lib.hid (And.intro ow (And.intro (h1.trans (hb2.mono h1.size)) hC))
  have KN := Lib.hid (rnumber_code 0 (Far : Int) q2)
  rw [← HE.out] at KN
  have HA := Lib.hid HN.out.at_
  clear q1 ev2 eh0 ow q2 hb2 hC h1 KE
  go_upto_region 4 with fail
  rw [← HV.out.1, ← HV.out.2]
  clear HV c0 c1
  go_wp2_with fail
  go_at_call 24
  refine KN.out.mono ?_
  rintro x v3 ⟨rfl, a2, q3, hd3, h3⟩
  have HQ := Lib.hid (And.intro q3 (And.intro hd3 (And.intro (RdAt.was HW.out.1 h3 HW.out.2.2) ((OutB.of (B := B) (C := C) HW.out.2.1).trans h3))))
  clear q3 hd3 h3 KN
  rcases HC.out with ⟨b1, b2, b3⟩ | ⟨b1, b2, b3⟩ | ⟨b1, b2, b4, b3⟩ | ⟨b1, b2, b4, b3⟩
  · have H3 := Lib.hid b3
    rw [b2]
    have hor : (most < 0 ∧ ¬ (0 : Int) < 0) ∨ (¬ most < 0 ∧ ¬ most < 0) := by omega
    have g1 : (N.2.1 != 0) = true := by simp [b1]
    have HB := Lib.hid b1
    have HQ4 := Lib.hid (And.intro HQ.out.1 (And.intro HQ.out.2.2.1 HQ.out.2.2.2))
    clear b1 b2 b3 HC HQ
    rcases hor with ⟨k1, k2⟩ | ⟨k1, k2⟩
    all_goals
      go_wp2_with fail
      go_at_call 28
      refine (rfixed_code 0 HQ4.out.1).mono ?_
      rintro x v5 ⟨A5, c5, rfl, r5, ha5, ⟨a5, q5, hd5⟩, h5⟩
      rw [fixR_err HB.out] at r5 q5 hd5 ⊢
      have ow4 := RdAt.was HQ4.out.2.1 h5 HW.out.2.2
      have d0 := OWas.c0 ow4
      have d1 := OWas.c1 ow4
      have c0 := ORd.c0 q5.cells
      have c1 := ORd.c1 q5.cells
      have c3 := ORd.c3 q5.cells
      have f0 := OwnF.free q5.cells 0
      have f1 := OwnF.free q5.cells 1
      have h6 := q5.setPlace HA.out
      have HO := Lib.hid (And.intro h6.1 ((HQ4.out.2.2.trans h5).trans h6.2))
      have HR := Lib.hid (And.intro (fun wz : World => (⟨r5.cap, r5.nil, fun h => absurd rfl h⟩ : Rd wz wz.heap.size A5 c5 [])) (fun ad hA => Nat.le_trans HQ4.out.2.2.size (ha5 ad hA)))
      clear q5 h5 h6 ow4 HQ4 r5 ha5
      go_wp2_with fail
      go_ret
      rw [H3.out]
      exact ⟨A5, c5, rfl, HR.out.1 _, HR.out.2, ⟨a, HO.out.1, rfl⟩, HO.out.2⟩
  · have H3 := Lib.hid b3
    have HB := Lib.hid b1
    have HQ3 := Lib.hid (And.intro HQ.out.1 (And.intro HQ.out.2.2.1 HQ.out.2.2.2))
    have KF := Lib.hid (fail_code 2 HQ.out.1)
    rw [if_pos b1] at KF
    clear b1 b3 HC HQ
    rcases b2 with ⟨k1, k2⟩ | ⟨k1, k2⟩
    all_goals
      go_wp2_with fail
      go_at_call 27
      refine KF.out.mono ?_
      rintro x v4 ⟨⟨y, rfl⟩, q4, h4⟩
      have HQ4 := Lib.hid (And.intro q4 (And.intro (RdAt.was HQ3.out.2.1 h4 HW.out.2.2) (HQ3.out.2.2.trans h4)))
      clear q4 h4 HQ3
      go_wp2_with fail
      go_at_call 28
      refine (rfixed_code _ HQ4.out.1).mono ?_
      rintro x v5 ⟨A5, c5, rfl, r5, ha5, ⟨a5, q5, hd5⟩, h5⟩
      rw [fixR_err (by decide)] at r5 q5 hd5 ⊢
      have ow4 := RdAt.was HQ4.out.2.1 h5 HW.out.2.2
      have d0 := OWas.c0 ow4
      have d1 := OWas.c1 ow4
      have c0 := ORd.c0 q5.cells
      have c1 := ORd.c1 q5.cells
      have c3 := ORd.c3 q5.cells
      have f0 := OwnF.free q5.cells 0
      have f1 := OwnF.free q5.cells 1
      have h6 := q5.setPlace HA.out
      have HO := Lib.hid (And.intro h6.1 ((HQ4.out.2.2.trans h5).trans h6.2))
      have HR := Lib.hid (And.intro (fun wz : World => (⟨r5.cap, r5.nil, fun h => absurd rfl h⟩ : Rd wz wz.heap.size A5 c5 [])) (fun ad hA => Nat.le_trans HQ4.out.2.2.size (ha5 ad hA)))
      clear q5 h5 h6 ow4 HQ4 r5 ha5
      go_wp2_with fail
      go_ret
      rw [H3.out]
      exact ⟨A5, c5, rfl, HR.out.1 _, HR.out.2, ⟨a, HO.out.1, rfl⟩, HO.out.2⟩
  · have H3 := Lib.hid b3
    have HQ4 := Lib.hid (And.intro HQ.out.1 (And.intro HQ.out.2.2.1 HQ.out.2.2.2))
    rw [b1] at HQ4
    have HB := Lib.hid (show fixR (all.drop a2) 0 (N.2.2 : Int) = (all.drop a2, 3, []) by rw [← HQ.out.2.1]; exact b4)
    clear b1 b3 b4 HC HQ
    rcases b2 with ⟨k1, k2⟩ | ⟨k1, k2⟩
    all_goals
      go_wp2_with fail
      go_at_call 28
      refine (rfixed_code _ HQ4.out.1).mono ?_
      rintro x v5 ⟨A5, c5, rfl, r5, ha5, ⟨a5, q5, hd5⟩, h5⟩
      rw [HB.out] at r5 q5 hd5 ⊢
      have ow4 := RdAt.was HQ4.out.2.1 h5 HW.out.2.2
      have d0 := OWas.c0 ow4
      have d1 := OWas.c1 ow4
      have c0 := ORd.c0 q5.cells
      have c1 := ORd.c1 q5.cells
      have c3 := ORd.c3 q5.cells
      have f0 := OwnF.free q5.cells 0
      have f1 := OwnF.free q5.cells 1
      have h6 := q5.setPlace HA.out
      have HO := Lib.hid (And.intro h6.1 ((HQ4.out.2.2.trans h5).trans h6.2))
      have HR := Lib.hid (And.intro (fun wz : World => (⟨r5.cap, r5.nil, fun h => absurd rfl h⟩ : Rd wz wz.heap.size A5 c5 [])) (fun ad hA => Nat.le_trans HQ4.out.2.2.size (ha5 ad hA)))
      clear q5 h5 h6 ow4 HQ4 r5 ha5
      go_wp2_with fail
      go_ret
      rw [H3.out]
      exact ⟨A5, c5, rfl, HR.out.1 _, HR.out.2, ⟨a, HO.out.1, rfl⟩, HO.out.2⟩
  · have H3 := Lib.hid b3
    have HQ4 := Lib.hid (And.intro HQ.out.1 (And.intro HQ.out.2.2.1 HQ.out.2.2.2))
    rw [b1] at HQ4
    rw [HQ.out.2.1] at b4 H3
    have HB := Lib.hid b4
    clear b1 b3 b4 HC HQ
    rcases b2 with ⟨k1, k2⟩ | ⟨k1, k2⟩
    all_goals
      go_wp2_with fail
      go_at_call 28
      refine (rfixed_code _ HQ4.out.1).mono ?_
      rintro x v5 ⟨A5, c5, rfl, r5, ha5, ⟨a5, q5, hd5⟩, h5⟩
      have q6 := q5
      rw [HB.out] at q6
      have c3 := ORd.c3 q6.cells
      have HO := Lib.hid (And.intro q5 (And.intro hd5 (HQ4.out.2.2.trans h5)))
      have HR := Lib.hid (And.intro r5 (fun ad hA => Nat.le_trans HQ4.out.2.2.size (ha5 ad hA)))
      clear q5 q6 h5 hd5 r5 ha5 HQ4
      go_wp2_with fail
      go_ret
      rw [H3.out]
      exact ⟨A5, c5, rfl, HR.out.1, HR.out.2, ⟨a5, HO.out.1, HO.out.2.1⟩, HO.out.2.2⟩
end Go.Proofs.Ytonfdnihllhcbaa
