/-
  The document's Mac, Extract (layer 7). By an AI agent.
-/
import Derived.Test.YtbofehdihflkiaaDoorH3
namespace Go.Proofs.YtbofehdihflkiaaDoor
open Go Go.RowKit
set_option maxRecDepth 20000
section
attribute [local irreducible] Kd.cells kf sumN xk macN
set_option maxHeartbeats 1600000 in
theorem refMac_any {A A' : Option Addr} {c c' : Nat} {key b : List UInt8} (hkl : key.length ≤ 1000000) (hbl : b.length ≤ 900000) (w : World) (hr : Rd w w.heap.size A c key) (hs : Rd w w.heap.size A' c' b) :
    Calls Tryd.prog 12 #[.slice A key.length c, .slice A' b.length c'] w fun e w' => ∃ A2 c2, e = .returned (.slice A2 32 c2) ∧ Rd w' w'.heap.size A2 c2 (macN key b) ∧ Below w.heap.size w w' := by
  have KM := Lib.hid (fun (K : Kd) (hK : K.toKs = smallS) w hk hf hr hs => mac_any hK (A := A) (A' := A') (c := c) (c' := c') hkl hbl w hk hf hr hs)
  go_enter Tryd.func12, Tryd.ntmps12
  go_wp2_with fail
  go_at_call 23
  refine (small_any _).mono ?_
  rintro e v1 ⟨K, hK, rfl, hk, hf, hc⟩
  have hr1 := (hr.keep hc).mono hc.size
  have hs1 := (hs.keep hc).mono hc.size
  go_wp2_with fail
  go_at_call 22
  refine (KM.out K hK _ hk hf hr1 hs1).mono ?_
  rintro e v2 ⟨A2, c2, rfl, r2, hb⟩
  go_wp2_with fail
  go_ret
  exact ⟨A2, c2, rfl, r2, hc.trans (hb.mono hc.size)⟩
set_option maxHeartbeats 1600000 in
theorem refExtract_any {A A' : Option Addr} {c c' : Nat} {salt key : List UInt8} (hsl : salt.length ≤ 1000000) (hkl : key.length ≤ 900000) (w : World) (hr : Rd w w.heap.size A c salt) (hs : Rd w w.heap.size A' c' key) :
    Calls Tryd.prog 14 #[.slice A salt.length c, .slice A' key.length c'] w fun e w' => ∃ A2 c2, e = .returned (.slice A2 32 c2) ∧ Rd w' w'.heap.size A2 c2 (extN salt key) ∧ Below w.heap.size w w' := by
  obtain ⟨i0, hi, hz0, hz1, hz2⟩ := info_parts infoB6
  by_cases h0 : salt.length = 0
  · have hx : extN salt key = macN (List.replicate 32 0) key := by unfold extN; rw [if_pos h0]
    rw [hx]
    obtain rfl : salt = [] := List.eq_nil_of_length_eq_zero h0
    have hmk := run_mk (P := Tryd.prog) 22 5 i0 Tryd.underlying22 hi hz0 hz1 hz2 (l := 32) (n := 32) rfl (by omega)
    have o1 := Own.made (w := w) (B := w.heap.size) 5 (Nat.le_refl _) (n := 32) (by decide)
    have hc := (Below.refl w.heap.size w).alloc (Nat.le_refl _) (.cells (madeCells #[.int .u8 0] 32) 5)
    have KM := Lib.hid (refMac_any (A' := A') (c := 32) (c' := c') (key := List.replicate 32 0) (b := key) (by decide) hkl _ o1.rd ((hs.keep hc).mono hc.size))
    clear o1 hx h0
    go_enter Tryd.func14, Tryd.ntmps14
    go_wp2_with fail
    go_at_call 12
    refine KM.out.mono ?_
    rintro e v2 ⟨A2, c2, rfl, r2, hb⟩
    go_wp2_with fail
    go_ret
    exact ⟨A2, c2, rfl, r2, hc.trans (hb.mono hc.size)⟩
  · have hx : extN salt key = macN salt key := by unfold extN; rw [if_neg h0]
    rw [hx]
    have g1 : ((salt.length : Int) == 0) = false := beq_eq_false_iff_ne.2 (by omega)
    have KM := Lib.hid (refMac_any (A := A) (A' := A') (c := c) (c' := c') hsl hkl w hr hs)
    clear hx h0
    go_enter Tryd.func14, Tryd.ntmps14
    go_wp2_with fail
    go_at_call 12
    refine KM.out.mono ?_
    rintro e v2 ⟨A2, c2, rfl, r2, hb⟩
    go_wp2_with fail
    go_ret
    exact ⟨A2, c2, rfl, r2, hb⟩
end
end Go.Proofs.YtbofehdihflkiaaDoor
