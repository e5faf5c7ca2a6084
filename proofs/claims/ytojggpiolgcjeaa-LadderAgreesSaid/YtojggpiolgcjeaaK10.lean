/-
  Layer 5's laws over the landed code, as the closings want them. By an AI agent.
-/
import Derived.Test.YtojggpiolgcjeaaK9
import Derived.Test.YtojggpiolgcjeaaD5
namespace Go.Proofs.Ytojggpiolgcjeaa
open Go Go.RowKit
theorem ladderN_zero (k : Nat) : ladderN 0 k = 0 := by
  have h := ladderN_to (u := 0) P25_pos k
  rw [toF_zero, ladder_zero, ← toF_zero, toF_eq, Nat.mod_eq_of_lt (ladderN_lt _ _)] at h
  exact h
theorem vb_zer : vb zer = 0 := by decide +kernel
theorem multN_zer (ks : List UInt8) : multN ks zer = 0 := by
  unfold multN
  rw [vb_zer, show 0 % 2 ^ 255 % P25 = 0 by decide +kernel]
  exact ladderN_zero _
theorem clam_zer : clam (vb zer) = 2 ^ 254 := by rw [vb_zer]; decide +kernel
theorem awake5 (w : World) : Calls Try.prog 12 #[] w fun e w' => e = .returned (.bool true) ∧ Below w.heap.size w w' := by
  refine awake5_gen (fun A c w h => ?_) (fun A A' c c' w h h' => ?_) w
  · have h9 := gclamp_any zer_len w h (Nat.le_refl _)
    rw [clam_zer] at h9
    exact h9.mono fun e w' ⟨A', c', he, ho, hb⟩ => ⟨A', c', he, ho.rd, hb⟩
  · have h9 := gshared_good zer_len zer_len A A' c c' w h h'
    rw [if_pos (multN_zer _), if_pos (multN_zer _)] at h9
    exact h9.mono fun e w' ⟨⟨A', c', he, _⟩, hb⟩ => ⟨_, he, hb⟩
theorem lim {n : Nat} (h : n ≤ 140737488351232) : n ≤ 140737488355328 := by omega
theorem W_clamps {c : Nat} {A : Option Addr} {bs : List UInt8} {w0 : World} (hr : Rd w0 w0.heap.size A c bs) (hl : bs.length ≤ 140737488351232) (w : World) (hw : w = w0) :
    Calls Try.prog 3 #[.slice A bs.length c] w fun e w' => e = .returned (.bool true) ∧ Below w.heap.size w w' := by
  subst hw
  exact clamps_gen (lim hl) (fun A c w h => gclampA A c w h) (fun A c w h => rclampA A c w h) awake5 w hr (Nat.le_refl _)
theorem W_mults {c c' : Nat} {A A' : Option Addr} {ks us : List UInt8} {w0 : World} (hr : Rd w0 w0.heap.size A c ks) (hl : ks.length ≤ 140737488351232) (hr' : Rd w0 w0.heap.size A' c' us) (hl' : us.length ≤ 140737488351232) (w : World) (hw : w = w0) :
    Calls Try.prog 4 #[.slice A ks.length c, .slice A' us.length c'] w fun e w' => e = .returned (.bool true) ∧ Below w.heap.size w w' := by
  subst hw
  exact mults_gen (lim hl) (lim hl') (fun A c A' c' w h h' => gmultA ks us A A' c c' w h h') (fun A c A' c' w h h' => rmultA A A' c c' w h h') awake5 w hr hr' (Nat.le_refl _)
theorem W_publics {c : Nat} {A : Option Addr} {ks : List UInt8} {w0 : World} (hr : Rd w0 w0.heap.size A c ks) (hl : ks.length ≤ 140737488351232) (w : World) (hw : w = w0) :
    Calls Try.prog 5 #[.slice A ks.length c] w fun e w' => e = .returned (.bool true) ∧ Below w.heap.size w w' := by
  subst hw
  exact publics_gen (lim hl) (fun A c w h => gpublicA ks A c w h) (fun A c A' c' w h h' => rmultA A A' c c' w h h') rnineA awake5 w hr (Nat.le_refl _)
theorem W_shares {c c' : Nat} {A A' : Option Addr} {ks us : List UInt8} {w0 : World} (hr : Rd w0 w0.heap.size A c ks) (hl : ks.length ≤ 140737488351232) (hr' : Rd w0 w0.heap.size A' c' us) (hl' : us.length ≤ 140737488351232) (w : World) (hw : w = w0) :
    Calls Try.prog 6 #[.slice A ks.length c, .slice A' us.length c'] w fun e w' => e = .returned (.bool true) ∧ Below w.heap.size w w' := by
  subst hw
  exact shares_gen (lim hl) (lim hl') (fun A c A' c' w h h' => gsharedA ks us A A' c c' w h h') (fun A c A' c' w h h' => rsharedA A A' c c' w h h') awake5 w hr hr' (Nat.le_refl _)
theorem byte_of {x : Int} (w : (Lit.int .u8 x).wf = true) : ∃ z : Nat, x = (z : Int) ∧ z < 256 := by
  have h : IntKind.u8.min ≤ x ∧ x ≤ IntKind.u8.max := by simpa [Lit.wf] using w
  rw [show IntKind.u8.min = 0 from rfl, show IntKind.u8.max = 255 from rfl] at h
  exact ⟨x.toNat, by omega, by omega⟩
theorem W_bits {c c' : Nat} {A A' : Option Addr} {ks us : List UInt8} {w0 : World} {i j : Int} (hr : Rd w0 w0.heap.size A c ks) (hl : ks.length ≤ 140737488351232) (hr' : Rd w0 w0.heap.size A' c' us) (hl' : us.length ≤ 140737488351232) (hi : (Lit.int .u8 i).wf = true) (hj : (Lit.int .u8 j).wf = true) (w : World) (hw : w = w0) :
    Calls Try.prog 7 #[.slice A ks.length c, .slice A' us.length c', .int .u8 i, .int .u8 j] w fun e w' => e = .returned (.bool true) ∧ Below w.heap.size w w' := by
  subst hw
  obtain ⟨lo, rfl, h1⟩ := byte_of hi
  obtain ⟨hi', rfl, h2⟩ := byte_of hj
  exact bits_law h1 h2 (lim hl) (lim hl') gmultA awake5 w hr hr' (Nat.le_refl _)
theorem W_agrees {c c' : Nat} {A A' : Option Addr} {js ks : List UInt8} {w0 : World} (hr : Rd w0 w0.heap.size A c js) (hl : js.length ≤ 140737488351232) (hr' : Rd w0 w0.heap.size A' c' ks) (hl' : ks.length ≤ 140737488351232) (w : World) (hw : w = w0) :
    Calls Try.prog 8 #[.slice A js.length c, .slice A' ks.length c'] w fun e w' => e = .returned (.bool true) ∧ Below w.heap.size w w' := by
  subst hw
  exact agrees_law (lim hl) (lim hl') gpublicA gsharedA awake5 w hr hr' (Nat.le_refl _)
end Go.Proofs.Ytojggpiolgcjeaa
