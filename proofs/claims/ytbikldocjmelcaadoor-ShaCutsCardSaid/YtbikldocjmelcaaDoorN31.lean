/-
  Layer 6's laws ShaSmall, ShaGreat, ShaNobody, walked whole. By an AI agent.
-/
import Derived.Test.YtbikldocjmelcaaDoorN19
namespace Go.Proofs.YtbikldocjmelcaaDoor
open Go Go.RowKit
theorem bvf_rd {w : World} {B g C n : Nat} {e : TypeId} {S : List UInt8} (o : OwnF w B e (some ⟨g, 0, none⟩) C n (bvf S)) (hl : S.length = n) (hc : n ≤ C) : Rd w w.heap.size (some ⟨g, 0, none⟩) C S := rd_own o hl hc fun _ _ => rfl
theorem c256 (bs : List UInt8) (A : Option Addr) (c : Nat) (w : World) (hl : bs.length ≤ 140737488355328) (hG : Glb w) (h : Rd w w.heap.size A c bs) :
    Calls Tryd.prog 11 #[.slice A bs.length c] w fun e w' => ∃ A' c', e = .returned (.slice A' 32 c') ∧ Rd w' w'.heap.size A' c' (sumN smallS bs) ∧ Below w.heap.size w w' :=
  (code256 hl w hG h (Nat.le_refl _)).mono fun _ _ ⟨_, he, o, hb⟩ => ⟨_, _, he, bvf_rd o (sumN_len smallS bs) (Nat.le_refl _), hb⟩
theorem c512 (bs : List UInt8) (A : Option Addr) (c : Nat) (w : World) (hl : bs.length ≤ 140737488355328) (hG : Glb w) (h : Rd w w.heap.size A c bs) :
    Calls Tryd.prog 13 #[.slice A bs.length c] w fun e w' => ∃ A' c', e = .returned (.slice A' 64 c') ∧ Rd w' w'.heap.size A' c' (sumN greatS bs) ∧ Below w.heap.size w w' :=
  (code512 hl w hG h (Nat.le_refl _)).mono fun _ _ ⟨_, he, o, hb⟩ => ⟨_, _, he, bvf_rd o (sumN_len greatS bs) (Nat.le_refl _), hb⟩
theorem r256 (bs : List UInt8) (A : Option Addr) (c : Nat) (w : World) (hl : bs.length ≤ 1000000) (h : Rd w w.heap.size A c bs) :
    Calls Tryd.prog 12 #[.slice A bs.length c] w fun e w' => ∃ A' c', e = .returned (.slice A' 32 c') ∧ Rd w' w'.heap.size A' c' (sumN smallS bs) ∧ Below w.heap.size w w' :=
  (sum256_any hl w h (Nat.le_refl _)).mono fun _ _ ⟨A, c, he, ho, hb⟩ => ⟨A, c, he, ho.rd, hb⟩
theorem r512 (bs : List UInt8) (A : Option Addr) (c : Nat) (w : World) (hl : bs.length ≤ 1000000) (h : Rd w w.heap.size A c bs) :
    Calls Tryd.prog 14 #[.slice A bs.length c] w fun e w' => ∃ A' c', e = .returned (.slice A' 64 c') ∧ Rd w' w'.heap.size A' c' (sumN greatS bs) ∧ Below w.heap.size w w' :=
  (sum512_any hl w h (Nat.le_refl _)).mono fun _ _ ⟨A, c, he, ho, hb⟩ => ⟨A, c, he, ho.rd, hb⟩
theorem awakeC (w : World) (hG : Glb w) : Calls Tryd.prog 9 #[] w fun e w' => e = .returned (.bool true) ∧ Below w.heap.size w w' :=
  awake6 (fun bs A c w hl hG h => c256 bs A c w (Nat.le_trans hl (by decide)) hG h) (fun bs A c w hl hG h => c512 bs A c w (Nat.le_trans hl (by decide)) hG h) w hG
theorem small_walk {A0 : Option Addr} {c0 : Nat} {bs : List UInt8} {w0 : World} (hr : Rd w0 w0.heap.size A0 c0 bs) (_hl : bs.length ≤ 140737488351232) (w : World) (hw : w = w0) (hG : Glb w) :
    Calls Tryd.prog 3 #[.slice A0 bs.length c0] w fun e w' => e = .returned (.bool true) ∧ Below w.heap.size w w' := by
  subst hw
  by_cases h : bs.length ≤ 4000
  · exact small_law (sumN_len smallS bs) (fun A c w hG hr => c256 bs A c w (by omega) hG hr) (fun A c w hr => r256 bs A c w (by omega) hr) awakeC h w hG hr (Nat.le_refl _)
  · exact small_law_much awakeC h w hG
theorem great_walk {A0 : Option Addr} {c0 : Nat} {bs : List UInt8} {w0 : World} (hr : Rd w0 w0.heap.size A0 c0 bs) (_hl : bs.length ≤ 140737488351232) (w : World) (hw : w = w0) (hG : Glb w) :
    Calls Tryd.prog 4 #[.slice A0 bs.length c0] w fun e w' => e = .returned (.bool true) ∧ Below w.heap.size w w' := by
  subst hw
  by_cases h : bs.length ≤ 4000
  · exact great_law (sumN_len greatS bs) (fun A c w hG hr => c512 bs A c w (by omega) hG hr) (fun A c w hr => r512 bs A c w (by omega) hr) awakeC h w hG hr (Nat.le_refl _)
  · exact great_law_much awakeC h w hG
theorem nobody_walk {A0 : Option Addr} {c0 : Nat} {bs : List UInt8} {w0 : World} (hr : Rd w0 w0.heap.size A0 c0 bs) (hl : bs.length ≤ 140737488351232) (w : World) (hw : w = w0) (hG : Glb w) :
    Calls Tryd.prog 8 #[.slice A0 bs.length c0] w fun e w' => e = .returned (.bool true) ∧ Below w.heap.size w w' := by
  subst hw
  exact nobody_law (sumN_len smallS []) (fun A c w _ => hwrite_nil A bs.length c w) (fun w hG => (hsum_nil w hG).mono fun _ _ ⟨_, he, o, hb⟩ => ⟨_, _, he, bvf_rd o (sumN_len smallS []) (Nat.le_refl _), hb⟩) ref_none hclone_nil awakeC hl w hG hr (Nat.le_refl _)
end Go.Proofs.YtbikldocjmelcaaDoor
