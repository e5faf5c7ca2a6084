/-
  The ladder's Clamp and number (layer 5), over letters. By an AI agent.
-/
import Derived.Test.YtgaofocjnifjdaaDoorJ12
import Derived.Test.YtgaofocjnifjdaaDoorMG
import Derived.Test.YtgaofocjnifjdaaDoorQ1
namespace Go.Proofs.YtgaofocjnifjdaaDoor
open Go Go.RowKit
theorem andNot7 : ∀ x : Fin 256, bits .andNot .u8 (x.val : Int) 7 = ((x.val - x.val % 8 : Nat) : Int) := by decide +kernel
theorem and63 : ∀ x : Fin 256, bits .and .u8 (x.val : Int) 63 = ((x.val % 64 : Nat) : Int) := by decide +kernel
theorem or64 : ∀ x : Fin 64, bits .or .u8 (x.val : Int) 64 = ((x.val + 64 : Nat) : Int) := by decide +kernel
set_option maxRecDepth 20000
theorem clone_any {A : Option Addr} {B c : Nat} {bs : List UInt8} (h0 : 0 < bs.length) (hl : bs.length ≤ 140737488355328) (w : World) (hr : Rd w B A c bs) (hB : B ≤ w.heap.size) :
    Calls Tryd.prog 49 #[.slice A bs.length c] w fun e w' => ∃ A' c', e = .returned (.slice A' bs.length c') ∧ Own w' w.heap.size 5 A' c' bs ∧ Below w.heap.size w w' := by
  obtain ⟨i0, hi, hz0, hz1, hz2⟩ := info_parts infoByte
  obtain ⟨b0, o0, rfl, _, _⟩ := hr.at_ h0
  have h2 : Rd (w.alloc (.cells #[] 5)) B (some ⟨b0, o0, none⟩) c bs := hr.keep ((Below.refl B w).alloc hB _)
  have h3 : Own (w.alloc (.cells #[] 5)) w.heap.size 5 (some ⟨w.heap.size, 0, none⟩) 0 [] := World.ownsRow_made w #[] 0 (Nat.le_refl _) (by decide) (by decide)
  have h4 : Below w.heap.size w (w.alloc (.cells #[] 5)) := (Below.refl _ w).alloc (Nat.le_refl _) _
  have he : ∀ w : World, (binOp .eql 22 (.slice (some ⟨b0, o0, none⟩) bs.length c) (.slice none 0 0)).run Tryd.prog w = .ok (.bool false) w := fun _ => rfl
  go_enter Tryd.func49, Tryd.ntmps49
  go_wp2_with (at_builtin; refine wpList_app _ rfl (.tmp 5) (.tmp 6) _ rfl w.heap.size 5 i0 _ Tryd.underlying22 hi hz0 hz1 hz2 rfl (xs := []) rfl h3 rfl h2 (by simpa using hl) (by simp) ?_; intro A1 c1 v1 ho hb)
  replace ho : Own v1 w.heap.size 5 A1 c1 bs := ho
  go_ret
  exact ⟨A1, c1, rfl, ho, h4.trans hb⟩
set_option maxHeartbeats 800000 in
theorem gclamp_gen {A : Option Addr} {B c : Nat} {bs : List UInt8} (h32 : bs.length = 32) (w : World) (hr : Rd w B A c bs) (hB : B ≤ w.heap.size) :
    Calls Tryd.prog 25 #[.slice A bs.length c] w fun e w' => ∃ A' c', e = .returned (.tuple #[.slice A' bs.length c', .int .i64 0]) ∧ Own w' w.heap.size 5 A' c' (gen (bf (clam (vb bs))) 32) ∧ Below w.heap.size w w' := by
  have KL := Lib.hid (clone_any (by omega) (by omega) w hr hB)
  obtain ⟨z, hz⟩ : ∃ z, z = clam (vb bs) := ⟨_, rfl⟩
  have l0 := nth_lt bs 0
  have l31 := nth_lt bs 31
  have hset := @clam_set bs h32 (UInt8.ofNat (nth bs 0 - nth bs 0 % 8)) (UInt8.ofNat (nth bs 31 % 64 + 64)) (by simp; omega) (by simp; omega)
  have hs1 : nth (bs.set 0 (UInt8.ofNat (nth bs 0 - nth bs 0 % 8))) 31 = nth bs 31 := by rw [nth_set _ _ _ _ (by omega), if_neg (by decide)]
  have hb0 : (UInt8.ofNat (nth bs 0 - nth bs 0 % 8)).toNat = nth bs 0 - nth bs 0 % 8 := by simp; omega
  have hb1 : (UInt8.ofNat (nth bs 31 % 64 + 64)).toNat = nth bs 31 % 64 + 64 := by simp; omega
  generalize UInt8.ofNat (nth bs 0 - nth bs 0 % 8) = b0 at hset hs1 hb0
  generalize UInt8.ofNat (nth bs 31 % 64 + 64) = b1 at hset hb1
  rw [← hz] at hset ⊢
  clear hz
  have u1 : bits .andNot .u8 (nth bs 0 : Int) 7 = (b0.toNat : Int) := by rw [hb0]; exact andNot7 ⟨nth bs 0, l0⟩
  have u2 : bits .and .u8 (nth bs 31 : Int) 63 = ((nth bs 31 % 64 : Nat) : Int) := and63 ⟨nth bs 31, l31⟩
  have u3 : bits .or .u8 ((nth bs 31 % 64 : Nat) : Int) 64 = (b1.toNat : Int) := by rw [hb1]; exact or64 ⟨nth bs 31 % 64, Nat.mod_lt _ (by decide)⟩
  generalize hy1 : nth bs 31 % 64 = m1 at *
  have g1 : ((bs.length : Int) == 32) = true := by simp; omega
  have g2 : ((bs.length : Int) != 32) = false := by simp; omega
  have hp : 0 < bs.length := by omega
  have gl0 : (0 : Int) < (bs.length : Int) := by omega
  have gl31 : (31 : Int) < (bs.length : Int) := by omega
  have H32 := Lib.hid h32
  clear hb0 hb1 hy1 h32
  go_enter Tryd.func25, Tryd.ntmps25
  go_wp2_with fail
  go_at_call 49
  refine KL.out.mono ?_
  rintro e v1 ⟨A1, c1, rfl, ho, hc⟩
  clear KL
  obtain ⟨g, rfl⟩ := ho.at0 hp
  have o3 := ho.set_ 0 b0
  have cl := ho.cell (k := 0) hp
  have fr := ho.free 0
  have cl3 := o3.cell (k := 31) (by rw [List.length_set, H32.out]; decide)
  have fr3 := o3.free 31
  have o4 := o3.set_ 31 b1
  rw [hs1] at cl3
  rw [hset] at o4
  have b3 : Below w.heap.size w _ := hc.setCell (p := ⟨g, 0, none⟩) ho.ge (.int .u8 (b0.toNat : Int))
  have b4 : Below w.heap.size w _ := b3.setCell (p := ⟨g, 31, none⟩) ho.ge (.int .u8 (b1.toNat : Int))
  go_wp2_with fail
  refine bodyPost_ret (v := .tuple #[.slice (some ⟨g, 0, none⟩) bs.length c1, .int .i64 0]) (by simp [results, Tryd.results25, go_sem, H32.out]) rfl ⟨_, _, rfl, o4, b4⟩
theorem gclamp_any {A : Option Addr} {B c : Nat} {bs : List UInt8} (h32 : bs.length = 32) (w : World) (hr : Rd w B A c bs) (hB : B ≤ w.heap.size) :
    Calls Tryd.prog 25 #[.slice A 32 c] w fun e w' => ∃ A' c', e = .returned (.tuple #[.slice A' 32 c', .int .i64 0]) ∧ Own w' w.heap.size 5 A' c' (gen (bf (clam (vb bs))) 32) ∧ Below w.heap.size w w' := by
  have h := gclamp_gen h32 w hr hB
  rwa [h32] at h
end Go.Proofs.YtgaofocjnifjdaaDoor
