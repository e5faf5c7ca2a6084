/-
  Layer 9's own, awake over contracts. By an AI agent.
-/
import Derived.Test.YtkbkalhcdbklkaaGreatDoorJ01
namespace Go.Proofs.YtkbkalhcdbklkaaGreatDoor
open Go Go.RowKit
set_option maxRecDepth 20000
theorem own9_any {A : Option Addr} {B c : Nat} {bs : List UInt8} (w : World) (hr : Rd w B A c bs) (hB : B ≤ w.heap.size) (hl : bs.length ≤ 140737488355328) :
  Calls Tryz.prog 6 #[.slice A bs.length c] w fun e w' => ∃ A' c', e = .returned (.slice A' bs.length c') ∧ Own w' w.heap.size 5 A' c' bs ∧ Below w.heap.size w w' := by
 obtain ⟨i0, hi, hz0, hz1, hz2⟩ := info_parts infoByte
 have h2 : Rd (w.alloc (.cells #[] 5)) B A c bs := hr.keep ((Below.refl B w).alloc hB _)
 have h3 : Own (w.alloc (.cells #[] 5)) w.heap.size 5 (some ⟨w.heap.size, 0, none⟩) 0 [] := World.ownsRow_made w #[] 0 (Nat.le_refl _) (by decide) (by decide)
 have h4 : Below w.heap.size w (w.alloc (.cells #[] 5)) := (Below.refl _ w).alloc (Nat.le_refl _) _
 go_enter Tryz.func6, Tryz.ntmps6
 go_wp2_with (at_builtin; refine wpList_app _ rfl (.tmp 3) (.tmp 4) _ rfl w.heap.size 5 i0 _ Tryz.underlying22 hi hz0 hz1 hz2 rfl (xs := []) rfl h3 rfl h2 (by simpa using hl) (by simp) ?_; intro A1 c1 v1 ho hb)
 replace ho : Own v1 w.heap.size 5 A1 c1 bs := ho
 go_ret
 exact ⟨A1, c1, rfl, ho, h4.trans hb⟩
theorem own9_rd (bs : List UInt8) (A : Option Addr) (c : Nat) (w : World) (hl : bs.length ≤ 140737488355328) (hr : Rd w w.heap.size A c bs) :
  Calls Tryz.prog 6 #[.slice A bs.length c] w fun e w' => ∃ A' c', e = .returned (.slice A' bs.length c') ∧ Rd w' w'.heap.size A' c' bs ∧ Below w.heap.size w w' :=
 (own9_any w hr (Nat.le_refl _) hl).mono fun _ _ ⟨A', c', he, o, hb⟩ => ⟨A', c', he, o.rd, hb⟩
def zer9 : List UInt8 := List.replicate 32 0
theorem zer9_len : zer9.length = 32 := by simp [zer9]
theorem mk9 (w : World) : Rd (w.alloc (.cells (madeCells #[.int .u8 0] 32) 5)) (w.alloc (.cells (madeCells #[.int .u8 0] 32) 5)).heap.size (some ⟨w.heap.size, 0, none⟩) 32 zer9 := (Own.made (w := w) (B := w.heap.size) 5 (Nat.le_refl _) (by decide)).rd
theorem awake9_gen {G : World → Prop} (hGn : ∀ w w', G w → Below w.heap.size w w' → G w') {L : List UInt8} (hl : L.length = 32) (s0 : nth L 0 = 59) (s1 : nth L 1 = 106)
  (kp : ∀ (A : Option Addr) (c : Nat) (w : World), G w → Rd w w.heap.size A c zer9 → Calls Tryz.prog 7 #[.slice A 32 c] w fun e w' => ∃ A2 c2, e = .returned (.tuple #[.slice A2 32 c2, .int .i64 0]) ∧ Rd w' w'.heap.size A2 c2 L ∧ Below w.heap.size w w')
  (kv : ∀ (A : Option Addr) (c : Nat) (w : World), G w → Rd w w.heap.size A c L → Calls Tryz.prog 12 #[.slice A 32 c, .slice none 0 0, .slice none 0 0] w fun e w' => e = .returned (.int .i64 1) ∧ Below w.heap.size w w')
  (w : World) (hG : G w) : Calls Tryz.prog 9 #[] w fun e w' => e = .returned (.bool true) ∧ Below w.heap.size w w' := by
 obtain ⟨i0, hi, hz0, hz1, hz2⟩ := info_parts infoByte
 have hmk := run_mk (P := Tryz.prog) 22 5 i0 Tryz.underlying22 hi hz0 hz1 hz2 (l := 32) (n := 32) rfl (by omega)
 have hb := (Below.refl _ w).alloc (Nat.le_refl _) (.cells (madeCells #[.int .u8 0] 32) 5)
 have KP := Lib.hid (kp _ _ _ (hGn _ _ hG hb) (mk9 w))
 have KV := Lib.hid kv
 have HB := Lib.hid hb
 have HG := Lib.hid hG
 have GN := Lib.hid hGn
 clear kp kv hb hG hGn
 go_enter Tryz.func9, Tryz.ntmps9
 go_wp2_with fail
 go_at_call 7
 refine KP.out.mono ?_
 rintro e v1 ⟨A1, c1, rfl, r1, hb⟩
 have hc := HB.out.trans (hb.mono HB.out.size)
 have KQ := Lib.hid (KV.out A1 c1 v1 (GN.out _ _ HG.out hc) r1)
 clear hb KP HB hmk
 obtain ⟨b1, o1, rfl, _, x0⟩ := r1.at_ (k := 0) (by omega)
 obtain ⟨b2, o2, e2, _, x1⟩ := r1.at_ (k := 1) (by omega)
 simp only [Option.some.injEq, Addr.mk.injEq, and_true] at e2
 obtain ⟨rfl, rfl⟩ := e2
 rw [s0] at x0
 rw [s1] at x1
 rw [Nat.add_zero] at x0
 clear r1
 go_wp2_with fail
 go_at_call 12
 refine KQ.out.mono ?_
 rintro e v2 ⟨rfl, hb⟩
 replace hc := bnx hc hb
 go_wp2_with fail
 go_ret
 exact ⟨rfl, hc⟩
end Go.Proofs.YtkbkalhcdbklkaaGreatDoor
