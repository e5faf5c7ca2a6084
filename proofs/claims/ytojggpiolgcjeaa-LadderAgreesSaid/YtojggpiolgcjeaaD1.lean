/-
  Layer 5's law: own, awake. By an AI agent.
-/
import Derived.Test.YtojggpiolgcjeaaQ4
namespace Go.Proofs.Ytojggpiolgcjeaa
open Go Go.RowKit
attribute [local irreducible] wd by8 d16 set16w fl vk
set_option maxRecDepth 20000
theorem own5_any {A : Option Addr} {B c : Nat} {bs : List UInt8} (w : World) (hr : Rd w B A c bs) (hB : B ≤ w.heap.size) (hl : bs.length ≤ 140737488355328) :
    Calls Try.prog 9 #[.slice A bs.length c] w fun e w' => ∃ A' c', e = .returned (.slice A' bs.length c') ∧ Own w' w.heap.size 5 A' c' bs ∧ Below w.heap.size w w' := by
  obtain ⟨i0, hi, hz0, hz1, hz2⟩ := info_parts infoByte
  have h2 : Rd (w.alloc (.cells #[] 5)) B A c bs := hr.keep ((Below.refl B w).alloc hB _)
  have h3 : Own (w.alloc (.cells #[] 5)) w.heap.size 5 (some ⟨w.heap.size, 0, none⟩) 0 [] := World.ownsRow_made w #[] 0 (Nat.le_refl _) (by decide) (by decide)
  have h4 : Below w.heap.size w (w.alloc (.cells #[] 5)) := (Below.refl _ w).alloc (Nat.le_refl _) _
  go_enter Try.func9, Try.ntmps9
  go_wp2_with (at_builtin; refine wpList_app _ rfl (.tmp 3) (.tmp 4) _ rfl w.heap.size 5 i0 _ Try.underlying22 hi hz0 hz1 hz2 rfl (xs := []) rfl h3 rfl h2 (by simpa using hl) (by simp) ?_; intro A1 c1 v1 ho hb)
  replace ho : Own v1 w.heap.size 5 A1 c1 bs := ho
  go_ret
  exact ⟨A1, c1, rfl, ho, h4.trans hb⟩
def zer : List UInt8 := List.replicate 32 0
theorem zer_len : zer.length = 32 := by simp [zer]
set_option maxHeartbeats 800000 in
theorem awake5_gen
    (kc : ∀ (A : Option Addr) (c : Nat) (w : World), Rd w w.heap.size A c zer → Calls Try.prog 10 #[.slice A 32 c] w fun e w' => ∃ A' c', e = .returned (.tuple #[.slice A' 32 c', .int .i64 0]) ∧ Rd w' w'.heap.size A' c' (gen (bf (2 ^ 254)) 32) ∧ Below w.heap.size w w')
    (ks : ∀ (A A' : Option Addr) (c c' : Nat) (w : World), Rd w w.heap.size A c zer → Rd w w.heap.size A' c' zer → Calls Try.prog 17 #[.slice A 32 c, .slice A' 32 c'] w fun e w' => ∃ v, e = .returned (.tuple #[v, .int .i64 8]) ∧ Below w.heap.size w w')
    (w : World) : Calls Try.prog 12 #[] w fun e w' => e = .returned (.bool true) ∧ Below w.heap.size w w' := by
  have mk : ∀ w : World, Rd (w.alloc (.cells (madeCells #[.int .u8 0] 32) 5)) (w.alloc (.cells (madeCells #[.int .u8 0] 32) 5)).heap.size (some ⟨w.heap.size, 0, none⟩) 32 zer := fun w => (Own.made (w := w) (B := w.heap.size) 5 (Nat.le_refl _) (by decide)).rd
  obtain ⟨i0, hi, hz0, hz1, hz2⟩ := info_parts infoByte
  have hmk := run_mk (P := Try.prog) 22 5 i0 Try.underlying22 hi hz0 hz1 hz2 (l := 32) (n := 32) rfl (by omega)
  have KC := Lib.hid kc
  have KS := Lib.hid ks
  have MK := Lib.hid mk
  clear kc ks mk
  go_enter Try.func12, Try.ntmps12
  go_wp2_with fail
  go_at_call 10
  refine (KC.out _ _ _ (MK.out w)).mono ?_
  rintro e v1 ⟨A1, c1, rfl, r1, hb⟩
  have hc := ((Below.refl _ w).alloc (Nat.le_refl _) (.cells (madeCells #[.int .u8 0] 32) 5)).trans (hb.mono (by simp))
  clear hb
  obtain ⟨b1, o1, rfl, hb1, c31⟩ := r1.at_ (k := 31) (by rw [gen_length]; decide)
  rw [nth_gen (by decide), bf_nat, show by8 (2 ^ 254) 31 = 64 by decide +kernel] at c31
  clear r1
  go_upto_region 2 with fail
  have hs := hc.size
  have hd2 : Below v1.heap.size v1 ((v1.alloc (.cells (madeCells #[.int .u8 0] 32) 5)).alloc (.cells (madeCells #[.int .u8 0] 32) 5)).drew := (((Below.refl _ v1).alloc (Nat.le_refl _) _).alloc (by simp) _).drew
  have hzA : Rd ((v1.alloc (.cells (madeCells #[.int .u8 0] 32) 5)).alloc (.cells (madeCells #[.int .u8 0] 32) 5)).drew ((v1.alloc (.cells (madeCells #[.int .u8 0] 32) 5)).alloc (.cells (madeCells #[.int .u8 0] 32) 5)).drew.heap.size (some ⟨v1.heap.size, 0, none⟩) 32 zer :=
    ((MK.out v1).keep ((Below.refl _ _).alloc (Nat.le_refl _) _).drew).mono (by simp)
  have hzB : Rd ((v1.alloc (.cells (madeCells #[.int .u8 0] 32) 5)).alloc (.cells (madeCells #[.int .u8 0] 32) 5)).drew ((v1.alloc (.cells (madeCells #[.int .u8 0] 32) 5)).alloc (.cells (madeCells #[.int .u8 0] 32) 5)).drew.heap.size (some ⟨v1.heap.size + 1, 0, none⟩) 32 zer := by
    have h := (MK.out (v1.alloc (.cells (madeCells #[.int .u8 0] 32) 5))).keep (Below.refl _ _).drew
    rw [show (v1.alloc (.cells (madeCells #[.int .u8 0] 32) 5)).heap.size = v1.heap.size + 1 by simp] at h
    exact h.mono (by simp)
  go_region_held3 (fun wz => wz.cell? ⟨b1, o1 + 31, none⟩ = some (.int .u8 (64 : Nat)))
    (first | exact c31 | exact ((((Below.refl v1.heap.size v1).alloc (Nat.le_refl _) _).drew).cell (p := ⟨b1, o1 + 31, none⟩) hb1).trans c31 | exact (hd2.cell (p := ⟨b1, o1 + 31, none⟩) hb1).trans c31 | exact (h8.cell (p := ⟨b1, o1 + 31, none⟩) hb1).trans c31 | fail)
    (first | (go_at_call 17; (with_reducible refine (KS.out _ _ _ _ _ hzA hzB).mono ?_); rintro e' wt ⟨v9, rfl, h9⟩; have h8 := hd2.trans (h9.mono hd2.size)) | (go_at_call 17; (with_reducible refine (KS.out _ _ _ _ _ hzB hzA).mono ?_); rintro e' wt ⟨v9, rfl, h9⟩; have h8 := hd2.trans (h9.mono hd2.size)) | fail)
  all_goals
    have c9 := (h8.cell (p := ⟨b1, o1 + 31, none⟩) hb1).trans c31
    go_wp2_with fail
    go_ret
    exact ⟨rfl, hc.trans (h8.mono hs)⟩
end Go.Proofs.Ytojggpiolgcjeaa
