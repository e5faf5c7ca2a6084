/-
  The document's Digits of any number; Number, Text, Flag (layer 13). By an AI agent.
-/
import Derived.Test.YtonfdnihllhcbaaWi1
namespace Go.Proofs.Ytonfdnihllhcbaa
open Go Go.RowKit
set_option maxRecDepth 20000
theorem digs_neg {n : Int} (h : n < 0) : digs n = [0] := by
  have e : clampN n = 0 := by unfold clampN; rw [if_pos h]
  unfold digs
  rw [e]
  rfl
theorem digs_far {n : Int} (h : (Far : Int) < n) : digs n = 128 :: digF 4 8589934592 := by
  have e : clampN n = Far := by unfold clampN; rw [if_neg (by omega), if_pos h]
  unfold digs
  rw [e]
  rfl
theorem digs_nat {m : Nat} (h : m ≤ Far) : digs (m : Int) = digF 5 m := by unfold digs; rw [clamp_nat h]
set_option maxHeartbeats 1600000 in
theorem rdig_any (n : Int) (w : World) :
    Calls Try.prog 31 #[.int .i64 n] w fun e w' => ∃ A c, e = .returned (.slice A (digs n).length c) ∧ Own w' w.heap.size 5 A c (digs n) ∧ Below w.heap.size w w' := by
  by_cases h1 : n < 0
  · rw [digs_neg h1]
    have ho : Own (w.alloc (.cells #[.int .u8 0] 5)) w.heap.size 5 (some ⟨w.heap.size, 0, none⟩) 1 [0] := Own.lit (w := w) (B := w.heap.size) 5 (Nat.le_refl _) #[.int .u8 0] [0] (by simp [maxLen]) rfl
    have hb : Below w.heap.size w (w.alloc (.cells #[.int .u8 0] 5)) := (Below.refl _ _).alloc (Nat.le_refl _) _
    have HO := Lib.hid (And.intro ho hb)
    clear ho hb
    go_enter Try.func31, Try.ntmps31
    go_wp2_with fail
    go_ret
    exact ⟨_, _, rfl, HO.out.1, HO.out.2⟩
  · by_cases h2 : (Far : Int) < n
    · rw [digs_far h2]
      unfold Far at h2
      obtain ⟨i0, hi, hz0, hz1, hz2⟩ := info_parts infoU8
      have ih2 := fun v => rdigN 4 8589934592 v (by decide) (by decide) (by decide)
      have hl := digF_len 4 8589934592
      generalize digF 4 8589934592 = R at *
      have ho : Own (w.alloc (.cells #[.int .u8 128] 5)) w.heap.size 5 (some ⟨w.heap.size, 0, none⟩) 1 [128] := Own.lit (w := w) (B := w.heap.size) 5 (Nat.le_refl _) #[.int .u8 128] [128] (by simp [maxLen]) rfl
      have hb : Below w.heap.size w (w.alloc (.cells #[.int .u8 128] 5)) := (Below.refl _ _).alloc (Nat.le_refl _) _
      have HL := Lib.hid (show 1 + R.length ≤ 140737488355328 by omega)
      have hlen : (128 :: R).length = 1 + R.length := by rw [List.length_cons]; omega
      rw [hlen]
      obtain ⟨v1, e1⟩ : ∃ v, v = w.alloc (.cells #[.int .u8 128] 5) := ⟨_, rfl⟩
      obtain ⟨g, eg⟩ : ∃ g, g = w.heap.size := ⟨_, rfl⟩
      rw [← e1] at ho hb
      have ho2 : Own v1 w.heap.size 5 (some ⟨g, 0, none⟩) 1 [128] := by rw [eg]; exact ho
      have HI := Lib.hid ih2
      have h2' : (1099511627776 : Int) < n := by omega
      clear ho ih2 hl hlen h2
      go_enter Try.func31, Try.ntmps31
      go_wp2_with fail
      rw [← e1, show (Value.slice (some ⟨w.heap.size, 0, none⟩) 1 1) = .slice (some ⟨g, 0, none⟩) 1 1 by rw [eg]]
      clear e1 eg
      go_at_call 31
      refine (HI.out v1).mono ?_
      rintro e v2 ⟨A, c, rfl, o2, h0⟩
      have o1 := ho2.keep h0
      have hc := hb.trans (h0.mono hb.size)
      clear HI ho2 hb h0
      go_wp2_with (at_builtin; refine wpList_appN _ rfl (.tmp 15) (.tmp 18) _ rfl w.heap.size 5 i0 _ Try.underlying22 hi hz0 hz1 hz2 rfl (xs := [128]) rfl rfl o1 rfl rfl o2.rd rfl HL.out hc.size ?_; intro A3 c3 v3 o3 hb3)
      have HO := Lib.hid (And.intro o3 (hc.trans hb3))
      clear o1 o2 o3 hc hb3
      go_ret
      exact ⟨_, _, rfl, HO.out.1, HO.out.2⟩
    · obtain ⟨m, rfl⟩ : ∃ m : Nat, n = (m : Int) := ⟨n.toNat, by omega⟩
      have hm : m ≤ Far := by omega
      rw [digs_nat hm]
      exact rdigN 5 m w (by decide) (by unfold Far at hm; omega) hm
/-- Some bytes and a number; a text; a flag. -/
def numL (b : List UInt8) (n : Int) : List UInt8 := b ++ digs n
def textL (b s : List UInt8) : List UInt8 := numL b (s.length : Int) ++ s
def flagL (b : List UInt8) (y : Bool) : List UInt8 := numL b (if y then 1 else 0)
theorem numL_len (b : List UInt8) (n : Int) : (numL b n).length = b.length + (digs n).length := by unfold numL; rw [List.length_append]
set_option maxHeartbeats 1600000 in
theorem rnum_any {A : Option Addr} {B c : Nat} {b : List UInt8} (n : Int) (w : World) (hr : Rd w B A c b) (hB : B ≤ w.heap.size) (hl : b.length ≤ 140737488355320) :
    Calls Try.prog 11 #[.slice A b.length c, .int .i64 n] w fun e w' => ∃ A c, e = .returned (.slice A (numL b n).length c) ∧ Own w' w.heap.size 5 A c (numL b n) ∧ Below w.heap.size w w' := by
  obtain ⟨i0, hi, hz0, hz1, hz2⟩ := info_parts infoU8
  have h2 : Rd (w.alloc (.cells #[] 5)) B A c b := hr.keep ((Below.refl B w).alloc hB _)
  have h3 : Own (w.alloc (.cells #[] 5)) w.heap.size 5 (some ⟨w.heap.size, 0, none⟩) 0 [] := World.ownsRow_made w #[] 0 (Nat.le_refl _) (by decide) (by decide)
  have h4 : Below w.heap.size w (w.alloc (.cells #[] 5)) := (Below.refl _ w).alloc (Nat.le_refl _) _
  have hd := digs_len n
  rw [numL_len]
  have HL := Lib.hid (show 0 + b.length ≤ 140737488355328 ∧ b.length + (digs n).length ≤ 140737488355328 by omega)
  have HI := Lib.hid (fun v => rdig_any n v)
  have HD : digs n = digs n := rfl
  have HN := Lib.hid (show numL b n = b ++ digs n from rfl)
  clear hr hd HD
  go_enter Try.func11, Try.ntmps11
  go_wp2_with (at_builtin; refine wpList_app _ rfl (.tmp 5) (.tmp 6) _ rfl w.heap.size 5 i0 _ Try.underlying22 hi hz0 hz1 hz2 rfl (xs := []) rfl h3 rfl h2 HL.out.1 (by simp) ?_; intro A1 c1 v1 ho hb)
  replace ho : Own v1 w.heap.size 5 A1 c1 b := ho
  have hc := h4.trans hb
  clear h2 h3 h4 hb
  go_at_call 31
  refine (HI.out v1).mono ?_
  rintro e v2 ⟨A2, c2, rfl, o2, h0⟩
  replace ho := ho.keep h0
  replace hc := hc.trans (h0.mono hc.size)
  clear HI h0
  go_wp2_with (at_builtin; refine wpList_app _ rfl (.tmp 7) (.tmp 9) _ rfl w.heap.size 5 i0 _ Try.underlying22 hi hz0 hz1 hz2 rfl rfl ho rfl o2.rd HL.out.2 hc.size ?_; intro A3 c3 v3 o3 hb3)
  have HO := Lib.hid (And.intro o3 (hc.trans hb3))
  clear ho o2 o3 hc hb3
  go_ret
  rw [HN.out, ← List.length_append]
  exact ⟨_, _, rfl, HO.out.1, HO.out.2⟩
end Go.Proofs.Ytonfdnihllhcbaa
