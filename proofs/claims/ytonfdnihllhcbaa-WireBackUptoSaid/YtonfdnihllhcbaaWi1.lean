/-
  The document's Digits, Number, Text, Flag (layer 13). By an AI agent.
-/
import Derived.Test.YtonfdnihllhcbaaInv
import Derived.Test.YtonfdnihllhcbaaApN
import Derived.Test.YtonfdnihllhcbaaSh
namespace Go.Proofs.Ytonfdnihllhcbaa
open Go Go.RowKit
set_option maxRecDepth 20000
/-- The greatest number. -/
def Far : Nat := 1099511627776
/-- A number's bytes, at most f and one more. -/
def digF : Nat → Nat → List UInt8
  | 0, n => [UInt8.ofNat n]
  | f + 1, n => if n < 128 then [UInt8.ofNat n] else UInt8.ofNat (128 + n % 128) :: digF f (n / 128)
/-- A number, brought into its range. -/
def clampN (n : Int) : Nat := if n < 0 then 0 else if (Far : Int) < n then Far else n.toNat
def digs (n : Int) : List UInt8 := digF 5 (clampN n)
theorem clampN_le (n : Int) : clampN n ≤ Far := by unfold clampN; split; · exact Nat.zero_le _
                                                   · split <;> omega
theorem digF_len : ∀ f n, 1 ≤ (digF f n).length ∧ (digF f n).length ≤ f + 1
  | 0, n => by simp [digF]
  | f + 1, n => by
    unfold digF
    split
    · simp
    · have := digF_len f (n / 128)
      rw [List.length_cons]; omega
theorem digs_len (n : Int) : 1 ≤ (digs n).length ∧ (digs n).length ≤ 6 := digF_len 5 _
theorem clamp_nat {m : Nat} (hm : m ≤ Far) : clampN (m : Int) = m := by have := hm; unfold clampN; rw [if_neg (by omega)]; split <;> omega
theorem byte_nat {m : Nat} (hm : m < 256) : IntKind.u8.wrap (m : Int) = (((UInt8.ofNat m).toNat : Nat) : Int) := by
  have := hm
  rw [IntKind.wrap_u8, UInt8.toNat_ofNat']
  omega
set_option maxHeartbeats 800000 in
theorem rdig_one {m : Nat} (h : m < 128) (w : World) :
    Calls Try.prog 31 #[.int .i64 (m : Int)] w fun e w' => ∃ A c, e = .returned (.slice A 1 c) ∧ Own w' w.heap.size 5 A c [UInt8.ofNat m] ∧ Below w.heap.size w w' := by
  have g1 : (m : Int) < 128 := by omega
  have g2 : ¬ (m : Int) < 0 := by omega
  have g3 : ¬ (1099511627776 : Int) < (m : Int) := by omega
  have w1 := byte_nat (m := m) (by omega)
  have ho : Own (w.alloc (.cells #[bv (UInt8.ofNat m)] 5)) w.heap.size 5 (some ⟨w.heap.size, 0, none⟩) 1 [UInt8.ofNat m] := Own.lit (w := w) (B := w.heap.size) 5 (Nat.le_refl _) #[bv (UInt8.ofNat m)] [UInt8.ofNat m] (by simp [maxLen]) rfl
  have hb : Below w.heap.size w (w.alloc (.cells #[bv (UInt8.ofNat m)] 5)) := (Below.refl _ _).alloc (Nat.le_refl _) _
  have HO := Lib.hid (And.intro ho hb)
  clear h ho hb
  go_enter Try.func31, Try.ntmps31
  go_wp2_with fail
  go_ret
  exact ⟨_, _, rfl, HO.out.1, HO.out.2⟩
set_option maxHeartbeats 1600000 in
theorem rdigN : ∀ (f : Nat) (m : Nat) (w : World), f ≤ 100 → m < 128 ^ (f + 1) → m ≤ Far →
    Calls Try.prog 31 #[.int .i64 (m : Int)] w fun e w' => ∃ A c, e = .returned (.slice A (digF f m).length c) ∧ Own w' w.heap.size 5 A c (digF f m) ∧ Below w.heap.size w w' := by
  intro f
  induction f with
  | zero =>
    intro m w _ hn _
    exact rdig_one (by omega) w
  | succ f ih =>
    intro m w hf hn hfar
    by_cases hs : m < 128
    · unfold digF
      rw [if_pos hs]
      exact rdig_one hs w
    · obtain ⟨i0, hi, hz0, hz1, hz2⟩ := info_parts infoU8
      have hd : digF (f + 1) m = UInt8.ofNat (128 + m % 128) :: digF f (m / 128) := by rw [digF, if_neg hs]
      have hq : m / 128 ≤ Far := by omega
      have ih2 := fun v => ih (m / 128) v (by omega) (by rw [Nat.pow_succ] at hn; omega) hq
      unfold Far at hfar hq
      have g1 : ¬ (m : Int) < 128 := by omega
      have g2 : ¬ (m : Int) < 0 := by omega
      have g3 : ¬ (1099511627776 : Int) < (m : Int) := by omega
      have t1 : (m : Int).tmod 128 = ((m % 128 : Nat) : Int) := by rw [Int.tmod_eq_emod_of_nonneg (by omega)]; omega
      have t2 : (m : Int).tdiv 128 = ((m / 128 : Nat) : Int) := by rw [Int.tdiv_eq_ediv_of_nonneg (by omega)]; omega
      have w0 : IntKind.i64.wrap ((m % 128 : Nat) : Int) = ((m % 128 : Nat) : Int) := by rw [IntKind.wrap_i64]; omega
      have w3 : IntKind.i64.wrap ((m / 128 : Nat) : Int) = ((m / 128 : Nat) : Int) := by rw [IntKind.wrap_i64]; omega
      have w2 : IntKind.i64.wrap (128 + ((m % 128 : Nat) : Int)) = ((128 + m % 128 : Nat) : Int) := by rw [IntKind.wrap_i64]; omega
      have w1 := byte_nat (m := 128 + m % 128) (by omega)
      rw [hd]
      have hl := digF_len f (m / 128)
      generalize digF f (m / 128) = R at *
      generalize UInt8.ofNat (128 + m % 128) = y at *
      generalize 128 + m % 128 = y0 at *
      generalize m % 128 = r at *
      generalize m / 128 = q at *
      have ho : Own (w.alloc (.cells #[bv y] 5)) w.heap.size 5 (some ⟨w.heap.size, 0, none⟩) 1 [y] := Own.lit (w := w) (B := w.heap.size) 5 (Nat.le_refl _) #[bv y] [y] (by simp [maxLen]) rfl
      have hb : Below w.heap.size w (w.alloc (.cells #[bv y] 5)) := (Below.refl _ _).alloc (Nat.le_refl _) _
      have HL := Lib.hid (show 1 + R.length ≤ 140737488355328 by omega)
      have hlen : (y :: R).length = 1 + R.length := by rw [List.length_cons]; omega
      rw [hlen]
      obtain ⟨v1, e1⟩ : ∃ v, v = w.alloc (.cells #[bv y] 5) := ⟨_, rfl⟩
      obtain ⟨g, eg⟩ : ∃ g, g = w.heap.size := ⟨_, rfl⟩
      rw [← e1] at ho hb
      have ho2 : Own v1 w.heap.size 5 (some ⟨g, 0, none⟩) 1 [y] := by rw [eg]; exact ho
      have HI := Lib.hid ih2
      clear ho hn hs hfar hd hq ih ih2 hl hlen hf
      go_enter Try.func31, Try.ntmps31
      go_wp2_with fail
      rw [← e1, show (Value.slice (some ⟨w.heap.size, 0, none⟩) 1 1) = .slice (some ⟨g, 0, none⟩) 1 1 by rw [eg]]
      clear e1 eg
      go_at_call 31
      refine (HI.out v1).mono ?_
      rintro e v2 ⟨A, c, rfl, o2, h0⟩
      have o1 := ho2.keep h0
      have hc := hb.trans (h0.mono hb.size)
      clear HI ho2 hb h0
      go_wp2_with (at_builtin; refine wpList_appN _ rfl (.tmp 15) (.tmp 18) _ rfl w.heap.size 5 i0 _ Try.underlying22 hi hz0 hz1 hz2 rfl (xs := [y]) rfl rfl o1 rfl rfl o2.rd rfl HL.out hc.size ?_; intro A3 c3 v3 o3 hb3)
      have HO := Lib.hid (And.intro o3 (hc.trans hb3))
      clear o1 o2 o3 hc hb3
      go_ret
      exact ⟨_, _, rfl, HO.out.1, HO.out.2⟩
end Go.Proofs.Ytonfdnihllhcbaa
