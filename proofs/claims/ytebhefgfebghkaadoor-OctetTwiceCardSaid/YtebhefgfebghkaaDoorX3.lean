import Derived.Test.YtebhefgfebghkaaDoorX1
import Derived.Test.YtebhefgfebghkaaDoorX2
import Derived.Deep.RegionHeld3
namespace Go.Proofs.YtebhefgfebghkaaDoor
open Go Go.RowKit

def xorf (xs ys : List UInt8) (k : Nat) : UInt8 := UInt8.ofNat (nth xs k ^^^ nth ys k)
set_option maxHeartbeats 800000 in
theorem rxor_good {A1 A2 : Option Addr} {c1 c2 B1 B2: Nat} {xs ys : List UInt8} (w : World) (h1 : Rd w B1 A1 c1 xs) (h2 : Rd w B2 A2 c2 ys) (hB1 : B1 ≤ w.heap.size) (hB2 : B2 ≤ w.heap.size) (hl : xs.length ≤ 140737488355327) (hn : xs.length = ys.length) :
    Calls Tryd.prog 17 #[.slice A1 xs.length c1, .slice A2 ys.length c2] w fun e w' => ∃ A' c', e = .returned (.tuple #[.slice A' xs.length c', .int .i64 0]) ∧ Own w' w.heap.size 5 A' c' (xorL xs ys) ∧ Below w.heap.size w w' := by
  have ht : ((xs.length : Int) != (ys.length : Int)) = false := by simp [hn]
  have HN := Lib.hid hn
  clear hn
  obtain ⟨i0, hi, hz0, hz1, hz2⟩ := info_parts infoByte
  go_enter Tryd.func17, Tryd.ntmps17
  go_wp2
  clear ht
  go_loopw [6, 7] (fun v i wr => ∃ k : Nat, k ≤ xs.length ∧ i = .int .i64 k ∧ (∃ A c, v = .slice A k c ∧ Own wr w.heap.size 5 A c (gen (xorf xs ys) k)) ∧ Below w.heap.size w wr)
    (fun _ i _ => xs.length - (intOf i).toNat)
  case atStart => exact ⟨0, Nat.zero_le _, rfl, ⟨none, 0, rfl, World.ownsRow_nil _ _ _ _⟩, Below.refl _ _⟩
  case round =>
    obtain ⟨k, hk, rfl, ⟨A, c, rfl, ho⟩, hb⟩ := hrel
    by_cases hlt : k < xs.length
    · have g1 : (k : Int) < (xs.length : Int) := by omega
      have g2 : (k : Int) < (ys.length : Int) := by have := HN.out; omega
      obtain ⟨b1, o1, rfl, hb1, cc1⟩ := (h1.mono hB1).at_ hlt
      obtain ⟨b2, o2, rfl, hb2, cc2⟩ := (h2.mono hB2).at_ (by rw [← HN.out]; exact hlt)
      have c1' : wr.cell? ⟨b1, o1 + k, none⟩ = some (.int .u8 (nth xs k : Int)) := (hb.cell (p := ⟨b1, o1 + k, none⟩) hb1).trans cc1
      have c2' : wr.cell? ⟨b2, o2 + k, none⟩ = some (.int .u8 (nth ys k : Int)) := (hb.cell (p := ⟨b2, o2 + k, none⟩) hb2).trans cc2
      clear cc1 cc2
      go_wp2
      have hv : ((nth xs k ^^^ nth ys k : Nat) : Int) = ((xorf xs ys k).toNat : Int) := by rw [xorf, xorb_toNat]
      have HV := Lib.hid hv
      clear hv
      go_region_held3 (fun w' => w'.cell? ⟨b1, o1 + k, none⟩ = some (.int .u8 (nth xs k : Int)) ∧ w'.cell? ⟨b2, o2 + k, none⟩ = some (.int .u8 (nth ys k : Int)))
        (first | go_keep | exact ⟨(hb'.cell (p := ⟨b1, o1 + k, none⟩) hb1).trans ((hbm.cell (p := ⟨b1, o1 + k, none⟩) (Nat.lt_of_lt_of_le hb1 hb.size)).trans c1'), (hb'.cell (p := ⟨b2, o2 + k, none⟩) hb2).trans ((hbm.cell (p := ⟨b2, o2 + k, none⟩) (Nat.lt_of_lt_of_le hb2 hb.size)).trans c2')⟩ | exact ⟨(hbm.cell (p := ⟨b1, o1 + k, none⟩) (Nat.lt_of_lt_of_le hb1 hb.size)).trans c1', (hbm.cell (p := ⟨b2, o2 + k, none⟩) (Nat.lt_of_lt_of_le hb2 hb.size)).trans c2'⟩)
        (first | (go_at_call 30; refine (mixed_any _ _ _ (nth_lt _ _) (nth_lt _ _)).mono ?_; rintro e wm ⟨rfl, hbm0⟩; have hbm : Below wr.heap.size wr wm := ((Below.refl _ _).drew).trans hbm0; clear hbm0) | (refine step_app1 _ (by rfl) _ _ _ (by rfl) w.heap.size 5 i0 _ Tryd.underlying22 hi hz0 hz1 hz2 (by rfl) (by rfl) (gen_length _ _).symm (ho.keep hbm) (by rfl) _ HV.out (by omega) (by have := hb.size; have := hbm.size; omega) ?_; intro A' c' w' ho' hb'))
      have hb2' := (hb.trans (hbm.mono hb.size)).trans hb'
      go_wp2
      go_roundw
      case rel => exact ⟨k + 1, by omega, by go_num, ⟨A', c', rfl, by rw [gen_succ]; exact ho'⟩, hb2'⟩
      case measure => simp [intOf]; omega
    · have hk' : k = xs.length := by omega
      subst hk'
      go_wp2
      go_ret2
      exact ⟨_, _, rfl, ho, hb⟩
set_option maxHeartbeats 400000 in
theorem rxor_bad {A1 A2 : Option Addr} {c1 c2 n1 n2 : Nat} (w : World) (hn : n1 ≠ n2) :
    Calls Tryd.prog 17 #[.slice A1 n1 c1, .slice A2 n2 c2] w fun e w' => e = .returned (.tuple #[.slice none 0 0, .int .i64 1]) ∧ w = w' := by
  have ht : ((n1 : Int) != (n2 : Int)) = true := by simp; omega
  go_enter Tryd.func17, Tryd.ntmps17
  go_wp2
  go_ret2
  exact ⟨rfl, rfl⟩
end Go.Proofs.YtebhefgfebghkaaDoor
