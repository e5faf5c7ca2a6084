import Derived.Test.YtebhefgfebghkaaDoorX4
namespace Go.Proofs.YtebhefgfebghkaaDoor
open Go Go.RowKit
theorem same_two {A1 A2 : Option Addr} {c1 c2 B1 B2 n m : Nat} {xs ys : List UInt8} (w : World) (h1 : Rd w B1 A1 c1 xs) (h2 : Rd w B2 A2 c2 ys) (he : xs = ys) (hn : n = xs.length) (hm : m = ys.length) :
    Calls Tryd.prog 14 #[.slice A1 n c1, .slice A2 m c2] w fun e w' => e = .returned (.bool true) ∧ w = w' := by
  subst he
  subst hm
  subst hn
  exact same_yes w h1 h2 rfl rfl

set_option maxHeartbeats 1000000 in
theorem octetPicks_0 {A1 A2 : Option Addr} {c1 c2 : Nat} {xs ys : List UInt8} (w : World) (hT : Tab w) (h1 : Rd w w.heap.size A1 c1 xs) (h2 : Rd w w.heap.size A2 c2 ys)
    (l1 : xs.length ≤ 140737488351232) (l2 : ys.length ≤ 140737488351232) (hn : xs.length = ys.length) :
    Calls Tryd.prog 5 #[.int .i64 0, .slice A1 xs.length c1, .slice A2 ys.length c2] w fun e w' => e = .returned (.bool true) ∧ Below w.heap.size w w' := by
  have HN := Lib.hid hn
  clear hn
  go_enter Tryd.func5, Tryd.ntmps5
  go_wp2_with fail
  refine (own_any _ h1 (Nat.le_refl _) (by omega)).mono ?_
  rintro e w1 ⟨B1, d1, rfl, o1, b1⟩
  go_wp2_with fail
  refine (own_any _ (h2.next b1) (Nat.le_refl _) (by omega)).mono ?_
  rintro e w2 ⟨B2, d2, rfl, o2, b2⟩
  have b2' := Below.next b1 b2
  have r1 := o1.rd' b2
  have r2 := o2.rd
  go_wp2_with fail
  refine (pick_0 _ r1 r2 (Nat.le_refl _) (Nat.le_refl _) (by omega) HN.out).mono ?_
  rintro e w3 ⟨g, rfl, o3, b3⟩
  have b3' := Below.next b2' b3
  go_wp2_with fail
  refine (rpick_0 _ HN.out).mono ?_
  rintro e w3 ⟨rfl, rfl⟩
  go_wp2_with fail
  refine (same_yes _ o3.rd (h1.next b3') rfl rfl).mono ?_
  rintro e w3 ⟨rfl, rfl⟩
  go_wp2_with fail
  go_loopw [43] (fun i wr => ∃ k : Nat, k ≤ xs.length ∧ i = .int .i64 k ∧ (∃ bs : List UInt8, bs.length = xs.length ∧ Own wr w2.heap.size 5 (some ⟨g, 0, none⟩) xs.length bs) ∧ Below w2.heap.size w2 wr)
    (fun i _ => xs.length - (intOf i).toNat)
  case atStart => exact ⟨0, Nat.zero_le _, rfl, ⟨xs, rfl, o3⟩, b3⟩
  case round =>
    obtain ⟨k, hk, rfl, ⟨bs, hbs, ho⟩, hb⟩ := hrel
    have HB := Lib.hid hbs
    clear hbs
    by_cases hlt : k < xs.length
    · have g1 : (k : Int) < (xs.length : Int) := by omega
      have e1 : wr.cell? ⟨g, k, none⟩ = some (.int .u8 (nth bs k : Int)) := ho.cell (by rw [HB.out]; exact hlt)
      have e2 : wr.frozen? ⟨g, k, none⟩ = false := ho.free _
      have x0 := nth_lt bs k
      have hg : w2.heap.size ≤ g := ho.ge
      go_wp2_with fail
      go_roundw
      case rel =>
        refine ⟨k + 1, by omega, by go_num, ⟨bs.set k (UInt8.ofNat (nth bs k + 1)), ?_, ?_⟩, hb.setCell hg _⟩
        · rw [List.length_set]; exact HB.out
        · have hv : ((nth bs k : Int) + 1) % 256 = ((UInt8.ofNat (nth bs k + 1)).toNat : Int) := by simp only [UInt8.toNat_ofNat']; omega
          rw [hv]
          exact ho.set_ k _
      case measure => simp [intOf]; omega
    · have g1 : ¬ (k : Int) < (xs.length : Int) := by omega
      have bb := Below.next b2' hb
      go_wp2_with fail
      refine (same_yes _ (r1.next hb) (h1.next bb) rfl rfl).mono ?_
      rintro e w4 ⟨rfl, rfl⟩
      go_wp2_with fail
      refine (same_yes _ (r2.next hb) (h2.next bb) rfl rfl).mono ?_
      rintro e w4 ⟨rfl, rfl⟩
      go_wp2_with fail
      refine (awake_any _ (hT.keep bb hT.pos)).mono ?_
      rintro e w9 ⟨rfl, b9⟩
      go_wp2_with fail
      go_ret
      exact ⟨rfl, Below.next bb b9⟩

set_option maxHeartbeats 1000000 in
theorem octetPicks_1 {A1 A2 : Option Addr} {c1 c2 : Nat} {xs ys : List UInt8} (w : World) (hT : Tab w) (h1 : Rd w w.heap.size A1 c1 xs) (h2 : Rd w w.heap.size A2 c2 ys)
    (l1 : xs.length ≤ 140737488351232) (l2 : ys.length ≤ 140737488351232) (hn : xs.length = ys.length) :
    Calls Tryd.prog 5 #[.int .i64 1, .slice A1 xs.length c1, .slice A2 ys.length c2] w fun e w' => e = .returned (.bool true) ∧ Below w.heap.size w w' := by
  have HN := Lib.hid hn
  clear hn
  go_enter Tryd.func5, Tryd.ntmps5
  go_wp2_with fail
  refine (own_any _ h1 (Nat.le_refl _) (by omega)).mono ?_
  rintro e w1 ⟨B1, d1, rfl, o1, b1⟩
  go_wp2_with fail
  refine (own_any _ (h2.next b1) (Nat.le_refl _) (by omega)).mono ?_
  rintro e w2 ⟨B2, d2, rfl, o2, b2⟩
  have b2' := Below.next b1 b2
  have r1 := o1.rd' b2
  have r2 := o2.rd
  go_wp2_with fail
  refine (pick_1 _ r1 r2 (Nat.le_refl _) (Nat.le_refl _) (by omega) HN.out).mono ?_
  rintro e w3 ⟨g, rfl, o3, b3⟩
  have b3' := Below.next b2' b3
  go_wp2_with fail
  refine (rpick_1 _ HN.out).mono ?_
  rintro e w3 ⟨rfl, rfl⟩
  go_wp2_with fail
  refine (same_two _ o3.rd (h2.next b3') rfl HN.out rfl).mono ?_
  rintro e w3 ⟨rfl, rfl⟩
  go_wp2_with fail
  go_loopw [43] (fun i wr => ∃ k : Nat, k ≤ xs.length ∧ i = .int .i64 k ∧ (∃ bs : List UInt8, bs.length = xs.length ∧ Own wr w2.heap.size 5 (some ⟨g, 0, none⟩) xs.length bs) ∧ Below w2.heap.size w2 wr)
    (fun i _ => xs.length - (intOf i).toNat)
  case atStart => exact ⟨0, Nat.zero_le _, rfl, ⟨ys, HN.out.symm, o3⟩, b3⟩
  case round =>
    obtain ⟨k, hk, rfl, ⟨bs, hbs, ho⟩, hb⟩ := hrel
    have HB := Lib.hid hbs
    clear hbs
    by_cases hlt : k < xs.length
    · have g1 : (k : Int) < (xs.length : Int) := by omega
      have e1 : wr.cell? ⟨g, k, none⟩ = some (.int .u8 (nth bs k : Int)) := ho.cell (by rw [HB.out]; exact hlt)
      have e2 : wr.frozen? ⟨g, k, none⟩ = false := ho.free _
      have x0 := nth_lt bs k
      have hg : w2.heap.size ≤ g := ho.ge
      go_wp2_with fail
      go_roundw
      case rel =>
        refine ⟨k + 1, by omega, by go_num, ⟨bs.set k (UInt8.ofNat (nth bs k + 1)), ?_, ?_⟩, hb.setCell hg _⟩
        · rw [List.length_set]; exact HB.out
        · have hv : ((nth bs k : Int) + 1) % 256 = ((UInt8.ofNat (nth bs k + 1)).toNat : Int) := by simp only [UInt8.toNat_ofNat']; omega
          rw [hv]
          exact ho.set_ k _
      case measure => simp [intOf]; omega
    · have g1 : ¬ (k : Int) < (xs.length : Int) := by omega
      have bb := Below.next b2' hb
      go_wp2_with fail
      refine (same_yes _ (r1.next hb) (h1.next bb) rfl rfl).mono ?_
      rintro e w4 ⟨rfl, rfl⟩
      go_wp2_with fail
      refine (same_yes _ (r2.next hb) (h2.next bb) rfl rfl).mono ?_
      rintro e w4 ⟨rfl, rfl⟩
      go_wp2_with fail
      refine (awake_any _ (hT.keep bb hT.pos)).mono ?_
      rintro e w9 ⟨rfl, b9⟩
      go_wp2_with fail
      go_ret
      exact ⟨rfl, Below.next bb b9⟩

set_option maxHeartbeats 1000000 in
theorem octetPicks_arg {A1 A2 : Option Addr} {c1 c2 : Nat} {xs ys : List UInt8} (b : Int) (w : World) (hT : Tab w) (h1 : Rd w w.heap.size A1 c1 xs) (h2 : Rd w w.heap.size A2 c2 ys)
    (l1 : xs.length ≤ 140737488351232) (l2 : ys.length ≤ 140737488351232) (hn : (b ≠ 0 ∧ b ≠ 1) ∨ xs.length ≠ ys.length) :
    Calls Tryd.prog 5 #[.int .i64 b, .slice A1 xs.length c1, .slice A2 ys.length c2] w fun e w' => e = .returned (.bool true) ∧ Below w.heap.size w w' := by
  have HN := Lib.hid hn
  clear hn
  go_enter Tryd.func5, Tryd.ntmps5
  go_wp2_with fail
  refine (own_any _ h1 (Nat.le_refl _) (by omega)).mono ?_
  rintro e w1 ⟨B1, d1, rfl, o1, b1⟩
  go_wp2_with fail
  refine (own_any _ (h2.next b1) (Nat.le_refl _) (by omega)).mono ?_
  rintro e w2 ⟨B2, d2, rfl, o2, b2⟩
  have b2' := Below.next b1 b2
  have r1 := o1.rd' b2
  have r2 := o2.rd
  go_wp2_with fail
  refine (pick_arg _ _ HN.out).mono ?_
  rintro e w3 ⟨rfl, rfl⟩
  go_wp2_with fail
  refine (rpick_arg _ _ HN.out).mono ?_
  rintro e w3 ⟨rfl, rfl⟩
  go_wp2_with fail
  refine (same_nil _).mono ?_
  rintro e w3 ⟨rfl, rfl⟩
  go_wp2_with fail
  refine wp_loop_rounds 1 ?_
  rw [rounds_succ]
  go_wp2_with fail
  refine (same_yes _ r1 (h1.next b2') rfl rfl).mono ?_
  rintro e w4 ⟨rfl, rfl⟩
  go_wp2_with fail
  refine (same_yes _ r2 (h2.next b2') rfl rfl).mono ?_
  rintro e w4 ⟨rfl, rfl⟩
  go_wp2_with fail
  refine (awake_any _ (hT.keep b2' hT.pos)).mono ?_
  rintro e w9 ⟨rfl, b9⟩
  go_wp2_with fail
  go_ret
  exact ⟨rfl, Below.next b2' b9⟩
theorem octetPicks_walk {A1 A2 : Option Addr} {c1 c2 : Nat} {xs ys : List UInt8} {b : Int} (w : World) (hT : Tab w) (h1 : Rd w w.heap.size A1 c1 xs) (h2 : Rd w w.heap.size A2 c2 ys)
    (_ : (Lit.int .i64 b).wf = true) (l1 : xs.length ≤ 140737488351232) (l2 : ys.length ≤ 140737488351232) :
    Calls Tryd.prog 5 #[.int .i64 b, .slice A1 xs.length c1, .slice A2 ys.length c2] w fun e w' => e = .returned (.bool true) ∧ Below w.heap.size w w' := by
  by_cases hn : xs.length = ys.length
  · by_cases h0 : b = 0
    · subst h0; exact octetPicks_0 w hT h1 h2 l1 l2 hn
    · by_cases h1' : b = 1
      · subst h1'; exact octetPicks_1 w hT h1 h2 l1 l2 hn
      · exact octetPicks_arg b w hT h1 h2 l1 l2 (.inl ⟨h0, h1'⟩)
  · exact octetPicks_arg b w hT h1 h2 l1 l2 (.inr hn)
end Go.Proofs.YtebhefgfebghkaaDoor
