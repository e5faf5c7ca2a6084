import Derived.Test.YtifcjfeepgfmfaaDoorR5
namespace Go.Proofs.YtifcjfeepgfmfaaDoor
open Go Go.RowKit
theorem P_dig16 : ∀ t, t < 19 → ∀ i, i < 16 → d16 (P25 + t) i = if i = 0 then 65517 + t else if i = 15 then 32767 else 65535 := by unfold d16; decide +kernel
theorem big_dig {v : Nat} (hv : v < H25) (h : P25 ≤ v) : ∃ t, t < 19 ∧ v = P25 + t := ⟨v - P25, by have := H25_P; omega, by omega⟩
/-- What least asks of the digits. -/
theorem least_one {v i : Nat} (hv : v < H25) (h1 : 1 ≤ i) (h2 : i < 15) (h : d16 v i ≠ 65535) : v % P25 = v := by
  refine Nat.mod_eq_of_lt (Nat.lt_of_not_le fun hle => h ?_)
  obtain ⟨t, ht, rfl⟩ := big_dig hv hle
  rw [P_dig16 t ht i (by omega), if_neg (by omega), if_neg (by omega)]
theorem least_two {v : Nat} (hv : v < H25) (h : d16 v 15 ≠ 32767 ∨ d16 v 0 < 65517) : v % P25 = v := by
  refine Nat.mod_eq_of_lt (Nat.lt_of_not_le fun hle => ?_)
  obtain ⟨t, ht, rfl⟩ := big_dig hv hle
  rcases h with h | h
  · exact h (by rw [P_dig16 t ht 15 (by omega)]; rfl)
  · rw [P_dig16 t ht 0 (by omega), if_pos rfl] at h; omega
theorem least_three {v : Nat} (hv : v < H25) (h1 : ∀ i, 1 ≤ i → i < 15 → d16 v i = 65535) (h2 : d16 v 15 = 32767) (h3 : 65517 ≤ d16 v 0) : v % P25 = d16 v 0 - 65517 := by
  have h0 := d16_lt v 0
  have ht : d16 v 0 - 65517 < 19 := by omega
  have e : v = P25 + (d16 v 0 - 65517) := by
    have hPW : P25 + 19 < W4 := by decide +kernel
    refine dgt_ext (b := 65536) (n := 16) (by rw [← W4_d16]; exact Nat.lt_trans hv (by decide +kernel)) (by rw [← W4_d16]; omega) fun i hi => ?_
    show d16 v i = d16 _ i
    rw [P_dig16 _ ht i hi]
    by_cases hi0 : i = 0
    · rw [if_pos hi0, hi0]; omega
    · rw [if_neg hi0]
      by_cases hi1 : i = 15
      · rw [if_pos hi1, hi1, h2]
      · rw [if_neg hi1, h1 i (by omega) (by omega)]
  have hP := P25_pos
  have hP2 : 19 < P25 := by decide +kernel
  generalize d16 v 0 - 65517 = t at *
  rw [e, Nat.add_mod_left, Nat.mod_eq_of_lt (by omega)]
attribute [local irreducible] wd by8 d16 set16w fl
set_option maxRecDepth 20000
set_option maxHeartbeats 1600000 in
theorem least_any {v : Nat} (hv : v < H25) (w : World) :
    Calls Tryd.prog 69 #[fv v] w fun e w' => e = .returned (fv (v % P25)) ∧ Below w.heap.size w w' := by
  have HV := Lib.hid hv
  obtain ⟨r, hr⟩ : ∃ r, r = v % P25 := ⟨_, rfl⟩
  rw [← hr]
  have HR := Lib.hid hr
  have hs : (w.alloc (A16 v)).heap.size = w.heap.size + 1 := by simp
  have ox := (O16.new (w := w) (Nat.le_refl _) v).alloc Z16
  have oz := O16.zero (own_Z16 (w := w.alloc (A16 v)) (B := w.heap.size) (by omega))
  rw [hs] at oz
  have hc := ((Below.refl _ w).alloc (Nat.le_refl _) (A16 v)).alloc (by omega) Z16
  have hne : w.heap.size + 1 ≠ w.heap.size := by omega
  clear hr hv hs
  go_enter Tryd.func69, Tryd.ntmps69
  go_wp2_with fail
  obtain ⟨v0, e0⟩ : ∃ u, u = (w.alloc (A16 v)).alloc Z16 := ⟨_, rfl⟩
  rw [← e0] at ox oz hc ⊢
  clear e0
  go_loopw [3] (fun i wr => ∃ k : Nat, 1 ≤ k ∧ k ≤ 15 ∧ i = .int .i64 k ∧ (∀ j, 1 ≤ j → j < k → d16 v j = 65535) ∧ wr = v0)
    (fun i _ => 15 - (intOf i).toNat)
  case atStart => exact ⟨1, by omega, by omega, rfl, fun j h1 h2 => absurd h2 (by omega), rfl⟩
  case round =>
    obtain ⟨k, hk1, hk, rfl, hall, rfl⟩ := hrel
    have HA := Lib.hid hall
    clear hall
    by_cases hlt : k < 15
    · have g1 : (k : Int) < 15 := by omega
      have c1 : wr.cell? ⟨w.heap.size, k, none⟩ = some (.int .i64 (d16 v k : Int)) := OwnF.cell ox (by omega)
      by_cases hd : d16 v k = 65535
      · have g2 : ((d16 v k : Int) != 65535) = false := by simp; omega
        have g3 : ((d16 v k : Int) == 65535) = true := by simp; omega
        have HD := Lib.hid hd
        clear hd
        go_wp2_with fail
        go_roundw
        case rel => exact ⟨k + 1, by omega, by omega, by go_num, fun j h1 h2 => (by by_cases e : j = k; (· subst e; exact HD.out); exact HA.out j h1 (by omega)), trivial⟩
        case measure => simp [intOf]; omega
      · have g2 : ((d16 v k : Int) != 65535) = true := by simp; omega
        have g3 : ((d16 v k : Int) == 65535) = false := by simp; omega
        have er : r = v := by rw [HR.out, least_one HV.out hk1 hlt hd]
        subst er
        clear hd
        have hop := Lib.hid (oz.put r)
        have hbz := oz.below r
        go_wp2_with (first | ((with_reducible refine fl_store oz r ?_ ?_ ?_); rfl; rfl) | ((with_reducible refine fl_load ox ?_ ?_); rfl))
        exact bodyPost_ret (fres Tryd.results69 _ hop.out rfl) rfl ⟨rfl, hc.trans hbz⟩
    · obtain rfl : k = 15 := by omega
      have c15 : wr.cell? ⟨w.heap.size, 15, none⟩ = some (.int .i64 (d16 v 15 : Int)) := OwnF.cell ox (by omega)
      have c0 : wr.cell? ⟨w.heap.size, 0, none⟩ = some (.int .i64 (d16 v 0 : Int)) := OwnF.cell ox (by omega)
      by_cases h15 : d16 v 15 = 32767
      · have g2 : ((d16 v 15 : Int) != 32767) = false := by simp; omega
        have g3 : ((d16 v 15 : Int) == 32767) = true := by simp; omega
        by_cases h0 : d16 v 0 < 65517
        · have g4 : (d16 v 0 : Int) < 65517 := by omega
          have er : r = v := by rw [HR.out, least_two HV.out (.inr h0)]
          subst er
          clear h15 h0
          have hop := Lib.hid (oz.put r)
          have hbz := oz.below r
          go_wp2_with (first | ((with_reducible refine fl_store oz r ?_ ?_ ?_); rfl; rfl) | ((with_reducible refine fl_load ox ?_ ?_); rfl))
          exact bodyPost_ret (fres Tryd.results69 _ hop.out rfl) rfl ⟨rfl, hc.trans hbz⟩
        · have g4 : ¬ (d16 v 0 : Int) < 65517 := by omega
          have er := least_three HV.out (fun i h1 h2 => HA.out i h1 h2) h15 (by omega)
          rw [← HR.out] at er
          have hl := d16_lt v 0
          have hr16 : r < 65536 := by omega
          have g5 : IntKind.i64.wrap ((d16 v 0 : Int) - 65517) = (r : Int) := by rw [IntKind.wrap_i64]; omega
          have c0a : (wr.alloc Z16).cell? ⟨w.heap.size, 0, none⟩ = some (.int .i64 (d16 v 0 : Int)) := OwnF.cell (ox.alloc Z16) (by omega)
          have hz1 := oz.alloc (A16 r)
          have ho := O16.new (w := wr) hc.size r
          have hc1 := hc.alloc hc.size (A16 r)
          rw [A16_small hr16] at hz1 ho hc1
          clear h15 h0 er hl hr16
          have hop := Lib.hid (hz1.put r)
          have hbz := hz1.below r
          go_wp2_with (first | ((with_reducible refine fl_store hz1 r ?_ ?_ ?_); rfl; rfl) | ((with_reducible refine fl_load ho ?_ ?_); rfl))
          exact bodyPost_ret (fres Tryd.results69 _ hop.out rfl) rfl ⟨rfl, hc1.trans hbz⟩
      · have g2 : ((d16 v 15 : Int) != 32767) = true := by simp; omega
        have g3 : ((d16 v 15 : Int) == 32767) = false := by simp; omega
        have er : r = v := by rw [HR.out, least_two HV.out (.inl h15)]
        subst er
        clear h15
        have hop := Lib.hid (oz.put r)
        have hbz := oz.below r
        go_wp2_with (first | ((with_reducible refine fl_store oz r ?_ ?_ ?_); rfl; rfl) | ((with_reducible refine fl_load ox ?_ ?_); rfl))
        exact bodyPost_ret (fres Tryd.results69 _ hop.out rfl) rfl ⟨rfl, hc.trans hbz⟩
end Go.Proofs.YtifcjfeepgfmfaaDoor
