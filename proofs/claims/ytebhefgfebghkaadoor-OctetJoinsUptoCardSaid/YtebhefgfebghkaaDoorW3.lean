import Derived.Test.YtebhefgfebghkaaDoorW2
namespace Go.Proofs.YtebhefgfebghkaaDoor
open Go Go.RowKit

def halfV (n : Nat) : Nat := if 48 ≤ n ∧ n ≤ 57 then n - 48 else if 97 ≤ n ∧ n ≤ 102 then n - 87 else 0
def halfB (n : Nat) : Bool := (48 ≤ n && n ≤ 57) || (97 ≤ n && n ≤ 102)
theorem halfV_lt (n : Nat) : halfV n < 16 := by unfold halfV; split <;> (try split) <;> omega

set_option maxHeartbeats 400000 in
theorem half_any (w : World) (n : Nat) (hn : n < 256) :
    Calls Tryd.prog 31 #[.int .u8 (n : Int)] w fun e w' => e = .returned (.tuple #[.int .u8 (halfV n : Int), .bool (halfB n)]) ∧ w = w' := by
  go_enter Tryd.func31, Tryd.ntmps31
  go_wp2
  all_goals go_ret2
  all_goals refine ⟨ret_ib ?_ ?_, rfl⟩
  all_goals first | (unfold halfV; split <;> (try split) <;> omega) | (simp [halfB]; omega)

/-- The j-th byte that the digits tell. -/
def unh (s : List UInt8) (j : Nat) : UInt8 := UInt8.ofNat (halfV (nth s (2 * j)) * 16 + halfV (nth s (2 * j + 1)))
theorem unh_toNat (s : List UInt8) (j : Nat) : (unh s j).toNat = halfV (nth s (2 * j)) * 16 + halfV (nth s (2 * j + 1)) := by
  have := halfV_lt (nth s (2 * j))
  have := halfV_lt (nth s (2 * j + 1))
  simp only [unh, UInt8.toNat_ofNat']
  omega
theorem unh_bits (s : List UInt8) (k : Nat) : bits BinOp.or IntKind.u8 ((halfV (nth s (2 * k)) : Int) * 16 % 256) (halfV (nth s (2 * k + 1)) : Int) = ((unh s k).toNat : Int) := by
  have h1 := halfV_lt (nth s (2 * k))
  have h2 := halfV_lt (nth s (2 * k + 1))
  have e : ((halfV (nth s (2 * k)) : Int) * 16 % 256) = ((2 ^ 4 * halfV (nth s (2 * k)) : Nat) : Int) := by omega
  rw [e, u8_or_nat _ _ (by omega) (by omega), ← Nat.two_pow_add_eq_or_of_lt (by omega), unh_toNat]
  congr 1
  omega
def unhL (s : List UInt8) : List UInt8 := gen (unh s) (s.length / 2)
def pairB (s : List UInt8) (j : Nat) : Bool := halfB (nth s (2 * j)) && halfB (nth s (2 * j + 1))
def unhexB (s : List UInt8) : Bool := s.length % 2 == 0 && (List.range (s.length / 2)).all (pairB s)
def UnhexPost (s : List UInt8) (w : World) (e : Ending) (w' : World) : Prop :=
  Below w.heap.size w w' ∧ ((unhexB s = true ∧ ∃ A' c', e = .returned (.tuple #[.slice A' (s.length / 2) c', .int .i64 0]) ∧ Own w' w.heap.size 5 A' c' (unhL s)) ∨
    (unhexB s = false ∧ e = .returned (.tuple #[.slice none 0 0, .int .i64 5])))

theorem unhex_bad {s : List UInt8} {n k : Nat} (hn : s.length = n) (hk : k < n / 2) (h : ¬ pairB s k = true) : unhexB s = false := by
  subst hn
  rw [unhexB, Bool.and_eq_false_iff]
  refine .inr ?_
  rw [List.all_eq_false]
  exact ⟨k, by simpa using hk, h⟩
theorem unhex_good {s : List UInt8} {n : Nat} (hn : s.length = n) (h0 : n % 2 = 0) (h : ∀ j, j < n / 2 → pairB s j = true) : unhexB s = true := by
  subst hn
  simp only [unhexB, Bool.and_eq_true, beq_iff_eq, List.all_eq_true, List.mem_range]
  exact ⟨h0, h⟩
set_option maxHeartbeats 400000 in
theorem unhex_any (w : World) (s : ByteArray) (hs : s.size ≤ 281474976710656) :
    Calls Tryd.prog 22 #[.string s] w (UnhexPost s.data.toList w) := by
  have hsz : s.data.toList.length = s.size := by rw [Array.length_toList]; rfl
  have gb : ∀ (n : Nat) (h : n < s.size), ((s[n]'h).toNat : Int) = (nth s.data.toList n : Int) := fun n h => by
    rw [nth_get (by omega)]; rfl
  obtain ⟨i0, hi, hz0, hz1, hz2⟩ := info_parts infoByte
  have hmk := run_mk (P := Tryd.prog) 22 5 i0 Tryd.underlying22 hi hz0 hz1 hz2 (l := (s.size : Int) / 2) (n := s.size / 2) (by omega) (by omega)
  by_cases hodd : s.size % 2 = 0
  · have t0 : ((s.size : Int) % 2 != 0) = false := by simp; omega
    have H := Lib.hid hodd
    clear hodd
    go_enter Tryd.func22, Tryd.ntmps22
    go_wp2
    have hm : Own (w.alloc (.cells (madeCells #[.int .u8 0] (s.size / 2)) 5)) w.heap.size 5 (some ⟨w.heap.size, 0, none⟩) (s.size / 2) (List.replicate (s.size / 2) 0) := Own.made 5 (Nat.le_refl _) (by unfold maxLen; omega)
    have hb0 : Below w.heap.size w (w.alloc (.cells (madeCells #[.int .u8 0] (s.size / 2)) 5)) := (Below.refl _ w).alloc (Nat.le_refl _) _
    go_loopw [20] (fun i wr => ∃ k : Nat, k ≤ s.size / 2 ∧ i = .int .i64 k ∧ (∀ j, j < k → pairB s.data.toList j = true) ∧ Own wr w.heap.size 5 (some ⟨w.heap.size, 0, none⟩) (s.size / 2) (fill (unh s.data.toList) (s.size / 2) k) ∧ Below w.heap.size w wr)
      (fun i _ => s.size / 2 - (intOf i).toNat)
    case atStart => exact ⟨0, Nat.zero_le _, rfl, fun j hj => absurd hj (by omega), by rw [fill_zero]; exact hm, hb0⟩
    case round =>
      obtain ⟨k, hk, rfl, hp, ho, hb⟩ := hrel
      clear hm hb0 hmk
      by_cases hlt : k < s.size / 2
      · have g1 : (k : Int) < (s.size : Int) / 2 := by omega
        have g2 : 2 * k < s.size := by omega
        have g3 : 2 * k + 1 < s.size := by omega
        have e1 : wr.cell? ⟨w.heap.size, k, none⟩ = some (.int .u8 (nth (fill (unh s.data.toList) (s.size / 2) k) k : Int)) := ho.cell (by rw [fill_length]; exact hlt)
        have e2 : wr.frozen? ⟨w.heap.size, k, none⟩ = false := ho.free k
        by_cases hpk : pairB s.data.toList k = true
        · have hpp : halfB (nth s.data.toList (2 * k)) = true ∧ halfB (nth s.data.toList (2 * k + 1)) = true := by simpa [pairB] using hpk
          obtain ⟨p1, p2⟩ := hpp
          have HK := Lib.hid hpk
          have HP := Lib.hid hp
          clear hpk hp
          go_wp2_with (go_at_call 31; refine (half_any _ _ (nth_lt _ _)).mono ?_; rintro e w' ⟨rfl, rfl⟩)
          go_roundw
          case rel =>
            refine ⟨k + 1, by omega, by go_num, fun j hj => ?_, ?_, hb.setCell (Nat.le_refl _) _⟩
            · by_cases hjk : j = k
              · subst hjk; exact HK.out
              · exact HP.out j (by omega)
            · rw [unh_bits, ← fill_set _ _ k rfl]
              exact ho.set_ k _
          case measure => simp [intOf]; omega
        · have HK := Lib.hid hpk
          have HP := Lib.hid hp
          clear hp
          have hpp : halfB (nth s.data.toList (2 * k)) = false ∨ (halfB (nth s.data.toList (2 * k)) = true ∧ halfB (nth s.data.toList (2 * k + 1)) = false) := by
            revert hpk; simp only [pairB]; cases halfB (nth s.data.toList (2 * k)) <;> cases halfB (nth s.data.toList (2 * k + 1)) <;> simp
          clear hpk
          rcases hpp with p1 | ⟨p1, p2⟩
          all_goals
            go_wp2_with (go_at_call 31; refine (half_any _ _ (nth_lt _ _)).mono ?_; rintro e w' ⟨rfl, rfl⟩)
            go_ret2
            exact ⟨hb, .inr ⟨unhex_bad hsz hlt HK.out, rfl⟩⟩
      · go_wp2
        go_ret2
        have hk' : k = s.size / 2 := by omega
        subst hk'
        refine ⟨hb, .inl ⟨unhex_good hsz H.out hp, some ⟨w.heap.size, 0, none⟩, s.size / 2, ?_, ?_⟩⟩
        · rw [hsz]; rfl
        · rw [unhL, hsz, ← fill_full]; exact ho
  · have t0 : ((s.size : Int) % 2 != 0) = true := by simp; omega
    go_enter Tryd.func22, Tryd.ntmps22
    go_wp2
    go_ret2
    exact ⟨Below.refl _ _, .inr ⟨by simp [unhexB, hsz, hodd], rfl⟩⟩
end Go.Proofs.YtebhefgfebghkaaDoor
