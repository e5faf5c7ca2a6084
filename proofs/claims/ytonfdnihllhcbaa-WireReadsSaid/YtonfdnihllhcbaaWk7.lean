/-
  The landed reader of layer 13: its Fixed, Text, Flag. By an AI agent.
-/
import Derived.Test.YtonfdnihllhcbaaWk6
namespace Go.Proofs.Ytonfdnihllhcbaa
open Go Go.RowKit
set_option maxRecDepth 20000
set_option maxHeartbeats 1600000 in
theorem rfixed_code {w : World} {B C g c a : Nat} {A : Option Addr} {all : List UInt8} {e : Int} (n : Int) (h : RdAt w B C g A c all a e) :
    Calls Try.prog 28 #[.pointer (some ⟨g, 0, none⟩), .int .i64 n] w fun x w' => ∃ A' c', x = .returned (.slice A' (fixR (all.drop a) e n).2.2.length c') ∧ Rd w' w'.heap.size A' c' (fixR (all.drop a) e n).2.2 ∧ (∀ ad, A' = some ad → w.heap.size ≤ ad.block) ∧ (∃ a2, RdAt w' B C g A c all a2 (fixR (all.drop a) e n).2.1 ∧ (fixR (all.drop a) e n).1 = all.drop a2) ∧ OutB B C w w' := by
  have KE := Lib.hid (err_code h)
  have HN := Lib.hid h
  have hnil : ∀ wz : World, Rd wz wz.heap.size none 0 [] := fun _ => ⟨Nat.le_refl _, fun _ => ⟨rfl, rfl⟩, fun h => absurd rfl h⟩
  have HNIL := Lib.hid hnil
  clear h hnil
  by_cases he : e = 0
  case neg =>
    have hx : fixR (all.drop a) e n = (all.drop a, e, []) := by unfold fixR; rw [if_pos (.inl he)]
    rw [hx]
    have g1 : (e != 0) = true := by simp [he]
    clear hx he
    go_enter Try.func28, Try.ntmps28
    go_wp2_with fail
    go_at_call 20
    refine KE.out.mono ?_
    rintro x v1 ⟨rfl, h1⟩
    go_wp2_with fail
    go_ret
    exact ⟨none, 0, rfl, HNIL.out _, fun ad h => by simp at h, ⟨a, HN.out.next h1, rfl⟩, OutB.of h1⟩
  subst he
  by_cases hn : n < 1
  · have hx : fixR (all.drop a) 0 n = (all.drop a, 0, []) := by unfold fixR; rw [if_pos (.inr hn)]
    rw [hx]
    clear hx
    go_enter Try.func28, Try.ntmps28
    go_wp2_with fail
    go_at_call 20
    refine KE.out.mono ?_
    rintro x v1 ⟨rfl, h1⟩
    go_wp2_with fail
    go_ret
    exact ⟨none, 0, rfl, HNIL.out _, fun ad h => by simp at h, ⟨a, HN.out.next h1, rfl⟩, OutB.of h1⟩
  obtain ⟨m, rfl⟩ : ∃ m : Nat, n = (m : Int) := ⟨n.toNat, by omega⟩
  have hla := HN.out.at_
  obtain ⟨d, ed⟩ : ∃ d, d = all.length - a := ⟨_, rfl⟩
  have KL := Lib.hid (fun v (hb : Below w.heap.size w v) => left_code (HN.out.next hb))
  rw [← ed] at KL
  by_cases h2 : d < m
  · have hx : fixR (all.drop a) 0 (m : Int) = (all.drop a, 3, []) := by
      unfold fixR
      rw [if_neg (by omega), if_pos (by rw [List.length_drop]; omega)]
    rw [hx]
    have g1 : (d : Int) < (m : Int) := by omega
    have g2 : ¬ (m : Int) < 1 := hn
    clear hx hn ed h2 hla
    go_enter Try.func28, Try.ntmps28
    go_wp2_with fail
    go_at_call 20
    refine KE.out.mono ?_
    rintro x v1 ⟨rfl, h1⟩
    go_wp2_with fail
    go_at_call 36
    refine (KL.out v1 h1).mono ?_
    rintro x v2 ⟨rfl, h2⟩
    have q2 := (HN.out.next h1).next h2
    have c3 := ORd.c3 q2.cells
    have f3 := OwnF.free q2.cells 3
    have h5 := q2.setErr 3
    have HS := Lib.hid (And.intro h5.1 ((OutB.of (B := B) (C := C) (h1.trans (h2.mono h1.size))).trans h5.2))
    clear q2 h5 h1 h2
    go_wp2_with fail
    go_ret
    exact ⟨none, 0, rfl, HNIL.out _, fun ad h => by simp at h, ⟨a, HS.out.1, rfl⟩, HS.out.2⟩
  · have hx : fixR (all.drop a) 0 (m : Int) = (all.drop (a + m), 0, (all.drop a).take m) := by
      unfold fixR
      rw [if_neg (by omega), if_neg (by rw [List.length_drop]; omega), List.drop_drop, Int.toNat_natCast]
    have hl : ((all.drop a).take m).length = m := by rw [List.length_take, List.length_drop]; omega
    rw [hx]
    simp only [hl]
    have g1 : ¬ (d : Int) < (m : Int) := by omega
    have g2 : ¬ (m : Int) < 1 := hn
    have KT := Lib.hid (fun v (hb : Below w.heap.size w v) => take_code (n := m) (HN.out.next hb) (by omega) (by omega))
    clear hx hn ed h2 hla hl
    go_enter Try.func28, Try.ntmps28
    go_wp2_with fail
    go_at_call 20
    refine KE.out.mono ?_
    rintro x v1 ⟨rfl, h1⟩
    go_wp2_with fail
    go_at_call 36
    refine (KL.out v1 h1).mono ?_
    rintro x v2 ⟨rfl, h2⟩
    have h3 := h1.trans (h2.mono h1.size)
    go_wp2_with fail
    go_at_call 38
    refine (KT.out v2 h3).mono ?_
    rintro x v3 ⟨A', c', rfl, r3, ha3, q3, o3⟩
    go_wp2_with fail
    go_ret
    exact ⟨A', c', rfl, r3, fun ad h => Nat.le_trans h3.size (ha3 ad h), ⟨_, q3, rfl⟩, (OutB.of h3).trans o3⟩
theorem rflag_code {w : World} {B C g c a : Nat} {A : Option Addr} {all : List UInt8} {e : Int} (h : RdAt w B C g A c all a e) :
    Calls Try.prog 26 #[.pointer (some ⟨g, 0, none⟩)] w fun x w' => x = .returned (.bool (flagR (all.drop a) e).2.2) ∧ (∃ a2, RdAt w' B C g A c all a2 (flagR (all.drop a) e).2.1 ∧ (flagR (all.drop a) e).1 = all.drop a2) ∧ OutB B C w w' := by
  have KN := Lib.hid (rnumber_code 0 1 h)
  unfold flagR
  obtain ⟨N, eN⟩ : ∃ N, N = numR (all.drop a) e 0 1 := ⟨_, rfl⟩
  rw [← eN] at KN ⊢
  clear eN h
  by_cases hb : N.2.2 = 1
  · have g1 : ((N.2.2 : Int) == 1) = true := by simp; omega
    have HB := Lib.hid (show (N.2.2 == 1) = true by simp [hb])
    clear hb
    go_enter Try.func26, Try.ntmps26
    go_wp2_with fail
    go_at_call 24
    refine KN.out.mono ?_
    rintro x v1 ⟨rfl, a2, q, hd, ho⟩
    go_wp2_with fail
    go_ret
    exact ⟨by rw [HB.out]; rfl, ⟨a2, q, hd⟩, ho⟩
  · have g1 : ((N.2.2 : Int) == 1) = false := by simp; omega
    have HB := Lib.hid (show (N.2.2 == 1) = false by simp [hb])
    clear hb
    go_enter Try.func26, Try.ntmps26
    go_wp2_with fail
    go_at_call 24
    refine KN.out.mono ?_
    rintro x v1 ⟨rfl, a2, q, hd, ho⟩
    go_wp2_with fail
    go_ret
    exact ⟨by rw [HB.out]; rfl, ⟨a2, q, hd⟩, ho⟩
/-- What came of a text: it stands behind it, or where it stood, with an error. -/
theorem textR_cases (bs : List UInt8) (e most : Int) : e = 0 → ∀ N, N = numR bs e 0 Far →
    (N.2.1 ≠ 0 ∧ N.2.2 = 0 ∧ textR bs e most = (bs, N.2.1, [])) ∨ (N.2.1 = 0 ∧ ((most < 0 ∧ (0 : Int) < (N.2.2 : Int)) ∨ (¬ most < 0 ∧ most < (N.2.2 : Int))) ∧ textR bs e most = (bs, 2, [])) ∨
    (N.2.1 = 0 ∧ ((most < 0 ∧ ¬ (0 : Int) < (N.2.2 : Int)) ∨ (¬ most < 0 ∧ ¬ most < (N.2.2 : Int))) ∧ fixR N.1 0 (N.2.2 : Int) = (N.1, 3, []) ∧ textR bs e most = (bs, 3, [])) ∨
    (N.2.1 = 0 ∧ ((most < 0 ∧ ¬ (0 : Int) < (N.2.2 : Int)) ∨ (¬ most < 0 ∧ ¬ most < (N.2.2 : Int))) ∧ (fixR N.1 0 (N.2.2 : Int)).2.1 = 0 ∧ textR bs e most = fixR N.1 0 (N.2.2 : Int)) := by
  intro he N hN
  subst he
  unfold textR
  have hz : N.2.1 ≠ 0 → N.2.2 = 0 ∧ N.1 = bs := by
    rw [hN, numR_raw]
    intro h
    split
    · exact ⟨rfl, rfl⟩
    · split
      · exact ⟨rfl, rfl⟩
      · rename_i h1 h2
        rw [if_neg h1, if_neg h2] at h
        exact absurd rfl h
  rw [← hN]
  by_cases h1 : N.2.1 ≠ 0
  · left
    rw [if_pos h1]
    exact ⟨h1, (hz h1).1, by rw [(hz h1).2]⟩
  · rw [if_neg h1]
    have h0 : N.2.1 = 0 := by omega
    right
    by_cases h2 : max most 0 < (N.2.2 : Int)
    · left
      rw [if_pos h2]
      exact ⟨h0, by omega, rfl⟩
    · right
      rw [if_neg h2]
      have hor : (most < 0 ∧ ¬ (0 : Int) < (N.2.2 : Int)) ∨ (¬ most < 0 ∧ ¬ most < (N.2.2 : Int)) := by omega
      unfold fixR
      by_cases h3 : N.1.length < N.2.2
      · left
        rw [if_pos h3, if_neg (by omega), if_pos (by omega)]
        exact ⟨h0, hor, rfl, rfl⟩
      · right
        rw [if_neg h3]
        by_cases h4 : N.2.2 = 0
        · rw [if_pos (.inr (by omega)), h4]
          exact ⟨h0, by rw [h4] at hor; exact hor, rfl, by simp⟩
        · rw [if_neg (by omega), if_neg (by omega), Int.toNat_natCast]
          exact ⟨h0, hor, rfl, rfl⟩
end Go.Proofs.Ytonfdnihllhcbaa
