/-
  Layer 14's code: seek. By an AI agent.
-/
import Derived.Test.YthamhpgjjbiplaaDoorPc1
import Derived.WalkMore
namespace Go.Proofs.YthamhpgjjbiplaaDoor
open Go Go.RowKit
set_option maxRecDepth 20000
/-- Where the mark stands that has nothing but noughts behind it, or that there is none. -/
def SeekN (b : List UInt8) (i : Int) : Prop := (i = -1 ∧ ∀ u, ¬ UnOk b u) ∨ ∃ m : Nat, i = (m : Int) ∧ m < b.length ∧ nth b m = 128 ∧ ∀ k, m < k → nth b k = 0
theorem UnOk.mark {b u : List UInt8} (h : UnOk b u) : nth b u.length = 128 ∧ u.length < b.length ∧ ∀ k, u.length < k → nth b k = 0 := by
  refine ⟨h.take.2.2, h.take.2.1, fun k hk => ?_⟩
  rw [← h.2]
  exact padL_nought u hk
theorem UnOk.at_ {b u : List UInt8} (h : UnOk b u) {m : Nat} (h1 : nth b m ≠ 0) (h2 : ∀ k, m < k → nth b k = 0) : m = u.length := by
  obtain ⟨e1, _, e2⟩ := h.mark
  rcases Nat.lt_trichotomy m u.length with h3 | h3 | h3
  · rw [h2 _ h3] at e1; cases e1
  · exact h3
  · exact absurd (e2 m h3) h1
theorem seek_none {b : List UInt8} (h : ∀ k, nth b k = 0) : SeekN b (-1) := .inl ⟨rfl, fun u hu => by
  have := hu.mark.1
  rw [h] at this
  cases this⟩
theorem seek_other {b : List UInt8} {m : Nat} (h1 : nth b m ≠ 0) (h3 : nth b m ≠ 128) (h2 : ∀ k, m < k → nth b k = 0) : SeekN b (-1) := .inl ⟨rfl, fun u hu => by
  obtain rfl := hu.at_ h1 h2
  exact h3 hu.mark.1⟩
theorem nth_beyond {b : List UInt8} {k : Nat} (h : b.length ≤ k) : nth b k = 0 := by
  unfold nth
  rw [List.getElem?_eq_none h]
  rfl
set_option maxHeartbeats 1600000 in
theorem cseek {A : Option Addr} {B c n : Nat} {b : List UInt8} (hn : b.length = n) (hm : n ≤ 4096) (w : World) (hr : Rd w B A c b) (hB : B ≤ w.heap.size) :
    Calls Tryd.prog 16 #[.slice A n c] w fun e w' => ∃ i : Int, e = .returned (.int .i64 i) ∧ SeekN b i ∧ Below w.heap.size w w' := by
  have HN := Lib.hid hn
  have HR := Lib.hid hr
  have HB := Lib.hid hB
  have HM := Lib.hid hm
  have w0 : IntKind.i64.wrap ((n : Int) - 1) = (n : Int) - 1 := by rw [IntKind.wrap_i64]; omega
  clear hn hr hB hm
  go_enter Tryd.func16, Tryd.ntmps16
  go_wp2_with fail
  go_step3
  go_wp2_with fail
  go_step3
  go_wp2_with fail
  obtain ⟨i0, ei0⟩ : ∃ i0, i0 = (n : Int) - 1 := ⟨_, rfl⟩
  rw [← ei0]
  go_loopw [3] (fun i wr => ∃ t : Nat, t ≤ n ∧ i = .int .i64 ((t : Int) - 1) ∧ (∀ k, t ≤ k → nth b k = 0) ∧ Below w.heap.size w wr)
    (fun i _ => (intOf i + 1).toNat)
  case atStart => exact ⟨n, Nat.le_refl _, by rw [ei0], fun k hk => nth_beyond (by rw [HN.out]; exact hk), Below.refl _ _⟩
  case round =>
    obtain ⟨t, ht, rfl, hz, hc⟩ := hrel
    by_cases h0 : t = 0
    · subst h0
      have HS := Lib.hid (seek_none fun k => hz k (Nat.zero_le _))
      clear hz
      go_wp2_with fail
      rw [Exit.noGoto_ret]
      go_ret
      exact ⟨_, rfl, HS.out, hc⟩
    · obtain ⟨m, rfl⟩ : ∃ m, t = m + 1 := ⟨t - 1, by omega⟩
      have hcast : ((m + 1 : Nat) : Int) - 1 = (m : Int) := by omega
      rw [hcast]
      have hr := HR.out.keep (hc.mono HB.out)
      obtain ⟨bb, oo, rfl, _, cl⟩ := hr.at_ (k := m) (by rw [HN.out]; omega)
      have hcap := hr.cap
      rw [HN.out] at hcap
      have hmn : m < n := by omega
      have hx := nth_lt b m
      have w1 : IntKind.i64.wrap ((m : Int) - 1) = (m : Int) - 1 := by have := HM.out; rw [IntKind.wrap_i64]; omega
      have g1 : (0 : Int) ≤ (m : Int) := by omega
      by_cases hx0 : nth b m = 0
      · rw [hx0] at cl
        have HZ := Lib.hid (show ∀ k, m ≤ k → nth b k = 0 from fun k hk => by
          rcases Nat.eq_or_lt_of_le hk with rfl | h
          · exact hx0
          · exact hz k h)
        clear hz hx hx0 hr h0 ht hcast hcap
        go_wp2_with fail
        go_roundw
        case rel => exact ⟨m, by omega, rfl, HZ.out, hc⟩
        case measure => simp [intOf]
      · by_cases hx1 : nth b m = 128
        · have HS := Lib.hid (show SeekN b (m : Int) from .inr ⟨m, rfl, by rw [HN.out]; exact hmn, hx1, fun k hk => hz k hk⟩)
          rw [hx1] at cl
          clear hz hx hx0 hx1 hr h0 ht hcast hcap
          go_wp2_with fail
          rw [Exit.noGoto_ret]
          go_ret
          exact ⟨_, rfl, HS.out, hc⟩
        · have HS := Lib.hid (seek_other hx0 hx1 fun k hk => hz k hk)
          have g2 : (((nth b m : Nat) : Int) == 0) = false := by simp; omega
          have g3 : (((nth b m : Nat) : Int) == 128) = false := by simp; omega
          generalize nth b m = x at *
          clear hz hx0 hx1 hr h0 ht hcast hcap
          go_wp2_with fail
          rw [Exit.noGoto_ret]
          go_ret
          exact ⟨_, rfl, HS.out, hc⟩
end Go.Proofs.YthamhpgjjbiplaaDoor
