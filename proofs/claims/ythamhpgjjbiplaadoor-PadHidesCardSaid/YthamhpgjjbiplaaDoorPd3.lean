/-
  The document's Unpad (layer 14). By an AI agent.
-/
import Derived.Test.YthamhpgjjbiplaaDoorPd2
namespace Go.Proofs.YthamhpgjjbiplaaDoor
open Go Go.RowKit
set_option maxRecDepth 20000
theorem rpad_len {A : Option Addr} {B c n : Nat} {b : List UInt8} (hn : b.length = n) (w : World) (hr : Rd w B A c b) (hB : B ≤ w.heap.size) :
    Calls Tryd.prog 13 #[.slice A n c] w fun e w' => ∃ A' c', e = .returned (.tuple #[.slice A' (padA b).length c', .int .i64 (padE b : Int)]) ∧ Own w' w.heap.size 5 A' c' (padA b) ∧ Below w.heap.size w w' := by
  subst hn
  exact rpad_any w hr hB
section
attribute [local irreducible] padL
set_option maxHeartbeats 3200000 in
theorem runpad_any {A : Option Addr} {B c : Nat} {b : List UInt8} (w : World) (hr : Rd w B A c b) (hB : B ≤ w.heap.size) :
    Calls Tryd.prog 15 #[.slice A b.length c] w fun e w' => ∃ A' c', e = .returned (.tuple #[.slice A' (unA b).length c', .int .i64 (unE b : Int)]) ∧ Rd w' B A' c' (unA b) ∧ Below w.heap.size w w' := by
  have hnil : ∀ wz : World, Rd wz B none 0 [] := fun _ => ⟨Nat.le_refl _, fun _ => ⟨rfl, rfl⟩, fun h => absurd rfl h⟩
  obtain ⟨U, eU⟩ : ∃ U, U = unA b := ⟨_, rfl⟩
  obtain ⟨E, eE⟩ : ∃ E, E = unE b := ⟨_, rfl⟩
  rw [← eU, ← eE]
  have HU := Lib.hid (And.intro eU eE)
  clear eU eE
  by_cases h : b.length ≤ 4096
  case neg =>
    have hno : ∀ u, ¬ UnOk b u := fun u hu => by
      have h1 := bkt_gt hu.1
      have h2 := padL_len hu.1
      rw [hu.2] at h2
      omega
    have HN := Lib.hid (un_no hno)
    have g1 : (4096 : Int) < (b.length : Int) := by omega
    clear hno h hr hB
    go_enter Tryd.func15, Tryd.ntmps15
    go_wp2_with fail
    go_returns
    rw [HU.out.1, HU.out.2, HN.out.1, HN.out.2]
    exact ⟨none, 0, rfl, hnil _, Below.refl _ _⟩
  obtain ⟨n, en⟩ : ∃ n, n = b.length := ⟨_, rfl⟩
  rw [← en] at h ⊢
  have g1 : ¬ (4096 : Int) < (n : Int) := by omega
  have HN := Lib.hid en.symm
  have HB := Lib.hid hB
  have HR := Lib.hid hr
  have HL := Lib.hid h
  have hcap := hr.cap
  have HC := Lib.hid (show n ≤ c by omega)
  clear en hB hr h hcap
  go_enter Tryd.func15, Tryd.ntmps15
  go_wp2_with fail
  go_loopw [4] (fun i wr => ∃ k : Nat, k ≤ n ∧ i = .int .i64 (k : Int) ∧ (∀ m, m < k → ¬ UnOk b (b.take m)) ∧ Below w.heap.size w wr)
    (fun i _ => n - (intOf i).toNat)
  case atStart => exact ⟨0, Nat.zero_le _, rfl, fun m hm => absurd hm (by omega), Below.refl _ _⟩
  case round =>
    obtain ⟨k, hk, rfl, hno, hc⟩ := hrel
    have hnk := HL.out
    by_cases hlt : k < n
    · have g2 : (k : Int) < (n : Int) := by omega
      have hr := HR.out.keep (hc.mono HB.out)
      obtain ⟨bb, oo, rfl, _, cl⟩ := hr.at_ (k := k) (by rw [HN.out]; exact hlt)
      have htl : (b.take k).length = k := by rw [List.length_take, HN.out]; omega
      by_cases hx : nth b k = 128
      · have g3 : (((nth b k : Nat) : Int) != 128) = false := by rw [hx]; rfl
        have r2 := hr.pre0 (n := k) (by rw [HN.out]; exact hk)
        have g4 : k ≤ c := by have := HC.out; omega
        have KP := Lib.hid (rpad_len htl wr r2 (Nat.le_trans HB.out hc.size))
        have e1 : padA (b.take k) = padL (b.take k) := by unfold padA; rw [if_pos (by omega)]
        have e2 : padE (b.take k) = 0 := by unfold padE; rw [if_pos (by omega)]
        rw [e1, e2] at KP
        have HK := Lib.hid (And.intro hno (And.intro hlt htl))
        clear hx r2 e1 e2 hno htl hlt hk hnk
        generalize nth b k = x0 at cl g3
        go_wp2_with fail
        go_at_call 13
        refine KP.out.mono ?_
        rintro z v1 ⟨Ap, cp, rfl, op, h0⟩
        have rp := op.rd
        replace hr := hr.keep (h0.mono (Nat.le_trans HB.out hc.size))
        replace hc := hc.trans (h0.mono hc.size)
        clear h0 KP cl op
        have hs1 := run_str (P := Tryd.prog) v1 27 5 Tryd.underlying27 Tryd.underlying5 (dst := 9) Tryd.underlying9 rp
        have hs2 := run_str (P := Tryd.prog) v1 27 5 Tryd.underlying27 Tryd.underlying5 (dst := 9) Tryd.underlying9 (hr.mono (Nat.le_trans HB.out hc.size))
        rw [HN.out] at hs2
        by_cases heq : padL (b.take k) = b
        · have hu : UnOk b (b.take k) := ⟨by have := HK.out.2.2; have := HK.out.2.1; have := HL.out; omega, heq⟩
          have HY := Lib.hid (un_yes hu)
          have HE := Lib.hid (hr.pre0 (n := k) (by rw [HN.out]; exact Nat.le_of_lt HK.out.2.1))
          clear hu rp
          obtain ⟨P, eP⟩ : ∃ P, P = padL (b.take k) := ⟨_, rfl⟩
          rw [← eP] at heq hs1 ⊢
          subst heq
          clear eP
          go_wp2_with fail
          go_returns
          rw [HU.out.1, HU.out.2, HY.out.1, HY.out.2]
          exact ⟨_, _, by rw [HK.out.2.2]; rfl, HE.out, hc⟩
        · have HQ := Lib.hid (show ∀ m, m < k + 1 → ¬ UnOk b (b.take m) from fun m hm => by
            by_cases e : m = k
            · subst e
              exact fun hu => heq hu.2
            · exact HK.out.1 m (by omega))
          have HNE := Lib.hid heq
          have hkn := HK.out.2.1
          have hnl := HL.out
          clear heq rp
          obtain ⟨P, eP⟩ : ∃ P, P = padL (b.take k) := ⟨_, rfl⟩
          rw [← eP] at HNE hs1 ⊢
          clear eP
          go_upto_if 36 with fail
          have hb' : (P == b) = false := by simp [HNE.out]
          rw [hb']
          clear hb' hs1 hs2
          go_wp2_with fail
          go_roundw
          case rel => exact ⟨k + 1, by omega, by go_num, HQ.out, hc⟩
          case measure => simp [intOf]; omega
      · have g3 : (((nth b k : Nat) : Int) != 128) = true := by simp; omega
        have HK := Lib.hid (show ∀ m, m < k + 1 → ¬ UnOk b (b.take m) from fun m hm => by
          by_cases e : m = k
          · subst e
            intro hu
            have := hu.take.2.2
            rw [htl] at this
            exact hx this
          · exact hno m (by omega))
        clear hno hx htl
        generalize nth b k = x0 at cl g3
        go_wp2_with fail
        go_roundw
        case rel => exact ⟨k + 1, by omega, by go_num, HK.out, hc⟩
        case measure => simp [intOf]; omega
    · obtain rfl : k = n := by omega
      have HX := Lib.hid (un_no (b := b) fun u hu => by
        have h1 := hu.take
        rw [HN.out] at h1
        exact hno u.length h1.2.1 (by rw [h1.1]; exact hu))
      clear hno hlt hk hnk
      go_wp2_with fail
      go_returns
      rw [HU.out.1, HU.out.2, HX.out.1, HX.out.2]
      exact ⟨none, 0, rfl, hnil _, hc⟩
end
end Go.Proofs.YthamhpgjjbiplaaDoor
