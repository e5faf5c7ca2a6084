/-
  Layer 14's code: Pad, Unpad; all that is asked. By an AI agent.
-/
import Derived.Test.YthamhpgjjbiplaaDoorPc2
import Derived.Test.YthamhpgjjbiplaaDoorPo1
import Derived.Test.YthamhpgjjbiplaaDoorCp
namespace Go.Proofs.YthamhpgjjbiplaaDoor
open Go Go.RowKit
set_option maxRecDepth 20000
theorem padL_ahead (b : List UInt8) {k : Nat} (h : k < b.length) : nth (padL b) k = nth b k := by
  unfold padL nth
  rw [List.getElem?_append_left h]
theorem bkt_int {n : Nat} (h : n ≤ 4095) : bktA (n : Int) = bkt n ∧ bktE (n : Int) = 0 := by
  unfold bktA bktE
  rw [if_neg (by omega), if_neg (by omega), if_neg (by omega), if_neg (by omega), Int.toNat_natCast]
  exact ⟨rfl, rfl⟩
theorem bkt_big {n : Nat} (h : ¬ n ≤ 4095) : bktA (n : Int) = 0 ∧ bktE (n : Int) = 2 := by
  unfold bktA bktE
  rw [if_neg (by omega), if_pos (by omega), if_neg (by omega), if_pos (by omega)]
  exact ⟨rfl, rfl⟩
section
attribute [local irreducible] setA padL bkt
set_option maxHeartbeats 1600000 in
theorem cpad_any {A : Option Addr} {c : Nat} {b : List UInt8} (w : World) (hG : GlbB w) (hr : Rd w w.heap.size A c b) : Calls Tryd.prog 12 #[.slice A b.length c] w fun e w' => ∃ A' c', e = .returned (.tuple #[.slice A' (padA b).length c', .int .i64 (padE b : Int)]) ∧ Own w' w.heap.size 5 A' c' (padA b) ∧ Below w.heap.size w w' := by
  by_cases h : b.length ≤ 4095
  case neg =>
    have e1 : padA b = [] := if_neg h
    have e2 : padE b = 2 := if_neg h
    have KB := Lib.hid (cbkt_any (b.length : Int) w hG)
    rw [(bkt_big h).1, (bkt_big h).2] at KB
    rw [e1, e2]
    clear e1 e2 hr h
    go_enter Tryd.func12, Tryd.ntmps12
    go_wp2_with fail
    go_at_call 8
    refine KB.out.mono ?_
    rintro z v1 ⟨rfl, hc⟩
    clear KB
    go_wp2_with fail
    go_returns
    exact ⟨none, 0, rfl, World.ownsRow_nil _ _ _ _, hc⟩
  have e1 : padA b = padL b := if_pos h
  have e2 : padE b = 0 := if_pos h
  have hq := bkt_gt h
  have hlp := padL_len h
  have KB := Lib.hid (cbkt_any (b.length : Int) w hG)
  rw [(bkt_int h).1, (bkt_int h).2] at KB
  obtain ⟨q, eq⟩ : ∃ q, q = bkt b.length := ⟨_, rfl⟩
  rw [← eq] at KB hq hlp
  rw [e1, e2, hlp]
  obtain ⟨i0, hi, hz0, hz1, hz2⟩ := info_parts infoU8
  have hmk := run_mk (P := Tryd.prog) 27 5 i0 Tryd.underlying27 hi hz0 hz1 hz2 (l := (q : Int)) (n := q) rfl (by omega)
  have HLP := Lib.hid hlp
  have HQ := Lib.hid hq
  have HR := Lib.hid hr
  have HN := Lib.hid (show b.length = Nat.min b.length q from (Nat.min_eq_left (by omega)).symm)
  have HF := Lib.hid (show 0 + b.length ≤ q by omega)
  have hn1 : b.length < q := hq.1
  clear e1 e2 eq hlp hq h hr
  go_enter Tryd.func12, Tryd.ntmps12
  go_wp2_with fail
  go_at_call 8
  refine KB.out.mono ?_
  rintro z v1 ⟨rfl, hc⟩
  clear KB
  have HO := Lib.hid (OwnF.made (w := v1) (B := w.heap.size) 5 (.int .u8 0) (n := q) hc.size (by have := HQ.out; unfold maxLen; omega))
  have HC := Lib.hid (hc.alloc hc.size (.cells (madeCells #[.int .u8 0] q) 5))
  go_upto_region 5 with fail
  obtain ⟨v2, e2⟩ : ∃ v, v = v1.alloc (.cells (madeCells #[.int .u8 0] q) 5) := ⟨_, rfl⟩
  obtain ⟨g, eg⟩ : ∃ g, g = v1.heap.size := ⟨_, rfl⟩
  have o2 := HO.out
  have hc2 := HC.out
  rw [← e2, ← eg] at o2
  rw [← e2] at hc2
  rw [← e2, ← eg]
  clear e2 eg hc hmk HO HC
  have hr2 := HR.out.keep hc2
  have HCP := Lib.hid (fun (ops : Array Oper) (rest2 : List Oper) (a : Act) (Q : Exit → Act → World → Prop) (d s : Operand) (dst : Option Nat) (tp : TypeId) (ps : String) (af : Array Edge) => copy_to (ops := ops) (rest := rest2) (a := a) (Q := Q) (d := d) (s := s) (dst := dst) (tp := tp) (ps := ps) (af := af) (off := 0) (dl := q) (dc := q) o2 hr2 HN.out HF.out)
  have o3 := av_put o2 0 b.length (bvf b)
  have hb3 := hc2.trans ((av_only v2 g 0 b.length (bvf b)).below (OwnF.ge o2))
  have o4 := OwnF.set_ o3 b.length (.int .u8 128)
  have hb4 := hb3.setCell (p := ⟨g, b.length, none⟩) (OwnF.ge o3) (.int .u8 128)
  have hcl := OwnF.cell o3 (k := b.length) hn1
  have fr := OwnF.free o3 b.length
  have HO := Lib.hid o4
  have HB := Lib.hid hb4
  clear o2 o4 hb4 hb3 hc2 hr2 o3
  go_upto_region 6 with ((refine HCP.out _ _ _ _ _ _ _ _ _ _ ?_ ?_ ?_); rfl; rfl)
  go_wp2_with fail
  go_returns
  refine ⟨_, _, rfl, p_ofF HO.out HLP.out fun k hk => ?_, HB.out⟩
  unfold bvf
  rcases Nat.lt_trichotomy k b.length with h1 | h1 | h1
  · rw [if_neg (by omega), padL_ahead b h1]
    unfold fput
    rw [if_pos (by omega)]
    rfl
  · rw [if_pos h1, h1, padL_mark]
    rfl
  · rw [if_neg (by omega), padL_nought b h1]
    unfold fput
    rw [if_neg (by omega)]
    rfl
theorem seek_long {b : List UInt8} (h : ¬ b.length ≤ 4096) : unA b = [] ∧ unE b = 11 := un_no fun u hu => by
  have h1 := bkt_gt hu.1
  have h2 := padL_len hu.1
  rw [hu.2] at h2
  omega
theorem seek_yes {b : List UInt8} {m : Nat} (h0 : m < b.length) (h1 : nth b m = 128) (h2 : ∀ k, m < k → nth b k = 0) (hm : m ≤ 4095) (hb : bkt m = b.length) : unA b = b.take m ∧ unE b = 0 := by
  have hl : (b.take m).length = m := by rw [List.length_take]; omega
  refine un_yes ⟨by omega, ?_⟩
  refine nth_ext (by rw [padL_len (by omega), hl, hb]) fun k hk => ?_
  rcases Nat.lt_trichotomy k m with h | h | h
  · rw [padL_ahead _ (by omega)]
    unfold nth
    rw [List.getElem?_take_of_lt h]
  · have := padL_mark (b.take m)
    rw [hl] at this
    rw [h, this, h1]
  · rw [padL_nought _ (by omega), h2 k h]
theorem seek_no {b : List UInt8} {m : Nat} (h0 : m < b.length) (h1 : nth b m = 128) (h2 : ∀ k, m < k → nth b k = 0) (hb : ¬ (m ≤ 4095 ∧ bkt m = b.length)) : unA b = [] ∧ unE b = 11 := un_no fun u hu => by
  obtain rfl := hu.at_ (by rw [h1]; decide) h2
  exact hb ⟨hu.1, by rw [← padL_len hu.1, hu.2]⟩
set_option maxHeartbeats 3200000 in
theorem cunpad_any {A : Option Addr} {c : Nat} {b : List UInt8} (w : World) (hG : GlbB w) (hr : Rd w w.heap.size A c b) : Calls Tryd.prog 14 #[.slice A b.length c] w fun e w' => ∃ A' c', e = .returned (.tuple #[.slice A' (unA b).length c', .int .i64 (unE b : Int)]) ∧ Own w' w.heap.size 5 A' c' (unA b) ∧ Below w.heap.size w w' := by
  have hnil : ∀ wz : World, Own wz w.heap.size 5 none 0 [] := fun _ => World.ownsRow_nil _ _ _ _
  obtain ⟨U, eU⟩ : ∃ U, U = unA b := ⟨_, rfl⟩
  obtain ⟨E, eE⟩ : ∃ E, E = unE b := ⟨_, rfl⟩
  rw [← eU, ← eE]
  have HU := Lib.hid (And.intro eU eE)
  clear eU eE
  by_cases h : b.length ≤ 4096
  case neg =>
    have HN := Lib.hid (seek_long h)
    have g1 : (4096 : Int) < (b.length : Int) := by omega
    clear h hr
    go_enter Tryd.func14, Tryd.ntmps14
    go_wp2_with fail
    go_returns
    rw [HU.out.1, HU.out.2, HN.out.1, HN.out.2]
    exact ⟨none, 0, rfl, hnil _, Below.refl _ _⟩
  obtain ⟨n, en⟩ : ∃ n, n = b.length := ⟨_, rfl⟩
  rw [← en] at h ⊢
  have g1 : ¬ (4096 : Int) < (n : Int) := by omega
  have HN := Lib.hid en.symm
  have HL := Lib.hid h
  have HR := Lib.hid hr
  have KS := Lib.hid (cseek en.symm h w hr (Nat.le_refl _))
  clear en h hr
  go_enter Tryd.func14, Tryd.ntmps14
  go_wp2_with fail
  go_at_call 16
  refine KS.out.mono ?_
  rintro z v1 ⟨i, rfl, hs, hc⟩
  replace hG := hG.next hc
  clear KS
  rcases hs with ⟨rfl, hno⟩ | ⟨m, rfl, hmn, h1, h2⟩
  · have HX := Lib.hid (un_no hno)
    have KB := Lib.hid (cbkt_any (-1) v1 hG)
    rw [show bktA (-1) = 0 from rfl, show bktE (-1) = 1 from rfl] at KB
    clear hno
    go_wp2_with fail
    go_at_call 8
    refine KB.out.mono ?_
    rintro z v2 ⟨rfl, h0⟩
    replace hc := hc.trans (h0.mono hc.size)
    clear h0 KB
    go_wp2_with fail
    go_returns
    rw [HU.out.1, HU.out.2, HX.out.1, HX.out.2]
    exact ⟨none, 0, rfl, hnil _, hc⟩
  · have hm : m ≤ 4095 := by have := HN.out; have := HL.out; omega
    have KB := Lib.hid (cbkt_any (m : Int) v1 hG)
    rw [(bkt_int hm).1, (bkt_int hm).2] at KB
    have HM := Lib.hid (And.intro hm hmn)
    obtain ⟨q, eq⟩ : ∃ q, q = bkt m := ⟨_, rfl⟩
    rw [← eq] at KB
    by_cases hb : q = n
    case neg =>
      have HX := Lib.hid (seek_no hmn h1 h2 (fun hx => hb (by rw [eq, hx.2, HN.out])))
      have g2 : ((q : Int) != (n : Int)) = true := by simp; omega
      clear hmn h1 h2 hb eq hm
      go_wp2_with fail
      go_at_call 8
      refine KB.out.mono ?_
      rintro z v2 ⟨rfl, h0⟩
      replace hc := hc.trans (h0.mono hc.size)
      clear h0 KB
      go_wp2_with fail
      go_returns
      rw [HU.out.1, HU.out.2, HX.out.1, HX.out.2]
      exact ⟨none, 0, rfl, hnil _, hc⟩
    case pos =>
      have HX := Lib.hid (seek_yes hmn h1 h2 hm (by rw [← eq, hb, HN.out]))
      subst hb
      clear hmn h1 h2 eq hm
      go_wp2_with fail
      go_at_call 8
      refine KB.out.mono ?_
      rintro z v2 ⟨rfl, h0⟩
      replace hc := hc.trans (h0.mono hc.size)
      clear h0 KB
      obtain ⟨i0, hi, hz0, hz1, hz2⟩ := info_parts infoU8
      have hmk := run_mk (P := Tryd.prog) 27 5 i0 Tryd.underlying27 hi hz0 hz1 hz2 (l := (m : Int)) (n := m) rfl (by have := HM.out; omega)
      have HO := Lib.hid (OwnF.made (w := v2) (B := w.heap.size) 5 (.int .u8 0) (n := m) hc.size (by have := HM.out; unfold maxLen; omega))
      have HC := Lib.hid (hc.alloc hc.size (.cells (madeCells #[.int .u8 0] m) 5))
      go_upto_region 8 with fail
      obtain ⟨v3, e3⟩ : ∃ v, v = v2.alloc (.cells (madeCells #[.int .u8 0] m) 5) := ⟨_, rfl⟩
      obtain ⟨g, eg⟩ : ∃ g, g = v2.heap.size := ⟨_, rfl⟩
      have o2 := HO.out
      have hc2 := HC.out
      rw [← e3, ← eg] at o2
      rw [← e3] at hc2
      rw [← e3, ← eg]
      clear e3 eg hc hmk HO HC
      have hr2 := HR.out.keep hc2
      have HMN := Lib.hid (show m = Nat.min b.length m from (Nat.min_eq_right (by have := HM.out; omega)).symm)
      have HF := Lib.hid (show 0 + m ≤ m by omega)
      have HCP := Lib.hid (fun (ops : Array Oper) (rest2 : List Oper) (a : Act) (Q : Exit → Act → World → Prop) (d s : Operand) (dst : Option Nat) (tp : TypeId) (ps : String) (af : Array Edge) => copy_to (ops := ops) (rest := rest2) (a := a) (Q := Q) (d := d) (s := s) (dst := dst) (tp := tp) (ps := ps) (af := af) (off := 0) (dl := m) (dc := m) o2 hr2 HMN.out HF.out)
      rw [HN.out] at HCP
      have o3 := av_put o2 0 m (bvf b)
      have hb3 := hc2.trans ((av_only v3 g 0 m (bvf b)).below (OwnF.ge o2))
      have HO := Lib.hid o3
      have HB := Lib.hid hb3
      clear o2 hb3 hc2 hr2 o3
      go_wp2_with ((refine HCP.out _ _ _ _ _ _ _ _ _ _ ?_ ?_ ?_); rfl; rfl)
      go_returns
      have hml := HM.out.2
      have hl : (b.take m).length = m := by rw [List.length_take]; omega
      rw [HU.out.1, HU.out.2, HX.out.1, HX.out.2, hl]
      refine ⟨_, _, rfl, p_ofF HO.out hl fun k hk => ?_, HB.out⟩
      unfold bvf fput nth
      rw [if_pos (by omega), List.getElem?_take_of_lt hk]
      rfl
theorem landed : PadC GlbB := ⟨fun h hb => h.next hb, fun n w hG => cbkt_any n w hG, fun w hG hr => cpad_any w hG hr, fun w hG hr => cunpad_any w hG hr⟩
end
end Go.Proofs.YthamhpgjjbiplaaDoor
