/-
  Layer 19, the landed code: a term that has a name. By an AI agent.
-/
import Derived.Test.YtdddcgkgellbgabSv3
import Derived.Test.YtdddcgkgellbgabSu4
namespace Go.Proofs.Ytdddcgkgellbgab
open Go Go.RowKit
set_option maxRecDepth 20000
theorem vk_zero (bs : List UInt8) : vk bs 0 = 0 := rfl
attribute [local irreducible] e8 calledT vk
theorem str_eq (a b : List UInt8) : ((⟨a.toArray⟩ : ByteArray) = ⟨b.toArray⟩) ↔ a = b := by
  rw [ByteArray.mk.injEq]
  exact ⟨fun h => List.toArray_inj h, fun h => by rw [h]⟩
theorem bytesEqual_any {A A2 : Option Addr} {c c2 : Nat} {a b : List UInt8} (w : World) (h1 : Rd w w.heap.size A c a) (h2 : Rd w w.heap.size A2 c2 b) :
    Calls Try.prog 54 #[.slice A a.length c, .slice A2 b.length c2] w fun e w' => e = .returned (.bool (decide (a = b))) ∧ w' = w := by
  have s1 := run_str (P := Try.prog) w 31 5 Try.underlying31 Try.underlying5 (dst := 9) Try.underlying9 h1
  have s2 := run_str (P := Try.prog) w 31 5 Try.underlying31 Try.underlying5 (dst := 9) Try.underlying9 h2
  obtain ⟨n, en⟩ : ∃ n, n = a.length := ⟨_, rfl⟩
  obtain ⟨m, em⟩ : ∃ n, n = b.length := ⟨_, rfl⟩
  rw [← en] at s1 ⊢
  rw [← em] at s2 ⊢
  clear en em h1 h2
  go_enter Try.func54, Try.ntmps54
  go_wp2_with fail
  go_ret
  exact ⟨by rw [show (a == b) = decide (a = b) from by rw [Bool.eq_iff_iff, beq_iff_eq, decide_eq_true_iff]]; rfl, rfl⟩
theorem trm_res2 {fn : Func} {p q : Tmp} (h : fn.results = #[.cell p 75, .tmp q]) (tmps : Array Value) {w : World} {g : Nat} {a b : Value} (o : w.heap[g]? = some (.cells #[a, b] 75)) (hp : tmps.getD p undef = .pointer (some ⟨g, 0, none⟩)) {v : Value} (hv : tmps.getD q undef = v) :
    (results fn tmps).run Try.prog w = .ok (.tuple #[.agg #[a, b], v]) w := by
  subst hv
  have hp' : tmps[p]?.getD undef = .pointer (some ⟨g, 0, none⟩) := by simpa using hp
  have c0 : w.cell? ⟨g, 0, none⟩ = some a := by simp [World.cell?, o]
  have c1 : w.cell? ⟨g, 1, none⟩ = some b := by simp [World.cell?, o]
  simp only [results, h]
  simp [Result.andThen, hp', asAddr, go_sem, c0, c1]
theorem two_put {w : World} {g : Nat} {a b : Value} (o : w.heap[g]? = some (.cells #[a, b] 75)) (x y : Value) : ((w.setCell ⟨g, 0, none⟩ x).setCell ⟨g, 1, none⟩ y).heap[g]? = some (.cells #[x, y] 75) := by
  rw [w_block (w_block o 0 x) 1 y]
  rfl
theorem two_below {w : World} {B g : Nat} (hB : B ≤ g) (x y : Value) : Below B w ((w.setCell ⟨g, 0, none⟩ x).setCell ⟨g, 1, none⟩ y) := ((Below.refl B w).setCell (p := ⟨g, 0, none⟩) hB x).setCell (p := ⟨g, 1, none⟩) hB y
/-- What a look by a name tells. -/
def FoundV (w : World) (o : Option Trm) (x : Ending) : Prop := match o with
  | some t => ∃ pb, x = .returned (.tuple #[.agg #[.int .u8 (t.kind.toNat : Int), sliV pb t.parts.length], .bool true]) ∧ w.heap[pb]? = some (prtC t.parts)
  | none => x = .returned (.tuple #[.agg #[.int .u8 0, .slice none 0 0], .bool false])
abbrev ZT : Obj := .cells #[.int .u8 0, .slice none 0 0] 75
set_option maxHeartbeats 1600000 in
theorem named_any {F S : Nat → Prop} {T : Nat} {L : List Trm} {D c : Nat} {A : Option Addr} {k : UInt8} {b : List UInt8} (w : World) (h : TabR w F S T L D) (hL : L.length ≤ 1000000) (hr : Rd w w.heap.size A c b) :
    Calls Try.prog 43 #[ptB T, .int .u8 (k.toNat : Int), .slice A b.length c] w fun x w' => FoundV w (findT L b k) x ∧ Below w.heap.size w w' := by
  obtain ⟨M, A0, c0, clk, es, X, H, rfl, hF, hS⟩ := id h
  have hl18 : (X.map Prod.fst).length < 18446744073709551616 := by omega
  have HH := Lib.hid (And.intro h (And.intro H (And.intro hL hl18)))
  obtain ⟨x, ex⟩ : ∃ n, n = X.length := ⟨_, rfl⟩
  have HX := Lib.hid ex
  have HTW := Lib.hid (w_lt H.table)
  have HCT := Lib.hid (fun v (hv : Below w.heap.size w v) => show v.cell? ⟨T, 0, none⟩ = some (.slice A0 x c0) from by
    have hq := (hv.block T (w_lt H.table)).trans H.table
    rw [← ex] at hq
    simp [World.cell?, hq])
  obtain ⟨n, en⟩ : ∃ n, n = b.length := ⟨_, rfl⟩
  have HN := Lib.hid en
  obtain ⟨κ, eκ⟩ : ∃ κ : Int, κ = (k.toNat : Int) := ⟨_, rfl⟩
  have HK := Lib.hid eκ
  have HR := Lib.hid hr
  obtain ⟨v0, ev0⟩ : ∃ v, v = w.alloc ZT := ⟨_, rfl⟩
  obtain ⟨g, eg⟩ : ∃ g, g = w.heap.size := ⟨_, rfl⟩
  have hg : v0.heap[g]? = some ZT := by rw [ev0, eg]; exact (MapKept.heap_alloc w ZT).1
  have HB0 := Lib.hid (show Below w.heap.size w v0 by rw [ev0]; exact (Below.refl _ _).alloc (Nat.le_refl _) _)
  have HG := Lib.hid hg
  have HE := Lib.hid (And.intro ev0 eg)
  have HGE := Lib.hid (show w.heap.size ≤ g by rw [eg]; exact Nat.le_refl _)
  rw [← en, ← eκ]
  clear h H hF hS hL hl18 ex hr en eκ ev0 eg hg
  go_enter Try.func43, Try.ntmps43
  go_upto_region 1 with fail
  rw [← HE.out.1, ← HE.out.2]
  clear HE
  by_cases h9 : n < 9
  · have g1 : (n : Int) < 9 := by omega
    have HF := Lib.hid (find_short (k := k) HH.out.2.2.2 (show b.length < 9 by rw [← HN.out]; exact h9))
    have q0 : v0.cell? ⟨g, 0, none⟩ = some (.int .u8 0) ∧ v0.cell? ⟨g, 1, none⟩ = some (.slice none 0 0) := by simp [World.cell?, HG.out]
    have q1 := w_free HG.out
    obtain ⟨q2, q3⟩ := q0
    clear h9
    go_wp2_with fail
    refine bodyPost_ret (trm_res2 Try.results43 _ (two_put HG.out _ _) rfl rfl) rfl ?_
    rw [HF.out]
    exact ⟨rfl, HB0.out.trans (two_below HGE.out _ _)⟩
  · have g1 : ¬ (n : Int) < 9 := by omega
    have HLN := Lib.hid h9
    clear h9
    obtain ⟨B1, eB1⟩ : ∃ l, l = b.drop 1 := ⟨_, rfl⟩
    have HB1 := Lib.hid (fun (j : Nat) (hj : j < 8) => show ∃ b1 o1, A = some ⟨b1, o1, none⟩ ∧ ∀ v, Below w.heap.size w v → v.cell? ⟨b1, o1 + (1 + j), none⟩ = some (.int .u8 (nth B1 j : Int)) from by
      have hj' : 1 + j < b.length := by have := HLN.out; have := HN.out; omega
      obtain ⟨b1, o1, rfl, hb1, hc⟩ := HR.out.at_ hj'
      refine ⟨b1, o1, rfl, fun v hv => ?_⟩
      rw [(hv.cell (p := ⟨b1, o1 + (1 + j), none⟩) hb1), hc, eB1]
      congr 3
      unfold nth
      rw [List.getElem?_drop])
    have HNum := Lib.hid (show numOf b = vk B1 8 by rw [eB1]; exact numOf_eq b)
    clear eB1
    go_wp2_with fail
    go_loop [8, 15] (fun v i => ∃ j : Nat, j ≤ 8 ∧ i = .int .i64 j ∧ v = .int .i64 (wrap64 (vk B1 j : Int))) (fun _ i => 8 - (intOf i).toNat)
    case atStart => exact ⟨0, Nat.zero_le _, rfl, by rw [vk_zero]; simp [wrap64]⟩
    case round =>
      obtain ⟨j, hj, rfl, rfl⟩ := hrel
      by_cases hlt : j < 8
      · obtain ⟨b1, o1, rfl, hc⟩ := HB1.out j hlt
        have cc := hc v0 HB0.out
        have h7 := vk_lt B1 j
        have h72 : 256 ^ j ≤ 256 ^ 7 := Nat.pow_le_pow_right (by decide) (by omega)
        have hw : wrap64 (vk B1 j : Int) = (vk B1 j : Int) := by simp only [wrap64]; omega
        have hor := or_add_i (vk B1 j) (nth B1 j) j h7 (nth_lt _ _) hlt
        have HV := Lib.hid (show vk B1 (j + 1) = vk B1 j + nth B1 j * 256 ^ j by rw [vk])
        rw [← HV.out] at hor
        obtain ⟨y, ey⟩ : ∃ y, y = nth B1 j := ⟨_, rfl⟩
        have hy : y < 256 := by rw [ey]; exact nth_lt _ _
        obtain ⟨z, ez⟩ : ∃ z, z = vk B1 j := ⟨_, rfl⟩
        obtain ⟨z2, ez2⟩ : ∃ z, z = vk B1 (j + 1) := ⟨_, rfl⟩
        rw [← ey] at cc hor
        rw [← ez] at hor h7 hw
        rw [← ez2] at hor
        rw [← ez, hw]
        have g2 : (j : Int) < 8 := by omega
        have g3 : ((1 : Int) + (j : Int)) < (n : Int) := by have := HLN.out; omega
        have HZ := Lib.hid ez2
        have gw : wrap64 (8 * (j : Int)) = ((8 * j : Nat) : Int) := by simp only [wrap64]; omega
        have gy : wrap64 (y : Int) = (y : Int) := by simp only [wrap64]; omega
        have HLT := Lib.hid hlt
        clear h7 h72 hw ey ez ez2 hc hj hlt
        go_wp2_with fail
        go_round
        case rel => exact ⟨j + 1, HLT.out, by rfl, by rw [HZ.out]⟩
        case measure => have := HLT.out; simp [intOf]; omega
      · obtain rfl : j = 8 := by omega
        rw [← HNum.out]
        have hN64 : numOf b < 18446744073709551616 := by rw [HNum.out]; exact vk_lt B1 8
        obtain ⟨N, eN⟩ : ∃ N, N = numOf b := ⟨_, rfl⟩
        have HNN := Lib.hid eN
        rw [← eN] at hN64 ⊢
        have cT := HCT.out v0 HB0.out
        have q0 : v0.cell? ⟨g, 0, none⟩ = some (.int .u8 0) ∧ v0.cell? ⟨g, 1, none⟩ = some (.slice none 0 0) := by simp [World.cell?, HG.out]
        have q1 := w_free HG.out
        obtain ⟨q2, q3⟩ := q0
        have hx6 : x ≤ 1000000 := by have := HH.out.2.2.1; rw [List.length_map, ← HX.out] at this; exact this
        clear eN hlt hj HB1 HNum
        by_cases hb : N = 0 ∨ x < N
        · have HF := Lib.hid (find_out (k := k) HH.out.2.2.2 (show numOf b = 0 ∨ (X.map Prod.fst).length < numOf b by rw [← HNN.out, List.length_map, ← HX.out]; exact hb))
          by_cases hs : wrap64 (N : Int) < 1
          · have HW := Lib.hid hb
            clear hb hN64
            go_wp2_with fail
            refine bodyPost_ret (trm_res2 Try.results43 _ (two_put HG.out _ _) rfl rfl) rfl ?_
            rw [HF.out]
            exact ⟨rfl, HB0.out.trans (two_below HGE.out _ _)⟩
          · have hw : wrap64 (N : Int) = (N : Int) := by simp only [wrap64] at hs ⊢; omega
            rw [hw] at hs ⊢
            have hgt : (x : Int) < (N : Int) := by omega
            clear hb hN64 hw
            go_wp2_with fail
            refine bodyPost_ret (trm_res2 Try.results43 _ (two_put HG.out _ _) rfl rfl) rfl ?_
            rw [HF.out]
            exact ⟨rfl, HB0.out.trans (two_below HGE.out _ _)⟩
        · obtain ⟨m, rfl⟩ : ∃ m, N = m + 1 := ⟨N - 1, by omega⟩
          have hw : wrap64 ((m + 1 : Nat) : Int) = (m : Int) + 1 := by simp only [wrap64]; omega
          rw [hw]
          have hmx : m < x := by omega
          obtain ⟨⟨tx, pb⟩, hxm⟩ : ∃ y, X[m]? = some y := ⟨X[m]'(by rw [← HX.out]; exact hmx), List.getElem?_eq_getElem _⟩
          have hFA := find_at (k := k) HH.out.2.2.2 HNN.out.symm (t := tx) (by rw [List.getElem?_map, hxm]; rfl)
          have hTv : TabH v0 T M A0 c0 clk es X D := HH.out.2.1.keep (HB0.out.block _ HTW.out) (HB0.out.block _ (w_lt HH.out.2.1.map)) (fun ad ea => HB0.out.block _ (HH.out.2.1.rows.blk ad ea).2) (fun y hy => HB0.out.block _ (w_lt (HH.out.2.1.parts y hy)))
          obtain ⟨ba, oa, rfl, hba, t0, t1⟩ := trm_cells hTv.rows.rd hxm
          have hpw := HH.out.2.1.parts _ (List.mem_of_getElem? hxm)
          have hok := HH.out.2.1.ok _ (List.mem_of_getElem? hxm)
          dsimp only at t0 t1 hpw hok
          have HP := Lib.hid (And.intro hFA (And.intro hpw hok))
          obtain ⟨κ2, eκ2⟩ : ∃ κ : Int, κ = (tx.kind.toNat : Int) := ⟨_, rfl⟩
          obtain ⟨pl, epl⟩ : ∃ l, l = tx.parts.length := ⟨_, rfl⟩
          have HK2 := Lib.hid (And.intro eκ2 epl)
          rw [← eκ2] at t0
          rw [← epl] at t1
          have g4 : ¬ ((m : Int) + 1 < 1) := by omega
          have g5 : ¬ ((x : Int) < (m : Int) + 1) := by omega
          have g6 : (m : Int) < (x : Int) := by omega
          have HMX := Lib.hid (And.intro hmx hx6)
          clear hb hN64 hw hmx hxm hFA hTv hba hpw hok eκ2 epl q2 q3 q1
          go_upto_region 12 with fail
          obtain ⟨v1, ev1⟩ : ∃ v, v = v0.alloc (.cells #[.int .u8 κ2, .slice (some ⟨pb, 0, none⟩) pl pl] 75) := ⟨_, rfl⟩
          obtain ⟨g1, eg1⟩ : ∃ g, g = v0.heap.size := ⟨_, rfl⟩
          have hb1 : Below v0.heap.size v0 v1 := by rw [ev1]; exact (Below.refl _ _).alloc (Nat.le_refl _) _
          have hg1 : v1.heap[g1]? = some (.cells #[.int .u8 κ2, .slice (some ⟨pb, 0, none⟩) pl pl] 75) := by rw [ev1, eg1]; exact (MapKept.heap_alloc v0 _).1
          have HBW := Lib.hid (HB0.out.trans (hb1.mono HB0.out.size))
          have HG1 := Lib.hid (And.intro hg1 (show v1.heap[g]? = some ZT from (hb1.block g (w_lt HG.out)).trans HG.out))
          have c0 : v1.cell? ⟨g1, 0, none⟩ = some (.int .u8 κ2) := by simp [World.cell?, hg1]
          have c1 : v1.cell? ⟨g1, 1, none⟩ = some (.slice (some ⟨pb, 0, none⟩) pl pl) := by simp [World.cell?, hg1]
          rw [← ev1, ← eg1]
          clear ev1 eg1 hb1 hg1 cT t0 t1 g4 g5 g6
          by_cases hk : tx.kind = k
          · have hkk : (κ2 != κ) = false := by rw [HK2.out.1, HK.out, hk]; simp
            have hpw1 := (HBW.out.block pb (w_lt HP.out.2.1)).trans HP.out.2.1
            have HN1 := Lib.hid (termname_any (n := m + 1) HP.out.2.2 (by have := HMX.out.1; have := HMX.out.2; omega) v1 hpw1)
            have HKK := Lib.hid hk
            clear hk hpw1
            go_wp2_with fail
            rw [HK2.out.1, HK2.out.2]
            refine HN1.out.mono ?_
            rintro e v2 ⟨Aq, cq, rfl, ho, hb⟩
            rw [← HK2.out.1, ← HK2.out.2]
            have HB3 := Lib.hid (HBW.out.trans (hb.mono HBW.out.size))
            have hg3 := (hb.block g1 (w_lt HG1.out.1)).trans HG1.out.1
            have HG3 := Lib.hid ((hb.block g (w_lt HG1.out.2)).trans HG1.out.2)
            have c0 : v2.cell? ⟨g1, 0, none⟩ = some (.int .u8 κ2) := by simp [World.cell?, hg3]
            have c1 : v2.cell? ⟨g1, 1, none⟩ = some (.slice (some ⟨pb, 0, none⟩) pl pl) := by simp [World.cell?, hg3]
            have HE2 := Lib.hid (bytesEqual_any v2 ((HR.out.keep HB3.out).mono HB3.out.size) ho.rd)
            obtain ⟨S, eS⟩ : ∃ S, S = sizeT tx := ⟨_, rfl⟩
            have HSz := Lib.hid eS
            rw [← eS]
            clear ho hb hg3 eS HN1
            go_wp2_with fail
            rw [HN.out, HSz.out, ← calledT_len tx (m + 1)]
            refine HE2.out.mono ?_
            rintro e v4 ⟨rfl, h4⟩
            rw [h4]
            clear h4
            rw [← HN.out, calledT_len tx (m + 1), ← HSz.out]
            have HB4 := Lib.hid HB3.out
            have HG4 := Lib.hid HG3.out
            have q0 : v2.cell? ⟨g, 0, none⟩ = some (.int .u8 0) ∧ v2.cell? ⟨g, 1, none⟩ = some (.slice none 0 0) := by simp [World.cell?, HG4.out]
            have q1 := w_free HG4.out
            obtain ⟨q2, q3⟩ := q0
            by_cases heq : b = calledT tx (m + 1)
            · rw [decide_eq_true heq]
              have HF := Lib.hid (HP.out.1.trans (if_pos ⟨HKK.out, heq.symm⟩))
              clear heq
              go_wp2_with fail
              refine bodyPost_ret (trm_res2 Try.results43 _ (two_put HG4.out _ _) rfl rfl) rfl ?_
              rw [HF.out, HK2.out.1, HK2.out.2]
              exact ⟨⟨pb, rfl, HP.out.2.1⟩, HB4.out.trans (two_below HGE.out _ _)⟩
            · rw [decide_eq_false heq]
              have HF := Lib.hid (HP.out.1.trans (if_neg fun h => heq h.2.symm))
              clear heq
              go_wp2_with fail
              refine bodyPost_ret (trm_res2 Try.results43 _ (two_put HG4.out _ _) rfl rfl) rfl ?_
              rw [HF.out]
              exact ⟨rfl, HB4.out.trans (two_below HGE.out _ _)⟩
          · have hkk : (κ2 != κ) = true := by rw [HK2.out.1, HK.out, bne_iff_ne]; intro e; exact hk (UInt8.toNat_inj.1 (by omega))
            have HF := Lib.hid (HP.out.1.trans (if_neg fun h => hk h.1))
            have HB4 := Lib.hid HBW.out
            have HG4 := Lib.hid HG1.out.2
            have q0 : v1.cell? ⟨g, 0, none⟩ = some (.int .u8 0) ∧ v1.cell? ⟨g, 1, none⟩ = some (.slice none 0 0) := by simp [World.cell?, HG4.out]
            have q1 := w_free HG4.out
            obtain ⟨q2, q3⟩ := q0
            clear hk
            go_wp2_with fail
            refine bodyPost_ret (trm_res2 Try.results43 _ (two_put HG4.out _ _) rfl rfl) rfl ?_
            rw [HF.out]
            exact ⟨rfl, HB4.out.trans (two_below HGE.out _ _)⟩
end Go.Proofs.Ytdddcgkgellbgab
