/-
  Layer 15: FugueOne. By an AI agent.
-/
import Derived.Test.YtljciakgdpihdaaFl6
namespace Go.Proofs.Ytljciakgdpihdaa
open Go Go.RowKit
set_option maxRecDepth 20000
section
variable {R : TreeP} (K : FugC R)
include K
theorem fugueone_much {A : Option Addr} {c n : Nat} (hn : 60 < n) (i : Int) (w : World) :
    Calls Try.prog 5 #[.slice A n c, .int .u8 i] w fun e w' => e = .returned (.bool true) ∧ Below w.heap.size w w' := by
  obtain ⟨v1, ev⟩ : ∃ v, v = w.alloc (.cells #[.int .u8 i] 5) := ⟨_, rfl⟩
  have hb : Below w.heap.size w v1 := by rw [ev]; exact (Below.refl _ _).alloc (Nat.le_refl _) _
  have HB := Lib.hid (And.intro ev hb)
  have g1 : (60 : Int) < (n : Int) := by omega
  clear hn ev hb
  go_enter Try.func5, Try.ntmps5
  go_upto_region 1 with fail
  rw [← HB.out.1]
  go_wp2_with fail
  go_at_call 11
  refine (awake15 K v1).mono ?_
  rintro z v9 ⟨rfl, h0⟩
  have HB9 := Lib.hid (HB.out.2.trans (h0.mono HB.out.2.size))
  clear h0
  go_wp2_with fail
  go_ret
  exact ⟨rfl, HB9.out⟩
set_option maxHeartbeats 12800000 in
theorem fugueone_law {A : Option Addr} {c n lv : Nat} {l : List Dot} (hn : l.length = n) (hl : n ≤ 60) (hlv : lv ≤ 255) (w : World) (r : RdR doE w w.heap.size A c l) :
    Calls Try.prog 5 #[.slice A n c, .int .u8 (lv : Int)] w fun e w' => e = .returned (.bool true) ∧ Below w.heap.size w w' := by
  obtain ⟨v1, ev⟩ : ∃ v, v = w.alloc (.cells #[.int .u8 (lv : Int)] 5) := ⟨_, rfl⟩
  obtain ⟨bl, ebl⟩ : ∃ g, g = w.heap.size := ⟨_, rfl⟩
  have hb : Below w.heap.size w v1 := by rw [ev]; exact (Below.refl _ _).alloc (Nat.le_refl _) _
  have ol : C1 v1 bl 5 (.int .u8 (lv : Int)) := by rw [ev, ebl]; exact C1.newz _ _ _
  have g1 : ¬ (60 : Int) < (n : Int) := by omega
  have HN := Lib.hid hn
  have HL := Lib.hid (show l.length ≤ 4096 by omega)
  have HB := Lib.hid hb
  have HR := Lib.hid (fun wz (hz : Below v1.heap.size v1 wz) => (r.keep (hb.trans (hz.mono hb.size)) : RdR doE wz w.heap.size A c l))
  have HO := Lib.hid (fun wz (hz : Below v1.heap.size v1 wz) => show C1 wz bl 5 (.int .u8 (lv : Int)) ∧ bl < v1.heap.size from ⟨(hz.block bl (lt_of_heap ol)).trans ol, lt_of_heap ol⟩)
  have HV := Lib.hid (And.intro ev ebl)
  clear ev ebl hb ol hn r
  go_enter Try.func5, Try.ntmps5
  go_upto_region 1 with fail
  rw [← HV.out.1, ← HV.out.2]
  clear HV
  go_wp2_with fail
  go_at_call 12
  refine (play_new K v1).mono ?_
  rintro z v2 ⟨p, rfl, hp⟩
  obtain ⟨v3, e3⟩ : ∃ v, v = v2.alloc (.cells #[.slice none 0 0, .slice none 0 0] 29) := ⟨_, rfl⟩
  obtain ⟨gr, egr⟩ : ∃ g, g = v2.heap.size := ⟨_, rfl⟩
  rw [← e3, ← egr] at hp
  have HP := Lib.hid hp
  have HV := Lib.hid (And.intro e3 egr)
  clear hp e3 egr
  go_upto_region 4 with fail
  rw [← HV.out.1, ← HV.out.2]
  clear HV
  go_wp2_with fail
  go_loopw [21] (fun i wr => ∃ k : Nat, k ≤ n ∧ i = .int .i64 (k : Int) ∧ Play R v1 gr p (txtK l k) wr) (fun i _ => n - (intF i).toNat)
  case atStart => exact ⟨0, Nat.zero_le _, rfl, HP.out⟩
  case round =>
    obtain ⟨k, hk, rfl, hp⟩ := hrel
    clear HP
    by_cases hlt : k < n
    · have g2 : (k : Int) < (n : Int) := by omega
      obtain ⟨x, hx⟩ := getD_of (L := l) (k := k) (by rw [HN.out]; exact hlt)
      obtain ⟨b, o, rfl, hbB, m0, m1, m2, m3, m4, m5, m6, m7, m8⟩ := do_at (HR.out wr hp.base) hx
      obtain ⟨v5, e5⟩ : ∃ v, v = wr.alloc (.cells (doC x) 35) := ⟨_, rfl⟩
      obtain ⟨g5, eg5⟩ : ∃ g, g = wr.heap.size := ⟨_, rfl⟩
      have hd : DoB v5 g5 x := by rw [e5, eg5]; exact do_box wr x
      have hp5 := Play.keep K hp (w' := v5) (by rw [e5]; exact (Below.refl _ _).alloc (Nat.le_refl _) _)
      have ht := txtK_ok (k := k) HL.out
      have HT := Lib.hid (show Ok (txtK l k).L ∧ (txtK l k).L.length ≤ 4096 ∧ (txtK l k).G.length ≤ 1000000 from ⟨ht.1, Nat.le_trans ht.2.1 HL.out, Nat.le_trans ht.2.2 (Nat.le_trans HL.out (by decide))⟩)
      have HX := Lib.hid (txtK_succ hx)
      have HK := Lib.hid hlt
      have HD := Lib.hid (And.intro hd hp5)
      have E5 := Lib.hid (And.intro e5 eg5)
      have hl9 := hl
      clear hd hp5 ht hx hlt hk e5 eg5 hp hbB
      go_upto_region 7 with fail
      rw [← E5.out.1, ← E5.out.2]
      clear E5 m0 m1 m2 m3 m4 m5 m6 m7 m8
      obtain ⟨⟨m0, m1, m2, m3, m4, m5, m6, m7, m8⟩, u1, u2, hPB, o5⟩ := HD.out
      have y0 := o5.c0
      have y1 := o5.c1
      have HQ := Lib.hid (And.intro hPB o5)
      clear hPB o5 HD
      go_wp2_with fail
      go_at_call 13
      refine (play_both K HQ.out.1 HQ.out.2 HT.out.1 HT.out.2.1 HT.out.2.2 x).mono ?_
      rintro z v6 ⟨z1, z2, rfl, hPB, o6⟩
      obtain ⟨A3, n3, c3, A4, n4, c4, rfl, rfl⟩ := hPB.slices
      clear m0 m1 m2 m3 m4 m5 m6 m7 m8 y0 y1
      have y0 := o6.c0
      have y1 := o6.c1
      have f0 := o6.f0
      have f1 := o6.f1
      have HS := Lib.hid (PlayB.store K hPB o6)
      clear hPB o6 HQ
      go_wp2_with fail
      go_roundw
      case rel => exact ⟨k + 1, HK.out, by go_num, by rw [HX.out]; exact HS.out⟩
      case measure => simp [intF]; have := HK.out; omega
    · obtain rfl : k = n := by omega
      obtain ⟨vo, evo⟩ : ∃ v, v = wr := ⟨_, rfl⟩
      subst evo
      obtain ⟨u1, u2, hPB, o⟩ := hp
      obtain ⟨A1, n1, c1, A2, n2, c2, rfl, rfl⟩ := hPB.slices
      obtain ⟨F, hR, hV, _, hF1, hbo⟩ := hPB
      have ht := txtK_ok (k := k) HL.out
      obtain ⟨t, et⟩ : ∃ t, t = txtK l k := ⟨_, rfl⟩
      rw [← et] at ht hR hV
      have hok := ht.1
      have hl4 : t.L.length ≤ 4096 := Nat.le_trans ht.2.1 HL.out
      have hg6 : t.G.length ≤ 1000000 := Nat.le_trans ht.2.2 (Nat.le_trans HL.out (by decide))
      obtain ⟨m, em⟩ : ∃ m, m = (nodesL t.L).length := ⟨_, rfl⟩
      have hm4 : m ≤ 4096 := by rw [em]; exact Nat.le_trans (nodes_len hok) hl4
      have HRN := rnodes_any hok hl4 hg6 vo hV (Nat.le_refl _)
      have HAL := fun wz (hz : Below vo.heap.size vo wz) => all_any K wz (K.next hR hz) hok hl4
      rw [← em] at HRN HAL
      have HRN := Lib.hid HRN
      have HAL := Lib.hid HAL
      have HM := Lib.hid (show ((nodesL t.L).map (nodeOf t.G)).length = m by rw [List.length_map, em])
      have HLV := Lib.hid (HO.out vo hbo)
      have HBO := Lib.hid (And.intro (HB.out.trans (hbo.mono HB.out.size)) (show v1.heap.size ≤ vo.heap.size from hbo.size))
      have y0 := o.c0
      have y1 := o.c1
      clear o et ht hok hl4 hg6 em hR hF1 hbo hV HR HO hlt hk
      go_wp2_with fail
      go_at_call 16
      refine HRN.out.mono ?_
      rintro z va ⟨AW, cW, rfl, oW, hba⟩
      obtain ⟨vb, evb⟩ : ∃ v, v = va.alloc (.cells #[.slice AW m cW] 39) := ⟨_, rfl⟩
      obtain ⟨bw, ebw⟩ : ∃ g, g = va.heap.size := ⟨_, rfl⟩
      have hab : Below va.heap.size va vb := by rw [evb]; exact (Below.refl _ _).alloc (Nat.le_refl _) _
      have cw : C1 vb bw 39 (.slice AW m cW) := by rw [evb, ebw]; exact C1.newz _ _ _
      have HW := Lib.hid (And.intro (oW.rd.next hab) (And.intro cw (And.intro (fun ad e => (OwnR.blk oW ad e).2 : ∀ ad, AW = some ad → ad.block < va.heap.size) (And.intro ebw (hba.trans (hab.mono hba.size))))))
      have EB := Lib.hid (And.intro evb ebw)
      have HVA := Lib.hid (Nat.le_trans HBO.out.2 hba.size)
      clear oW hba evb ebw hab cw y0 y1 HRN
      go_upto_region 10 with fail
      rw [← EB.out.1, ← EB.out.2]
      clear EB
      go_wp2_with fail
      go_at_call 27
      refine (HAL.out vb HW.out.2.2.2.2).mono ?_
      rintro z vc ⟨AN, cN, g, rfl, rN, cg, hgb, hAN, hbc⟩
      have HNN := Lib.hid (And.intro (HW.out.1.next hbc) (And.intro ((hbc.block bw (lt_of_heap HW.out.2.1)).trans HW.out.2.1 : C1 vc bw 39 (.slice AW m cW)) (And.intro rN (And.intro cg (And.intro hgb (And.intro hAN (HW.out.2.2.2.2.trans (hbc.mono HW.out.2.2.2.2.size))))))))
      have HSZ := Lib.hid hbc.size
      clear rN cg hgb hAN hbc HAL
      have hmf := hmk
      have hfn := fun (w : World) => func_nil 53 #[] #[pB g] w
      go_upto_region 14 with fail
      obtain ⟨vd, evd⟩ : ∃ v, v = (vc.alloc (.cells #[.int .i64 0] 3)).alloc (.cells #[.bool true] 4) := ⟨_, rfl⟩
      obtain ⟨bn, ebn⟩ : ∃ g, g = vc.heap.size := ⟨_, rfl⟩
      obtain ⟨bo, ebo⟩ : ∃ g, g = vc.heap.size + 1 := ⟨_, rfl⟩
      have hcd : Below vc.heap.size vc vd := by rw [evd]; exact ((Below.refl _ _).alloc (Nat.le_refl _) _).alloc (by simp) _
      have cn : C1 vd bn 3 (.int .i64 0) := by
        rw [evd, ebn]
        exact (((Below.refl _ _).alloc (Nat.le_refl _) _).block _ (by simp)).trans (C1.newz vc 3 (.int .i64 0))
      have co : C1 vd bo 4 (.bool true) := by
        rw [evd, ebo]
        have h := C1.newz (vc.alloc (.cells #[.int .i64 0] 3)) 4 (.bool true)
        rw [show (vc.alloc (.cells #[.int .i64 0] 3)).heap.size = vc.heap.size + 1 by simp] at h
        exact h
      have HIT := Lib.hid (show Calls Try.prog 53 #[.func (.func 28) #[] #[pB bo, pB bn, pB bw, pB bl], pB g] vd fun e w' => e = .returned (.tuple #[]) ∧ C1 w' bo 4 (.bool true) ∧ C1 w' bn 3 (.int .i64 ((min m (lv + 1) : Nat) : Int)) ∧ OutF (fun b => b = bo ∨ b = bn) vd w' from by
        obtain ⟨rW, cw, rN, cg, hgb, hAN, hoc⟩ := HNN.out
        have hbw := lt_of_heap cw
        have hg := lt_of_heap cg
        have hlb := HLV.out.2
        have hvb := HBO.out.2
        have hvo := hoc.size
        refine iter_any (rN.next hcd) (rW.next hcd) HM.out ((hcd.block g hg).trans cg) co cn ((hcd.block bw hbw).trans cw) ((hcd.block bl (by omega)).trans ((hoc.block bl (by omega)).trans HLV.out.1)) (by omega) (by omega) (by omega) ⟨by omega, by omega⟩ (fun hm0 ad e hlt => ?_) (fun ad e hlt => ?_) hm4 hlv
        · obtain ⟨b9, o9, e9, hlt9, _⟩ := rN.some_ hm0
          rw [e9] at e
          obtain rfl := Option.some.inj e
          exact ⟨by show b9 ≠ bo; omega, by show b9 ≠ bn; omega⟩
        · have h1 := HW.out.2.2.1 ad e
          have h2 := HW.out.2.2.2.1
          exact ⟨by omega, by omega⟩)
      have HD := Lib.hid (And.intro hcd (And.intro (show vc.heap.size ≤ bn ∧ vc.heap.size ≤ bo by omega) (And.intro ((hcd.block bw (lt_of_heap HNN.out.2.1)).trans HNN.out.2.1 : C1 vd bw 39 (.slice AW m cW)) (HBO.out.1.trans ((HNN.out.2.2.2.2.2.2.trans (hcd.mono HNN.out.2.2.2.2.2.2.size)).mono HBO.out.1.size)))))
      have HL2 := Lib.hid (show C1 vd bl 5 (.int .u8 (lv : Int)) ∧ bl < vc.heap.size ∧ bw < vc.heap.size from by
        have hlb := HLV.out.2
        have hvb := HBO.out.2
        have hvo := HNN.out.2.2.2.2.2.2.size
        exact ⟨(hcd.block bl (by omega)).trans ((HNN.out.2.2.2.2.2.2.block bl (by omega)).trans HLV.out.1), by omega, lt_of_heap HNN.out.2.1⟩)
      have E := Lib.hid (And.intro evd (And.intro ebn ebo))
      clear evd ebn ebo hcd cn co
      rw [← E.out.1, ← E.out.2.1, show bn + 1 = bo by rw [E.out.2.2, E.out.2.1]]
      clear hfn
      go_wp2_with fail
      go_at_call 53
      refine HIT.out.mono ?_
      rintro z ve ⟨rfl, co, cn, ho⟩
      have hne1 : bw ≠ bo ∧ bw ≠ bn ∧ bl ≠ bo ∧ bl ≠ bn := by have := HD.out.2.1; have := HL2.out.2; omega
      have cw : C1 ve bw 39 (.slice AW m cW) := (ho.block bw (lt_of_heap HD.out.2.2.1) (by simp only [not_or]; exact ⟨hne1.1, hne1.2.1⟩)).trans HD.out.2.2.1
      have cl : C1 ve bl 5 (.int .u8 (lv : Int)) := (ho.block bl (lt_of_heap HL2.out.1) (by simp only [not_or]; exact ⟨hne1.2.2.1, hne1.2.2.2⟩)).trans HL2.out.1
      have q0 := co.cell
      have q1 := cn.cell
      have q2 := cw.cell
      have q3 := cl.cell
      have hmin : ((min m (lv + 1) : Nat) : Int) = min (m : Int) ((lv : Int) + 1) := by omega
      rw [hmin] at q1
      have HE := Lib.hid (HD.out.2.2.2.trans (OutF.below ho (B := w.heap.size) (fun b hb => by have h1 := HD.out.2.1; have h2 := HNN.out.2.2.2.2.2.2.size; have h3 := HBO.out.1.size; rcases hb with h | h <;> omega) HD.out.2.2.2.size))
      clear co cn ho cw cl hmin hne1 HIT HL2 HD HNN
      go_wp2_with fail
      go_at_call 11
      refine (awake15 K ve).mono ?_
      rintro z v9 ⟨rfl, h0⟩
      have H9 := Lib.hid (HE.out.trans (h0.mono HE.out.size))
      clear h0
      go_wp2_with fail
      go_ret
      exact ⟨rfl, H9.out⟩
end
end Go.Proofs.Ytljciakgdpihdaa
