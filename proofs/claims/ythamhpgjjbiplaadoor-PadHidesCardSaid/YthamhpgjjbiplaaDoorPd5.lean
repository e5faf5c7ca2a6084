/-
  Layer 14's laws PadHides, PadUnpads, PadBack over contracts. Written by tools/gen_pd5.py. By an AI agent.
-/
import Derived.Test.YthamhpgjjbiplaaDoorPd4
import Derived.Test.YthamhpgjjbiplaaDoorBox
namespace Go.Proofs.YthamhpgjjbiplaaDoor
open Go Go.RowKit
set_option maxRecDepth 20000
theorem pad_bkt (b : List UInt8) : (padA b).length = bktA (b.length : Int) ∧ padE b = bktE (b.length : Int) := by
  unfold padA padE bktA bktE
  by_cases h : b.length ≤ 4095
  · rw [if_pos h, if_pos h, if_neg (by omega), if_neg (by omega), if_neg (by omega), if_neg (by omega), padL_len h, Int.toNat_natCast]
    exact ⟨rfl, rfl⟩
  · rw [if_neg h, if_neg h, if_neg (by omega), if_pos (by omega), if_neg (by omega), if_pos (by omega)]
    exact ⟨rfl, rfl⟩
theorem runpad_len {A : Option Addr} {B c n m : Nat} {b U : List UInt8} (hn : b.length = n) (hU : unA b = U) (hm : U.length = m) (w : World) (hr : Rd w B A c b) (hB : B ≤ w.heap.size) :
    Calls Tryd.prog 15 #[.slice A n c] w fun e w' => ∃ A' c', e = .returned (.tuple #[.slice A' m c', .int .i64 (unE b : Int)]) ∧ Rd w' B A' c' U ∧ Below w.heap.size w w' := by
  subst hn hU hm
  exact runpad_any w hr hB
section
variable {G : World → Prop} (K : PadC G)
include K
set_option maxHeartbeats 3200000 in
theorem padhides_law {A A2 : Option Addr} {c c2 : Nat} {a b : List UInt8} (hl : a.length ≤ 140737488351232 ∧ b.length ≤ 140737488351232) (w : World) (hG : G w) (ra : Rd w w.heap.size A c a) (rb : Rd w w.heap.size A2 c2 b) :
    Calls Tryd.prog 7 #[.slice A a.length c, .slice A2 b.length c2] w fun e w' => e = .returned (.bool true) ∧ Below w.heap.size w w' := by
  obtain ⟨n, en⟩ : ∃ n, n = a.length := ⟨_, rfl⟩
  obtain ⟨n2, en2⟩ : ∃ n, n = b.length := ⟨_, rfl⟩
  obtain ⟨k1, k2⟩ := pad_bkt a
  obtain ⟨k3, k4⟩ := pad_bkt b
  obtain ⟨m, em⟩ : ∃ m, m = bktA (a.length : Int) := ⟨_, rfl⟩
  obtain ⟨m2, em2⟩ : ∃ m, m = bktA (b.length : Int) := ⟨_, rfl⟩
  obtain ⟨e, ee⟩ : ∃ m, m = bktE (a.length : Int) := ⟨_, rfl⟩
  obtain ⟨e2, ee2⟩ : ∃ m, m = bktE (b.length : Int) := ⟨_, rfl⟩
  rw [← em] at k1
  rw [← ee] at k2
  rw [← em2] at k3
  rw [← ee2] at k4
  have KP := Lib.hid (fun (A : Option Addr) (c : Nat) (v : World) (hG : G v) (h : Rd v v.heap.size A c a) => pc_pad K en.symm rfl k1 v hG h)
  have KQ := Lib.hid (fun (A : Option Addr) (c : Nat) (v : World) (hG : G v) (h : Rd v v.heap.size A c b) => pc_pad K en2.symm rfl k3 v hG h)
  have KB := Lib.hid (fun (v : World) (hG : G v) => K.bucket (a.length : Int) v hG)
  have KC := Lib.hid (fun (v : World) (hG : G v) => K.bucket (b.length : Int) v hG)
  rw [k2] at KP
  rw [k4] at KQ
  rw [← em, ← ee, ← en] at KB
  rw [← em2, ← ee2, ← en2] at KC
  rw [← en, ← en2] at hl ⊢
  have HN := Lib.hid en.symm
  have HN2 := Lib.hid en2.symm
  have HL := Lib.hid hl
  clear en en2 k1 k2 k3 k4 em em2 ee ee2 hl
  go_enter Tryd.func7, Tryd.ntmps7
  go_wp2_with fail
  go_at_call 11
  refine (own14_len HN.out w ra (Nat.le_refl _) (by have := HL.out; omega)).mono ?_
  rintro z v1 ⟨Ax, cx, rfl, ox, hc⟩
  replace rb := (rb.keep hc).mono hc.size
  replace hG := K.next hG hc
  clear ra
  go_wp2_with fail
  go_at_call 12
  refine (KP.out _ _ v1 hG ox.rd).mono ?_
  rintro z v2 ⟨Ap, cp, rfl, _, h0⟩
  replace rb := (rb.keep h0).mono h0.size
  replace hG := K.next hG h0
  replace hc := hc.trans (h0.mono hc.size)
  clear h0 ox
  go_wp2_with fail
  go_at_call 11
  refine (own14_len HN2.out v2 rb (Nat.le_refl _) (by have := HL.out; omega)).mono ?_
  rintro z v3 ⟨Ay, cy, rfl, oy, h0⟩
  replace hG := K.next hG h0
  replace hc := hc.trans (h0.mono hc.size)
  clear h0 rb
  go_wp2_with fail
  go_at_call 12
  refine (KQ.out _ _ v3 hG oy.rd).mono ?_
  rintro z v4 ⟨Aq, cq, rfl, _, h0⟩
  replace hG := K.next hG h0
  replace hc := hc.trans (h0.mono hc.size)
  clear h0 oy
  go_wp2_with fail
  go_at_call 8
  refine (KB.out v4 hG).mono ?_
  rintro z v5 ⟨rfl, h0⟩
  replace hG := K.next hG h0
  replace hc := hc.trans (h0.mono hc.size)
  clear h0
  go_wp2_with fail
  go_at_call 8
  refine (KC.out v5 hG).mono ?_
  rintro z v6 ⟨rfl, h0⟩
  replace hG := K.next hG h0
  replace hc := hc.trans (h0.mono hc.size)
  have HG := Lib.hid hG
  clear h0 KB KC KP KQ hG
  go_wp2_with fail
  go_at_call 10
  refine (awake14 K v6 HG.out).mono ?_
  rintro z v7 ⟨rfl, h0⟩
  have HC := Lib.hid (hc.trans (h0.mono hc.size))
  clear h0 hc
  go_wp2_with fail
  go_ret
  exact ⟨rfl, HC.out⟩
set_option maxHeartbeats 3200000 in
theorem padunpads_law {A : Option Addr} {c : Nat} {b : List UInt8} (hl : b.length ≤ 140737488351232) (w : World) (hG : G w) (hr : Rd w w.heap.size A c b) :
    Calls Tryd.prog 5 #[.slice A b.length c] w fun e w' => e = .returned (.bool true) ∧ Below w.heap.size w w' := by
  obtain ⟨n, en⟩ : ∃ n, n = b.length := ⟨_, rfl⟩
  have hle := unA_le b
  obtain ⟨U, eU⟩ : ∃ U, U = unA b := ⟨_, rfl⟩
  obtain ⟨e, ee⟩ : ∃ e, e = unE b := ⟨_, rfl⟩
  obtain ⟨m, em⟩ : ∃ m, m = U.length := ⟨_, rfl⟩
  have KP := Lib.hid (fun (A : Option Addr) (c : Nat) (v : World) (hG : G v) (h : Rd v v.heap.size A c b) => pc_unpad K en.symm eU.symm em.symm v hG h)
  have KR := Lib.hid (fun (A : Option Addr) (c B : Nat) (v : World) (h : Rd v B A c b) (hB : B ≤ v.heap.size) => runpad_len en.symm eU.symm em.symm v h hB)
  rw [← ee] at KP KR
  rw [← eU, ← em] at hle
  rw [← en] at hl hle ⊢
  have HN := Lib.hid en.symm
  have HM := Lib.hid em.symm
  have HL := Lib.hid (And.intro hl (Nat.le_trans hle hl))
  have HG := Lib.hid hG
  clear en eU ee em hl hle
  go_enter Tryd.func5, Tryd.ntmps5
  go_wp2_with fail
  go_at_call 11
  refine (own14_len HN.out w hr (Nat.le_refl _) (by have := HL.out; omega)).mono ?_
  rintro z v1 ⟨Ax, cx, rfl, ox, hc⟩
  replace hr := hr.keep hc
  replace hG := K.next hG hc
  have rx := ox.rd
  have hs1 := hc.size
  obtain ⟨B1, eB1⟩ : ∃ B, B = v1.heap.size := ⟨_, rfl⟩
  rw [← eB1] at rx hs1
  clear ox
  go_wp2_with fail
  go_at_call 14
  refine (KP.out _ _ v1 hG (by rw [← eB1]; exact rx)).mono ?_
  rintro z v2 ⟨Au, cu, rfl, ou, h0⟩
  rw [← eB1] at ou h0
  have hs2 : B1 ≤ v2.heap.size := by rw [eB1]; exact h0.size
  replace hr := hr.keep (h0.mono hs1)
  replace rx := rx.keep h0
  replace hc := hc.trans (h0.mono hs1)
  clear h0 hG KP eB1
  go_wp2_with fail
  go_at_call 15
  refine (KR.out _ _ _ v2 hr hc.size).mono ?_
  rintro z v3 ⟨Aq, cq, rfl, rq, h0⟩
  replace hr := hr.keep (h0.mono hc.size)
  replace rx := rx.keep (h0.mono hs2)
  replace ou := ou.keep h0
  replace hc := hc.trans (h0.mono hc.size)
  have hs3 := Nat.le_trans hs2 h0.size
  have s1 := str14 v3 HM.out ou.rd
  have s2 := str14 v3 HM.out (rq.mono hc.size)
  have HI := Lib.hid (show ∃ bs : List UInt8, bs.length = m ∧ Own v3 B1 5 Au cu bs from ⟨U, HM.out, ou⟩)
  have HS := Lib.hid (And.intro hr (And.intro rx (And.intro hc (And.intro hs1 hs3))))
  clear h0 hr rx ou hc rq KR hs1 hs2 hs3
  go_wp2_with fail
  clear s1 s2
  go_loopw [33] (fun i wr => ∃ k : Nat, k ≤ m ∧ i = .int .i64 (k : Int) ∧ (∃ bs : List UInt8, bs.length = m ∧ Own wr B1 5 Au cu bs) ∧ Below B1 v3 wr)
    (fun i _ => m - (intOf i).toNat)
  case atStart => exact ⟨0, Nat.zero_le _, rfl, HI.out, (Below.refl _ _).mono HS.out.2.2.2.2⟩
  case round =>
    obtain ⟨k, hk, rfl, ⟨bs, hbs, ow⟩, hb⟩ := hrel
    clear HI
    by_cases hlt : k < m
    · have g2 : (k : Int) < (m : Int) := by omega
      obtain ⟨g, rfl⟩ := own_at014 ow (by intro h; rw [h] at hbs; simp at hbs; omega)
      have cl := ow.cell (k := k) (by rw [hbs]; exact hlt)
      have fr := ow.free k
      obtain ⟨y, ey⟩ : ∃ y, y = UInt8.ofNat (nth bs k + 1) := ⟨_, rfl⟩
      have ho1 := Only.setCell wr ⟨g, k, none⟩ (.int .u8 (y.toNat : Int))
      have w1 : IntKind.u8.wrap ((nth bs k : Int) + 1) = ((y.toNat : Nat) : Int) := by
        rw [ey, IntKind.wrap_u8, UInt8.toNat_ofNat']
        omega
      have hF := Lib.hid (And.intro (ow.set_ k y) (hb.trans (ho1.below ow.ge)))
      have HBS := Lib.hid hbs
      have hnb := HL.out.2
      generalize nth bs k = x0 at cl w1
      clear ow ho1 hb ey hbs
      go_wp2_with fail
      go_roundw
      case rel => exact ⟨k + 1, by omega, by go_num, ⟨_, by rw [List.length_set]; exact HBS.out, hF.out.1⟩, hF.out.2⟩
      case measure => simp [intOf]; omega
    · obtain rfl : k = m := by omega
      obtain ⟨hr, rx, hc, hs1, hs3⟩ := HS.out
      have hcw := hc.trans (hb.mono hs1)
      have s3 := str14 wr HN.out ((rx.keep hb).mono (Nat.le_trans hs3 hb.size))
      have s4 := str14 wr HN.out ((hr.keep (hb.mono hs1)).mono hcw.size)
      have HC := Lib.hid hcw
      clear hr rx hc hs1 hs3 hcw hb ow hlt hk hbs HS
      go_wp2_with fail
      go_at_call 10
      refine (awake14 K wr (K.next HG.out HC.out)).mono ?_
      rintro z v7 ⟨rfl, h0⟩
      have HF := Lib.hid (HC.out.trans (h0.mono HC.out.size))
      clear h0 HC
      go_wp2_with fail
      go_ret
      exact ⟨rfl, HF.out⟩
set_option maxHeartbeats 3200000 in
theorem padback_11 {A A2 : Option Addr} {c c2 : Nat} {a b : List UInt8} (hl : a.length ≤ 140737488351232 ∧ b.length ≤ 140737488351232) (h1 : a.length ≤ 4095) (h2 : unE b = 0) (w : World) (hG : G w) (ra : Rd w w.heap.size A c a) (rb : Rd w w.heap.size A2 c2 b) :
    Calls Tryd.prog 6 #[.slice A a.length c, .slice A2 b.length c2] w fun e w' => e = .returned (.bool true) ∧ Below w.heap.size w w' := by
  obtain ⟨n, en⟩ : ∃ n, n = a.length := ⟨_, rfl⟩
  obtain ⟨n2, en2⟩ : ∃ n, n = b.length := ⟨_, rfl⟩
  rw [← en, ← en2] at hl ⊢
  have p1 : padA a = padL a := by unfold padA; rw [if_pos h1]
  have p2 : padE a = 0 := by unfold padE; rw [if_pos h1]
  obtain ⟨u1, u2⟩ := un_pad h1
  obtain ⟨P, eP⟩ : ∃ P, P = padL a := ⟨_, rfl⟩
  obtain ⟨m, em⟩ : ∃ m, m = P.length := ⟨_, rfl⟩
  rw [← eP] at p1 u1 u2
  have KP := Lib.hid (fun (A : Option Addr) (c : Nat) (v : World) (hG : G v) (h : Rd v v.heap.size A c a) => pc_pad K en.symm p1 em.symm v hG h)
  rw [p2] at KP
  have KU := Lib.hid (fun (A : Option Addr) (c : Nat) (v : World) (hG : G v) (h : Rd v v.heap.size A c P) => pc_unpad K em.symm u1 en.symm v hG h)
  rw [u2] at KU
  clear p1 p2 u1 u2 eP em
  obtain ⟨z1, z2⟩ := un_zero h2
  obtain ⟨U, eU⟩ : ∃ U, U = unA b := ⟨_, rfl⟩
  obtain ⟨k, ek⟩ : ∃ k, k = U.length := ⟨_, rfl⟩
  rw [← eU] at z1 z2
  have q1 : padA U = b := by unfold padA; rw [if_pos z1]; exact z2
  have q2 : padE U = 0 := by unfold padE; rw [if_pos z1]
  have KV := Lib.hid (fun (A : Option Addr) (c : Nat) (v : World) (hG : G v) (h : Rd v v.heap.size A c b) => pc_unpad K en2.symm eU.symm ek.symm v hG h)
  rw [h2] at KV
  have KQ := Lib.hid (fun (A : Option Addr) (c : Nat) (v : World) (hG : G v) (h : Rd v v.heap.size A c U) => pc_pad K ek.symm q1 en2.symm v hG h)
  rw [q2] at KQ
  clear z1 z2 eU ek q1 q2
  have HN := Lib.hid en.symm
  have HN2 := Lib.hid en2.symm
  have HL := Lib.hid hl
  clear en en2 hl h1 h2
  go_enter Tryd.func6, Tryd.ntmps6
  go_wp2_with fail
  go_at_call 11
  refine (own14_len HN.out w ra (Nat.le_refl _) (by have := HL.out; omega)).mono ?_
  rintro z v1 ⟨Ax, cx, rfl, ox, hc⟩
  replace ra := (ra.keep hc).mono hc.size
  replace rb := (rb.keep hc).mono hc.size
  replace hG := K.next hG hc
  go_wp2_with fail
  go_at_call 12
  refine (KP.out _ _ v1 hG ox.rd).mono ?_
  rintro z v2 ⟨Ap, cp, rfl, op, h0⟩
  replace ra := (ra.keep h0).mono h0.size
  replace rb := (rb.keep h0).mono h0.size
  replace hG := K.next hG h0
  replace hc := hc.trans (h0.mono hc.size)
  clear h0 ox KP
  go_wp2_with fail
  go_at_call 14
  refine (KU.out _ _ v2 hG op.rd).mono ?_
  rintro z v3 ⟨Au, cu, rfl, ou, h0⟩
  replace ra := (ra.keep h0).mono h0.size
  replace rb := (rb.keep h0).mono h0.size
  replace hG := K.next hG h0
  replace hc := hc.trans (h0.mono hc.size)
  have s1 := str14 v3 HN.out ou.rd
  have s2 := str14 v3 HN.out ra
  clear h0 op ou ra KU
  go_wp2_with fail
  clear s1 s2
  go_at_call 11
  refine (own14_len HN2.out v3 rb (Nat.le_refl _) (by have := HL.out; omega)).mono ?_
  rintro z v4 ⟨Ay, cy, rfl, oy, h0⟩
  replace rb := (rb.keep h0).mono h0.size
  replace hG := K.next hG h0
  replace hc := hc.trans (h0.mono hc.size)
  clear h0
  go_wp2_with fail
  go_at_call 14
  refine (KV.out _ _ v4 hG oy.rd).mono ?_
  rintro z v5 ⟨Av, cv, rfl, ov, h0⟩
  replace rb := (rb.keep h0).mono h0.size
  replace hG := K.next hG h0
  replace hc := hc.trans (h0.mono hc.size)
  clear h0 oy KV
  go_wp2_with fail
  go_at_call 12
  refine (KQ.out _ _ v5 hG ov.rd).mono ?_
  rintro z v6 ⟨Aq, cq, rfl, oq, h0⟩
  replace rb := (rb.keep h0).mono h0.size
  replace hG := K.next hG h0
  replace hc := hc.trans (h0.mono hc.size)
  have s1 := str14 v6 HN2.out oq.rd
  have s2 := str14 v6 HN2.out rb
  clear h0 oq rb KQ ov
  have HG := Lib.hid hG
  clear hG
  go_wp2_with fail
  go_at_call 10
  refine (awake14 K v6 HG.out).mono ?_
  rintro z v7 ⟨rfl, h0⟩
  have HC := Lib.hid (hc.trans (h0.mono hc.size))
  clear h0 hc
  go_wp2_with fail
  go_ret
  exact ⟨rfl, HC.out⟩
set_option maxHeartbeats 3200000 in
theorem padback_10 {A A2 : Option Addr} {c c2 : Nat} {a b : List UInt8} (hl : a.length ≤ 140737488351232 ∧ b.length ≤ 140737488351232) (h1 : a.length ≤ 4095) (h2 : unE b ≠ 0) (w : World) (hG : G w) (ra : Rd w w.heap.size A c a) (rb : Rd w w.heap.size A2 c2 b) :
    Calls Tryd.prog 6 #[.slice A a.length c, .slice A2 b.length c2] w fun e w' => e = .returned (.bool true) ∧ Below w.heap.size w w' := by
  obtain ⟨n, en⟩ : ∃ n, n = a.length := ⟨_, rfl⟩
  obtain ⟨n2, en2⟩ : ∃ n, n = b.length := ⟨_, rfl⟩
  rw [← en, ← en2] at hl ⊢
  have p1 : padA a = padL a := by unfold padA; rw [if_pos h1]
  have p2 : padE a = 0 := by unfold padE; rw [if_pos h1]
  obtain ⟨u1, u2⟩ := un_pad h1
  obtain ⟨P, eP⟩ : ∃ P, P = padL a := ⟨_, rfl⟩
  obtain ⟨m, em⟩ : ∃ m, m = P.length := ⟨_, rfl⟩
  rw [← eP] at p1 u1 u2
  have KP := Lib.hid (fun (A : Option Addr) (c : Nat) (v : World) (hG : G v) (h : Rd v v.heap.size A c a) => pc_pad K en.symm p1 em.symm v hG h)
  rw [p2] at KP
  have KU := Lib.hid (fun (A : Option Addr) (c : Nat) (v : World) (hG : G v) (h : Rd v v.heap.size A c P) => pc_unpad K em.symm u1 en.symm v hG h)
  rw [u2] at KU
  clear p1 p2 u1 u2 eP em
  obtain ⟨z1, z2⟩ := un_err h2
  have KV := Lib.hid (fun (A : Option Addr) (c : Nat) (v : World) (hG : G v) (h : Rd v v.heap.size A c b) => pc_unpad K (m := 0) en2.symm z1 rfl v hG h)
  rw [z2] at KV
  clear z1 z2
  have HN := Lib.hid en.symm
  have HN2 := Lib.hid en2.symm
  have HL := Lib.hid hl
  clear en en2 hl h1 h2
  go_enter Tryd.func6, Tryd.ntmps6
  go_wp2_with fail
  go_at_call 11
  refine (own14_len HN.out w ra (Nat.le_refl _) (by have := HL.out; omega)).mono ?_
  rintro z v1 ⟨Ax, cx, rfl, ox, hc⟩
  replace ra := (ra.keep hc).mono hc.size
  replace rb := (rb.keep hc).mono hc.size
  replace hG := K.next hG hc
  go_wp2_with fail
  go_at_call 12
  refine (KP.out _ _ v1 hG ox.rd).mono ?_
  rintro z v2 ⟨Ap, cp, rfl, op, h0⟩
  replace ra := (ra.keep h0).mono h0.size
  replace rb := (rb.keep h0).mono h0.size
  replace hG := K.next hG h0
  replace hc := hc.trans (h0.mono hc.size)
  clear h0 ox KP
  go_wp2_with fail
  go_at_call 14
  refine (KU.out _ _ v2 hG op.rd).mono ?_
  rintro z v3 ⟨Au, cu, rfl, ou, h0⟩
  replace ra := (ra.keep h0).mono h0.size
  replace rb := (rb.keep h0).mono h0.size
  replace hG := K.next hG h0
  replace hc := hc.trans (h0.mono hc.size)
  have s1 := str14 v3 HN.out ou.rd
  have s2 := str14 v3 HN.out ra
  clear h0 op ou ra KU
  go_wp2_with fail
  clear s1 s2
  go_at_call 11
  refine (own14_len HN2.out v3 rb (Nat.le_refl _) (by have := HL.out; omega)).mono ?_
  rintro z v4 ⟨Ay, cy, rfl, oy, h0⟩
  replace rb := (rb.keep h0).mono h0.size
  replace hG := K.next hG h0
  replace hc := hc.trans (h0.mono hc.size)
  clear h0
  go_wp2_with fail
  go_at_call 14
  refine (KV.out _ _ v4 hG oy.rd).mono ?_
  rintro z v5 ⟨Av, cv, rfl, ov, h0⟩
  replace rb := (rb.keep h0).mono h0.size
  replace hG := K.next hG h0
  replace hc := hc.trans (h0.mono hc.size)
  clear h0 oy KV
  clear ov rb
  have HG := Lib.hid hG
  clear hG
  go_wp2_with fail
  go_at_call 10
  refine (awake14 K v5 HG.out).mono ?_
  rintro z v7 ⟨rfl, h0⟩
  have HC := Lib.hid (hc.trans (h0.mono hc.size))
  clear h0 hc
  go_wp2_with fail
  go_ret
  exact ⟨rfl, HC.out⟩
set_option maxHeartbeats 3200000 in
theorem padback_01 {A A2 : Option Addr} {c c2 : Nat} {a b : List UInt8} (hl : a.length ≤ 140737488351232 ∧ b.length ≤ 140737488351232) (h1 : ¬ a.length ≤ 4095) (h2 : unE b = 0) (w : World) (hG : G w) (ra : Rd w w.heap.size A c a) (rb : Rd w w.heap.size A2 c2 b) :
    Calls Tryd.prog 6 #[.slice A a.length c, .slice A2 b.length c2] w fun e w' => e = .returned (.bool true) ∧ Below w.heap.size w w' := by
  obtain ⟨n, en⟩ : ∃ n, n = a.length := ⟨_, rfl⟩
  obtain ⟨n2, en2⟩ : ∃ n, n = b.length := ⟨_, rfl⟩
  rw [← en, ← en2] at hl ⊢
  have p1 : padA a = [] := by unfold padA; rw [if_neg h1]
  have p2 : padE a = 2 := by unfold padE; rw [if_neg h1]
  have g1 : ¬ (n : Int) < 4096 := by omega
  have KP := Lib.hid (fun (A : Option Addr) (c : Nat) (v : World) (hG : G v) (h : Rd v v.heap.size A c a) => pc_pad K (m := 0) en.symm p1 rfl v hG h)
  rw [p2] at KP
  clear p1 p2
  obtain ⟨z1, z2⟩ := un_zero h2
  obtain ⟨U, eU⟩ : ∃ U, U = unA b := ⟨_, rfl⟩
  obtain ⟨k, ek⟩ : ∃ k, k = U.length := ⟨_, rfl⟩
  rw [← eU] at z1 z2
  have q1 : padA U = b := by unfold padA; rw [if_pos z1]; exact z2
  have q2 : padE U = 0 := by unfold padE; rw [if_pos z1]
  have KV := Lib.hid (fun (A : Option Addr) (c : Nat) (v : World) (hG : G v) (h : Rd v v.heap.size A c b) => pc_unpad K en2.symm eU.symm ek.symm v hG h)
  rw [h2] at KV
  have KQ := Lib.hid (fun (A : Option Addr) (c : Nat) (v : World) (hG : G v) (h : Rd v v.heap.size A c U) => pc_pad K ek.symm q1 en2.symm v hG h)
  rw [q2] at KQ
  clear z1 z2 eU ek q1 q2
  have HN := Lib.hid en.symm
  have HN2 := Lib.hid en2.symm
  have HL := Lib.hid hl
  clear en en2 hl h1 h2
  go_enter Tryd.func6, Tryd.ntmps6
  go_wp2_with fail
  go_at_call 11
  refine (own14_len HN.out w ra (Nat.le_refl _) (by have := HL.out; omega)).mono ?_
  rintro z v1 ⟨Ax, cx, rfl, ox, hc⟩
  replace ra := (ra.keep hc).mono hc.size
  replace rb := (rb.keep hc).mono hc.size
  replace hG := K.next hG hc
  go_wp2_with fail
  go_at_call 12
  refine (KP.out _ _ v1 hG ox.rd).mono ?_
  rintro z v2 ⟨Ap, cp, rfl, op, h0⟩
  replace ra := (ra.keep h0).mono h0.size
  replace rb := (rb.keep h0).mono h0.size
  replace hG := K.next hG h0
  replace hc := hc.trans (h0.mono hc.size)
  clear h0 ox KP
  obtain ⟨v3, e3⟩ : ∃ v, v = v2 := ⟨_, rfl⟩
  subst e3
  clear op ra
  go_wp2_with fail
  go_at_call 11
  refine (own14_len HN2.out v3 rb (Nat.le_refl _) (by have := HL.out; omega)).mono ?_
  rintro z v4 ⟨Ay, cy, rfl, oy, h0⟩
  replace rb := (rb.keep h0).mono h0.size
  replace hG := K.next hG h0
  replace hc := hc.trans (h0.mono hc.size)
  clear h0
  go_wp2_with fail
  go_at_call 14
  refine (KV.out _ _ v4 hG oy.rd).mono ?_
  rintro z v5 ⟨Av, cv, rfl, ov, h0⟩
  replace rb := (rb.keep h0).mono h0.size
  replace hG := K.next hG h0
  replace hc := hc.trans (h0.mono hc.size)
  clear h0 oy KV
  go_wp2_with fail
  go_at_call 12
  refine (KQ.out _ _ v5 hG ov.rd).mono ?_
  rintro z v6 ⟨Aq, cq, rfl, oq, h0⟩
  replace rb := (rb.keep h0).mono h0.size
  replace hG := K.next hG h0
  replace hc := hc.trans (h0.mono hc.size)
  have s1 := str14 v6 HN2.out oq.rd
  have s2 := str14 v6 HN2.out rb
  clear h0 oq rb KQ ov
  have HG := Lib.hid hG
  clear hG
  go_wp2_with fail
  go_at_call 10
  refine (awake14 K v6 HG.out).mono ?_
  rintro z v7 ⟨rfl, h0⟩
  have HC := Lib.hid (hc.trans (h0.mono hc.size))
  clear h0 hc
  go_wp2_with fail
  go_ret
  exact ⟨rfl, HC.out⟩
set_option maxHeartbeats 3200000 in
theorem padback_00 {A A2 : Option Addr} {c c2 : Nat} {a b : List UInt8} (hl : a.length ≤ 140737488351232 ∧ b.length ≤ 140737488351232) (h1 : ¬ a.length ≤ 4095) (h2 : unE b ≠ 0) (w : World) (hG : G w) (ra : Rd w w.heap.size A c a) (rb : Rd w w.heap.size A2 c2 b) :
    Calls Tryd.prog 6 #[.slice A a.length c, .slice A2 b.length c2] w fun e w' => e = .returned (.bool true) ∧ Below w.heap.size w w' := by
  obtain ⟨n, en⟩ : ∃ n, n = a.length := ⟨_, rfl⟩
  obtain ⟨n2, en2⟩ : ∃ n, n = b.length := ⟨_, rfl⟩
  rw [← en, ← en2] at hl ⊢
  have p1 : padA a = [] := by unfold padA; rw [if_neg h1]
  have p2 : padE a = 2 := by unfold padE; rw [if_neg h1]
  have g1 : ¬ (n : Int) < 4096 := by omega
  have KP := Lib.hid (fun (A : Option Addr) (c : Nat) (v : World) (hG : G v) (h : Rd v v.heap.size A c a) => pc_pad K (m := 0) en.symm p1 rfl v hG h)
  rw [p2] at KP
  clear p1 p2
  obtain ⟨z1, z2⟩ := un_err h2
  have KV := Lib.hid (fun (A : Option Addr) (c : Nat) (v : World) (hG : G v) (h : Rd v v.heap.size A c b) => pc_unpad K (m := 0) en2.symm z1 rfl v hG h)
  rw [z2] at KV
  clear z1 z2
  have HN := Lib.hid en.symm
  have HN2 := Lib.hid en2.symm
  have HL := Lib.hid hl
  clear en en2 hl h1 h2
  go_enter Tryd.func6, Tryd.ntmps6
  go_wp2_with fail
  go_at_call 11
  refine (own14_len HN.out w ra (Nat.le_refl _) (by have := HL.out; omega)).mono ?_
  rintro z v1 ⟨Ax, cx, rfl, ox, hc⟩
  replace ra := (ra.keep hc).mono hc.size
  replace rb := (rb.keep hc).mono hc.size
  replace hG := K.next hG hc
  go_wp2_with fail
  go_at_call 12
  refine (KP.out _ _ v1 hG ox.rd).mono ?_
  rintro z v2 ⟨Ap, cp, rfl, op, h0⟩
  replace ra := (ra.keep h0).mono h0.size
  replace rb := (rb.keep h0).mono h0.size
  replace hG := K.next hG h0
  replace hc := hc.trans (h0.mono hc.size)
  clear h0 ox KP
  obtain ⟨v3, e3⟩ : ∃ v, v = v2 := ⟨_, rfl⟩
  subst e3
  clear op ra
  go_wp2_with fail
  go_at_call 11
  refine (own14_len HN2.out v3 rb (Nat.le_refl _) (by have := HL.out; omega)).mono ?_
  rintro z v4 ⟨Ay, cy, rfl, oy, h0⟩
  replace rb := (rb.keep h0).mono h0.size
  replace hG := K.next hG h0
  replace hc := hc.trans (h0.mono hc.size)
  clear h0
  go_wp2_with fail
  go_at_call 14
  refine (KV.out _ _ v4 hG oy.rd).mono ?_
  rintro z v5 ⟨Av, cv, rfl, ov, h0⟩
  replace rb := (rb.keep h0).mono h0.size
  replace hG := K.next hG h0
  replace hc := hc.trans (h0.mono hc.size)
  clear h0 oy KV
  clear ov rb
  have HG := Lib.hid hG
  clear hG
  go_wp2_with fail
  go_at_call 10
  refine (awake14 K v5 HG.out).mono ?_
  rintro z v7 ⟨rfl, h0⟩
  have HC := Lib.hid (hc.trans (h0.mono hc.size))
  clear h0 hc
  go_wp2_with fail
  go_ret
  exact ⟨rfl, HC.out⟩
theorem padback_law {A A2 : Option Addr} {c c2 : Nat} {a b : List UInt8} (hl : a.length ≤ 140737488351232 ∧ b.length ≤ 140737488351232) (w : World) (hG : G w) (ra : Rd w w.heap.size A c a) (rb : Rd w w.heap.size A2 c2 b) :
    Calls Tryd.prog 6 #[.slice A a.length c, .slice A2 b.length c2] w fun e w' => e = .returned (.bool true) ∧ Below w.heap.size w w' := by
  by_cases h1 : a.length ≤ 4095
  · by_cases h2 : unE b = 0
    · exact padback_11 K hl h1 h2 w hG ra rb
    · exact padback_10 K hl h1 h2 w hG ra rb
  · by_cases h2 : unE b = 0
    · exact padback_01 K hl h1 h2 w hG ra rb
    · exact padback_00 K hl h1 h2 w hG ra rb
end
end Go.Proofs.YthamhpgjjbiplaaDoor
