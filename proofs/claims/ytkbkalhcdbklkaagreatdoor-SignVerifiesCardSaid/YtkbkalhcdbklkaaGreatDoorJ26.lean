/-
  The code's Verify (layer 9). By an AI agent. (and more)
-/
import Derived.Test.YtkbkalhcdbklkaaGreatDoorJ24
import Derived.Test.YtkbkalhcdbklkaaGreatDoorJ20
import Derived.Test.YtkbkalhcdbklkaaGreatDoorJ20
namespace Go.Proofs.YtkbkalhcdbklkaaGreatDoor
section
open Go Go.RowKit
set_option maxRecDepth 20000
section
attribute [local irreducible] wd by8 d16 set16w set4w set8p set6 gw gz fl rl setA t3f ivN mlN adN sbN hsh lefN clam decX decY decE ptD smlP ptE
set_option maxHeartbeats 6400000 in
theorem cver_any {A A1 A2 : Option Addr} {c cb cs : Nat} {key b sig : List UInt8} (h32 : key.length = 32) (h64 : sig.length = 64) (hb4 : b.length ≤ 4000) (w : World) (hG : G9w w) (hr : Rd w w.heap.size A c key) (hs : Rd w w.heap.size A1 cb b) (ht : Rd w w.heap.size A2 cs sig) :
  Calls Tryz.prog 12 #[.slice A 32 c, .slice A1 b.length cb, .slice A2 64 cs] w fun e w' => e = .returned (.int .i64 (verN key b sig : Int)) ∧ Below w.heap.size w w' := by
 obtain ⟨lb, hlb⟩ : ∃ l, l = b.length := ⟨_, rfl⟩
 have HLB := Lib.hid hlb
 have HB4 := Lib.hid (show lb ≤ 4000 by rw [hlb]; exact hb4)
 rw [← hlb]
 clear hlb hb4
 have HG := Lib.hid hG
 clear hG
 have hcap := ht.cap
 rw [h64] at hcap
 have hd32 : (sig.drop 32).length = 32 := by rw [List.length_drop, h64]
 have ht32 : (sig.take 32).length = 32 := by rw [List.length_take, h64]; rfl
 have rS := ht.drop_ (l := 32) (by rw [h64]; decide)
 obtain ⟨b2, o2, rfl, _, _⟩ := ht.at_ (k := 0) (by omega)
 rw [show subA (some ⟨b2, o2, none⟩) cs 32 = some ⟨b2, o2 + 32, none⟩ by unfold subA; rw [if_neg (by omega)]; simp [Addr.add_mid]] at rS
 have rR := ht.pre (n := 32) (by rw [h64]; decide) (by decide)
 have kd := tdecode_any w rS (Nat.le_refl _) hd32
 rw [hd32] at kd
 have hv : verN key b sig = if vb (sig.drop 32) < LB then if decE (vb key) = 0 then if smlP (ptD (vb key)) = true then 7 else if decE (vb (sig.take 32)) = 0 then endN key b sig else decE (vb (sig.take 32)) else decE (vb key) else 6 := by
  unfold verN
  rw [if_pos ⟨h32, h64⟩]
 obtain ⟨Z, hZ⟩ : ∃ Z, Z = verN key b sig := ⟨_, rfl⟩
 rw [← hZ]
 rw [hv] at hZ
 clear hv rS ht
 obtain ⟨S, hS⟩ : ∃ S, S = vb (sig.drop 32) := ⟨_, rfl⟩
 rw [← hS] at kd hZ
 have HSS := Lib.hid hS
 have HZ := Lib.hid hZ
 clear hS hZ
 by_cases h1 : S < LB
 case neg =>
  rw [if_neg (show ¬ S < LL from h1), if_neg (show ¬ S < LL from h1)] at kd
  have KD := Lib.hid kd
  have H1 := Lib.hid h1
  clear kd h1
  go_enter Tryz.func12, Tryz.ntmps12
  go_wp2_with fail
  go_at_call 31
  refine KD.out.mono ?_
  rintro e v1 ⟨rfl, hc⟩
  have on0 := Osc.newz (w := v1) (B := v1.heap.size) (Nat.le_refl _)
  have HC := Lib.hid (hc.trans ((((Below.refl _ v1).alloc (Nat.le_refl _) Zs).trans (on0.below 0)).mono hc.size))
  clear hc
  go_wp2_with ((with_reducible refine sc_store on0 0 ?_ ?_ ?_); rfl; rfl)
  go_ret
  exact ⟨by rw [show Z = 6 by rw [HZ.out, if_neg H1.out]]; rfl, HC.out⟩
 rw [if_pos (show S < LL from h1), if_pos (show S < LL from h1)] at kd
 have KD := Lib.hid kd
 have HS1 := Lib.hid h1
 clear kd h1
 go_enter Tryz.func12, Tryz.ntmps12
 go_wp2_with fail
 go_at_call 31
 refine KD.out.mono ?_
 rintro e v1 ⟨rfl, hc⟩
 replace HG := Lib.hid (g9n _ _ HG.out hc)
 replace hr := (hr.keep hc).mono hc.size
 replace hs := (hs.keep hc).mono hc.size
 replace rR := (rR.keep hc).mono hc.size
 clear KD
 have on0 := Osc.newz (w := v1) (B := v1.heap.size) (Nat.le_refl _)
 have o7 := (on0.put S).mono hc.size
 have hbz := ((Below.refl _ v1).alloc (Nat.le_refl _) Zs).trans (on0.below S)
 replace HG := Lib.hid (g9n _ _ HG.out hbz)
 replace hr := (hr.keep hbz).mono hbz.size
 replace hs := (hs.keep hbz).mono hbz.size
 replace rR := (rR.keep hbz).mono hbz.size
 replace hc := bnx hc hbz
 clear hbz
 go_upto_region 4 with ((with_reducible refine sc_store on0 S ?_ ?_ ?_); rfl; rfl)
 obtain ⟨v2, ev⟩ : ∃ v, v = set4w (v1.alloc Zs) v1.heap.size S := ⟨_, rfl⟩
 obtain ⟨g7, eg⟩ : ∃ g, g = v1.heap.size := ⟨_, rfl⟩
 rw [← ev] at hr hs rR o7 hc HG ⊢
 rw [← eg] at o7 ⊢
 clear ev eg on0
 obtain ⟨E1, hE1⟩ : ∃ E, E = decE (vb key) := ⟨_, rfl⟩
 by_cases h2 : E1 = 0
 case neg =>
  have kk := ag_bad h32 (by rw [← hE1]; exact h2) v2 HG.out.2.1 hr
  rw [← hE1] at kk
  have KK := Lib.hid kk
  have g1 : ((E1 : Int) == 0) = false := beq_eq_false_iff_ne.2 (by omega)
  have g2 : ((E1 : Int) != 0) = true := by simp; omega
  have H2 := Lib.hid h2
  have HE1 := Lib.hid hE1
  clear h2 kk hE1 hs rR hr o7 HG
  go_wp2_with fail
  go_at_call 32
  refine KK.out.mono ?_
  rintro e v3 ⟨rfl, hb⟩
  replace hc := bnx hc hb
  have on0 := O8.newz (w := v3) (B := v3.heap.size) (Nat.le_refl _)
  have HC := Lib.hid (hc.trans ((((Below.refl _ v3).alloc (Nat.le_refl _) Z8p).trans (on0.below 0 0)).mono hc.size))
  clear hc hb KK
  go_wp2_with ((with_reducible refine p_store on0 0 0 ?_ ?_ ?_); rfl; rfl)
  go_ret
  exact ⟨by rw [show Z = E1 by rw [HZ.out, if_pos HS1.out, if_neg (by rw [← HE1.out]; exact H2.out), HE1.out]]; rfl, HC.out⟩
 rw [h2] at hE1
 clear h2
 obtain ⟨P, hP⟩ : ∃ P, P = ptD (vb key) := ⟨_, rfl⟩
 by_cases h3 : smlP P = true
 case pos =>
  have kk := ag_pt (s := true) h32 hE1.symm (by rw [← hP]; exact h3) v2 HG.out hr
  simp only [if_true] at kk
  have KK := Lib.hid kk
  have H3 := Lib.hid h3
  have HP := Lib.hid hP
  have HE1 := Lib.hid hE1
  clear kk hE1 hs rR hr o7 HG h3 hP
  go_wp2_with fail
  go_at_call 32
  refine KK.out.mono ?_
  rintro e v3 ⟨rfl, hb⟩
  replace hc := bnx hc hb
  have on0 := O8.newz (w := v3) (B := v3.heap.size) (Nat.le_refl _)
  have HC := Lib.hid (hc.trans ((((Below.refl _ v3).alloc (Nat.le_refl _) Z8p).trans (on0.below 0 0)).mono hc.size))
  clear hc hb KK
  go_wp2_with ((with_reducible refine p_store on0 0 0 ?_ ?_ ?_); rfl; rfl)
  go_ret
  exact ⟨by rw [show Z = 7 by rw [HZ.out, if_pos HS1.out, if_pos HE1.out.symm, if_pos (by rw [← HP.out]; exact H3.out)]]; rfl, HC.out⟩
 have kk := ag_pt (s := false) h32 hE1.symm (by rw [← hP]; exact Bool.eq_false_iff.2 h3) v2 HG.out hr
 rw [← hP] at kk
 simp only [Bool.false_eq_true, if_false] at kk
 obtain ⟨M, hM⟩ : ∃ M, M = P.neg := ⟨_, rfl⟩
 rw [← hM] at kk
 obtain ⟨mx, hmx⟩ : ∃ x, x = M.x.val := ⟨_, rfl⟩
 obtain ⟨my, hmy⟩ : ∃ x, x = M.y.val := ⟨_, rfl⟩
 rw [← hmx, ← hmy] at kk
 have KK := Lib.hid kk
 have HMX := Lib.hid hmx
 have HMY := Lib.hid hmy
 have HM := Lib.hid hM
 have HP := Lib.hid hP
 have H3 := Lib.hid h3
 have HE1 := Lib.hid hE1
 clear kk hmx hmy hM hP h3 hE1
 go_wp2_with fail
 go_at_call 32
 refine KK.out.mono ?_
 rintro e v3 ⟨rfl, hb⟩
 replace HG := Lib.hid (g9n _ _ HG.out hb)
 replace hr := (hr.keep hb).mono hb.size
 replace hs := (hs.keep hb).mono hb.size
 replace rR := (rR.keep hb).mono hb.size
 replace o7 := o7.keep hb
 replace hc := bnx hc hb
 clear hb KK
 have on0 := O8.newz (w := v3) (B := v3.heap.size) (Nat.le_refl _)
 have o9 := (on0.put mx my).mono hc.size
 have hbz := ((Below.refl _ v3).alloc (Nat.le_refl _) Z8p).trans (on0.below mx my)
 replace HG := Lib.hid (g9n _ _ HG.out hbz)
 replace hr := (hr.keep hbz).mono hbz.size
 replace hs := (hs.keep hbz).mono hbz.size
 replace rR := (rR.keep hbz).mono hbz.size
 replace o7 := o7.keep hbz
 replace hc := bnx hc hbz
 clear hbz
 go_upto_region 7 with ((with_reducible refine p_store on0 mx my ?_ ?_ ?_); rfl; rfl)
 obtain ⟨v4, ev⟩ : ∃ v, v = set8p (v3.alloc Z8p) v3.heap.size mx my := ⟨_, rfl⟩
 obtain ⟨g9, eg⟩ : ∃ g, g = v3.heap.size := ⟨_, rfl⟩
 rw [← ev] at hr hs rR o7 o9 hc HG ⊢
 rw [← eg] at o9 ⊢
 clear ev eg on0
 have kk := cDecode_any ht32 v4 rR HG.out.2.1
 obtain ⟨E2, hE2⟩ : ∃ E, E = decE (vb (sig.take 32)) := ⟨_, rfl⟩
 by_cases h4 : E2 = 0
 case neg =>
  obtain ⟨x, hx⟩ : ∃ x, x = decX (vb (sig.take 32)) := ⟨_, rfl⟩
  obtain ⟨y, hy⟩ : ∃ x, x = decY (vb (sig.take 32)) := ⟨_, rfl⟩
  rw [← hE2, ← hx, ← hy] at kk
  have KK := Lib.hid kk
  have g1 : ((E2 : Int) == 0) = false := beq_eq_false_iff_ne.2 (by omega)
  have g2 : ((E2 : Int) != 0) = true := by simp; omega
  have H4 := Lib.hid h4
  have HE2 := Lib.hid hE2
  clear h4 kk hE2 hx hy hs rR hr o7 o9 HG
  go_wp2_with fail
  go_at_call 33
  refine KK.out.mono ?_
  rintro e v5 ⟨rfl, hb⟩
  replace hc := bnx hc hb
  have on0 := O8.newz (w := v5) (B := v5.heap.size) (Nat.le_refl _)
  have HC := Lib.hid (hc.trans ((((Below.refl _ v5).alloc (Nat.le_refl _) Z8p).trans (on0.below x y)).mono hc.size))
  clear hc hb KK
  go_wp2_with ((with_reducible refine p_store on0 x y ?_ ?_ ?_); rfl; rfl)
  go_ret
  exact ⟨by rw [show Z = E2 by rw [HZ.out, if_pos HS1.out, if_pos HE1.out.symm, if_neg (by rw [← HP.out]; exact H3.out), if_neg (by rw [← HE2.out]; exact H4.out), HE2.out]]; rfl, HC.out⟩
 rw [h4] at hE2
 clear h4
 obtain ⟨R, hR⟩ : ∃ R, R = ptD (vb (sig.take 32)) := ⟨_, rfl⟩
 obtain ⟨dx, dy, -⟩ := dec_pt hE2.symm (vb_top ht32).2
 rw [dx, dy, ← hE2, ← hR] at kk
 obtain ⟨rx, hrx⟩ : ∃ x, x = R.x.val := ⟨_, rfl⟩
 obtain ⟨ry, hry⟩ : ∃ x, x = R.y.val := ⟨_, rfl⟩
 rw [← hrx, ← hry] at kk
 have KK := Lib.hid kk
 have HRX := Lib.hid hrx
 have HRY := Lib.hid hry
 have HR := Lib.hid hR
 have HE2 := Lib.hid hE2
 clear kk hrx hry hR hE2 dx dy
 go_wp2_with fail
 go_at_call 33
 refine KK.out.mono ?_
 rintro e v5 ⟨rfl, hb⟩
 replace HG := Lib.hid (g9n _ _ HG.out hb)
 replace hr := (hr.keep hb).mono hb.size
 replace hs := (hs.keep hb).mono hb.size
 replace rR := (rR.keep hb).mono hb.size
 replace o7 := o7.keep hb
 replace o9 := O8.keep o9 hb
 replace hc := bnx hc hb
 clear hb KK
 have on0 := O8.newz (w := v5) (B := v5.heap.size) (Nat.le_refl _)
 have o10 := (on0.put rx ry).mono hc.size
 have hbz := ((Below.refl _ v5).alloc (Nat.le_refl _) Z8p).trans (on0.below rx ry)
 replace HG := Lib.hid (g9n _ _ HG.out hbz)
 replace hr := (hr.keep hbz).mono hbz.size
 replace hs := (hs.keep hbz).mono hbz.size
 replace rR := (rR.keep hbz).mono hbz.size
 replace o7 := o7.keep hbz
 replace o9 := O8.keep o9 hbz
 replace hc := bnx hc hbz
 clear hbz
 go_upto_region 10 with ((with_reducible refine p_store on0 rx ry ?_ ?_ ?_); rfl; rfl)
 obtain ⟨v6, ev⟩ : ∃ v, v = set8p (v5.alloc Z8p) v5.heap.size rx ry := ⟨_, rfl⟩
 obtain ⟨g10, eg⟩ : ∃ g, g = v5.heap.size := ⟨_, rfl⟩
 rw [← ev] at hr hs rR o7 o9 o10 hc HG ⊢
 rw [← eg] at o10 ⊢
 clear ev eg on0
 obtain ⟨v7, ev⟩ : ∃ v, v = v6.alloc (.cells #[.slice (some ⟨b2, o2, none⟩) 32 cs, .slice A 32 c, .slice A1 lb cb] 22) := ⟨_, rfl⟩
 have hbz : Below v6.heap.size v6 v7 := by rw [ev]; exact (Below.refl _ v6).alloc (Nat.le_refl _) _
 have kd := dig3_any ht32 h32 HLB.out.symm (by have := HB4.out; omega) v6 v7 ev HG.out.2.2 rR hr hs
 obtain ⟨K, hK⟩ : ∃ K, K = lefN (sig.take 32 ++ key ++ b) := ⟨_, rfl⟩
 rw [← hK] at kd
 have HK := Lib.hid hK
 have HKL := Lib.hid (show K < LB by rw [hK]; exact lefN_lt _)
 have EV := Lib.hid ev
 have KD := Lib.hid kd
 clear kd ev hr hs rR hK
 go_wp2_with fail
 go_at_call 17
 rw [← EV.out]
 refine KD.out.mono ?_
 rintro e v8 ⟨rfl, hb⟩
 replace hbz := bnx hbz hb
 clear hb KD EV
 replace o7 := o7.keep hbz
 replace o9 := O8.keep o9 hbz
 replace o10 := O8.keep o10 hbz
 replace HG := Lib.hid (g9n _ _ HG.out hbz)
 replace hc := bnx hc hbz
 clear hbz
 have on0 := Osc.newz (w := v8) (B := v8.heap.size) (Nat.le_refl _)
 have o11 := (on0.put K).mono hc.size
 have hbz := ((Below.refl _ v8).alloc (Nat.le_refl _) Zs).trans (on0.below K)
 replace o7 := o7.keep hbz
 replace o9 := O8.keep o9 hbz
 replace o10 := O8.keep o10 hbz
 replace HG := Lib.hid (g9n _ _ HG.out hbz)
 replace hc := bnx hc hbz
 clear hbz
 go_upto_region 13 with ((with_reducible refine sc_store on0 K ?_ ?_ ?_); rfl; rfl)
 obtain ⟨v9, ev⟩ : ∃ v, v = set4w (v8.alloc Zs) v8.heap.size K := ⟨_, rfl⟩
 obtain ⟨g11, eg⟩ : ∃ g, g = v8.heap.size := ⟨_, rfl⟩
 rw [← ev] at o7 o9 o10 o11 hc HG ⊢
 rw [← eg] at o11 ⊢
 clear ev eg on0
 have KN1 := Lib.hid (num_any HS1.out)
 have KN2 := Lib.hid (num_any HKL.out)
 have hx : bx = B25.x.val ∧ by_ = B25.y.val := ⟨(Nat.mod_eq_of_lt bx_lt).symm, (Nat.mod_eq_of_lt by_lt).symm⟩
 have kb := cBase_any
 rw [hx.1, hx.2] at kb
 have km := fun v => cBoth_pt (i := S) (j := K) (Nat.lt_trans HS1.out LB_W4') (Nat.lt_trans HKL.out LB_W4') B25 M v
 obtain ⟨T, hT⟩ : ∃ T, T = (B25.mul S).add (M.mul K) := ⟨_, rfl⟩
 rw [← hT, ← HMX.out, ← HMY.out] at km
 obtain ⟨x, ex⟩ : ∃ x, x = T.x.val := ⟨_, rfl⟩
 obtain ⟨y, ey⟩ : ∃ x, x = T.y.val := ⟨_, rfl⟩
 obtain ⟨p, ep⟩ : ∃ x, x = B25.x.val := ⟨_, rfl⟩
 obtain ⟨q, eq⟩ : ∃ x, x = B25.y.val := ⟨_, rfl⟩
 rw [← ep, ← eq] at kb km
 rw [← ex, ← ey] at km
 have KB := Lib.hid kb
 have KM := Lib.hid km
 have HT := Lib.hid hT
 have EX := Lib.hid ex
 have EY := Lib.hid ey
 clear kb km ex ey ep eq hx hT
 refine wp_region_box 13 [some 55, some 56, some 57, some 58, some 59, some 60, some 61, some 54, some 62, some 63, some 12, none, some 13] [.val (nv S), .val (nv S), .val (prv p q), .val (nv K), .val (nv K), .val (prv mx my), .val (.tuple #[prv x y, .int .i64 0]), .val (.tuple #[prv x y, .int .i64 0]), .val (prv x y), .val (.int .i64 0), .box 60 8, .holds 10 60 8 (pw x y), .val (.int .i64 0)] v9.heap.size (fun wz => Below v9.heap.size v9 wz) (by kernel_rfl) (by kernel_rfl)
  (fun _ _ h _ hb => h.trans hb) ((Below.refl _ _).drew) (Nat.le_refl _) (fun u => by simp only [List.filterMap_cons, List.filterMap_nil, id, puts, List.foldl_cons, List.foldl_nil]; go_simp; exact rfl) ?_ ?_
 ·simp only [List.take_succ_cons, List.take_zero]
  refine .cons (fun u w L hL hS hBw hd => ?_) ?_
  ·exact GB.run 55 rfl (nv S) rfl (run_scload rfl rfl (o7.keep hS)) rfl rfl
  refine .cons (fun u w L hL hS hBw hd => ?_) ?_
  ·have d55 : u 55 = nv S := depB hd 0 rfl
   rw [d55]
   refine GB.call 56 rfl 19 #[nv S] rfl (by go_simp) rfl ((KN1.out w).mono ?_)
   rintro e w' ⟨rfl, hb⟩
   exact ⟨_, rfl, rfl, hb⟩
  refine .cons (fun u w L hL hS hBw hd => ?_) ?_
  ·refine GB.call 57 rfl 35 #[] rfl (by go_simp) rfl ((KB.out w).mono ?_)
   rintro e w' ⟨rfl, hb⟩
   exact ⟨_, rfl, rfl, hb⟩
  refine .cons (fun u w L hL hS hBw hd => ?_) ?_
  ·exact GB.run 58 rfl (nv K) rfl (run_scload rfl rfl (o11.keep hS)) rfl rfl
  refine .cons (fun u w L hL hS hBw hd => ?_) ?_
  ·have d58 : u 58 = nv K := depB hd 3 rfl
   rw [d58]
   refine GB.call 59 rfl 19 #[nv K] rfl (by go_simp) rfl ((KN2.out w).mono ?_)
   rintro e w' ⟨rfl, hb⟩
   exact ⟨_, rfl, rfl, hb⟩
  refine .cons (fun u w L hL hS hBw hd => ?_) ?_
  ·exact GB.run 60 rfl (prv mx my) rfl (run_pload rfl rfl (O8.keep o9 hS)) rfl rfl
  refine .cons (fun u w L hL hS hBw hd => ?_) ?_
  ·have d56 : u 56 = nv S := depB hd 1 rfl
   rw [d56]
   have d57 : u 57 = prv p q := depB hd 2 rfl
   rw [d57]
   have d59 : u 59 = nv K := depB hd 4 rfl
   rw [d59]
   have d60 : u 60 = prv mx my := depB hd 5 rfl
   rw [d60]
   refine GB.call 61 rfl 34 #[nv S, prv p q, nv K, prv mx my] rfl (by go_simp) rfl ((KM.out w (g9n _ _ HG.out hS).1).mono ?_)
   rintro e w' ⟨rfl, hb⟩
   exact ⟨_, rfl, rfl, hb⟩
  refine .cons (fun u w L hL hS hBw hd => ?_) ?_
  ·have d61 : u 61 = .tuple #[prv x y, .int .i64 0] := depB hd 6 rfl
   rw [d61]
   exact GB.run 54 rfl (.tuple #[prv x y, .int .i64 0]) rfl (by go_simp) rfl rfl
  refine .cons (fun u w L hL hS hBw hd => ?_) ?_
  ·have d54 : u 54 = .tuple #[prv x y, .int .i64 0] := depB hd 7 rfl
   rw [d54]
   exact GB.run 62 rfl (prv x y) rfl (by go_simp) rfl rfl
  refine .cons (fun u w L hL hS hBw hd => ?_) ?_
  ·have d54 : u 54 = .tuple #[prv x y, .int .i64 0] := depB hd 7 rfl
   rw [d54]
   exact GB.run 63 rfl (.int .i64 0) rfl (by go_simp) rfl rfl
  refine .cons (fun u w L hL hS hBw hd => ?_) ?_
  ·exact GB.alloc 12 rfl rfl #[.int .u64 0, .int .u64 0, .int .u64 0, .int .u64 0, .int .u64 0, .int .u64 0, .int .u64 0, .int .u64 0] 60 8 (fun _ => .int .u64 0) rfl rfl (by go_simp) hBw (by decide) rfl
  refine .cons (fun u w L hL hS hBw hd => ?_) ?_
  ·have d62 : u 62 = prv x y := depB hd 8 rfl
   obtain ⟨g, fg, e12, o12⟩ : (Fact.box 60 8).ok v9.heap.size [some 55, some 56, some 57, some 58, some 59, some 60, some 61, some 54, some 62, some 63, some 12, none, some 13] 10 u w L := depB hd 10 rfl
   exact GB.store rfl 10 g 60 8 (pw x y) rfl rfl rfl e12 (run_pstore rfl (by exact e12) (by exact d62) o12) (only8p w g x y) (put8p o12 x y)
  refine .cons (fun u w L hL hS hBw hd => ?_) ?_
  ·have d63 : u 63 = .int .i64 0 := depB hd 9 rfl
   rw [d63]
   exact GB.run 13 rfl (.int .i64 0) rfl (by go_simp) rfl rfl
  exact ObsB.nil
 intro u1 va hS hd
 obtain ⟨g12, e12, o12⟩ : (Fact.holds 10 60 8 (pw x y)).ok v9.heap.size [some 55, some 56, some 57, some 58, some 59, some 60, some 61, some 54, some 62, some 63, some 12, none, some 13] 11 u1 va (fun _ => true) := hd 11 (by decide)
 replace e12 : u1 12 = .pointer (some ⟨g12, 0, none⟩) := e12
 replace o12 : O8 va v9.heap.size g12 x y := o12
 replace o10 := O8.keep o10 hS
 have HC := Lib.hid (bnx hc hS)
 rw [e12]
 have hZe : Z = if ptE T R = true then 0 else 10 := by
  rw [HZ.out, if_pos HS1.out, if_pos HE1.out.symm, if_neg (by rw [← HP.out]; exact H3.out), if_pos HE2.out.symm]
  unfold endN
  rw [← HSS.out, ← HR.out, ← HP.out, ← HK.out, ← ptE_side, ← HM.out, ← HT.out]
 have hxW : x < W4 := by rw [EX.out]; exact xW T
 have hyW : y < W4 := by rw [EY.out]; exact yW T
 have hrxW : rx < W4 := by rw [HRX.out]; exact xW R
 have hryW : ry < W4 := by rw [HRY.out]; exact yW R
 have hpt : (decide (x = rx) && decide (y = ry)) = ptE T R := by
  rw [EX.out, EY.out, HRX.out, HRY.out]
  unfold ptE
  rfl
 clear hS hd e12 hc KB KM KN1 KN2 HG o7 o9 o11
 simp only [List.drop_succ_cons, List.drop_zero]
 by_cases h5 : ptE T R = true
 ·rw [if_pos h5] at hZe
  have hne : (!(decide (x = rx) && decide (y = ry))) = false := by rw [hpt, h5]; rfl
  have HZE := Lib.hid hZe
  have HNE := Lib.hid hne
  clear hZe hpt h5 hne
  go_wp2_with (first | ((with_reducible refine p_load o12 ?_ ?_); rfl) | ((with_reducible refine p_load o10 ?_ ?_); rfl) | ((with_reducible refine T_ne false hxW hyW hrxW hryW HNE.out ?_ ?_ ?_); rfl; rfl))
  go_ret
  exact ⟨by rw [HZE.out]; rfl, HC.out⟩
 ·rw [if_neg h5] at hZe
  have hne : (!(decide (x = rx) && decide (y = ry))) = true := by rw [hpt, Bool.eq_false_iff.2 h5]; rfl
  have HZE := Lib.hid hZe
  have HNE := Lib.hid hne
  clear hZe hpt h5 hne
  go_wp2_with (first | ((with_reducible refine p_load o12 ?_ ?_); rfl) | ((with_reducible refine p_load o10 ?_ ?_); rfl) | ((with_reducible refine T_ne true hxW hyW hrxW hryW HNE.out ?_ ?_ ?_); rfl; rfl))
  go_ret
  exact ⟨by rw [HZE.out]; rfl, HC.out⟩
end
theorem cver_all : CVer G9w := by
 intro key b sig hm A B C c d e0 w hG hr hs ht
 by_cases h : key.length = 32 ∧ sig.length = 64
 ·obtain ⟨n1, n2⟩ := h
  rw [n1, n2]
  exact cver_any n1 n2 hm w hG hr hs ht
 ·rw [ver_short _ _ _ h]
  exact cver_len h w
end
section
open Go Go.RowKit
theorem verifies_law9 {A B C : Option Addr} {c d e0 : Nat} {key b sig : List UInt8} {w0 : World} (hr : Rd w0 w0.heap.size A c key) (hl : key.length ≤ 140737488351232) (hs : Rd w0 w0.heap.size B d b) (_ : b.length ≤ 140737488351232) (ht : Rd w0 w0.heap.size C e0 sig) (hk : sig.length ≤ 140737488351232) (_w : World) (hG : G9w w0) :
  Calls Tryz.prog 5 #[.slice A key.length c, .slice B b.length d, .slice C sig.length e0] w0 fun e w' => e = .returned (.bool true) ∧ Below w0.heap.size w0 w' :=
 law9_verifies g9n cpub_any cver0_any cver_all (by omega) (by omega) w0 hr hs ht hG
end
end Go.Proofs.YtkbkalhcdbklkaaGreatDoor
