/-
  Layer 6's law ShaClones, walked whole. Written by tools/gen_n34.py. By an AI agent.
-/
import Derived.Test.YtbikldocjmelcaaDoorN33
namespace Go.Proofs.YtbikldocjmelcaaDoor
open Go Go.RowKit
set_option maxRecDepth 20000
section
attribute [local irreducible] subA sumN
set_option maxHeartbeats 3200000 in
theorem clones_law {A0 A1 A2 : Option Addr} {c0 c1 c2 : Nat} {xa xb xc : List UInt8} (na : xa.length ≤ 4000) (nb : xb.length ≤ 4000) (nc : xc.length ≤ 4000) (w : World) (ra : Rd w w.heap.size A0 c0 xa) (rb : Rd w w.heap.size A1 c1 xb) (rc : Rd w w.heap.size A2 c2 xc) (hG : Glb w) :
    Calls Tryd.prog 6 #[.slice A0 xa.length c0, .slice A1 xb.length c1, .slice A2 xc.length c2] w fun e w' => e = .returned (.bool true) ∧ Below w.heap.size w w' := by
  obtain ⟨i0, hi, hz0, hz1, hz2⟩ := info_parts infoB6
  have g1 : ¬ (4000 : Int) < (xa.length : Int) := by omega
  have g2 : ¬ (4000 : Int) < (xb.length : Int) := by omega
  have g3 : ¬ (4000 : Int) < (xc.length : Int) := by omega
  have h4 := hG.four
  go_enter Tryd.func6, Tryd.ntmps6
  go_wp2_with fail
  go_at_call 15
  refine (hnew _).mono ?_
  rintro e v1 ⟨g, rfl, hs, hc⟩
  have hgB := hs.ge
  have KX := Lib.hid (own6_any v1 (ra.keep hc) hc.size (by omega))
  go_wp2_with fail
  go_at_call 10
  refine KX.out.mono ?_
  rintro e v2 ⟨B1, d1, rfl, o1, hb⟩
  have hs2 := hs.keep hb
  have hc2 := hc.trans (hb.mono hc.size)
  have KW := Lib.hid (hwrite (A := B1) (c := d1) (bs := []) (b := xa) (by simp; omega) h4 v2 (hG.next hc2) hs2 o1.rd (o1.off (by have := hs.lt; omega)))
  clear KX hs hc hb
  go_wp2_with fail
  go_at_call 16
  refine KW.out.mono ?_
  rintro e v3 ⟨rfl, hs3, hx3⟩
  rw [List.nil_append] at hs3
  have hc3 := hc2.trans (hx3.below hgB (hc2.size))
  clear KW hs2 o1 hc2 hx3
  go_wp2_with fail
  go_at_call 18
  refine (hclone v3 hs3).mono ?_
  rintro e v4 ⟨gk, rfl, hk4, hb⟩
  have hs4 := hs3.keep hb
  have hc4 := hc3.trans (hb.mono hc3.size)
  have hgk : g < gk := by have := hs3.lt; have := hk4.ge; omega
  have hkB : w.heap.size ≤ gk := by omega
  have HGK := Lib.hid hgk
  replace hk4 : Hs v4 w.heap.size gk xa := by
    obtain ⟨V, rb, o, r⟩ := hk4
    exact ⟨V, rb, OwnF.mono o hc3.size, r⟩
  clear hs3 hc3 hb hgk
  have KX := Lib.hid (own6_any v4 (rb.keep hc4) hc4.size (by omega))
  go_wp2_with fail
  go_at_call 10
  refine KX.out.mono ?_
  rintro e v5 ⟨B2, d2, rfl, o2, hb⟩
  have hs5 := hs4.keep hb
  have hk5 := hk4.keep hb
  have hc5 := hc4.trans (hb.mono hc4.size)
  have KW := Lib.hid (hwrite (A := B2) (c := d2) (bs := xa) (b := xb) (by omega) h4 v5 (hG.next hc5) hs5 o2.rd (o2.off (by have := hs4.lt; omega)))
  clear KX hs4 hk4 hc4 hb
  go_wp2_with fail
  go_at_call 16
  refine KW.out.mono ?_
  rintro e v6 ⟨rfl, hs6, hx6⟩
  have hk6 := hk5.ex hx6 (by have := HGK.out; omega)
  have hc6 := hc5.trans (hx6.below hgB (hc5.size))
  clear KW hs5 hk5 o2 hc5 hx6
  have KX := Lib.hid (own6_any v6 (rc.keep hc6) hc6.size (by omega))
  go_wp2_with fail
  go_at_call 10
  refine KX.out.mono ?_
  rintro e v7 ⟨B3, d3, rfl, o3, hb⟩
  have hs7 := hs6.keep hb
  have hk7 := hk6.keep hb
  have hc7 := hc6.trans (hb.mono hc6.size)
  have KW := Lib.hid (hwrite (A := B3) (c := d3) (bs := xa) (b := xc) (by omega) h4 v7 (hG.next hc7) hk7 o3.rd (o3.off (by have := hk6.lt; omega)))
  clear KX hs6 hk6 hc6 hb
  go_wp2_with fail
  go_at_call 16
  refine KW.out.mono ?_
  rintro e v8 ⟨rfl, hk8, hx8⟩
  have hs8 := hs7.ex hx8 (by have := HGK.out; omega)
  have hc8 := hc7.trans (hx8.below hkB (hc7.size))
  clear KW hs7 hk7 o3 hc7 hx8
  have KX := Lib.hid (own6_any v8 (ra.keep hc8) hc8.size (by omega))
  go_wp2_with fail
  go_at_call 10
  refine KX.out.mono ?_
  rintro e u1 ⟨B4, d4, rfl, o4, hb⟩
  have hb1 := hc8.trans (hb.mono hc8.size)
  have hrb := rb.keep hb1
  go_wp2_with (at_builtin; refine wpList_app _ rfl (.tmp 41) (.tmp 42) _ rfl v8.heap.size 5 i0 _ Tryd.underlying22 hi hz0 hz1 hz2 rfl rfl o4 rfl hrb (by omega) hb.size ?_; intro AX cx u2 oX hbX)
  have hbu := hb.trans hbX
  clear KX hb hb1 hrb o4 hbX
  have hb2 := hc8.trans (hbu.mono hc8.size)
  have KX := Lib.hid (own6_any u2 (ra.keep hb2) hb2.size (by omega))
  go_at_call 10
  refine KX.out.mono ?_
  rintro e u3 ⟨B5, d5, rfl, o5, hb⟩
  have hb3 := hb2.trans (hb.mono hb2.size)
  have hrc := rc.keep hb3
  go_upto_region 9 with (at_builtin; refine wpList_app _ rfl (.tmp 45) (.tmp 46) _ rfl u2.heap.size 5 i0 _ Tryd.underlying22 hi hz0 hz1 hz2 rfl rfl o5 rfl hrc (by omega) hb.size ?_; intro AY cy v9 oY hbY)
  have hbv := hb.trans hbY
  have hc9 := hb2.trans (hbv.mono hb2.size)
  have hX := (oX.keep hbv).rd
  have hY := oY.rd
  have hs9 := (hs8.keep hbu).keep hbv
  have hk9 := (hk8.keep hbu).keep hbv
  clear KX hb hb3 hrc o5 hbY hbu hbv hb2 oX oY hs8 hk8 hc8
  obtain ⟨ya, hya⟩ : ∃ x, x = xa ++ xb := ⟨_, rfl⟩
  obtain ⟨yb, hyb⟩ : ∃ x, x = xa ++ xc := ⟨_, rfl⟩
  have la : ya.length ≤ 8000 := by rw [hya, List.length_append]; omega
  have lb : yb.length ≤ 8000 := by rw [hyb, List.length_append]; omega
  have hla : xa.length + xb.length = ya.length := by rw [hya, List.length_append]
  have hlb : xa.length + xc.length = yb.length := by rw [hyb, List.length_append]
  rw [hla, hlb]
  rw [← hya] at hX hs9
  rw [← hyb] at hY hk9
  obtain ⟨S, hS⟩ : ∃ S, S = sumN smallS ya := ⟨_, rfl⟩
  obtain ⟨T, hT⟩ : ∃ S, S = sumN smallS yb := ⟨_, rfl⟩
  have hSl : S.length = 32 := by rw [hS]; exact sumN_len smallS ya
  have hTl : T.length = 32 := by rw [hT]; exact sumN_len smallS yb
  have KS := Lib.hid (fun wz (hz : Below v9.heap.size v9 wz) => hsum_rd (by omega) wz (hG.next (hc9.trans (hz.mono hc9.size))) (hs9.keep hz))
  have KT := Lib.hid (fun wz (hz : Below v9.heap.size v9 wz) => hsum_rd (by omega) wz (hG.next (hc9.trans (hz.mono hc9.size))) (hk9.keep hz))
  have KR := Lib.hid (fun A c wz (h : Rd wz wz.heap.size A c ya) => r256 ya A c wz (by omega) h)
  have KR2 := Lib.hid (fun A c wz (h : Rd wz wz.heap.size A c yb) => r256 yb A c wz (by omega) h)
  rw [← hS] at KS KR
  rw [← hT] at KT KR2
  have KA := Lib.hid (fun wz (hz : Below v9.heap.size v9 wz) => awakeC wz (hG.next (hc9.trans (hz.mono hc9.size))))
  clear hS hT hs9 hk9 hG hya hyb hla hlb ra rb rc na nb nc g1 g2 g3 la lb
  refine wp_region_inv 19 [48, 49, 50, 51, 52, 53, 54, 55, 56, 57, 58, 59, 60, 61, 62, 63, 64, 65, 66] [.val (.pointer (some ⟨g, 0, none⟩)), .byt S, .val (.string ⟨S.toArray⟩), .byt ya, .byt S, .val (.string ⟨S.toArray⟩), .val (.bool true), .val (.bool true), .val (.pointer (some ⟨gk, 0, none⟩)), .byt T, .val (.string ⟨T.toArray⟩), .byt yb, .byt T, .val (.string ⟨T.toArray⟩), .val (.bool true), .val (.bool true), .val (.bool true), .val (.bool true), .val (.bool true)] (fun wz => Below v9.heap.size v9 wz) (by kernel_rfl) (by kernel_rfl) (fun wz wz' hz hb => hz.trans (hb.mono hz.size)) ((Below.refl _ _).drew) (fun u => by simp only [puts, List.foldl_cons, List.foldl_nil]; go_simp; exact rfl) ?_ ?_
  · simp only [List.take_succ_cons, List.take_zero]
    refine Obs.cons (fun u w hS hd => ?_) ?_
    · exact Gv.run (.pointer (some ⟨g, 0, none⟩)) rfl (by go_simp) rfl
    refine Obs.cons (fun u w hS hd => ?_) ?_
    · have d48 : u 48 = .pointer (some ⟨g, 0, none⟩) := dep hd 0 rfl
      rw [d48]
      refine Gv.call 17 #[.pointer (some ⟨g, 0, none⟩)] rfl (by go_simp) ((KS.out w hS).mono ?_)
      rintro e w' ⟨A, c, rfl, R, hb⟩
      exact ⟨_, rfl, ⟨A, c, by rw [hSl], R⟩, hb⟩
    refine Obs.cons (fun u w hS hd => ?_) ?_
    · obtain ⟨A49, c49, d49, g49⟩ : (Know.byt S).ok (u 49) w := dep hd 1 rfl
      rw [hSl] at d49
      rw [d49]
      exact Gv.run (.string ⟨S.toArray⟩) rfl (run_conv rfl rfl (str6 w hSl g49)) rfl
    refine Obs.cons (fun u w hS hd => ?_) ?_
    · exact Gv.run (.slice AX ya.length cx) rfl (by go_simp) (⟨_, _, rfl, (hX.keep hS).mono hS.size⟩)
    refine Obs.cons (fun u w hS hd => ?_) ?_
    · obtain ⟨A51, c51, d51, g51⟩ : (Know.byt ya).ok (u 51) w := dep hd 3 rfl
      rw [d51]
      refine Gv.call 12 #[.slice A51 ya.length c51] rfl (by go_simp) ((KR.out _ _ w g51).mono ?_)
      rintro e w' ⟨A, c, rfl, R, hb⟩
      exact ⟨_, rfl, ⟨A, c, by rw [hSl], R⟩, hb⟩
    refine Obs.cons (fun u w hS hd => ?_) ?_
    · obtain ⟨A52, c52, d52, g52⟩ : (Know.byt S).ok (u 52) w := dep hd 4 rfl
      rw [hSl] at d52
      rw [d52]
      exact Gv.run (.string ⟨S.toArray⟩) rfl (run_conv rfl rfl (str6 w hSl g52)) rfl
    refine Obs.cons (fun u w hS hd => ?_) ?_
    · have d50 : u 50 = .string ⟨S.toArray⟩ := dep hd 2 rfl
      rw [d50]
      have d53 : u 53 = .string ⟨S.toArray⟩ := dep hd 5 rfl
      rw [d53]
      exact Gv.run (.bool true) rfl (by go_simp) rfl
    refine Obs.cons (fun u w hS hd => ?_) ?_
    · have d54 : u 54 = .bool true := dep hd 6 rfl
      rw [d54]
      exact Gv.run (.bool true) rfl (by go_simp) rfl
    refine Obs.cons (fun u w hS hd => ?_) ?_
    · have d55 : u 55 = .bool true := dep hd 7 rfl
      rw [d55]
      exact Gv.run (.pointer (some ⟨gk, 0, none⟩)) rfl (by go_simp) rfl
    refine Obs.cons (fun u w hS hd => ?_) ?_
    · have d55 : u 55 = .bool true := dep hd 7 rfl
      rw [d55]
      have d56 : u 56 = .pointer (some ⟨gk, 0, none⟩) := dep hd 8 rfl
      rw [d56]
      refine Gv.call 17 #[.pointer (some ⟨gk, 0, none⟩)] rfl (by go_simp) ((KT.out w hS).mono ?_)
      rintro e w' ⟨A, c, rfl, R, hb⟩
      exact ⟨_, rfl, ⟨A, c, by rw [hTl], R⟩, hb⟩
    refine Obs.cons (fun u w hS hd => ?_) ?_
    · have d55 : u 55 = .bool true := dep hd 7 rfl
      rw [d55]
      obtain ⟨A57, c57, d57, g57⟩ : (Know.byt T).ok (u 57) w := dep hd 9 rfl
      rw [hTl] at d57
      rw [d57]
      exact Gv.run (.string ⟨T.toArray⟩) rfl (run_conv rfl rfl (str6 w hTl g57)) rfl
    refine Obs.cons (fun u w hS hd => ?_) ?_
    · have d55 : u 55 = .bool true := dep hd 7 rfl
      rw [d55]
      exact Gv.run (.slice AY yb.length cy) rfl (by go_simp) (⟨_, _, rfl, (hY.keep hS).mono hS.size⟩)
    refine Obs.cons (fun u w hS hd => ?_) ?_
    · have d55 : u 55 = .bool true := dep hd 7 rfl
      rw [d55]
      obtain ⟨A59, c59, d59, g59⟩ : (Know.byt yb).ok (u 59) w := dep hd 11 rfl
      rw [d59]
      refine Gv.call 12 #[.slice A59 yb.length c59] rfl (by go_simp) ((KR2.out _ _ w g59).mono ?_)
      rintro e w' ⟨A, c, rfl, R, hb⟩
      exact ⟨_, rfl, ⟨A, c, by rw [hTl], R⟩, hb⟩
    refine Obs.cons (fun u w hS hd => ?_) ?_
    · have d55 : u 55 = .bool true := dep hd 7 rfl
      rw [d55]
      obtain ⟨A60, c60, d60, g60⟩ : (Know.byt T).ok (u 60) w := dep hd 12 rfl
      rw [hTl] at d60
      rw [d60]
      exact Gv.run (.string ⟨T.toArray⟩) rfl (run_conv rfl rfl (str6 w hTl g60)) rfl
    refine Obs.cons (fun u w hS hd => ?_) ?_
    · have d55 : u 55 = .bool true := dep hd 7 rfl
      rw [d55]
      have d58 : u 58 = .string ⟨T.toArray⟩ := dep hd 10 rfl
      rw [d58]
      have d61 : u 61 = .string ⟨T.toArray⟩ := dep hd 13 rfl
      rw [d61]
      exact Gv.run (.bool true) rfl (by go_simp) rfl
    refine Obs.cons (fun u w hS hd => ?_) ?_
    · have d55 : u 55 = .bool true := dep hd 7 rfl
      rw [d55]
      have d62 : u 62 = .bool true := dep hd 14 rfl
      rw [d62]
      exact Gv.run (.bool true) rfl (by go_simp) rfl
    refine Obs.cons (fun u w hS hd => ?_) ?_
    · have d63 : u 63 = .bool true := dep hd 15 rfl
      rw [d63]
      exact Gv.run (.bool true) rfl (by go_simp) rfl
    refine Obs.cons (fun u w hS hd => ?_) ?_
    · have d64 : u 64 = .bool true := dep hd 16 rfl
      rw [d64]
      refine Gv.call 9 #[] rfl (by go_simp) ((KA.out w hS).mono ?_)
      rintro e w' ⟨rfl, hb⟩
      exact ⟨_, rfl, rfl, hb⟩
    refine Obs.cons (fun u w hS hd => ?_) ?_
    · have d64 : u 64 = .bool true := dep hd 16 rfl
      rw [d64]
      have d65 : u 65 = .bool true := dep hd 17 rfl
      rw [d65]
      exact Gv.run (.bool true) rfl (by go_simp) rfl
    exact Obs.nil
  intro u wz hS hd
  have d66 : u 66 = .bool true := hd 18 (by decide)
  rw [d66]
  simp only [List.drop_succ_cons, List.drop_zero]
  go_wp2_with fail
  go_ret
  exact ⟨rfl, hc9.trans (hS.mono hc9.size)⟩
theorem clones_much {A0 A1 A2 : Option Addr} {n0 n1 n2 c0 c1 c2 : Nat} (hn : 4000 < n0 ∨ (n0 ≤ 4000 ∧ 4000 < n1) ∨ (n0 ≤ 4000 ∧ n1 ≤ 4000 ∧ 4000 < n2)) (w : World) (hG : Glb w) :
    Calls Tryd.prog 6 #[.slice A0 n0 c0, .slice A1 n1 c1, .slice A2 n2 c2] w fun e w' => e = .returned (.bool true) ∧ Below w.heap.size w w' := by
  have KA := Lib.hid (awakeC w hG)
  rcases hn with h | ⟨h, h'⟩ | ⟨h, h', h2⟩
  · have g1 : (4000 : Int) < (n0 : Int) := by omega
    go_enter Tryd.func6, Tryd.ntmps6
    go_wp2_with fail
    go_at_call 9
    refine KA.out.mono ?_
    rintro e v1 ⟨rfl, hc⟩
    go_wp2_with fail
    go_ret
    exact ⟨rfl, hc⟩
  · have g1 : ¬ (4000 : Int) < (n0 : Int) := by omega
    have g2 : (4000 : Int) < (n1 : Int) := by omega
    go_enter Tryd.func6, Tryd.ntmps6
    go_wp2_with fail
    go_at_call 9
    refine KA.out.mono ?_
    rintro e v1 ⟨rfl, hc⟩
    go_wp2_with fail
    go_ret
    exact ⟨rfl, hc⟩
  · have g1 : ¬ (4000 : Int) < (n0 : Int) := by omega
    have g2 : ¬ (4000 : Int) < (n1 : Int) := by omega
    have g3 : (4000 : Int) < (n2 : Int) := by omega
    go_enter Tryd.func6, Tryd.ntmps6
    go_wp2_with fail
    go_at_call 9
    refine KA.out.mono ?_
    rintro e v1 ⟨rfl, hc⟩
    go_wp2_with fail
    go_ret
    exact ⟨rfl, hc⟩
theorem clones_walk {A0 A1 A2 : Option Addr} {c0 c1 c2 : Nat} {xa xb xc : List UInt8} {w0 : World} (ra : Rd w0 w0.heap.size A0 c0 xa) (_la : xa.length ≤ 140737488351232) (rb : Rd w0 w0.heap.size A1 c1 xb) (_lb : xb.length ≤ 140737488351232) (rc : Rd w0 w0.heap.size A2 c2 xc) (_lc : xc.length ≤ 140737488351232) (w : World) (hw : w = w0) (hG : Glb w) :
    Calls Tryd.prog 6 #[.slice A0 xa.length c0, .slice A1 xb.length c1, .slice A2 xc.length c2] w fun e w' => e = .returned (.bool true) ∧ Below w.heap.size w w' := by
  subst hw
  by_cases na : xa.length ≤ 4000
  · by_cases nb : xb.length ≤ 4000
    · by_cases nc : xc.length ≤ 4000
      · exact clones_law na nb nc w ra rb rc hG
      · exact clones_much (.inr (.inr ⟨na, nb, by omega⟩)) w hG
    · exact clones_much (.inr (.inl ⟨na, by omega⟩)) w hG
  · exact clones_much (.inl (by omega)) w hG
end
end Go.Proofs.YtbikldocjmelcaaDoor
