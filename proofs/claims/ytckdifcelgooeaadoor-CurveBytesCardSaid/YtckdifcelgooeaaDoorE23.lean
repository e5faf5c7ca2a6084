/-
  Layer 8's CurveBytes over contracts. Written by tools/gen_e23.py. By an AI agent.
-/
import Derived.Test.YtckdifcelgooeaaDoorE18
import Derived.Test.YtckdifcelgooeaaDoorE14
namespace Go.Proofs.YtckdifcelgooeaaDoor
open Go Go.RowKit
section
attribute [local irreducible] wd by8 d16 set16w fl rl setA t3f set8p set4w
set_option maxRecDepth 20000
set_option maxHeartbeats 6400000 in
theorem bytes8_a {G : World → Prop} (hGn : ∀ w w', G w → Below w.heap.size w w' → G w') {x y k l er c : Nat} {A : Option Addr} {bs : List UInt8} (hl : bs.length ≤ 140737488355328) (hk : k < W4) (hk2 : l < W4)
    (kd : ∀ (A : Option Addr) (c : Nat) (w : World), G w → Rd w w.heap.size A c bs → Calls Tryd.prog 32 #[.slice A bs.length c] w fun e w' => e = .returned (.tuple #[prv k l, .int .i64 (er : Int)]) ∧ Below w.heap.size w w')
    (kp : ∀ (A : Option Addr) (c : Nat) (w : World), Rd w w.heap.size A c bs → Calls Tryd.prog 33 #[.slice A bs.length c] w fun e w' => e = .returned (.tuple #[prv k l, .int .i64 (er : Int)]) ∧ Below w.heap.size w w')
    (ke : ∀ w, G w → Calls Tryd.prog 34 #[prv x y] w fun e w' => (∃ A c, e = .returned (.tuple #[.slice A 0 c, .int .i64 7])) ∧ Below w.heap.size w w')
    (k1 : ∀ w, Calls Tryd.prog 13 #[prv x y] w fun e w' => e = .returned (.bool false) ∧ Below w.heap.size w w')
    (k9 : ∀ w, G w → Calls Tryd.prog 20 #[] w fun e w' => e = .returned (.bool true) ∧ Below w.heap.size w w')
    (w : World) (hr : Rd w w.heap.size A c bs) (hG : G w) : Calls Tryd.prog 8 #[.slice A bs.length c, prv x y] w fun e w' => e = .returned (.bool true) ∧ Below w.heap.size w w' := by
  have K1 := Lib.hid k1
  have K9 := Lib.hid k9
  have GN := Lib.hid hGn
  have HG := Lib.hid hG
  clear hGn hG k1 k9
  have KD := Lib.hid kd
  have KP := Lib.hid kp
  have KE := Lib.hid ke
  have HL := Lib.hid hl
  clear kd kp ke hl
  obtain ⟨i0, hi, hz0, hz1, hz2⟩ := info_parts infoByte
  obtain ⟨v1, ev1⟩ : ∃ v, v = w.alloc (A8p x y) := ⟨_, rfl⟩
  have bv1 : Below w.heap.size w v1 := by rw [ev1]; exact (Below.refl _ _).alloc (Nat.le_refl _) _
  have sv1 : v1.heap.size = w.heap.size + 1 := by rw [ev1]; simp
  obtain ⟨g3, eg3⟩ : ∃ g, g = w.heap.size := ⟨_, rfl⟩
  have o3 : O8 v1 w.heap.size g3 x y := by rw [eg3, ev1]; exact O8.new (Nat.le_refl _) x y
  have hc := bv1
  have hs1 := hc.size
  go_enter Tryd.func8, Tryd.ntmps8
  go_upto_region 1 with fail
  rw [← ev1]
  rw [show Value.pointer (some ⟨w.heap.size, 0, none⟩) = .pointer (some ⟨g3, 0, none⟩) by rw [eg3]]
  clear ev1 bv1 sv1 eg3 hs1
  replace HG := Lib.hid (GN.out _ _ HG.out hc)
  have r0 := (hr.keep hc).mono hc.size
  have h2 := r0.keep ((Below.refl _ v1).alloc (Nat.le_refl _) (.cells #[] 5))
  have h3 : Own (v1.alloc (.cells #[] 5)) v1.heap.size 5 (some ⟨v1.heap.size, 0, none⟩) 0 [] := World.ownsRow_made v1 #[] 0 (Nat.le_refl _) (by decide) (by decide)
  have h4 : Below v1.heap.size v1 (v1.alloc (.cells #[] 5)) := (Below.refl _ v1).alloc (Nat.le_refl _) _
  clear hr
  go_upto_region 2 with (at_builtin; refine wpList_app _ rfl (.tmp 12) (.tmp 13) _ rfl v1.heap.size 5 i0 _ Tryd.underlying54 hi hz0 hz1 hz2 rfl (xs := []) rfl h3 rfl h2 (by have := HL.out; simp only [List.length_nil]; omega) (by simp) ?_; intro A1 c1 vq ho hb; rw [show (([] : List UInt8) ++ bs).length = bs.length from rfl])
  replace ho : Own vq v1.heap.size 5 A1 c1 bs := ho
  replace hb := h4.trans hb
  clear h2 h3 h4
  replace o3 := O8.keep o3 hb
  replace HG := Lib.hid (GN.out _ _ HG.out hb)
  replace r0 := (r0.keep hb).mono hb.size
  replace hc := hc.trans (hb.mono hc.size)
  have r1 := ho.rd
  clear hb ho
  go_wp2_with (first | ((with_reducible refine p_load o3 ?_ ?_); rfl))
  go_at_call 32
  refine (KD.out _ _ _ HG.out r1).mono ?_
  rintro e y2 ⟨rfl, h0⟩
  replace o3 := O8.keep o3 h0
  replace HG := Lib.hid (GN.out _ _ HG.out h0)
  replace r0 := (r0.keep h0).mono h0.size
  replace r1 := (r1.keep h0).mono h0.size
  replace hc := hc.trans (h0.mono hc.size)
  clear h0
  have on0 := O8.newz (w := y2) (Nat.le_refl _)
  have o6 := (on0.put k l).mono hc.size
  have hbz := ((Below.refl _ y2).alloc (Nat.le_refl _) Z8p).trans (on0.below k l)
  replace o3 := O8.keep o3 hbz
  replace HG := Lib.hid (GN.out _ _ HG.out hbz)
  replace r0 := (r0.keep hbz).mono hbz.size
  replace r1 := (r1.keep hbz).mono hbz.size
  replace hc := hc.trans (hbz.mono hc.size)
  clear hbz
  go_upto_region 3 with ((with_reducible refine p_store on0 k l ?_ ?_ ?_); rfl; rfl)
  obtain ⟨y3, ev⟩ : ∃ v, v = set8p (y2.alloc Z8p) y2.heap.size k l := ⟨_, rfl⟩
  obtain ⟨g6, eg⟩ : ∃ g, g = y2.heap.size := ⟨_, rfl⟩
  rw [← ev] at o3 o6 r0 r1 hc ⊢
  have HG2 : G y3 := by rw [ev]; exact HG.out
  replace HG := Lib.hid HG2
  clear HG2
  rw [← eg] at o6 ⊢
  clear ev eg on0
  go_wp2_with (first | ((with_reducible refine p_load o3 ?_ ?_); rfl) | ((with_reducible refine p_load o6 ?_ ?_); rfl))
  go_at_call 33
  refine (KP.out _ _ _ r0).mono ?_
  rintro e y4 ⟨rfl, h0⟩
  replace o3 := O8.keep o3 h0
  replace o6 := O8.keep o6 h0
  replace HG := Lib.hid (GN.out _ _ HG.out h0)
  replace r0 := (r0.keep h0).mono h0.size
  replace r1 := (r1.keep h0).mono h0.size
  replace hc := hc.trans (h0.mono hc.size)
  clear h0
  have on0 := O8.newz (w := y4) (Nat.le_refl _)
  have o8 := (on0.put k l).mono hc.size
  have hbz := ((Below.refl _ y4).alloc (Nat.le_refl _) Z8p).trans (on0.below k l)
  replace o3 := O8.keep o3 hbz
  replace o6 := O8.keep o6 hbz
  replace HG := Lib.hid (GN.out _ _ HG.out hbz)
  replace r0 := (r0.keep hbz).mono hbz.size
  replace r1 := (r1.keep hbz).mono hbz.size
  replace hc := hc.trans (hbz.mono hc.size)
  clear hbz
  go_upto_region 4 with ((with_reducible refine p_store on0 k l ?_ ?_ ?_); rfl; rfl)
  obtain ⟨y5, ev⟩ : ∃ v, v = set8p (y4.alloc Z8p) y4.heap.size k l := ⟨_, rfl⟩
  obtain ⟨g8, eg⟩ : ∃ g, g = y4.heap.size := ⟨_, rfl⟩
  rw [← ev] at o3 o6 o8 r0 r1 hc ⊢
  have HG2 : G y5 := by rw [ev]; exact HG.out
  replace HG := Lib.hid HG2
  clear HG2
  rw [← eg] at o8 ⊢
  clear ev eg on0
  refine wp_region_obs 14 [25, 26, 27, 28, 29, 30, 31, 32, 33, 34, 35, 36, 37, 38] [.val (prv k l), .val (prv k l), .val (.bool false), .val (.bool false), .val (.int .i64 (er : Int)), .val (.int .i64 (er : Int)), .val (.bool false), .val (.bool false), .val (.bool false), .byt bs, .val (.string ⟨bs.toArray⟩), .byt bs, .val (.string ⟨bs.toArray⟩), .val (.bool false)] (fun wz => Below y5.heap.size y5 wz) (by kernel_rfl) (fun wz wz' hz hb => hz.trans (hb.mono hz.size)) (Below.refl _ _) (fun u => by simp only [puts, List.foldl_cons, List.foldl_nil]; go_simp; exact rfl) ?_ ?_
  · simp only [List.take_succ_cons, List.take_zero]
    refine ObsS.cons (fun u w hS hd => ?_) ?_
    · exact Gv.run (prv k l) rfl (run_pload rfl rfl (O8.keep o6 hS)) rfl
    refine ObsS.cons (fun u w hS hd => ?_) ?_
    · exact Gv.run (prv k l) rfl (run_pload rfl rfl (O8.keep o8 hS)) rfl
    refine ObsS.cons (fun u w hS hd => ?_) ?_
    · have d25 : u 25 = prv k l := hd 0 (by decide)
      rw [d25]
      have d26 : u 26 = prv k l := hd 1 (by decide)
      rw [d26]
      exact Gv.run (.bool false) rfl (run_neT rfl rfl rfl hk hk2 hk hk2 (by simp) w) rfl
    refine ObsS.cons (fun u w hS hd => ?_) ?_
    · have d27 : u 27 = .bool false := hd 2 (by decide)
      rw [d27]
      exact Gv.run (.bool false) rfl (by go_simp) rfl
    refine ObsS.cons (fun u w hS hd => ?_) ?_
    · have d28 : u 28 = .bool false := hd 3 (by decide)
      rw [d28]
      exact Gv.run (.int .i64 (er : Int)) rfl (by go_simp) rfl
    refine ObsS.cons (fun u w hS hd => ?_) ?_
    · have d28 : u 28 = .bool false := hd 3 (by decide)
      rw [d28]
      exact Gv.run (.int .i64 (er : Int)) rfl (by go_simp) rfl
    refine ObsS.cons (fun u w hS hd => ?_) ?_
    · have d28 : u 28 = .bool false := hd 3 (by decide)
      rw [d28]
      have d29 : u 29 = .int .i64 (er : Int) := hd 4 (by decide)
      rw [d29]
      have d30 : u 30 = .int .i64 (er : Int) := hd 5 (by decide)
      rw [d30]
      exact Gv.run (.bool false) rfl (by go_simp) rfl
    refine ObsS.cons (fun u w hS hd => ?_) ?_
    · have d28 : u 28 = .bool false := hd 3 (by decide)
      rw [d28]
      have d31 : u 31 = .bool false := hd 6 (by decide)
      rw [d31]
      exact Gv.run (.bool false) rfl (by go_simp) rfl
    refine ObsS.cons (fun u w hS hd => ?_) ?_
    · have d32 : u 32 = .bool false := hd 7 (by decide)
      rw [d32]
      exact Gv.run (.bool false) rfl (by go_simp) rfl
    refine ObsS.cons (fun u w hS hd => ?_) ?_
    · have d33 : u 33 = .bool false := hd 8 (by decide)
      rw [d33]
      exact Gv.run (.slice A1 bs.length c1) rfl (by go_simp) (⟨_, _, rfl, (r1.keep hS).mono hS.size⟩)
    refine ObsS.cons (fun u w hS hd => ?_) ?_
    · have d33 : u 33 = .bool false := hd 8 (by decide)
      rw [d33]
      obtain ⟨A34, c34, d34, g34⟩ : (Know.byt bs).ok (u 34) w := hd 9 (by decide)
      rw [d34]
      exact Gv.run (.string ⟨bs.toArray⟩) rfl (run_conv rfl rfl (run_str w 54 5 Tryd.underlying54 Tryd.underlying5 (dst := 9) Tryd.underlying9 g34)) rfl
    refine ObsS.cons (fun u w hS hd => ?_) ?_
    · have d33 : u 33 = .bool false := hd 8 (by decide)
      rw [d33]
      exact Gv.run (.slice A bs.length c) rfl (by go_simp) (⟨_, _, rfl, (r0.keep hS).mono hS.size⟩)
    refine ObsS.cons (fun u w hS hd => ?_) ?_
    · have d33 : u 33 = .bool false := hd 8 (by decide)
      rw [d33]
      obtain ⟨A36, c36, d36, g36⟩ : (Know.byt bs).ok (u 36) w := hd 11 (by decide)
      rw [d36]
      exact Gv.run (.string ⟨bs.toArray⟩) rfl (run_conv rfl rfl (run_str w 54 5 Tryd.underlying54 Tryd.underlying5 (dst := 9) Tryd.underlying9 g36)) rfl
    refine ObsS.cons (fun u w hS hd => ?_) ?_
    · have d33 : u 33 = .bool false := hd 8 (by decide)
      rw [d33]
      have d35 : u 35 = .string ⟨bs.toArray⟩ := hd 10 (by decide)
      rw [d35]
      have d37 : u 37 = .string ⟨bs.toArray⟩ := hd 12 (by decide)
      rw [d37]
      exact Gv.run (.bool false) rfl (by go_simp) rfl
    exact ObsS.nil
  intro uy6 y6 hS hd
  have d33 : uy6 33 = .bool false := hd 8 (by decide)
  have d38 : uy6 38 = .bool false := hd 13 (by decide)
  rw [d33, d38]
  replace o3 := O8.keep o3 hS
  replace o6 := O8.keep o6 hS
  replace o8 := O8.keep o8 hS
  replace HG := Lib.hid (GN.out _ _ HG.out hS)
  replace r0 := (r0.keep hS).mono hS.size
  replace r1 := (r1.keep hS).mono hS.size
  replace hc := hc.trans (hS.mono hc.size)
  clear hS hd d33 d38
  simp only [List.drop_succ_cons, List.drop_zero]
  go_wp2_with (first | ((with_reducible refine p_load o3 ?_ ?_); rfl) | ((with_reducible refine p_load o6 ?_ ?_); rfl) | ((with_reducible refine p_load o8 ?_ ?_); rfl))
  go_at_call 34
  refine (KE.out _ HG.out).mono ?_
  rintro e y7 ⟨⟨A2, c2, rfl⟩, h0⟩
  replace o3 := O8.keep o3 h0
  replace o6 := O8.keep o6 h0
  replace o8 := O8.keep o8 h0
  replace HG := Lib.hid (GN.out _ _ HG.out h0)
  replace r0 := (r0.keep h0).mono h0.size
  replace r1 := (r1.keep h0).mono h0.size
  replace hc := hc.trans (h0.mono hc.size)
  clear h0
  go_wp2_with (first | ((with_reducible refine p_load o3 ?_ ?_); rfl) | ((with_reducible refine p_load o6 ?_ ?_); rfl) | ((with_reducible refine p_load o8 ?_ ?_); rfl))
  go_at_call 13
  refine (K1.out _).mono ?_
  rintro e y8 ⟨rfl, h0⟩
  replace o3 := O8.keep o3 h0
  replace o6 := O8.keep o6 h0
  replace o8 := O8.keep o8 h0
  replace HG := Lib.hid (GN.out _ _ HG.out h0)
  replace r0 := (r0.keep h0).mono h0.size
  replace r1 := (r1.keep h0).mono h0.size
  replace hc := hc.trans (h0.mono hc.size)
  clear h0
  go_upto_region 8 with fail
  refine wp_region_obs 10 [48, 49, 50, 51, 52, 53, 54, 55, 56, 57] [.val (.slice A2 0 c2), .val (.int .i64 0), .val (.bool true), .val (.bool true), .val (.int .i64 7), .val (.bool true), .val (.bool true), .val (.bool true), .val (.bool true), .val (.bool true)] (fun wz => Below y8.heap.size y8 wz) (by kernel_rfl) (fun wz wz' hz hb => hz.trans (hb.mono hz.size)) (Below.refl _ _) (fun u => by simp only [puts, List.foldl_cons, List.foldl_nil]; go_simp; exact rfl) ?_ ?_
  · simp only [List.take_succ_cons, List.take_zero]
    refine ObsS.cons (fun u w hS hd => ?_) ?_
    · exact Gv.run (.slice A2 0 c2) rfl (by go_simp) rfl
    refine ObsS.cons (fun u w hS hd => ?_) ?_
    · have d48 : u 48 = .slice A2 0 c2 := hd 0 (by decide)
      rw [d48]
      exact Gv.run (.int .i64 0) rfl (by go_simp) rfl
    refine ObsS.cons (fun u w hS hd => ?_) ?_
    · have d49 : u 49 = .int .i64 0 := hd 1 (by decide)
      rw [d49]
      exact Gv.run (.bool true) rfl (by go_simp) rfl
    refine ObsS.cons (fun u w hS hd => ?_) ?_
    · have d50 : u 50 = .bool true := hd 2 (by decide)
      rw [d50]
      exact Gv.run (.bool true) rfl (by go_simp) rfl
    refine ObsS.cons (fun u w hS hd => ?_) ?_
    · have d51 : u 51 = .bool true := hd 3 (by decide)
      rw [d51]
      exact Gv.run (.int .i64 7) rfl (by go_simp) rfl
    refine ObsS.cons (fun u w hS hd => ?_) ?_
    · have d51 : u 51 = .bool true := hd 3 (by decide)
      rw [d51]
      have d52 : u 52 = .int .i64 7 := hd 4 (by decide)
      rw [d52]
      exact Gv.run (.bool true) rfl (by go_simp) rfl
    refine ObsS.cons (fun u w hS hd => ?_) ?_
    · have d51 : u 51 = .bool true := hd 3 (by decide)
      rw [d51]
      have d53 : u 53 = .bool true := hd 5 (by decide)
      rw [d53]
      exact Gv.run (.bool true) rfl (by go_simp) rfl
    refine ObsS.cons (fun u w hS hd => ?_) ?_
    · have d54 : u 54 = .bool true := hd 6 (by decide)
      rw [d54]
      exact Gv.run (.bool true) rfl (by go_simp) rfl
    refine ObsS.cons (fun u w hS hd => ?_) ?_
    · have d55 : u 55 = .bool true := hd 7 (by decide)
      rw [d55]
      refine Gv.call 20 #[] rfl (by go_simp) ((K9.out w (GN.out _ _ HG.out hS)).mono ?_)
      rintro e w' ⟨rfl, hb⟩
      exact ⟨_, rfl, rfl, hb⟩
    refine ObsS.cons (fun u w hS hd => ?_) ?_
    · have d55 : u 55 = .bool true := hd 7 (by decide)
      rw [d55]
      have d56 : u 56 = .bool true := hd 8 (by decide)
      rw [d56]
      exact Gv.run (.bool true) rfl (by go_simp) rfl
    exact ObsS.nil
  intro uy9 y9 hS hd
  have d57 : uy9 57 = .bool true := hd 9 (by decide)
  rw [d57]
  replace o3 := O8.keep o3 hS
  replace o6 := O8.keep o6 hS
  replace o8 := O8.keep o8 hS
  replace HG := Lib.hid (GN.out _ _ HG.out hS)
  replace r0 := (r0.keep hS).mono hS.size
  replace r1 := (r1.keep hS).mono hS.size
  replace hc := hc.trans (hS.mono hc.size)
  clear hS hd d57
  simp only [List.drop_succ_cons, List.drop_zero]
  go_wp2_with fail
  go_ret
  exact ⟨rfl, hc⟩
set_option maxHeartbeats 6400000 in
theorem bytes8_b {G : World → Prop} (hGn : ∀ w w', G w → Below w.heap.size w w' → G w') {x y k l er c : Nat} {A : Option Addr} {bs L : List UInt8} (hl : bs.length ≤ 140737488355328) (hk : k < W4) (hk2 : l < W4)
    (kd : ∀ (A : Option Addr) (c : Nat) (w : World), G w → Rd w w.heap.size A c bs → Calls Tryd.prog 32 #[.slice A bs.length c] w fun e w' => e = .returned (.tuple #[prv k l, .int .i64 (er : Int)]) ∧ Below w.heap.size w w')
    (kp : ∀ (A : Option Addr) (c : Nat) (w : World), Rd w w.heap.size A c bs → Calls Tryd.prog 33 #[.slice A bs.length c] w fun e w' => e = .returned (.tuple #[prv k l, .int .i64 (er : Int)]) ∧ Below w.heap.size w w')
    (ke : ∀ w, G w → Calls Tryd.prog 34 #[prv x y] w fun e w' => (∃ A c, e = .returned (.tuple #[.slice A L.length c, .int .i64 0]) ∧ Rd w' w'.heap.size A c L) ∧ Below w.heap.size w w')
    (kf : ∀ w, Calls Tryd.prog 35 #[prv x y] w fun e w' => ∃ A c, e = .returned (.slice A L.length c) ∧ Rd w' w'.heap.size A c L ∧ Below w.heap.size w w')
    (k1 : ∀ w, Calls Tryd.prog 13 #[prv x y] w fun e w' => e = .returned (.bool true) ∧ Below w.heap.size w w')
    (k9 : ∀ w, G w → Calls Tryd.prog 20 #[] w fun e w' => e = .returned (.bool true) ∧ Below w.heap.size w w')
    (w : World) (hr : Rd w w.heap.size A c bs) (hG : G w) : Calls Tryd.prog 8 #[.slice A bs.length c, prv x y] w fun e w' => e = .returned (.bool true) ∧ Below w.heap.size w w' := by
  have K1 := Lib.hid k1
  have K9 := Lib.hid k9
  have GN := Lib.hid hGn
  have HG := Lib.hid hG
  clear hGn hG k1 k9
  have KF := Lib.hid kf
  clear kf
  have KD := Lib.hid kd
  have KP := Lib.hid kp
  have KE := Lib.hid ke
  have HL := Lib.hid hl
  clear kd kp ke hl
  obtain ⟨i0, hi, hz0, hz1, hz2⟩ := info_parts infoByte
  obtain ⟨v1, ev1⟩ : ∃ v, v = w.alloc (A8p x y) := ⟨_, rfl⟩
  have bv1 : Below w.heap.size w v1 := by rw [ev1]; exact (Below.refl _ _).alloc (Nat.le_refl _) _
  have sv1 : v1.heap.size = w.heap.size + 1 := by rw [ev1]; simp
  obtain ⟨g3, eg3⟩ : ∃ g, g = w.heap.size := ⟨_, rfl⟩
  have o3 : O8 v1 w.heap.size g3 x y := by rw [eg3, ev1]; exact O8.new (Nat.le_refl _) x y
  have hc := bv1
  have hs1 := hc.size
  go_enter Tryd.func8, Tryd.ntmps8
  go_upto_region 1 with fail
  rw [← ev1]
  rw [show Value.pointer (some ⟨w.heap.size, 0, none⟩) = .pointer (some ⟨g3, 0, none⟩) by rw [eg3]]
  clear ev1 bv1 sv1 eg3 hs1
  replace HG := Lib.hid (GN.out _ _ HG.out hc)
  have r0 := (hr.keep hc).mono hc.size
  have h2 := r0.keep ((Below.refl _ v1).alloc (Nat.le_refl _) (.cells #[] 5))
  have h3 : Own (v1.alloc (.cells #[] 5)) v1.heap.size 5 (some ⟨v1.heap.size, 0, none⟩) 0 [] := World.ownsRow_made v1 #[] 0 (Nat.le_refl _) (by decide) (by decide)
  have h4 : Below v1.heap.size v1 (v1.alloc (.cells #[] 5)) := (Below.refl _ v1).alloc (Nat.le_refl _) _
  clear hr
  go_upto_region 2 with (at_builtin; refine wpList_app _ rfl (.tmp 12) (.tmp 13) _ rfl v1.heap.size 5 i0 _ Tryd.underlying54 hi hz0 hz1 hz2 rfl (xs := []) rfl h3 rfl h2 (by have := HL.out; simp only [List.length_nil]; omega) (by simp) ?_; intro A1 c1 vq ho hb; rw [show (([] : List UInt8) ++ bs).length = bs.length from rfl])
  replace ho : Own vq v1.heap.size 5 A1 c1 bs := ho
  replace hb := h4.trans hb
  clear h2 h3 h4
  replace o3 := O8.keep o3 hb
  replace HG := Lib.hid (GN.out _ _ HG.out hb)
  replace r0 := (r0.keep hb).mono hb.size
  replace hc := hc.trans (hb.mono hc.size)
  have r1 := ho.rd
  clear hb ho
  go_wp2_with (first | ((with_reducible refine p_load o3 ?_ ?_); rfl))
  go_at_call 32
  refine (KD.out _ _ _ HG.out r1).mono ?_
  rintro e y2 ⟨rfl, h0⟩
  replace o3 := O8.keep o3 h0
  replace HG := Lib.hid (GN.out _ _ HG.out h0)
  replace r0 := (r0.keep h0).mono h0.size
  replace r1 := (r1.keep h0).mono h0.size
  replace hc := hc.trans (h0.mono hc.size)
  clear h0
  have on0 := O8.newz (w := y2) (Nat.le_refl _)
  have o6 := (on0.put k l).mono hc.size
  have hbz := ((Below.refl _ y2).alloc (Nat.le_refl _) Z8p).trans (on0.below k l)
  replace o3 := O8.keep o3 hbz
  replace HG := Lib.hid (GN.out _ _ HG.out hbz)
  replace r0 := (r0.keep hbz).mono hbz.size
  replace r1 := (r1.keep hbz).mono hbz.size
  replace hc := hc.trans (hbz.mono hc.size)
  clear hbz
  go_upto_region 3 with ((with_reducible refine p_store on0 k l ?_ ?_ ?_); rfl; rfl)
  obtain ⟨y3, ev⟩ : ∃ v, v = set8p (y2.alloc Z8p) y2.heap.size k l := ⟨_, rfl⟩
  obtain ⟨g6, eg⟩ : ∃ g, g = y2.heap.size := ⟨_, rfl⟩
  rw [← ev] at o3 o6 r0 r1 hc ⊢
  have HG2 : G y3 := by rw [ev]; exact HG.out
  replace HG := Lib.hid HG2
  clear HG2
  rw [← eg] at o6 ⊢
  clear ev eg on0
  go_wp2_with (first | ((with_reducible refine p_load o3 ?_ ?_); rfl) | ((with_reducible refine p_load o6 ?_ ?_); rfl))
  go_at_call 33
  refine (KP.out _ _ _ r0).mono ?_
  rintro e y4 ⟨rfl, h0⟩
  replace o3 := O8.keep o3 h0
  replace o6 := O8.keep o6 h0
  replace HG := Lib.hid (GN.out _ _ HG.out h0)
  replace r0 := (r0.keep h0).mono h0.size
  replace r1 := (r1.keep h0).mono h0.size
  replace hc := hc.trans (h0.mono hc.size)
  clear h0
  have on0 := O8.newz (w := y4) (Nat.le_refl _)
  have o8 := (on0.put k l).mono hc.size
  have hbz := ((Below.refl _ y4).alloc (Nat.le_refl _) Z8p).trans (on0.below k l)
  replace o3 := O8.keep o3 hbz
  replace o6 := O8.keep o6 hbz
  replace HG := Lib.hid (GN.out _ _ HG.out hbz)
  replace r0 := (r0.keep hbz).mono hbz.size
  replace r1 := (r1.keep hbz).mono hbz.size
  replace hc := hc.trans (hbz.mono hc.size)
  clear hbz
  go_upto_region 4 with ((with_reducible refine p_store on0 k l ?_ ?_ ?_); rfl; rfl)
  obtain ⟨y5, ev⟩ : ∃ v, v = set8p (y4.alloc Z8p) y4.heap.size k l := ⟨_, rfl⟩
  obtain ⟨g8, eg⟩ : ∃ g, g = y4.heap.size := ⟨_, rfl⟩
  rw [← ev] at o3 o6 o8 r0 r1 hc ⊢
  have HG2 : G y5 := by rw [ev]; exact HG.out
  replace HG := Lib.hid HG2
  clear HG2
  rw [← eg] at o8 ⊢
  clear ev eg on0
  refine wp_region_obs 14 [25, 26, 27, 28, 29, 30, 31, 32, 33, 34, 35, 36, 37, 38] [.val (prv k l), .val (prv k l), .val (.bool false), .val (.bool false), .val (.int .i64 (er : Int)), .val (.int .i64 (er : Int)), .val (.bool false), .val (.bool false), .val (.bool false), .byt bs, .val (.string ⟨bs.toArray⟩), .byt bs, .val (.string ⟨bs.toArray⟩), .val (.bool false)] (fun wz => Below y5.heap.size y5 wz) (by kernel_rfl) (fun wz wz' hz hb => hz.trans (hb.mono hz.size)) (Below.refl _ _) (fun u => by simp only [puts, List.foldl_cons, List.foldl_nil]; go_simp; exact rfl) ?_ ?_
  · simp only [List.take_succ_cons, List.take_zero]
    refine ObsS.cons (fun u w hS hd => ?_) ?_
    · exact Gv.run (prv k l) rfl (run_pload rfl rfl (O8.keep o6 hS)) rfl
    refine ObsS.cons (fun u w hS hd => ?_) ?_
    · exact Gv.run (prv k l) rfl (run_pload rfl rfl (O8.keep o8 hS)) rfl
    refine ObsS.cons (fun u w hS hd => ?_) ?_
    · have d25 : u 25 = prv k l := hd 0 (by decide)
      rw [d25]
      have d26 : u 26 = prv k l := hd 1 (by decide)
      rw [d26]
      exact Gv.run (.bool false) rfl (run_neT rfl rfl rfl hk hk2 hk hk2 (by simp) w) rfl
    refine ObsS.cons (fun u w hS hd => ?_) ?_
    · have d27 : u 27 = .bool false := hd 2 (by decide)
      rw [d27]
      exact Gv.run (.bool false) rfl (by go_simp) rfl
    refine ObsS.cons (fun u w hS hd => ?_) ?_
    · have d28 : u 28 = .bool false := hd 3 (by decide)
      rw [d28]
      exact Gv.run (.int .i64 (er : Int)) rfl (by go_simp) rfl
    refine ObsS.cons (fun u w hS hd => ?_) ?_
    · have d28 : u 28 = .bool false := hd 3 (by decide)
      rw [d28]
      exact Gv.run (.int .i64 (er : Int)) rfl (by go_simp) rfl
    refine ObsS.cons (fun u w hS hd => ?_) ?_
    · have d28 : u 28 = .bool false := hd 3 (by decide)
      rw [d28]
      have d29 : u 29 = .int .i64 (er : Int) := hd 4 (by decide)
      rw [d29]
      have d30 : u 30 = .int .i64 (er : Int) := hd 5 (by decide)
      rw [d30]
      exact Gv.run (.bool false) rfl (by go_simp) rfl
    refine ObsS.cons (fun u w hS hd => ?_) ?_
    · have d28 : u 28 = .bool false := hd 3 (by decide)
      rw [d28]
      have d31 : u 31 = .bool false := hd 6 (by decide)
      rw [d31]
      exact Gv.run (.bool false) rfl (by go_simp) rfl
    refine ObsS.cons (fun u w hS hd => ?_) ?_
    · have d32 : u 32 = .bool false := hd 7 (by decide)
      rw [d32]
      exact Gv.run (.bool false) rfl (by go_simp) rfl
    refine ObsS.cons (fun u w hS hd => ?_) ?_
    · have d33 : u 33 = .bool false := hd 8 (by decide)
      rw [d33]
      exact Gv.run (.slice A1 bs.length c1) rfl (by go_simp) (⟨_, _, rfl, (r1.keep hS).mono hS.size⟩)
    refine ObsS.cons (fun u w hS hd => ?_) ?_
    · have d33 : u 33 = .bool false := hd 8 (by decide)
      rw [d33]
      obtain ⟨A34, c34, d34, g34⟩ : (Know.byt bs).ok (u 34) w := hd 9 (by decide)
      rw [d34]
      exact Gv.run (.string ⟨bs.toArray⟩) rfl (run_conv rfl rfl (run_str w 54 5 Tryd.underlying54 Tryd.underlying5 (dst := 9) Tryd.underlying9 g34)) rfl
    refine ObsS.cons (fun u w hS hd => ?_) ?_
    · have d33 : u 33 = .bool false := hd 8 (by decide)
      rw [d33]
      exact Gv.run (.slice A bs.length c) rfl (by go_simp) (⟨_, _, rfl, (r0.keep hS).mono hS.size⟩)
    refine ObsS.cons (fun u w hS hd => ?_) ?_
    · have d33 : u 33 = .bool false := hd 8 (by decide)
      rw [d33]
      obtain ⟨A36, c36, d36, g36⟩ : (Know.byt bs).ok (u 36) w := hd 11 (by decide)
      rw [d36]
      exact Gv.run (.string ⟨bs.toArray⟩) rfl (run_conv rfl rfl (run_str w 54 5 Tryd.underlying54 Tryd.underlying5 (dst := 9) Tryd.underlying9 g36)) rfl
    refine ObsS.cons (fun u w hS hd => ?_) ?_
    · have d33 : u 33 = .bool false := hd 8 (by decide)
      rw [d33]
      have d35 : u 35 = .string ⟨bs.toArray⟩ := hd 10 (by decide)
      rw [d35]
      have d37 : u 37 = .string ⟨bs.toArray⟩ := hd 12 (by decide)
      rw [d37]
      exact Gv.run (.bool false) rfl (by go_simp) rfl
    exact ObsS.nil
  intro uy6 y6 hS hd
  have d33 : uy6 33 = .bool false := hd 8 (by decide)
  have d38 : uy6 38 = .bool false := hd 13 (by decide)
  rw [d33, d38]
  replace o3 := O8.keep o3 hS
  replace o6 := O8.keep o6 hS
  replace o8 := O8.keep o8 hS
  replace HG := Lib.hid (GN.out _ _ HG.out hS)
  replace r0 := (r0.keep hS).mono hS.size
  replace r1 := (r1.keep hS).mono hS.size
  replace hc := hc.trans (hS.mono hc.size)
  clear hS hd d33 d38
  simp only [List.drop_succ_cons, List.drop_zero]
  go_wp2_with (first | ((with_reducible refine p_load o3 ?_ ?_); rfl) | ((with_reducible refine p_load o6 ?_ ?_); rfl) | ((with_reducible refine p_load o8 ?_ ?_); rfl))
  go_at_call 34
  refine (KE.out _ HG.out).mono ?_
  rintro e y7 ⟨⟨A2, c2, rfl, r2⟩, h0⟩
  replace o3 := O8.keep o3 h0
  replace o6 := O8.keep o6 h0
  replace o8 := O8.keep o8 h0
  replace HG := Lib.hid (GN.out _ _ HG.out h0)
  replace r0 := (r0.keep h0).mono h0.size
  replace r1 := (r1.keep h0).mono h0.size
  replace hc := hc.trans (h0.mono hc.size)
  clear h0
  go_wp2_with (first | ((with_reducible refine p_load o3 ?_ ?_); rfl) | ((with_reducible refine p_load o6 ?_ ?_); rfl) | ((with_reducible refine p_load o8 ?_ ?_); rfl))
  go_at_call 13
  refine (K1.out _).mono ?_
  rintro e y8 ⟨rfl, h0⟩
  replace o3 := O8.keep o3 h0
  replace o6 := O8.keep o6 h0
  replace o8 := O8.keep o8 h0
  replace HG := Lib.hid (GN.out _ _ HG.out h0)
  replace r0 := (r0.keep h0).mono h0.size
  replace r1 := (r1.keep h0).mono h0.size
  replace r2 := (r2.keep h0).mono h0.size
  replace hc := hc.trans (h0.mono hc.size)
  clear h0
  go_upto_region 9 with fail
  refine wp_region_inv 13 [58, 59, 60, 61, 62, 63, 64, 65, 66, 67, 68, 69, 70] [.byt L, .val (.string ⟨L.toArray⟩), .val (prv x y), .byt L, .val (.string ⟨L.toArray⟩), .val (.bool true), .val (.bool true), .val (.int .i64 0), .val (.bool true), .val (.bool true), .val (.bool true), .val (.bool true), .val (.bool true)] (fun wz => Below y8.heap.size y8 wz) (by kernel_rfl) (by kernel_rfl) (fun wz wz' hz hb => hz.trans (hb.mono hz.size)) ((Below.refl _ _).drew) (fun u => by simp only [puts, List.foldl_cons, List.foldl_nil]; go_simp; exact rfl) ?_ ?_
  · simp only [List.take_succ_cons, List.take_zero]
    refine Obs.cons (fun u w hS hd => ?_) ?_
    · exact Gv.run (.slice A2 L.length c2) rfl (by go_simp) (⟨_, _, rfl, (r2.keep hS).mono hS.size⟩)
    refine Obs.cons (fun u w hS hd => ?_) ?_
    · obtain ⟨A58, c58, d58, g58⟩ : (Know.byt L).ok (u 58) w := dep hd 0 rfl
      rw [d58]
      exact Gv.run (.string ⟨L.toArray⟩) rfl (run_conv rfl rfl (run_str w 54 5 Tryd.underlying54 Tryd.underlying5 (dst := 9) Tryd.underlying9 g58)) rfl
    refine Obs.cons (fun u w hS hd => ?_) ?_
    · exact Gv.run (prv x y) rfl (run_pload rfl rfl (O8.keep o3 hS)) rfl
    refine Obs.cons (fun u w hS hd => ?_) ?_
    · have d60 : u 60 = prv x y := dep hd 2 rfl
      rw [d60]
      refine Gv.call 35 #[prv x y] rfl (by go_simp) ((KF.out w).mono ?_)
      rintro e w' ⟨A, c, rfl, R, hb⟩
      exact ⟨_, rfl, ⟨A, c, rfl, R⟩, hb⟩
    refine Obs.cons (fun u w hS hd => ?_) ?_
    · obtain ⟨A61, c61, d61, g61⟩ : (Know.byt L).ok (u 61) w := dep hd 3 rfl
      rw [d61]
      exact Gv.run (.string ⟨L.toArray⟩) rfl (run_conv rfl rfl (run_str w 54 5 Tryd.underlying54 Tryd.underlying5 (dst := 9) Tryd.underlying9 g61)) rfl
    refine Obs.cons (fun u w hS hd => ?_) ?_
    · have d59 : u 59 = .string ⟨L.toArray⟩ := dep hd 1 rfl
      rw [d59]
      have d62 : u 62 = .string ⟨L.toArray⟩ := dep hd 4 rfl
      rw [d62]
      exact Gv.run (.bool true) rfl (by go_simp) rfl
    refine Obs.cons (fun u w hS hd => ?_) ?_
    · have d63 : u 63 = .bool true := dep hd 5 rfl
      rw [d63]
      exact Gv.run (.bool true) rfl (by go_simp) rfl
    refine Obs.cons (fun u w hS hd => ?_) ?_
    · have d64 : u 64 = .bool true := dep hd 6 rfl
      rw [d64]
      exact Gv.run (.int .i64 0) rfl (by go_simp) rfl
    refine Obs.cons (fun u w hS hd => ?_) ?_
    · have d64 : u 64 = .bool true := dep hd 6 rfl
      rw [d64]
      have d65 : u 65 = .int .i64 0 := dep hd 7 rfl
      rw [d65]
      exact Gv.run (.bool true) rfl (by go_simp) rfl
    refine Obs.cons (fun u w hS hd => ?_) ?_
    · have d64 : u 64 = .bool true := dep hd 6 rfl
      rw [d64]
      have d66 : u 66 = .bool true := dep hd 8 rfl
      rw [d66]
      exact Gv.run (.bool true) rfl (by go_simp) rfl
    refine Obs.cons (fun u w hS hd => ?_) ?_
    · have d67 : u 67 = .bool true := dep hd 9 rfl
      rw [d67]
      exact Gv.run (.bool true) rfl (by go_simp) rfl
    refine Obs.cons (fun u w hS hd => ?_) ?_
    · have d68 : u 68 = .bool true := dep hd 10 rfl
      rw [d68]
      refine Gv.call 20 #[] rfl (by go_simp) ((K9.out w (GN.out _ _ HG.out hS)).mono ?_)
      rintro e w' ⟨rfl, hb⟩
      exact ⟨_, rfl, rfl, hb⟩
    refine Obs.cons (fun u w hS hd => ?_) ?_
    · have d68 : u 68 = .bool true := dep hd 10 rfl
      rw [d68]
      have d69 : u 69 = .bool true := dep hd 11 rfl
      rw [d69]
      exact Gv.run (.bool true) rfl (by go_simp) rfl
    exact Obs.nil
  intro uy9 y9 hS hd
  have d70 : uy9 70 = .bool true := hd 12 (by decide)
  rw [d70]
  replace o3 := O8.keep o3 hS
  replace o6 := O8.keep o6 hS
  replace o8 := O8.keep o8 hS
  replace HG := Lib.hid (GN.out _ _ HG.out hS)
  replace r0 := (r0.keep hS).mono hS.size
  replace r1 := (r1.keep hS).mono hS.size
  replace r2 := (r2.keep hS).mono hS.size
  replace hc := hc.trans (hS.mono hc.size)
  clear hS hd d70
  simp only [List.drop_succ_cons, List.drop_zero]
  go_wp2_with fail
  go_ret
  exact ⟨rfl, hc⟩
end
end Go.Proofs.YtckdifcelgooeaaDoor
