/-
  Layer 8's CurveForm over contracts. Written by tools/gen_e24.py. By an AI agent.
-/
import Derived.Test.YtckdifcelgooeaaDoorE18
import Derived.Test.YtckdifcelgooeaaDoorE14
namespace Go.Proofs.YtckdifcelgooeaaDoor
open Go Go.RowKit
section
attribute [local irreducible] wd by8 d16 set16w fl rl setA t3f set8p set4w
set_option maxRecDepth 20000
set_option maxHeartbeats 6400000 in
theorem form8_00 {G : World → Prop} (hGn : ∀ w w', G w → Below w.heap.size w w' → G w') {x y er c : Nat} {A : Option Addr} {bs : List UInt8} (hl : bs.length ≤ 140737488355328) (her : er ≠ 0)
    (ke : ∀ w, G w → Calls Tryd.prog 34 #[prv x y] w fun e w' => (∃ A c, e = .returned (.tuple #[.slice A 0 c, .int .i64 7])) ∧ Below w.heap.size w w')
    (kb : ∀ (A : Option Addr) (c : Nat) (w : World), G w → Rd w w.heap.size A c bs → Calls Tryd.prog 32 #[.slice A bs.length c] w fun e w' => e = .returned (.tuple #[prv 0 0, .int .i64 (er : Int)]) ∧ Below w.heap.size w w')
    (k9 : ∀ w, G w → Calls Tryd.prog 20 #[] w fun e w' => e = .returned (.bool true) ∧ Below w.heap.size w w')
    (w : World) (hr : Rd w w.heap.size A c bs) (hG : G w) : Calls Tryd.prog 11 #[prv x y, .slice A bs.length c] w fun e w' => e = .returned (.bool true) ∧ Below w.heap.size w w' := by
  have K9 := Lib.hid k9
  have GN := Lib.hid hGn
  have HG := Lib.hid hG
  clear hGn hG k9
  have KE := Lib.hid ke
  have KB := Lib.hid kb
  have HL := Lib.hid hl
  clear hl ke kb
  obtain ⟨i0, hi, hz0, hz1, hz2⟩ := info_parts infoByte
  have q1 : ((er : Int) == 0) = false := beq_eq_false_iff_ne.2 (by omega)
  have q2 : ((er : Int) != 0) = true := by simp; omega
  clear her
  obtain ⟨v1, ev1⟩ : ∃ v, v = w.alloc (A8p x y) := ⟨_, rfl⟩
  have bv1 : Below w.heap.size w v1 := by rw [ev1]; exact (Below.refl _ _).alloc (Nat.le_refl _) _
  have sv1 : v1.heap.size = w.heap.size + 1 := by rw [ev1]; simp
  obtain ⟨g2, eg2⟩ : ∃ g, g = w.heap.size := ⟨_, rfl⟩
  have o2 : O8 v1 w.heap.size g2 x y := by rw [eg2, ev1]; exact O8.new (Nat.le_refl _) x y
  have hc := bv1
  have hs1 := hc.size
  go_enter Tryd.func11, Tryd.ntmps11
  go_upto_region 1 with fail
  rw [← ev1]
  rw [show Value.pointer (some ⟨w.heap.size, 0, none⟩) = .pointer (some ⟨g2, 0, none⟩) by rw [eg2]]
  clear ev1 bv1 sv1 eg2 hs1
  replace HG := Lib.hid (GN.out _ _ HG.out hc)
  have r0 := (hr.keep hc).mono hc.size
  clear hr
  go_wp2_with (first | ((with_reducible refine p_load o2 ?_ ?_); rfl))
  go_at_call 34
  refine (KE.out _ HG.out).mono ?_
  rintro e y2 ⟨⟨A2, c2, rfl⟩, h0⟩
  replace o2 := O8.keep o2 h0
  replace HG := Lib.hid (GN.out _ _ HG.out h0)
  replace r0 := (r0.keep h0).mono h0.size
  replace hc := hc.trans (h0.mono hc.size)
  clear h0
  go_upto_region 6 with fail
  have h2 := r0.keep ((Below.refl _ y2).alloc (Nat.le_refl _) (.cells #[] 5))
  have h3 : Own (y2.alloc (.cells #[] 5)) y2.heap.size 5 (some ⟨y2.heap.size, 0, none⟩) 0 [] := World.ownsRow_made y2 #[] 0 (Nat.le_refl _) (by decide) (by decide)
  have h4 : Below y2.heap.size y2 (y2.alloc (.cells #[] 5)) := (Below.refl _ y2).alloc (Nat.le_refl _) _
  go_wp2_with (at_builtin; refine wpList_app _ rfl (.tmp 33) (.tmp 34) _ rfl y2.heap.size 5 i0 _ Tryd.underlying54 hi hz0 hz1 hz2 rfl (xs := []) rfl h3 rfl h2 (by have := HL.out; simp only [List.length_nil]; omega) (by simp) ?_; intro A1 c1 vq ho hb; rw [show (([] : List UInt8) ++ bs).length = bs.length from rfl])
  replace ho : Own vq y2.heap.size 5 A1 c1 bs := ho
  replace hb := h4.trans hb
  clear h2 h3 h4
  replace o2 := O8.keep o2 hb
  replace HG := Lib.hid (GN.out _ _ HG.out hb)
  replace r0 := (r0.keep hb).mono hb.size
  replace hc := hc.trans (hb.mono hc.size)
  have r1 := ho.rd
  clear hb ho
  go_at_call 32
  refine (KB.out _ _ _ HG.out r1).mono ?_
  rintro e y3 ⟨rfl, h0⟩
  replace o2 := O8.keep o2 h0
  replace HG := Lib.hid (GN.out _ _ HG.out h0)
  replace r0 := (r0.keep h0).mono h0.size
  replace r1 := (r1.keep h0).mono h0.size
  replace hc := hc.trans (h0.mono hc.size)
  clear h0 r1
  have on0 := O8.newz (w := y3) (Nat.le_refl _)
  have o9 := (on0.put 0 0).mono hc.size
  have hbz := ((Below.refl _ y3).alloc (Nat.le_refl _) Z8p).trans (on0.below 0 0)
  replace o2 := O8.keep o2 hbz
  replace HG := Lib.hid (GN.out _ _ HG.out hbz)
  replace r0 := (r0.keep hbz).mono hbz.size
  replace hc := hc.trans (hbz.mono hc.size)
  clear hbz
  go_upto_region 7 with ((with_reducible refine p_store on0 0 0 ?_ ?_ ?_); rfl; rfl)
  obtain ⟨y4, ev⟩ : ∃ v, v = set8p (y3.alloc Z8p) y3.heap.size 0 0 := ⟨_, rfl⟩
  obtain ⟨g9, eg⟩ : ∃ g, g = y3.heap.size := ⟨_, rfl⟩
  rw [← ev] at o2 o9 r0 hc ⊢
  have HG2 : G y4 := by rw [ev]; exact HG.out
  replace HG := Lib.hid HG2
  clear HG2
  rw [← eg] at o9 ⊢
  clear ev eg on0
  go_upto_region 8 with fail
  refine wp_region_obs 6 [41, 42, 43, 44, 45, 46] [.val (prv 0 0), .val (prv 0 0), .val (.bool true), .val (.bool true), .val (.bool true), .val (.bool true)] (fun wz => Below y4.heap.size y4 wz) (by kernel_rfl) (fun wz wz' hz hb => hz.trans (hb.mono hz.size)) (Below.refl _ _) (fun u => by simp only [puts, List.foldl_cons, List.foldl_nil]; go_simp; exact rfl) ?_ ?_
  · simp only [List.take_succ_cons, List.take_zero]
    refine ObsS.cons (fun u w hS hd => ?_) ?_
    · exact Gv.run (prv 0 0) rfl (run_pload rfl rfl (O8.keep o9 hS)) rfl
    refine ObsS.cons (fun u w hS hd => ?_) ?_
    · exact Gv.run (prv 0 0) rfl (run_T0 rfl w) rfl
    refine ObsS.cons (fun u w hS hd => ?_) ?_
    · have d41 : u 41 = prv 0 0 := hd 0 (by decide)
      rw [d41]
      have d42 : u 42 = prv 0 0 := hd 1 (by decide)
      rw [d42]
      exact Gv.run (.bool true) rfl (run_eqT rfl rfl rfl W4_pos W4_pos W4_pos W4_pos (by decide) w) rfl
    refine ObsS.cons (fun u w hS hd => ?_) ?_
    · have d43 : u 43 = .bool true := hd 2 (by decide)
      rw [d43]
      exact Gv.run (.bool true) rfl (by go_simp) rfl
    refine ObsS.cons (fun u w hS hd => ?_) ?_
    · have d44 : u 44 = .bool true := hd 3 (by decide)
      rw [d44]
      refine Gv.call 20 #[] rfl (by go_simp) ((K9.out w (GN.out _ _ HG.out hS)).mono ?_)
      rintro e w' ⟨rfl, hb⟩
      exact ⟨_, rfl, rfl, hb⟩
    refine ObsS.cons (fun u w hS hd => ?_) ?_
    · have d44 : u 44 = .bool true := hd 3 (by decide)
      rw [d44]
      have d45 : u 45 = .bool true := hd 4 (by decide)
      rw [d45]
      exact Gv.run (.bool true) rfl (by go_simp) rfl
    exact ObsS.nil
  intro uy5 y5 hS hd
  have d46 : uy5 46 = .bool true := hd 5 (by decide)
  rw [d46]
  replace o2 := O8.keep o2 hS
  replace o9 := O8.keep o9 hS
  replace HG := Lib.hid (GN.out _ _ HG.out hS)
  replace r0 := (r0.keep hS).mono hS.size
  replace hc := hc.trans (hS.mono hc.size)
  clear hS hd d46
  simp only [List.drop_succ_cons, List.drop_zero]
  go_wp2_with fail
  go_ret
  exact ⟨rfl, hc⟩
set_option maxHeartbeats 6400000 in
theorem form8_01 {G : World → Prop} (hGn : ∀ w w', G w → Below w.heap.size w w' → G w') {x y k l c : Nat} {A : Option Addr} {bs : List UInt8} (hl : bs.length ≤ 140737488355328)
    (ke : ∀ w, G w → Calls Tryd.prog 34 #[prv x y] w fun e w' => (∃ A c, e = .returned (.tuple #[.slice A 0 c, .int .i64 7])) ∧ Below w.heap.size w w')
    (kb : ∀ (A : Option Addr) (c : Nat) (w : World), G w → Rd w w.heap.size A c bs → Calls Tryd.prog 32 #[.slice A bs.length c] w fun e w' => e = .returned (.tuple #[prv k l, .int .i64 0]) ∧ Below w.heap.size w w')
    (kf : ∀ w, G w → Calls Tryd.prog 34 #[prv k l] w fun e w' => (∃ A c, e = .returned (.tuple #[.slice A bs.length c, .int .i64 0]) ∧ Rd w' w'.heap.size A c bs) ∧ Below w.heap.size w w')
    (k9 : ∀ w, G w → Calls Tryd.prog 20 #[] w fun e w' => e = .returned (.bool true) ∧ Below w.heap.size w w')
    (k2 : ∀ w, G w → Calls Tryd.prog 12 #[prv k l] w fun e w' => e = .returned (.bool true) ∧ Below w.heap.size w w')
    (w : World) (hr : Rd w w.heap.size A c bs) (hG : G w) : Calls Tryd.prog 11 #[prv x y, .slice A bs.length c] w fun e w' => e = .returned (.bool true) ∧ Below w.heap.size w w' := by
  have K9 := Lib.hid k9
  have K2 := Lib.hid k2
  have GN := Lib.hid hGn
  have HG := Lib.hid hG
  clear hGn hG k9 k2
  have KE := Lib.hid ke
  have KB := Lib.hid kb
  have KF := Lib.hid kf
  have HL := Lib.hid hl
  clear hl ke kb kf
  obtain ⟨i0, hi, hz0, hz1, hz2⟩ := info_parts infoByte
  obtain ⟨v1, ev1⟩ : ∃ v, v = w.alloc (A8p x y) := ⟨_, rfl⟩
  have bv1 : Below w.heap.size w v1 := by rw [ev1]; exact (Below.refl _ _).alloc (Nat.le_refl _) _
  have sv1 : v1.heap.size = w.heap.size + 1 := by rw [ev1]; simp
  obtain ⟨g2, eg2⟩ : ∃ g, g = w.heap.size := ⟨_, rfl⟩
  have o2 : O8 v1 w.heap.size g2 x y := by rw [eg2, ev1]; exact O8.new (Nat.le_refl _) x y
  have hc := bv1
  have hs1 := hc.size
  go_enter Tryd.func11, Tryd.ntmps11
  go_upto_region 1 with fail
  rw [← ev1]
  rw [show Value.pointer (some ⟨w.heap.size, 0, none⟩) = .pointer (some ⟨g2, 0, none⟩) by rw [eg2]]
  clear ev1 bv1 sv1 eg2 hs1
  replace HG := Lib.hid (GN.out _ _ HG.out hc)
  have r0 := (hr.keep hc).mono hc.size
  clear hr
  go_wp2_with (first | ((with_reducible refine p_load o2 ?_ ?_); rfl))
  go_at_call 34
  refine (KE.out _ HG.out).mono ?_
  rintro e y2 ⟨⟨A2, c2, rfl⟩, h0⟩
  replace o2 := O8.keep o2 h0
  replace HG := Lib.hid (GN.out _ _ HG.out h0)
  replace r0 := (r0.keep h0).mono h0.size
  replace hc := hc.trans (h0.mono hc.size)
  clear h0
  go_upto_region 6 with fail
  have h2 := r0.keep ((Below.refl _ y2).alloc (Nat.le_refl _) (.cells #[] 5))
  have h3 : Own (y2.alloc (.cells #[] 5)) y2.heap.size 5 (some ⟨y2.heap.size, 0, none⟩) 0 [] := World.ownsRow_made y2 #[] 0 (Nat.le_refl _) (by decide) (by decide)
  have h4 : Below y2.heap.size y2 (y2.alloc (.cells #[] 5)) := (Below.refl _ y2).alloc (Nat.le_refl _) _
  go_wp2_with (at_builtin; refine wpList_app _ rfl (.tmp 33) (.tmp 34) _ rfl y2.heap.size 5 i0 _ Tryd.underlying54 hi hz0 hz1 hz2 rfl (xs := []) rfl h3 rfl h2 (by have := HL.out; simp only [List.length_nil]; omega) (by simp) ?_; intro A1 c1 vq ho hb; rw [show (([] : List UInt8) ++ bs).length = bs.length from rfl])
  replace ho : Own vq y2.heap.size 5 A1 c1 bs := ho
  replace hb := h4.trans hb
  clear h2 h3 h4
  replace o2 := O8.keep o2 hb
  replace HG := Lib.hid (GN.out _ _ HG.out hb)
  replace r0 := (r0.keep hb).mono hb.size
  replace hc := hc.trans (hb.mono hc.size)
  have r1 := ho.rd
  clear hb ho
  go_at_call 32
  refine (KB.out _ _ _ HG.out r1).mono ?_
  rintro e y3 ⟨rfl, h0⟩
  replace o2 := O8.keep o2 h0
  replace HG := Lib.hid (GN.out _ _ HG.out h0)
  replace r0 := (r0.keep h0).mono h0.size
  replace r1 := (r1.keep h0).mono h0.size
  replace hc := hc.trans (h0.mono hc.size)
  clear h0 r1
  have on0 := O8.newz (w := y3) (Nat.le_refl _)
  have o9 := (on0.put k l).mono hc.size
  have hbz := ((Below.refl _ y3).alloc (Nat.le_refl _) Z8p).trans (on0.below k l)
  replace o2 := O8.keep o2 hbz
  replace HG := Lib.hid (GN.out _ _ HG.out hbz)
  replace r0 := (r0.keep hbz).mono hbz.size
  replace hc := hc.trans (hbz.mono hc.size)
  clear hbz
  go_upto_region 7 with ((with_reducible refine p_store on0 k l ?_ ?_ ?_); rfl; rfl)
  obtain ⟨y4, ev⟩ : ∃ v, v = set8p (y3.alloc Z8p) y3.heap.size k l := ⟨_, rfl⟩
  obtain ⟨g9, eg⟩ : ∃ g, g = y3.heap.size := ⟨_, rfl⟩
  rw [← ev] at o2 o9 r0 hc ⊢
  have HG2 : G y4 := by rw [ev]; exact HG.out
  replace HG := Lib.hid HG2
  clear HG2
  rw [← eg] at o9 ⊢
  clear ev eg on0
  go_wp2_with (first | ((with_reducible refine p_load o2 ?_ ?_); rfl) | ((with_reducible refine p_load o9 ?_ ?_); rfl))
  go_at_call 34
  refine (KF.out _ HG.out).mono ?_
  rintro e y5 ⟨⟨A3, c3, rfl, r3⟩, h0⟩
  replace o2 := O8.keep o2 h0
  replace o9 := O8.keep o9 h0
  replace HG := Lib.hid (GN.out _ _ HG.out h0)
  replace r0 := (r0.keep h0).mono h0.size
  replace hc := hc.trans (h0.mono hc.size)
  clear h0
  go_upto_region 10 with fail
  refine wp_region_obs 16 [52, 53, 54, 55, 56, 57, 58, 59, 60, 61, 62, 63, 64, 65, 66, 67] [.val (prv k l), .val (.bool true), .val (.bool true), .val (.int .i64 0), .val (.bool true), .val (.bool true), .val (.bool true), .byt bs, .val (.string ⟨bs.toArray⟩), .byt bs, .val (.string ⟨bs.toArray⟩), .val (.bool true), .val (.bool true), .val (.bool true), .val (.bool true), .val (.bool true)] (fun wz => Below y5.heap.size y5 wz) (by kernel_rfl) (fun wz wz' hz hb => hz.trans (hb.mono hz.size)) (Below.refl _ _) (fun u => by simp only [puts, List.foldl_cons, List.foldl_nil]; go_simp; exact rfl) ?_ ?_
  · simp only [List.take_succ_cons, List.take_zero]
    refine ObsS.cons (fun u w hS hd => ?_) ?_
    · exact Gv.run (prv k l) rfl (run_pload rfl rfl (O8.keep o9 hS)) rfl
    refine ObsS.cons (fun u w hS hd => ?_) ?_
    · have d52 : u 52 = prv k l := hd 0 (by decide)
      rw [d52]
      refine Gv.call 12 #[prv k l] rfl (by go_simp) ((K2.out w (GN.out _ _ HG.out hS)).mono ?_)
      rintro e w' ⟨rfl, hb⟩
      exact ⟨_, rfl, rfl, hb⟩
    refine ObsS.cons (fun u w hS hd => ?_) ?_
    · have d53 : u 53 = .bool true := hd 1 (by decide)
      rw [d53]
      exact Gv.run (.bool true) rfl (by go_simp) rfl
    refine ObsS.cons (fun u w hS hd => ?_) ?_
    · have d54 : u 54 = .bool true := hd 2 (by decide)
      rw [d54]
      exact Gv.run (.int .i64 0) rfl (by go_simp) rfl
    refine ObsS.cons (fun u w hS hd => ?_) ?_
    · have d54 : u 54 = .bool true := hd 2 (by decide)
      rw [d54]
      have d55 : u 55 = .int .i64 0 := hd 3 (by decide)
      rw [d55]
      exact Gv.run (.bool true) rfl (by go_simp) rfl
    refine ObsS.cons (fun u w hS hd => ?_) ?_
    · have d54 : u 54 = .bool true := hd 2 (by decide)
      rw [d54]
      have d56 : u 56 = .bool true := hd 4 (by decide)
      rw [d56]
      exact Gv.run (.bool true) rfl (by go_simp) rfl
    refine ObsS.cons (fun u w hS hd => ?_) ?_
    · have d57 : u 57 = .bool true := hd 5 (by decide)
      rw [d57]
      exact Gv.run (.bool true) rfl (by go_simp) rfl
    refine ObsS.cons (fun u w hS hd => ?_) ?_
    · have d58 : u 58 = .bool true := hd 6 (by decide)
      rw [d58]
      exact Gv.run (.slice A3 bs.length c3) rfl (by go_simp) (⟨_, _, rfl, (r3.keep hS).mono hS.size⟩)
    refine ObsS.cons (fun u w hS hd => ?_) ?_
    · have d58 : u 58 = .bool true := hd 6 (by decide)
      rw [d58]
      obtain ⟨A59, c59, d59, g59⟩ : (Know.byt bs).ok (u 59) w := hd 7 (by decide)
      rw [d59]
      exact Gv.run (.string ⟨bs.toArray⟩) rfl (run_conv rfl rfl (run_str w 54 5 Tryd.underlying54 Tryd.underlying5 (dst := 9) Tryd.underlying9 g59)) rfl
    refine ObsS.cons (fun u w hS hd => ?_) ?_
    · have d58 : u 58 = .bool true := hd 6 (by decide)
      rw [d58]
      exact Gv.run (.slice A bs.length c) rfl (by go_simp) (⟨_, _, rfl, (r0.keep hS).mono hS.size⟩)
    refine ObsS.cons (fun u w hS hd => ?_) ?_
    · have d58 : u 58 = .bool true := hd 6 (by decide)
      rw [d58]
      obtain ⟨A61, c61, d61, g61⟩ : (Know.byt bs).ok (u 61) w := hd 9 (by decide)
      rw [d61]
      exact Gv.run (.string ⟨bs.toArray⟩) rfl (run_conv rfl rfl (run_str w 54 5 Tryd.underlying54 Tryd.underlying5 (dst := 9) Tryd.underlying9 g61)) rfl
    refine ObsS.cons (fun u w hS hd => ?_) ?_
    · have d58 : u 58 = .bool true := hd 6 (by decide)
      rw [d58]
      have d60 : u 60 = .string ⟨bs.toArray⟩ := hd 8 (by decide)
      rw [d60]
      have d62 : u 62 = .string ⟨bs.toArray⟩ := hd 10 (by decide)
      rw [d62]
      exact Gv.run (.bool true) rfl (by go_simp) rfl
    refine ObsS.cons (fun u w hS hd => ?_) ?_
    · have d58 : u 58 = .bool true := hd 6 (by decide)
      rw [d58]
      have d63 : u 63 = .bool true := hd 11 (by decide)
      rw [d63]
      exact Gv.run (.bool true) rfl (by go_simp) rfl
    refine ObsS.cons (fun u w hS hd => ?_) ?_
    · have d64 : u 64 = .bool true := hd 12 (by decide)
      rw [d64]
      exact Gv.run (.bool true) rfl (by go_simp) rfl
    refine ObsS.cons (fun u w hS hd => ?_) ?_
    · have d65 : u 65 = .bool true := hd 13 (by decide)
      rw [d65]
      refine Gv.call 20 #[] rfl (by go_simp) ((K9.out w (GN.out _ _ HG.out hS)).mono ?_)
      rintro e w' ⟨rfl, hb⟩
      exact ⟨_, rfl, rfl, hb⟩
    refine ObsS.cons (fun u w hS hd => ?_) ?_
    · have d65 : u 65 = .bool true := hd 13 (by decide)
      rw [d65]
      have d66 : u 66 = .bool true := hd 14 (by decide)
      rw [d66]
      exact Gv.run (.bool true) rfl (by go_simp) rfl
    exact ObsS.nil
  intro uy6 y6 hS hd
  have d67 : uy6 67 = .bool true := hd 15 (by decide)
  rw [d67]
  replace o2 := O8.keep o2 hS
  replace o9 := O8.keep o9 hS
  replace HG := Lib.hid (GN.out _ _ HG.out hS)
  replace r0 := (r0.keep hS).mono hS.size
  replace r3 := (r3.keep hS).mono hS.size
  replace hc := hc.trans (hS.mono hc.size)
  clear hS hd d67
  simp only [List.drop_succ_cons, List.drop_zero]
  go_wp2_with fail
  go_ret
  exact ⟨rfl, hc⟩
set_option maxHeartbeats 6400000 in
theorem form8_10 {G : World → Prop} (hGn : ∀ w w', G w → Below w.heap.size w w' → G w') {x y er c : Nat} {A : Option Addr} {bs L : List UInt8} (hl : bs.length ≤ 140737488355328) (hx : x < W4) (hy : y < W4) (her : er ≠ 0)
    (ke : ∀ w, G w → Calls Tryd.prog 34 #[prv x y] w fun e w' => (∃ A c, e = .returned (.tuple #[.slice A L.length c, .int .i64 0]) ∧ Rd w' w'.heap.size A c L) ∧ Below w.heap.size w w')
    (kb : ∀ (A : Option Addr) (c : Nat) (w : World), G w → Rd w w.heap.size A c bs → Calls Tryd.prog 32 #[.slice A bs.length c] w fun e w' => e = .returned (.tuple #[prv 0 0, .int .i64 (er : Int)]) ∧ Below w.heap.size w w')
    (kd : ∀ (A : Option Addr) (c : Nat) (w : World), G w → Rd w w.heap.size A c L → Calls Tryd.prog 32 #[.slice A L.length c] w fun e w' => e = .returned (.tuple #[prv x y, .int .i64 0]) ∧ Below w.heap.size w w')
    (k9 : ∀ w, G w → Calls Tryd.prog 20 #[] w fun e w' => e = .returned (.bool true) ∧ Below w.heap.size w w')
    (w : World) (hr : Rd w w.heap.size A c bs) (hG : G w) : Calls Tryd.prog 11 #[prv x y, .slice A bs.length c] w fun e w' => e = .returned (.bool true) ∧ Below w.heap.size w w' := by
  have K9 := Lib.hid k9
  have GN := Lib.hid hGn
  have HG := Lib.hid hG
  clear hGn hG k9
  have KE := Lib.hid ke
  have KB := Lib.hid kb
  have KD := Lib.hid kd
  have HL := Lib.hid hl
  clear hl ke kb kd
  obtain ⟨i0, hi, hz0, hz1, hz2⟩ := info_parts infoByte
  have q1 : ((er : Int) == 0) = false := beq_eq_false_iff_ne.2 (by omega)
  have q2 : ((er : Int) != 0) = true := by simp; omega
  clear her
  obtain ⟨v1, ev1⟩ : ∃ v, v = w.alloc (A8p x y) := ⟨_, rfl⟩
  have bv1 : Below w.heap.size w v1 := by rw [ev1]; exact (Below.refl _ _).alloc (Nat.le_refl _) _
  have sv1 : v1.heap.size = w.heap.size + 1 := by rw [ev1]; simp
  obtain ⟨g2, eg2⟩ : ∃ g, g = w.heap.size := ⟨_, rfl⟩
  have o2 : O8 v1 w.heap.size g2 x y := by rw [eg2, ev1]; exact O8.new (Nat.le_refl _) x y
  have hc := bv1
  have hs1 := hc.size
  go_enter Tryd.func11, Tryd.ntmps11
  go_upto_region 1 with fail
  rw [← ev1]
  rw [show Value.pointer (some ⟨w.heap.size, 0, none⟩) = .pointer (some ⟨g2, 0, none⟩) by rw [eg2]]
  clear ev1 bv1 sv1 eg2 hs1
  replace HG := Lib.hid (GN.out _ _ HG.out hc)
  have r0 := (hr.keep hc).mono hc.size
  clear hr
  go_wp2_with (first | ((with_reducible refine p_load o2 ?_ ?_); rfl))
  go_at_call 34
  refine (KE.out _ HG.out).mono ?_
  rintro e y2 ⟨⟨A2, c2, rfl, r2⟩, h0⟩
  replace o2 := O8.keep o2 h0
  replace HG := Lib.hid (GN.out _ _ HG.out h0)
  replace r0 := (r0.keep h0).mono h0.size
  replace hc := hc.trans (h0.mono hc.size)
  clear h0
  go_wp2_with (first | ((with_reducible refine p_load o2 ?_ ?_); rfl))
  go_at_call 32
  refine (KD.out _ _ _ HG.out r2).mono ?_
  rintro e y3 ⟨rfl, h0⟩
  replace o2 := O8.keep o2 h0
  replace HG := Lib.hid (GN.out _ _ HG.out h0)
  replace r0 := (r0.keep h0).mono h0.size
  replace r2 := (r2.keep h0).mono h0.size
  replace hc := hc.trans (h0.mono hc.size)
  clear h0
  clear r2
  have on0 := O8.newz (w := y3) (Nat.le_refl _)
  have o7 := (on0.put x y).mono hc.size
  have hbz := ((Below.refl _ y3).alloc (Nat.le_refl _) Z8p).trans (on0.below x y)
  replace o2 := O8.keep o2 hbz
  replace HG := Lib.hid (GN.out _ _ HG.out hbz)
  replace r0 := (r0.keep hbz).mono hbz.size
  replace hc := hc.trans (hbz.mono hc.size)
  clear hbz
  go_upto_region 4 with ((with_reducible refine p_store on0 x y ?_ ?_ ?_); rfl; rfl)
  obtain ⟨y4, ev⟩ : ∃ v, v = set8p (y3.alloc Z8p) y3.heap.size x y := ⟨_, rfl⟩
  obtain ⟨g7, eg⟩ : ∃ g, g = y3.heap.size := ⟨_, rfl⟩
  rw [← ev] at o2 o7 r0 hc ⊢
  have HG2 : G y4 := by rw [ev]; exact HG.out
  replace HG := Lib.hid HG2
  clear HG2
  rw [← eg] at o7 ⊢
  clear ev eg on0
  refine wp_region_obs 6 [25, 26, 27, 28, 29, 30] [.val (prv x y), .val (prv x y), .val (.bool false), .val (.bool false), .val (.int .i64 0), .val (.bool false)] (fun wz => Below y4.heap.size y4 wz) (by kernel_rfl) (fun wz wz' hz hb => hz.trans (hb.mono hz.size)) (Below.refl _ _) (fun u => by simp only [puts, List.foldl_cons, List.foldl_nil]; go_simp; exact rfl) ?_ ?_
  · simp only [List.take_succ_cons, List.take_zero]
    refine ObsS.cons (fun u w hS hd => ?_) ?_
    · exact Gv.run (prv x y) rfl (run_pload rfl rfl (O8.keep o7 hS)) rfl
    refine ObsS.cons (fun u w hS hd => ?_) ?_
    · exact Gv.run (prv x y) rfl (run_pload rfl rfl (O8.keep o2 hS)) rfl
    refine ObsS.cons (fun u w hS hd => ?_) ?_
    · have d25 : u 25 = prv x y := hd 0 (by decide)
      rw [d25]
      have d26 : u 26 = prv x y := hd 1 (by decide)
      rw [d26]
      exact Gv.run (.bool false) rfl (run_neT rfl rfl rfl hx hy hx hy (by simp) w) rfl
    refine ObsS.cons (fun u w hS hd => ?_) ?_
    · have d27 : u 27 = .bool false := hd 2 (by decide)
      rw [d27]
      exact Gv.run (.bool false) rfl (by go_simp) rfl
    refine ObsS.cons (fun u w hS hd => ?_) ?_
    · have d28 : u 28 = .bool false := hd 3 (by decide)
      rw [d28]
      exact Gv.run (.int .i64 0) rfl (by go_simp) rfl
    refine ObsS.cons (fun u w hS hd => ?_) ?_
    · have d28 : u 28 = .bool false := hd 3 (by decide)
      rw [d28]
      have d29 : u 29 = .int .i64 0 := hd 4 (by decide)
      rw [d29]
      exact Gv.run (.bool false) rfl (by go_simp) rfl
    exact ObsS.nil
  intro uy5 y5 hS hd
  have d28 : uy5 28 = .bool false := hd 3 (by decide)
  have d30 : uy5 30 = .bool false := hd 5 (by decide)
  rw [d28, d30]
  replace o2 := O8.keep o2 hS
  replace o7 := O8.keep o7 hS
  replace HG := Lib.hid (GN.out _ _ HG.out hS)
  replace r0 := (r0.keep hS).mono hS.size
  replace hc := hc.trans (hS.mono hc.size)
  clear hS hd d28 d30
  simp only [List.drop_succ_cons, List.drop_zero]
  go_upto_region 6 with fail
  have h2 := r0.keep ((Below.refl _ y5).alloc (Nat.le_refl _) (.cells #[] 5))
  have h3 : Own (y5.alloc (.cells #[] 5)) y5.heap.size 5 (some ⟨y5.heap.size, 0, none⟩) 0 [] := World.ownsRow_made y5 #[] 0 (Nat.le_refl _) (by decide) (by decide)
  have h4 : Below y5.heap.size y5 (y5.alloc (.cells #[] 5)) := (Below.refl _ y5).alloc (Nat.le_refl _) _
  go_wp2_with (at_builtin; refine wpList_app _ rfl (.tmp 33) (.tmp 34) _ rfl y5.heap.size 5 i0 _ Tryd.underlying54 hi hz0 hz1 hz2 rfl (xs := []) rfl h3 rfl h2 (by have := HL.out; simp only [List.length_nil]; omega) (by simp) ?_; intro A1 c1 vq ho hb; rw [show (([] : List UInt8) ++ bs).length = bs.length from rfl])
  replace ho : Own vq y5.heap.size 5 A1 c1 bs := ho
  replace hb := h4.trans hb
  clear h2 h3 h4
  replace o2 := O8.keep o2 hb
  replace o7 := O8.keep o7 hb
  replace HG := Lib.hid (GN.out _ _ HG.out hb)
  replace r0 := (r0.keep hb).mono hb.size
  replace hc := hc.trans (hb.mono hc.size)
  have r1 := ho.rd
  clear hb ho
  go_at_call 32
  refine (KB.out _ _ _ HG.out r1).mono ?_
  rintro e y6 ⟨rfl, h0⟩
  replace o2 := O8.keep o2 h0
  replace o7 := O8.keep o7 h0
  replace HG := Lib.hid (GN.out _ _ HG.out h0)
  replace r0 := (r0.keep h0).mono h0.size
  replace r1 := (r1.keep h0).mono h0.size
  replace hc := hc.trans (h0.mono hc.size)
  clear h0 r1
  have on0 := O8.newz (w := y6) (Nat.le_refl _)
  have o9 := (on0.put 0 0).mono hc.size
  have hbz := ((Below.refl _ y6).alloc (Nat.le_refl _) Z8p).trans (on0.below 0 0)
  replace o2 := O8.keep o2 hbz
  replace o7 := O8.keep o7 hbz
  replace HG := Lib.hid (GN.out _ _ HG.out hbz)
  replace r0 := (r0.keep hbz).mono hbz.size
  replace hc := hc.trans (hbz.mono hc.size)
  clear hbz
  go_upto_region 7 with ((with_reducible refine p_store on0 0 0 ?_ ?_ ?_); rfl; rfl)
  obtain ⟨y7, ev⟩ : ∃ v, v = set8p (y6.alloc Z8p) y6.heap.size 0 0 := ⟨_, rfl⟩
  obtain ⟨g9, eg⟩ : ∃ g, g = y6.heap.size := ⟨_, rfl⟩
  rw [← ev] at o2 o7 o9 r0 hc ⊢
  have HG2 : G y7 := by rw [ev]; exact HG.out
  replace HG := Lib.hid HG2
  clear HG2
  rw [← eg] at o9 ⊢
  clear ev eg on0
  go_upto_region 8 with fail
  refine wp_region_obs 6 [41, 42, 43, 44, 45, 46] [.val (prv 0 0), .val (prv 0 0), .val (.bool true), .val (.bool true), .val (.bool true), .val (.bool true)] (fun wz => Below y7.heap.size y7 wz) (by kernel_rfl) (fun wz wz' hz hb => hz.trans (hb.mono hz.size)) (Below.refl _ _) (fun u => by simp only [puts, List.foldl_cons, List.foldl_nil]; go_simp; exact rfl) ?_ ?_
  · simp only [List.take_succ_cons, List.take_zero]
    refine ObsS.cons (fun u w hS hd => ?_) ?_
    · exact Gv.run (prv 0 0) rfl (run_pload rfl rfl (O8.keep o9 hS)) rfl
    refine ObsS.cons (fun u w hS hd => ?_) ?_
    · exact Gv.run (prv 0 0) rfl (run_T0 rfl w) rfl
    refine ObsS.cons (fun u w hS hd => ?_) ?_
    · have d41 : u 41 = prv 0 0 := hd 0 (by decide)
      rw [d41]
      have d42 : u 42 = prv 0 0 := hd 1 (by decide)
      rw [d42]
      exact Gv.run (.bool true) rfl (run_eqT rfl rfl rfl W4_pos W4_pos W4_pos W4_pos (by decide) w) rfl
    refine ObsS.cons (fun u w hS hd => ?_) ?_
    · have d43 : u 43 = .bool true := hd 2 (by decide)
      rw [d43]
      exact Gv.run (.bool true) rfl (by go_simp) rfl
    refine ObsS.cons (fun u w hS hd => ?_) ?_
    · have d44 : u 44 = .bool true := hd 3 (by decide)
      rw [d44]
      refine Gv.call 20 #[] rfl (by go_simp) ((K9.out w (GN.out _ _ HG.out hS)).mono ?_)
      rintro e w' ⟨rfl, hb⟩
      exact ⟨_, rfl, rfl, hb⟩
    refine ObsS.cons (fun u w hS hd => ?_) ?_
    · have d44 : u 44 = .bool true := hd 3 (by decide)
      rw [d44]
      have d45 : u 45 = .bool true := hd 4 (by decide)
      rw [d45]
      exact Gv.run (.bool true) rfl (by go_simp) rfl
    exact ObsS.nil
  intro uy8 y8 hS hd
  have d46 : uy8 46 = .bool true := hd 5 (by decide)
  rw [d46]
  replace o2 := O8.keep o2 hS
  replace o7 := O8.keep o7 hS
  replace o9 := O8.keep o9 hS
  replace HG := Lib.hid (GN.out _ _ HG.out hS)
  replace r0 := (r0.keep hS).mono hS.size
  replace hc := hc.trans (hS.mono hc.size)
  clear hS hd d46
  simp only [List.drop_succ_cons, List.drop_zero]
  go_wp2_with fail
  go_ret
  exact ⟨rfl, hc⟩
set_option maxHeartbeats 6400000 in
theorem form8_11 {G : World → Prop} (hGn : ∀ w w', G w → Below w.heap.size w w' → G w') {x y k l c : Nat} {A : Option Addr} {bs L : List UInt8} (hl : bs.length ≤ 140737488355328) (hx : x < W4) (hy : y < W4)
    (ke : ∀ w, G w → Calls Tryd.prog 34 #[prv x y] w fun e w' => (∃ A c, e = .returned (.tuple #[.slice A L.length c, .int .i64 0]) ∧ Rd w' w'.heap.size A c L) ∧ Below w.heap.size w w')
    (kb : ∀ (A : Option Addr) (c : Nat) (w : World), G w → Rd w w.heap.size A c bs → Calls Tryd.prog 32 #[.slice A bs.length c] w fun e w' => e = .returned (.tuple #[prv k l, .int .i64 0]) ∧ Below w.heap.size w w')
    (kd : ∀ (A : Option Addr) (c : Nat) (w : World), G w → Rd w w.heap.size A c L → Calls Tryd.prog 32 #[.slice A L.length c] w fun e w' => e = .returned (.tuple #[prv x y, .int .i64 0]) ∧ Below w.heap.size w w')
    (kf : ∀ w, G w → Calls Tryd.prog 34 #[prv k l] w fun e w' => (∃ A c, e = .returned (.tuple #[.slice A bs.length c, .int .i64 0]) ∧ Rd w' w'.heap.size A c bs) ∧ Below w.heap.size w w')
    (k9 : ∀ w, G w → Calls Tryd.prog 20 #[] w fun e w' => e = .returned (.bool true) ∧ Below w.heap.size w w')
    (k2 : ∀ w, G w → Calls Tryd.prog 12 #[prv k l] w fun e w' => e = .returned (.bool true) ∧ Below w.heap.size w w')
    (w : World) (hr : Rd w w.heap.size A c bs) (hG : G w) : Calls Tryd.prog 11 #[prv x y, .slice A bs.length c] w fun e w' => e = .returned (.bool true) ∧ Below w.heap.size w w' := by
  have K9 := Lib.hid k9
  have K2 := Lib.hid k2
  have GN := Lib.hid hGn
  have HG := Lib.hid hG
  clear hGn hG k9 k2
  have KE := Lib.hid ke
  have KB := Lib.hid kb
  have KD := Lib.hid kd
  have KF := Lib.hid kf
  have HL := Lib.hid hl
  clear hl ke kb kd kf
  obtain ⟨i0, hi, hz0, hz1, hz2⟩ := info_parts infoByte
  obtain ⟨v1, ev1⟩ : ∃ v, v = w.alloc (A8p x y) := ⟨_, rfl⟩
  have bv1 : Below w.heap.size w v1 := by rw [ev1]; exact (Below.refl _ _).alloc (Nat.le_refl _) _
  have sv1 : v1.heap.size = w.heap.size + 1 := by rw [ev1]; simp
  obtain ⟨g2, eg2⟩ : ∃ g, g = w.heap.size := ⟨_, rfl⟩
  have o2 : O8 v1 w.heap.size g2 x y := by rw [eg2, ev1]; exact O8.new (Nat.le_refl _) x y
  have hc := bv1
  have hs1 := hc.size
  go_enter Tryd.func11, Tryd.ntmps11
  go_upto_region 1 with fail
  rw [← ev1]
  rw [show Value.pointer (some ⟨w.heap.size, 0, none⟩) = .pointer (some ⟨g2, 0, none⟩) by rw [eg2]]
  clear ev1 bv1 sv1 eg2 hs1
  replace HG := Lib.hid (GN.out _ _ HG.out hc)
  have r0 := (hr.keep hc).mono hc.size
  clear hr
  go_wp2_with (first | ((with_reducible refine p_load o2 ?_ ?_); rfl))
  go_at_call 34
  refine (KE.out _ HG.out).mono ?_
  rintro e y2 ⟨⟨A2, c2, rfl, r2⟩, h0⟩
  replace o2 := O8.keep o2 h0
  replace HG := Lib.hid (GN.out _ _ HG.out h0)
  replace r0 := (r0.keep h0).mono h0.size
  replace hc := hc.trans (h0.mono hc.size)
  clear h0
  go_wp2_with (first | ((with_reducible refine p_load o2 ?_ ?_); rfl))
  go_at_call 32
  refine (KD.out _ _ _ HG.out r2).mono ?_
  rintro e y3 ⟨rfl, h0⟩
  replace o2 := O8.keep o2 h0
  replace HG := Lib.hid (GN.out _ _ HG.out h0)
  replace r0 := (r0.keep h0).mono h0.size
  replace r2 := (r2.keep h0).mono h0.size
  replace hc := hc.trans (h0.mono hc.size)
  clear h0
  clear r2
  have on0 := O8.newz (w := y3) (Nat.le_refl _)
  have o7 := (on0.put x y).mono hc.size
  have hbz := ((Below.refl _ y3).alloc (Nat.le_refl _) Z8p).trans (on0.below x y)
  replace o2 := O8.keep o2 hbz
  replace HG := Lib.hid (GN.out _ _ HG.out hbz)
  replace r0 := (r0.keep hbz).mono hbz.size
  replace hc := hc.trans (hbz.mono hc.size)
  clear hbz
  go_upto_region 4 with ((with_reducible refine p_store on0 x y ?_ ?_ ?_); rfl; rfl)
  obtain ⟨y4, ev⟩ : ∃ v, v = set8p (y3.alloc Z8p) y3.heap.size x y := ⟨_, rfl⟩
  obtain ⟨g7, eg⟩ : ∃ g, g = y3.heap.size := ⟨_, rfl⟩
  rw [← ev] at o2 o7 r0 hc ⊢
  have HG2 : G y4 := by rw [ev]; exact HG.out
  replace HG := Lib.hid HG2
  clear HG2
  rw [← eg] at o7 ⊢
  clear ev eg on0
  refine wp_region_obs 6 [25, 26, 27, 28, 29, 30] [.val (prv x y), .val (prv x y), .val (.bool false), .val (.bool false), .val (.int .i64 0), .val (.bool false)] (fun wz => Below y4.heap.size y4 wz) (by kernel_rfl) (fun wz wz' hz hb => hz.trans (hb.mono hz.size)) (Below.refl _ _) (fun u => by simp only [puts, List.foldl_cons, List.foldl_nil]; go_simp; exact rfl) ?_ ?_
  · simp only [List.take_succ_cons, List.take_zero]
    refine ObsS.cons (fun u w hS hd => ?_) ?_
    · exact Gv.run (prv x y) rfl (run_pload rfl rfl (O8.keep o7 hS)) rfl
    refine ObsS.cons (fun u w hS hd => ?_) ?_
    · exact Gv.run (prv x y) rfl (run_pload rfl rfl (O8.keep o2 hS)) rfl
    refine ObsS.cons (fun u w hS hd => ?_) ?_
    · have d25 : u 25 = prv x y := hd 0 (by decide)
      rw [d25]
      have d26 : u 26 = prv x y := hd 1 (by decide)
      rw [d26]
      exact Gv.run (.bool false) rfl (run_neT rfl rfl rfl hx hy hx hy (by simp) w) rfl
    refine ObsS.cons (fun u w hS hd => ?_) ?_
    · have d27 : u 27 = .bool false := hd 2 (by decide)
      rw [d27]
      exact Gv.run (.bool false) rfl (by go_simp) rfl
    refine ObsS.cons (fun u w hS hd => ?_) ?_
    · have d28 : u 28 = .bool false := hd 3 (by decide)
      rw [d28]
      exact Gv.run (.int .i64 0) rfl (by go_simp) rfl
    refine ObsS.cons (fun u w hS hd => ?_) ?_
    · have d28 : u 28 = .bool false := hd 3 (by decide)
      rw [d28]
      have d29 : u 29 = .int .i64 0 := hd 4 (by decide)
      rw [d29]
      exact Gv.run (.bool false) rfl (by go_simp) rfl
    exact ObsS.nil
  intro uy5 y5 hS hd
  have d28 : uy5 28 = .bool false := hd 3 (by decide)
  have d30 : uy5 30 = .bool false := hd 5 (by decide)
  rw [d28, d30]
  replace o2 := O8.keep o2 hS
  replace o7 := O8.keep o7 hS
  replace HG := Lib.hid (GN.out _ _ HG.out hS)
  replace r0 := (r0.keep hS).mono hS.size
  replace hc := hc.trans (hS.mono hc.size)
  clear hS hd d28 d30
  simp only [List.drop_succ_cons, List.drop_zero]
  go_upto_region 6 with fail
  have h2 := r0.keep ((Below.refl _ y5).alloc (Nat.le_refl _) (.cells #[] 5))
  have h3 : Own (y5.alloc (.cells #[] 5)) y5.heap.size 5 (some ⟨y5.heap.size, 0, none⟩) 0 [] := World.ownsRow_made y5 #[] 0 (Nat.le_refl _) (by decide) (by decide)
  have h4 : Below y5.heap.size y5 (y5.alloc (.cells #[] 5)) := (Below.refl _ y5).alloc (Nat.le_refl _) _
  go_wp2_with (at_builtin; refine wpList_app _ rfl (.tmp 33) (.tmp 34) _ rfl y5.heap.size 5 i0 _ Tryd.underlying54 hi hz0 hz1 hz2 rfl (xs := []) rfl h3 rfl h2 (by have := HL.out; simp only [List.length_nil]; omega) (by simp) ?_; intro A1 c1 vq ho hb; rw [show (([] : List UInt8) ++ bs).length = bs.length from rfl])
  replace ho : Own vq y5.heap.size 5 A1 c1 bs := ho
  replace hb := h4.trans hb
  clear h2 h3 h4
  replace o2 := O8.keep o2 hb
  replace o7 := O8.keep o7 hb
  replace HG := Lib.hid (GN.out _ _ HG.out hb)
  replace r0 := (r0.keep hb).mono hb.size
  replace hc := hc.trans (hb.mono hc.size)
  have r1 := ho.rd
  clear hb ho
  go_at_call 32
  refine (KB.out _ _ _ HG.out r1).mono ?_
  rintro e y6 ⟨rfl, h0⟩
  replace o2 := O8.keep o2 h0
  replace o7 := O8.keep o7 h0
  replace HG := Lib.hid (GN.out _ _ HG.out h0)
  replace r0 := (r0.keep h0).mono h0.size
  replace r1 := (r1.keep h0).mono h0.size
  replace hc := hc.trans (h0.mono hc.size)
  clear h0 r1
  have on0 := O8.newz (w := y6) (Nat.le_refl _)
  have o9 := (on0.put k l).mono hc.size
  have hbz := ((Below.refl _ y6).alloc (Nat.le_refl _) Z8p).trans (on0.below k l)
  replace o2 := O8.keep o2 hbz
  replace o7 := O8.keep o7 hbz
  replace HG := Lib.hid (GN.out _ _ HG.out hbz)
  replace r0 := (r0.keep hbz).mono hbz.size
  replace hc := hc.trans (hbz.mono hc.size)
  clear hbz
  go_upto_region 7 with ((with_reducible refine p_store on0 k l ?_ ?_ ?_); rfl; rfl)
  obtain ⟨y7, ev⟩ : ∃ v, v = set8p (y6.alloc Z8p) y6.heap.size k l := ⟨_, rfl⟩
  obtain ⟨g9, eg⟩ : ∃ g, g = y6.heap.size := ⟨_, rfl⟩
  rw [← ev] at o2 o7 o9 r0 hc ⊢
  have HG2 : G y7 := by rw [ev]; exact HG.out
  replace HG := Lib.hid HG2
  clear HG2
  rw [← eg] at o9 ⊢
  clear ev eg on0
  go_wp2_with (first | ((with_reducible refine p_load o2 ?_ ?_); rfl) | ((with_reducible refine p_load o7 ?_ ?_); rfl) | ((with_reducible refine p_load o9 ?_ ?_); rfl))
  go_at_call 34
  refine (KF.out _ HG.out).mono ?_
  rintro e y8 ⟨⟨A3, c3, rfl, r3⟩, h0⟩
  replace o2 := O8.keep o2 h0
  replace o7 := O8.keep o7 h0
  replace o9 := O8.keep o9 h0
  replace HG := Lib.hid (GN.out _ _ HG.out h0)
  replace r0 := (r0.keep h0).mono h0.size
  replace hc := hc.trans (h0.mono hc.size)
  clear h0
  go_upto_region 10 with fail
  refine wp_region_obs 16 [52, 53, 54, 55, 56, 57, 58, 59, 60, 61, 62, 63, 64, 65, 66, 67] [.val (prv k l), .val (.bool true), .val (.bool true), .val (.int .i64 0), .val (.bool true), .val (.bool true), .val (.bool true), .byt bs, .val (.string ⟨bs.toArray⟩), .byt bs, .val (.string ⟨bs.toArray⟩), .val (.bool true), .val (.bool true), .val (.bool true), .val (.bool true), .val (.bool true)] (fun wz => Below y8.heap.size y8 wz) (by kernel_rfl) (fun wz wz' hz hb => hz.trans (hb.mono hz.size)) (Below.refl _ _) (fun u => by simp only [puts, List.foldl_cons, List.foldl_nil]; go_simp; exact rfl) ?_ ?_
  · simp only [List.take_succ_cons, List.take_zero]
    refine ObsS.cons (fun u w hS hd => ?_) ?_
    · exact Gv.run (prv k l) rfl (run_pload rfl rfl (O8.keep o9 hS)) rfl
    refine ObsS.cons (fun u w hS hd => ?_) ?_
    · have d52 : u 52 = prv k l := hd 0 (by decide)
      rw [d52]
      refine Gv.call 12 #[prv k l] rfl (by go_simp) ((K2.out w (GN.out _ _ HG.out hS)).mono ?_)
      rintro e w' ⟨rfl, hb⟩
      exact ⟨_, rfl, rfl, hb⟩
    refine ObsS.cons (fun u w hS hd => ?_) ?_
    · have d53 : u 53 = .bool true := hd 1 (by decide)
      rw [d53]
      exact Gv.run (.bool true) rfl (by go_simp) rfl
    refine ObsS.cons (fun u w hS hd => ?_) ?_
    · have d54 : u 54 = .bool true := hd 2 (by decide)
      rw [d54]
      exact Gv.run (.int .i64 0) rfl (by go_simp) rfl
    refine ObsS.cons (fun u w hS hd => ?_) ?_
    · have d54 : u 54 = .bool true := hd 2 (by decide)
      rw [d54]
      have d55 : u 55 = .int .i64 0 := hd 3 (by decide)
      rw [d55]
      exact Gv.run (.bool true) rfl (by go_simp) rfl
    refine ObsS.cons (fun u w hS hd => ?_) ?_
    · have d54 : u 54 = .bool true := hd 2 (by decide)
      rw [d54]
      have d56 : u 56 = .bool true := hd 4 (by decide)
      rw [d56]
      exact Gv.run (.bool true) rfl (by go_simp) rfl
    refine ObsS.cons (fun u w hS hd => ?_) ?_
    · have d57 : u 57 = .bool true := hd 5 (by decide)
      rw [d57]
      exact Gv.run (.bool true) rfl (by go_simp) rfl
    refine ObsS.cons (fun u w hS hd => ?_) ?_
    · have d58 : u 58 = .bool true := hd 6 (by decide)
      rw [d58]
      exact Gv.run (.slice A3 bs.length c3) rfl (by go_simp) (⟨_, _, rfl, (r3.keep hS).mono hS.size⟩)
    refine ObsS.cons (fun u w hS hd => ?_) ?_
    · have d58 : u 58 = .bool true := hd 6 (by decide)
      rw [d58]
      obtain ⟨A59, c59, d59, g59⟩ : (Know.byt bs).ok (u 59) w := hd 7 (by decide)
      rw [d59]
      exact Gv.run (.string ⟨bs.toArray⟩) rfl (run_conv rfl rfl (run_str w 54 5 Tryd.underlying54 Tryd.underlying5 (dst := 9) Tryd.underlying9 g59)) rfl
    refine ObsS.cons (fun u w hS hd => ?_) ?_
    · have d58 : u 58 = .bool true := hd 6 (by decide)
      rw [d58]
      exact Gv.run (.slice A bs.length c) rfl (by go_simp) (⟨_, _, rfl, (r0.keep hS).mono hS.size⟩)
    refine ObsS.cons (fun u w hS hd => ?_) ?_
    · have d58 : u 58 = .bool true := hd 6 (by decide)
      rw [d58]
      obtain ⟨A61, c61, d61, g61⟩ : (Know.byt bs).ok (u 61) w := hd 9 (by decide)
      rw [d61]
      exact Gv.run (.string ⟨bs.toArray⟩) rfl (run_conv rfl rfl (run_str w 54 5 Tryd.underlying54 Tryd.underlying5 (dst := 9) Tryd.underlying9 g61)) rfl
    refine ObsS.cons (fun u w hS hd => ?_) ?_
    · have d58 : u 58 = .bool true := hd 6 (by decide)
      rw [d58]
      have d60 : u 60 = .string ⟨bs.toArray⟩ := hd 8 (by decide)
      rw [d60]
      have d62 : u 62 = .string ⟨bs.toArray⟩ := hd 10 (by decide)
      rw [d62]
      exact Gv.run (.bool true) rfl (by go_simp) rfl
    refine ObsS.cons (fun u w hS hd => ?_) ?_
    · have d58 : u 58 = .bool true := hd 6 (by decide)
      rw [d58]
      have d63 : u 63 = .bool true := hd 11 (by decide)
      rw [d63]
      exact Gv.run (.bool true) rfl (by go_simp) rfl
    refine ObsS.cons (fun u w hS hd => ?_) ?_
    · have d64 : u 64 = .bool true := hd 12 (by decide)
      rw [d64]
      exact Gv.run (.bool true) rfl (by go_simp) rfl
    refine ObsS.cons (fun u w hS hd => ?_) ?_
    · have d65 : u 65 = .bool true := hd 13 (by decide)
      rw [d65]
      refine Gv.call 20 #[] rfl (by go_simp) ((K9.out w (GN.out _ _ HG.out hS)).mono ?_)
      rintro e w' ⟨rfl, hb⟩
      exact ⟨_, rfl, rfl, hb⟩
    refine ObsS.cons (fun u w hS hd => ?_) ?_
    · have d65 : u 65 = .bool true := hd 13 (by decide)
      rw [d65]
      have d66 : u 66 = .bool true := hd 14 (by decide)
      rw [d66]
      exact Gv.run (.bool true) rfl (by go_simp) rfl
    exact ObsS.nil
  intro uy9 y9 hS hd
  have d67 : uy9 67 = .bool true := hd 15 (by decide)
  rw [d67]
  replace o2 := O8.keep o2 hS
  replace o7 := O8.keep o7 hS
  replace o9 := O8.keep o9 hS
  replace HG := Lib.hid (GN.out _ _ HG.out hS)
  replace r0 := (r0.keep hS).mono hS.size
  replace r3 := (r3.keep hS).mono hS.size
  replace hc := hc.trans (hS.mono hc.size)
  clear hS hd d67
  simp only [List.drop_succ_cons, List.drop_zero]
  go_wp2_with fail
  go_ret
  exact ⟨rfl, hc⟩
end
end Go.Proofs.YtckdifcelgooeaaDoor
