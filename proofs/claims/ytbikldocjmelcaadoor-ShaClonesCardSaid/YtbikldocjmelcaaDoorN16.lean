/-
  Layer 6's laws ShaSmall, ShaGreat, own, awake over contracts. Written by tools/gen_n16.py. By an AI agent.
-/
import Derived.Test.YtbikldocjmelcaaDoorN15
import Derived.Test.YtbikldocjmelcaaDoorN30
namespace Go.Proofs.YtbikldocjmelcaaDoor
open Go Go.RowKit
set_option maxRecDepth 20000
theorem str6 {n : Nat} (w : World) {A : Option Addr} {c : Nat} {bs : List UInt8} (hl : bs.length = n) (h : Rd w w.heap.size A c bs) : (convert 22 9 (.slice A n c)).run Tryd.prog w = .ok (.string ⟨bs.toArray⟩) w := by
  subst hl
  exact run_str (P := Tryd.prog) w 22 5 Tryd.underlying22 Tryd.underlying5 (dst := 9) Tryd.underlying9 h
theorem own6_any {A : Option Addr} {B c : Nat} {bs : List UInt8} (w : World) (hr : Rd w B A c bs) (hB : B ≤ w.heap.size) (hl : bs.length ≤ 140737488355328) :
    Calls Tryd.prog 10 #[.slice A bs.length c] w fun e w' => ∃ A' c', e = .returned (.slice A' bs.length c') ∧ Own w' w.heap.size 5 A' c' bs ∧ Below w.heap.size w w' := by
  obtain ⟨i0, hi, hz0, hz1, hz2⟩ := info_parts infoB6
  have h2 : Rd (w.alloc (.cells #[] 5)) B A c bs := hr.keep ((Below.refl B w).alloc hB _)
  have h3 : Own (w.alloc (.cells #[] 5)) w.heap.size 5 (some ⟨w.heap.size, 0, none⟩) 0 [] := World.ownsRow_made w #[] 0 (Nat.le_refl _) (by decide) (by decide)
  have h4 : Below w.heap.size w (w.alloc (.cells #[] 5)) := (Below.refl _ w).alloc (Nat.le_refl _) _
  go_enter Tryd.func10, Tryd.ntmps10
  go_wp2_with (at_builtin; refine wpList_app _ rfl (.tmp 3) (.tmp 4) _ rfl w.heap.size 5 i0 _ Tryd.underlying22 hi hz0 hz1 hz2 rfl (xs := []) rfl h3 rfl h2 (by simpa using hl) (by simp) ?_; intro A1 c1 v1 ho hb)
  replace ho : Own v1 w.heap.size 5 A1 c1 bs := ho
  go_ret
  exact ⟨A1, c1, rfl, ho, h4.trans hb⟩
set_option maxHeartbeats 1600000 in
theorem small_law {A0 : Option Addr} {B c0 : Nat} {bs S : List UInt8} (hSl : S.length = 32)
    (kg : ∀ (A : Option Addr) (c : Nat) (w : World), Glb w → Rd w w.heap.size A c bs → Calls Tryd.prog 11 #[.slice A bs.length c] w fun e w' => ∃ A' c', e = .returned (.slice A' 32 c') ∧ Rd w' w'.heap.size A' c' S ∧ Below w.heap.size w w')
    (kw : ∀ (A : Option Addr) (c : Nat) (w : World), Rd w w.heap.size A c bs → Calls Tryd.prog 12 #[.slice A bs.length c] w fun e w' => ∃ A' c', e = .returned (.slice A' 32 c') ∧ Rd w' w'.heap.size A' c' S ∧ Below w.heap.size w w')
    (ka : ∀ w, Glb w → Calls Tryd.prog 9 #[] w fun e w' => e = .returned (.bool true) ∧ Below w.heap.size w w')
    (hn : bs.length ≤ 4000) (w : World) (hG : Glb w) (hr : Rd w B A0 c0 bs) (hB : B ≤ w.heap.size) :
    Calls Tryd.prog 3 #[.slice A0 bs.length c0] w fun e w' => e = .returned (.bool true) ∧ Below w.heap.size w w' := by
  have KG := Lib.hid kg
  have KW := Lib.hid kw
  have KA := Lib.hid ka
  have KO := Lib.hid (own6_any w hr hB (by omega))
  have g1 : ¬ (4000 : Int) < (bs.length : Int) := by omega
  clear kg kw ka
  go_enter Tryd.func3, Tryd.ntmps3
  go_wp2_with fail
  go_at_call 10
  refine KO.out.mono ?_
  rintro e v1 ⟨Ax, cx, rfl, ox, hc⟩
  clear KO
  have HG := Lib.hid (fun wz (hz : Below v1.heap.size v1 wz) => hG.next (hc.trans (hz.mono hc.size)))
  have hx := ox.rd
  have h0 := (hr.keep (hc.mono hB)).mono (Nat.le_trans hB hc.size)
  clear ox hr hG
  go_upto_region 4 with fail
  refine wp_region_inv 17 [10, 11, 12, 13, 14, 15, 16, 17, 18, 19, 20, 21, 22, 23, 24, 25, 26] [.byt bs, .byt S, .val (.string ⟨S.toArray⟩), .byt bs, .byt S, .val (.string ⟨S.toArray⟩), .val (.bool true), .val (.bool true), .byt bs, .val (.string ⟨bs.toArray⟩), .byt bs, .val (.string ⟨bs.toArray⟩), .val (.bool true), .val (.bool true), .val (.bool true), .val (.bool true), .val (.bool true)] (fun wz => Below v1.heap.size v1 wz) (by kernel_rfl) (by kernel_rfl) (fun wz wz' hz hb => hz.trans (hb.mono hz.size)) ((Below.refl _ _).drew) (fun u => by simp only [puts, List.foldl_cons, List.foldl_nil]; go_simp; exact rfl) ?_ ?_
  · simp only [List.take_succ_cons, List.take_zero]
    refine Obs.cons (fun u w hS hd => ?_) ?_
    · exact Gv.run (.slice Ax bs.length cx) rfl (by go_simp) (⟨_, _, rfl, (hx.keep hS).mono hS.size⟩)
    refine Obs.cons (fun u w hS hd => ?_) ?_
    · obtain ⟨A10, c10, d10, g10⟩ : (Know.byt bs).ok (u 10) w := dep hd 0 rfl
      rw [d10]
      refine Gv.call 11 #[.slice A10 bs.length c10] rfl (by go_simp) ((KG.out _ _ w (HG.out w hS) g10).mono ?_)
      rintro e w' ⟨A, c, rfl, R, hb⟩
      exact ⟨_, rfl, ⟨A, c, by rw [hSl], R⟩, hb⟩
    refine Obs.cons (fun u w hS hd => ?_) ?_
    · obtain ⟨A11, c11, d11, g11⟩ : (Know.byt S).ok (u 11) w := dep hd 1 rfl
      rw [hSl] at d11
      rw [d11]
      exact Gv.run (.string ⟨S.toArray⟩) rfl (run_conv rfl rfl (str6 w hSl g11)) rfl
    refine Obs.cons (fun u w hS hd => ?_) ?_
    · exact Gv.run (.slice A0 bs.length c0) rfl (by go_simp) (⟨_, _, rfl, (h0.keep hS).mono hS.size⟩)
    refine Obs.cons (fun u w hS hd => ?_) ?_
    · obtain ⟨A13, c13, d13, g13⟩ : (Know.byt bs).ok (u 13) w := dep hd 3 rfl
      rw [d13]
      refine Gv.call 12 #[.slice A13 bs.length c13] rfl (by go_simp) ((KW.out _ _ w g13).mono ?_)
      rintro e w' ⟨A, c, rfl, R, hb⟩
      exact ⟨_, rfl, ⟨A, c, by rw [hSl], R⟩, hb⟩
    refine Obs.cons (fun u w hS hd => ?_) ?_
    · obtain ⟨A14, c14, d14, g14⟩ : (Know.byt S).ok (u 14) w := dep hd 4 rfl
      rw [hSl] at d14
      rw [d14]
      exact Gv.run (.string ⟨S.toArray⟩) rfl (run_conv rfl rfl (str6 w hSl g14)) rfl
    refine Obs.cons (fun u w hS hd => ?_) ?_
    · have d12 : u 12 = .string ⟨S.toArray⟩ := dep hd 2 rfl
      rw [d12]
      have d15 : u 15 = .string ⟨S.toArray⟩ := dep hd 5 rfl
      rw [d15]
      exact Gv.run (.bool true) rfl (by go_simp) rfl
    refine Obs.cons (fun u w hS hd => ?_) ?_
    · have d16 : u 16 = .bool true := dep hd 6 rfl
      rw [d16]
      exact Gv.run (.bool true) rfl (by go_simp) rfl
    refine Obs.cons (fun u w hS hd => ?_) ?_
    · have d17 : u 17 = .bool true := dep hd 7 rfl
      rw [d17]
      exact Gv.run (.slice Ax bs.length cx) rfl (by go_simp) (⟨_, _, rfl, (hx.keep hS).mono hS.size⟩)
    refine Obs.cons (fun u w hS hd => ?_) ?_
    · have d17 : u 17 = .bool true := dep hd 7 rfl
      rw [d17]
      obtain ⟨A18, c18, d18, g18⟩ : (Know.byt bs).ok (u 18) w := dep hd 8 rfl
      rw [d18]
      exact Gv.run (.string ⟨bs.toArray⟩) rfl (run_conv rfl rfl (run_str w 22 5 Tryd.underlying22 Tryd.underlying5 (dst := 9) Tryd.underlying9 g18)) rfl
    refine Obs.cons (fun u w hS hd => ?_) ?_
    · have d17 : u 17 = .bool true := dep hd 7 rfl
      rw [d17]
      exact Gv.run (.slice A0 bs.length c0) rfl (by go_simp) (⟨_, _, rfl, (h0.keep hS).mono hS.size⟩)
    refine Obs.cons (fun u w hS hd => ?_) ?_
    · have d17 : u 17 = .bool true := dep hd 7 rfl
      rw [d17]
      obtain ⟨A20, c20, d20, g20⟩ : (Know.byt bs).ok (u 20) w := dep hd 10 rfl
      rw [d20]
      exact Gv.run (.string ⟨bs.toArray⟩) rfl (run_conv rfl rfl (run_str w 22 5 Tryd.underlying22 Tryd.underlying5 (dst := 9) Tryd.underlying9 g20)) rfl
    refine Obs.cons (fun u w hS hd => ?_) ?_
    · have d17 : u 17 = .bool true := dep hd 7 rfl
      rw [d17]
      have d19 : u 19 = .string ⟨bs.toArray⟩ := dep hd 9 rfl
      rw [d19]
      have d21 : u 21 = .string ⟨bs.toArray⟩ := dep hd 11 rfl
      rw [d21]
      exact Gv.run (.bool true) rfl (by go_simp) rfl
    refine Obs.cons (fun u w hS hd => ?_) ?_
    · have d17 : u 17 = .bool true := dep hd 7 rfl
      rw [d17]
      have d22 : u 22 = .bool true := dep hd 12 rfl
      rw [d22]
      exact Gv.run (.bool true) rfl (by go_simp) rfl
    refine Obs.cons (fun u w hS hd => ?_) ?_
    · have d23 : u 23 = .bool true := dep hd 13 rfl
      rw [d23]
      exact Gv.run (.bool true) rfl (by go_simp) rfl
    refine Obs.cons (fun u w hS hd => ?_) ?_
    · have d24 : u 24 = .bool true := dep hd 14 rfl
      rw [d24]
      refine Gv.call 9 #[] rfl (by go_simp) ((KA.out w (HG.out w hS)).mono ?_)
      rintro e w' ⟨rfl, hb⟩
      exact ⟨_, rfl, rfl, hb⟩
    refine Obs.cons (fun u w hS hd => ?_) ?_
    · have d24 : u 24 = .bool true := dep hd 14 rfl
      rw [d24]
      have d25 : u 25 = .bool true := dep hd 15 rfl
      rw [d25]
      exact Gv.run (.bool true) rfl (by go_simp) rfl
    exact Obs.nil
  intro u wz hS hd
  have d26 : u 26 = .bool true := hd 16 (by decide)
  rw [d26]
  simp only [List.drop_succ_cons, List.drop_zero]
  go_wp2_with fail
  go_ret
  exact ⟨rfl, hc.trans (hS.mono hc.size)⟩
theorem small_law_much {A0 : Option Addr} {n c0 : Nat}
    (ka : ∀ w, Glb w → Calls Tryd.prog 9 #[] w fun e w' => e = .returned (.bool true) ∧ Below w.heap.size w w') (hn : ¬ n ≤ 4000) (w : World) (hG : Glb w) :
    Calls Tryd.prog 3 #[.slice A0 n c0] w fun e w' => e = .returned (.bool true) ∧ Below w.heap.size w w' := by
  have KA := Lib.hid ka
  clear ka
  have g1 : (4000 : Int) < (n : Int) := by omega
  go_enter Tryd.func3, Tryd.ntmps3
  go_wp2_with fail
  go_at_call 9
  refine (KA.out _ hG).mono ?_
  rintro e v1 ⟨rfl, hc⟩
  go_wp2_with fail
  go_ret
  exact ⟨rfl, hc⟩
set_option maxHeartbeats 1600000 in
theorem great_law {A0 : Option Addr} {B c0 : Nat} {bs S : List UInt8} (hSl : S.length = 64)
    (kg : ∀ (A : Option Addr) (c : Nat) (w : World), Glb w → Rd w w.heap.size A c bs → Calls Tryd.prog 13 #[.slice A bs.length c] w fun e w' => ∃ A' c', e = .returned (.slice A' 64 c') ∧ Rd w' w'.heap.size A' c' S ∧ Below w.heap.size w w')
    (kw : ∀ (A : Option Addr) (c : Nat) (w : World), Rd w w.heap.size A c bs → Calls Tryd.prog 14 #[.slice A bs.length c] w fun e w' => ∃ A' c', e = .returned (.slice A' 64 c') ∧ Rd w' w'.heap.size A' c' S ∧ Below w.heap.size w w')
    (ka : ∀ w, Glb w → Calls Tryd.prog 9 #[] w fun e w' => e = .returned (.bool true) ∧ Below w.heap.size w w')
    (hn : bs.length ≤ 4000) (w : World) (hG : Glb w) (hr : Rd w B A0 c0 bs) (hB : B ≤ w.heap.size) :
    Calls Tryd.prog 4 #[.slice A0 bs.length c0] w fun e w' => e = .returned (.bool true) ∧ Below w.heap.size w w' := by
  have KG := Lib.hid kg
  have KW := Lib.hid kw
  have KA := Lib.hid ka
  have KO := Lib.hid (own6_any w hr hB (by omega))
  have g1 : ¬ (4000 : Int) < (bs.length : Int) := by omega
  clear kg kw ka
  go_enter Tryd.func4, Tryd.ntmps4
  go_wp2_with fail
  go_at_call 10
  refine KO.out.mono ?_
  rintro e v1 ⟨Ax, cx, rfl, ox, hc⟩
  clear KO
  have HG := Lib.hid (fun wz (hz : Below v1.heap.size v1 wz) => hG.next (hc.trans (hz.mono hc.size)))
  have hx := ox.rd
  have h0 := (hr.keep (hc.mono hB)).mono (Nat.le_trans hB hc.size)
  clear ox hr hG
  go_upto_region 4 with fail
  refine wp_region_inv 17 [10, 11, 12, 13, 14, 15, 16, 17, 18, 19, 20, 21, 22, 23, 24, 25, 26] [.byt bs, .byt S, .val (.string ⟨S.toArray⟩), .byt bs, .byt S, .val (.string ⟨S.toArray⟩), .val (.bool true), .val (.bool true), .byt bs, .val (.string ⟨bs.toArray⟩), .byt bs, .val (.string ⟨bs.toArray⟩), .val (.bool true), .val (.bool true), .val (.bool true), .val (.bool true), .val (.bool true)] (fun wz => Below v1.heap.size v1 wz) (by kernel_rfl) (by kernel_rfl) (fun wz wz' hz hb => hz.trans (hb.mono hz.size)) ((Below.refl _ _).drew) (fun u => by simp only [puts, List.foldl_cons, List.foldl_nil]; go_simp; exact rfl) ?_ ?_
  · simp only [List.take_succ_cons, List.take_zero]
    refine Obs.cons (fun u w hS hd => ?_) ?_
    · exact Gv.run (.slice Ax bs.length cx) rfl (by go_simp) (⟨_, _, rfl, (hx.keep hS).mono hS.size⟩)
    refine Obs.cons (fun u w hS hd => ?_) ?_
    · obtain ⟨A10, c10, d10, g10⟩ : (Know.byt bs).ok (u 10) w := dep hd 0 rfl
      rw [d10]
      refine Gv.call 13 #[.slice A10 bs.length c10] rfl (by go_simp) ((KG.out _ _ w (HG.out w hS) g10).mono ?_)
      rintro e w' ⟨A, c, rfl, R, hb⟩
      exact ⟨_, rfl, ⟨A, c, by rw [hSl], R⟩, hb⟩
    refine Obs.cons (fun u w hS hd => ?_) ?_
    · obtain ⟨A11, c11, d11, g11⟩ : (Know.byt S).ok (u 11) w := dep hd 1 rfl
      rw [hSl] at d11
      rw [d11]
      exact Gv.run (.string ⟨S.toArray⟩) rfl (run_conv rfl rfl (str6 w hSl g11)) rfl
    refine Obs.cons (fun u w hS hd => ?_) ?_
    · exact Gv.run (.slice A0 bs.length c0) rfl (by go_simp) (⟨_, _, rfl, (h0.keep hS).mono hS.size⟩)
    refine Obs.cons (fun u w hS hd => ?_) ?_
    · obtain ⟨A13, c13, d13, g13⟩ : (Know.byt bs).ok (u 13) w := dep hd 3 rfl
      rw [d13]
      refine Gv.call 14 #[.slice A13 bs.length c13] rfl (by go_simp) ((KW.out _ _ w g13).mono ?_)
      rintro e w' ⟨A, c, rfl, R, hb⟩
      exact ⟨_, rfl, ⟨A, c, by rw [hSl], R⟩, hb⟩
    refine Obs.cons (fun u w hS hd => ?_) ?_
    · obtain ⟨A14, c14, d14, g14⟩ : (Know.byt S).ok (u 14) w := dep hd 4 rfl
      rw [hSl] at d14
      rw [d14]
      exact Gv.run (.string ⟨S.toArray⟩) rfl (run_conv rfl rfl (str6 w hSl g14)) rfl
    refine Obs.cons (fun u w hS hd => ?_) ?_
    · have d12 : u 12 = .string ⟨S.toArray⟩ := dep hd 2 rfl
      rw [d12]
      have d15 : u 15 = .string ⟨S.toArray⟩ := dep hd 5 rfl
      rw [d15]
      exact Gv.run (.bool true) rfl (by go_simp) rfl
    refine Obs.cons (fun u w hS hd => ?_) ?_
    · have d16 : u 16 = .bool true := dep hd 6 rfl
      rw [d16]
      exact Gv.run (.bool true) rfl (by go_simp) rfl
    refine Obs.cons (fun u w hS hd => ?_) ?_
    · have d17 : u 17 = .bool true := dep hd 7 rfl
      rw [d17]
      exact Gv.run (.slice Ax bs.length cx) rfl (by go_simp) (⟨_, _, rfl, (hx.keep hS).mono hS.size⟩)
    refine Obs.cons (fun u w hS hd => ?_) ?_
    · have d17 : u 17 = .bool true := dep hd 7 rfl
      rw [d17]
      obtain ⟨A18, c18, d18, g18⟩ : (Know.byt bs).ok (u 18) w := dep hd 8 rfl
      rw [d18]
      exact Gv.run (.string ⟨bs.toArray⟩) rfl (run_conv rfl rfl (run_str w 22 5 Tryd.underlying22 Tryd.underlying5 (dst := 9) Tryd.underlying9 g18)) rfl
    refine Obs.cons (fun u w hS hd => ?_) ?_
    · have d17 : u 17 = .bool true := dep hd 7 rfl
      rw [d17]
      exact Gv.run (.slice A0 bs.length c0) rfl (by go_simp) (⟨_, _, rfl, (h0.keep hS).mono hS.size⟩)
    refine Obs.cons (fun u w hS hd => ?_) ?_
    · have d17 : u 17 = .bool true := dep hd 7 rfl
      rw [d17]
      obtain ⟨A20, c20, d20, g20⟩ : (Know.byt bs).ok (u 20) w := dep hd 10 rfl
      rw [d20]
      exact Gv.run (.string ⟨bs.toArray⟩) rfl (run_conv rfl rfl (run_str w 22 5 Tryd.underlying22 Tryd.underlying5 (dst := 9) Tryd.underlying9 g20)) rfl
    refine Obs.cons (fun u w hS hd => ?_) ?_
    · have d17 : u 17 = .bool true := dep hd 7 rfl
      rw [d17]
      have d19 : u 19 = .string ⟨bs.toArray⟩ := dep hd 9 rfl
      rw [d19]
      have d21 : u 21 = .string ⟨bs.toArray⟩ := dep hd 11 rfl
      rw [d21]
      exact Gv.run (.bool true) rfl (by go_simp) rfl
    refine Obs.cons (fun u w hS hd => ?_) ?_
    · have d17 : u 17 = .bool true := dep hd 7 rfl
      rw [d17]
      have d22 : u 22 = .bool true := dep hd 12 rfl
      rw [d22]
      exact Gv.run (.bool true) rfl (by go_simp) rfl
    refine Obs.cons (fun u w hS hd => ?_) ?_
    · have d23 : u 23 = .bool true := dep hd 13 rfl
      rw [d23]
      exact Gv.run (.bool true) rfl (by go_simp) rfl
    refine Obs.cons (fun u w hS hd => ?_) ?_
    · have d24 : u 24 = .bool true := dep hd 14 rfl
      rw [d24]
      refine Gv.call 9 #[] rfl (by go_simp) ((KA.out w (HG.out w hS)).mono ?_)
      rintro e w' ⟨rfl, hb⟩
      exact ⟨_, rfl, rfl, hb⟩
    refine Obs.cons (fun u w hS hd => ?_) ?_
    · have d24 : u 24 = .bool true := dep hd 14 rfl
      rw [d24]
      have d25 : u 25 = .bool true := dep hd 15 rfl
      rw [d25]
      exact Gv.run (.bool true) rfl (by go_simp) rfl
    exact Obs.nil
  intro u wz hS hd
  have d26 : u 26 = .bool true := hd 16 (by decide)
  rw [d26]
  simp only [List.drop_succ_cons, List.drop_zero]
  go_wp2_with fail
  go_ret
  exact ⟨rfl, hc.trans (hS.mono hc.size)⟩
theorem great_law_much {A0 : Option Addr} {n c0 : Nat}
    (ka : ∀ w, Glb w → Calls Tryd.prog 9 #[] w fun e w' => e = .returned (.bool true) ∧ Below w.heap.size w w') (hn : ¬ n ≤ 4000) (w : World) (hG : Glb w) :
    Calls Tryd.prog 4 #[.slice A0 n c0] w fun e w' => e = .returned (.bool true) ∧ Below w.heap.size w w' := by
  have KA := Lib.hid ka
  clear ka
  have g1 : (4000 : Int) < (n : Int) := by omega
  go_enter Tryd.func4, Tryd.ntmps4
  go_wp2_with fail
  go_at_call 9
  refine (KA.out _ hG).mono ?_
  rintro e v1 ⟨rfl, hc⟩
  go_wp2_with fail
  go_ret
  exact ⟨rfl, hc⟩
end Go.Proofs.YtbikldocjmelcaaDoor
