/-
  Layer 6's law ShaNobody over contracts. Written by tools/gen_n19.py. By an AI agent.
-/
import Derived.Test.YtbikldocjmelcaaDoorN17
namespace Go.Proofs.YtbikldocjmelcaaDoor
open Go Go.RowKit
set_option maxRecDepth 20000
set_option maxHeartbeats 1600000 in
theorem nobody_law {A0 : Option Addr} {B c0 : Nat} {bs S : List UInt8} (hSl : S.length = 32)
    (kt : ∀ (A : Option Addr) (c : Nat) (w : World), Rd w w.heap.size A c bs → Calls Tryd.prog 16 #[.pointer none, .slice A bs.length c] w fun e w' => e = .returned (.tuple #[]) ∧ Below w.heap.size w w')
    (ks : ∀ w, Glb w → Calls Tryd.prog 17 #[.pointer none] w fun e w' => ∃ A' c', e = .returned (.slice A' 32 c') ∧ Rd w' w'.heap.size A' c' S ∧ Below w.heap.size w w')
    (kw : ∀ w, Calls Tryd.prog 12 #[.slice none 0 0] w fun e w' => ∃ A' c', e = .returned (.slice A' 32 c') ∧ Rd w' w'.heap.size A' c' S ∧ Below w.heap.size w w')
    (kc : ∀ w, Calls Tryd.prog 18 #[.pointer none] w fun e w' => e = .returned (.pointer none) ∧ Below w.heap.size w w')
    (ka : ∀ w, Glb w → Calls Tryd.prog 9 #[] w fun e w' => e = .returned (.bool true) ∧ Below w.heap.size w w')
    (hn : bs.length ≤ 140737488351232) (w : World) (hG : Glb w) (hr : Rd w B A0 c0 bs) (hB : B ≤ w.heap.size) :
    Calls Tryd.prog 8 #[.slice A0 bs.length c0] w fun e w' => e = .returned (.bool true) ∧ Below w.heap.size w w' := by
  have KT := Lib.hid kt
  have KS := Lib.hid ks
  have KW := Lib.hid kw
  have KC := Lib.hid kc
  have KA := Lib.hid ka
  have KO := Lib.hid (own6_any w hr hB (by omega))
  clear kt ks kw kc ka hn
  go_enter Tryd.func8, Tryd.ntmps8
  go_wp2_with fail
  go_at_call 10
  refine KO.out.mono ?_
  rintro e v0 ⟨Ax, cx, rfl, ox, hc⟩
  clear KO
  go_wp2_with fail
  go_at_call 16
  refine (KT.out _ _ _ ox.rd).mono ?_
  rintro e v1 ⟨rfl, hb⟩
  replace hc := hc.trans (hb.mono hc.size)
  have HG := Lib.hid (fun wz (hz : Below v1.heap.size v1 wz) => hG.next (hc.trans (hz.mono hc.size)))
  clear hb ox hr KT hG
  go_upto_region 3 with fail
  refine wp_region_inv 14 [8, 9, 10, 11, 12, 13, 14, 15, 16, 17, 18, 19, 20, 21] [.val (.pointer none), .byt S, .val (.string ⟨S.toArray⟩), .byt S, .val (.string ⟨S.toArray⟩), .val (.bool true), .val (.bool true), .val (.pointer none), .val (.pointer none), .val (.bool true), .val (.bool true), .val (.bool true), .val (.bool true), .val (.bool true)] (fun wz => Below v1.heap.size v1 wz) (by kernel_rfl) (by kernel_rfl) (fun wz wz' hz hb => hz.trans (hb.mono hz.size)) ((Below.refl _ _).drew) (fun u => by simp only [puts, List.foldl_cons, List.foldl_nil]; go_simp; exact rfl) ?_ ?_
  · simp only [List.take_succ_cons, List.take_zero]
    refine Obs.cons (fun u w hS hd => ?_) ?_
    · exact Gv.run (.pointer none) rfl (by go_simp) rfl
    refine Obs.cons (fun u w hS hd => ?_) ?_
    · have d8 : u 8 = .pointer none := dep hd 0 rfl
      rw [d8]
      refine Gv.call 17 #[.pointer none] rfl (by go_simp) ((KS.out w (HG.out w hS)).mono ?_)
      rintro e w' ⟨A, c, rfl, R, hb⟩
      exact ⟨_, rfl, ⟨A, c, by rw [hSl], R⟩, hb⟩
    refine Obs.cons (fun u w hS hd => ?_) ?_
    · obtain ⟨A9, c9, d9, g9⟩ : (Know.byt S).ok (u 9) w := dep hd 1 rfl
      rw [hSl] at d9
      rw [d9]
      exact Gv.run (.string ⟨S.toArray⟩) rfl (run_conv rfl rfl (str6 w hSl g9)) rfl
    refine Obs.cons (fun u w hS hd => ?_) ?_
    · refine Gv.call 12 #[.slice none 0 0] rfl (by go_simp) ((KW.out w).mono ?_)
      rintro e w' ⟨A, c, rfl, R, hb⟩
      exact ⟨_, rfl, ⟨A, c, by rw [hSl], R⟩, hb⟩
    refine Obs.cons (fun u w hS hd => ?_) ?_
    · obtain ⟨A11, c11, d11, g11⟩ : (Know.byt S).ok (u 11) w := dep hd 3 rfl
      rw [hSl] at d11
      rw [d11]
      exact Gv.run (.string ⟨S.toArray⟩) rfl (run_conv rfl rfl (str6 w hSl g11)) rfl
    refine Obs.cons (fun u w hS hd => ?_) ?_
    · have d10 : u 10 = .string ⟨S.toArray⟩ := dep hd 2 rfl
      rw [d10]
      have d12 : u 12 = .string ⟨S.toArray⟩ := dep hd 4 rfl
      rw [d12]
      exact Gv.run (.bool true) rfl (by go_simp) rfl
    refine Obs.cons (fun u w hS hd => ?_) ?_
    · have d13 : u 13 = .bool true := dep hd 5 rfl
      rw [d13]
      exact Gv.run (.bool true) rfl (by go_simp) rfl
    refine Obs.cons (fun u w hS hd => ?_) ?_
    · have d14 : u 14 = .bool true := dep hd 6 rfl
      rw [d14]
      exact Gv.run (.pointer none) rfl (by go_simp) rfl
    refine Obs.cons (fun u w hS hd => ?_) ?_
    · have d14 : u 14 = .bool true := dep hd 6 rfl
      rw [d14]
      have d15 : u 15 = .pointer none := dep hd 7 rfl
      rw [d15]
      refine Gv.call 18 #[.pointer none] rfl (by go_simp) ((KC.out w).mono ?_)
      rintro e w' ⟨rfl, hb⟩
      exact ⟨_, rfl, rfl, hb⟩
    refine Obs.cons (fun u w hS hd => ?_) ?_
    · have d14 : u 14 = .bool true := dep hd 6 rfl
      rw [d14]
      have d16 : u 16 = .pointer none := dep hd 8 rfl
      rw [d16]
      exact Gv.run (.bool true) rfl (by go_simp) rfl
    refine Obs.cons (fun u w hS hd => ?_) ?_
    · have d14 : u 14 = .bool true := dep hd 6 rfl
      rw [d14]
      have d17 : u 17 = .bool true := dep hd 9 rfl
      rw [d17]
      exact Gv.run (.bool true) rfl (by go_simp) rfl
    refine Obs.cons (fun u w hS hd => ?_) ?_
    · have d18 : u 18 = .bool true := dep hd 10 rfl
      rw [d18]
      exact Gv.run (.bool true) rfl (by go_simp) rfl
    refine Obs.cons (fun u w hS hd => ?_) ?_
    · have d19 : u 19 = .bool true := dep hd 11 rfl
      rw [d19]
      refine Gv.call 9 #[] rfl (by go_simp) ((KA.out w (HG.out w hS)).mono ?_)
      rintro e w' ⟨rfl, hb⟩
      exact ⟨_, rfl, rfl, hb⟩
    refine Obs.cons (fun u w hS hd => ?_) ?_
    · have d19 : u 19 = .bool true := dep hd 11 rfl
      rw [d19]
      have d20 : u 20 = .bool true := dep hd 12 rfl
      rw [d20]
      exact Gv.run (.bool true) rfl (by go_simp) rfl
    exact Obs.nil
  intro u wz hS hd
  have d21 : u 21 = .bool true := hd 13 (by decide)
  rw [d21]
  simp only [List.drop_succ_cons, List.drop_zero]
  go_wp2_with fail
  go_ret
  exact ⟨rfl, hc.trans (hS.mono hc.size)⟩
theorem ref_none (w : World) : Calls Tryd.prog 12 #[.slice none 0 0] w fun e w' => ∃ A' c', e = .returned (.slice A' 32 c') ∧ Rd w' w'.heap.size A' c' (sumN smallS []) ∧ Below w.heap.size w w' :=
  (sum256_any (bs := []) (B := w.heap.size) (by decide) w (rd_no _ _) (Nat.le_refl _)).mono fun e w' ⟨A, c, he, ho, hb⟩ => ⟨A, c, he, ho.rd, hb⟩
end Go.Proofs.YtbikldocjmelcaaDoor
