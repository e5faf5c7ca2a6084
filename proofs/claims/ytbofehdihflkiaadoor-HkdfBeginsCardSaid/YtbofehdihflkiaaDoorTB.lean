/-
  The document's Expand of too many, Derive (layer 7). By an AI agent. Layer 7's laws HkdfMacs, HkdfExtracts over contracts. Written by tools/gen_h8.py. By an AI agent. Layer 7's law HkdfExpands over contracts. Written by tools/gen_h9.py. By an AI agent. Layer 7's awake over contracts. Written by tools/gen_h10.py. By an AI agent.
-/
import Derived.Test.YtbofehdihflkiaaDoorH6
import Derived.Lib.SlBytesConst
namespace Go.Proofs.YtbofehdihflkiaaDoor
open Go Go.RowKit
set_option maxRecDepth 20000
theorem extN_len (salt key : List UInt8) : (extN salt key).length = 32 := macN_len _ _
theorem refExpand_no {A A' : Option Addr} {n0 c n1 c' : Nat} {i : Int} (hi : i < 0 ∨ 8160 < i) (w : World) :
    Calls Tryd.prog 16 #[.slice A n0 c, .slice A' n1 c', .int .i64 i] w fun e w' => e = .returned (.tuple #[.slice none 0 0, .int .i64 2]) ∧ Below w.heap.size w w' := by
  rcases hi with h | h
  · go_enter Tryd.func16, Tryd.ntmps16
    go_wp2_with fail
    exact bodyPost_ret (results_tmp2 rfl _ _ _) rfl ⟨rfl, Below.refl _ _⟩
  · have h' : ¬ i < 0 := by omega
    go_enter Tryd.func16, Tryd.ntmps16
    go_wp2_with fail
    exact bodyPost_ret (results_tmp2 rfl _ _ _) rfl ⟨rfl, Below.refl _ _⟩
section
attribute [local irreducible] sumN macN extN expN
set_option maxHeartbeats 1600000 in
theorem refDerive_any {A A' A2 : Option Addr} {c c' c2 n : Nat} {salt key info : List UInt8} (hn : n ≤ 8160) (hsl : salt.length ≤ 1000000) (hkl : key.length ≤ 900000) (hil : info.length ≤ 100000) (w : World) (hr : Rd w w.heap.size A c salt) (hk : Rd w w.heap.size A' c' key) (hs : Rd w w.heap.size A2 c2 info) :
    Calls Tryd.prog 18 #[.slice A salt.length c, .slice A' key.length c', .slice A2 info.length c2, .int .i64 (n : Int)] w fun e w' => ∃ A3 c3, e = .returned (.tuple #[.slice A3 n c3, .int .i64 0]) ∧ Rd w' w'.heap.size A3 c3 (expN (extN salt key) info n) ∧ Below w.heap.size w w' := by
  have KX := Lib.hid (refExtract_any (A := A) (A' := A') (c := c) (c' := c') hsl hkl w hr hk)
  go_enter Tryd.func18, Tryd.ntmps18
  go_wp2_with fail
  go_at_call 14
  refine KX.out.mono ?_
  rintro e v1 ⟨B1, d1, rfl, r1, hc⟩
  have hE := refExpand_any (A := B1) (c := d1) (A' := A2) (c' := c2) (key := extN salt key) (info := info) hn (by rw [extN_len]; decide) hil v1 r1 ((hs.keep hc).mono hc.size)
  rw [extN_len] at hE
  have KE := Lib.hid hE
  clear hE KX
  go_wp2_with fail
  go_at_call 16
  refine KE.out.mono ?_
  rintro e v2 ⟨B2, d2, rfl, r2, hb⟩
  go_wp2_with fail
  exact bodyPost_ret (results_tmp2 rfl _ _ _) rfl ⟨B2, d2, rfl, r2, hc.trans (hb.mono hc.size)⟩
set_option maxHeartbeats 1600000 in
theorem refDerive_no {A A' A2 : Option Addr} {c c' c2 : Nat} {i : Int} {salt key info : List UInt8} (hi : i < 0 ∨ 8160 < i) (hsl : salt.length ≤ 1000000) (hkl : key.length ≤ 900000) (w : World) (hr : Rd w w.heap.size A c salt) (hk : Rd w w.heap.size A' c' key) :
    Calls Tryd.prog 18 #[.slice A salt.length c, .slice A' key.length c', .slice A2 info.length c2, .int .i64 i] w fun e w' => e = .returned (.tuple #[.slice none 0 0, .int .i64 2]) ∧ Below w.heap.size w w' := by
  have KX := Lib.hid (refExtract_any (A := A) (A' := A') (c := c) (c' := c') hsl hkl w hr hk)
  have HI := Lib.hid hi
  clear hi
  go_enter Tryd.func18, Tryd.ntmps18
  go_wp2_with fail
  go_at_call 14
  refine KX.out.mono ?_
  rintro e v1 ⟨B1, d1, rfl, r1, hc⟩
  go_wp2_with fail
  go_at_call 16
  refine (refExpand_no HI.out _).mono ?_
  rintro e v2 ⟨rfl, hb⟩
  go_wp2_with fail
  exact bodyPost_ret (results_tmp2 rfl _ _ _) rfl ⟨rfl, hc.trans (hb.mono hc.size)⟩
end
end Go.Proofs.YtbofehdihflkiaaDoor
namespace Go.Proofs.YtbofehdihflkiaaDoor
open Go Go.RowKit
set_option maxRecDepth 20000
theorem str7 {n : Nat} (w : World) {A : Option Addr} {c : Nat} {bs : List UInt8} (hl : bs.length = n) (h : Rd w w.heap.size A c bs) : (convert 22 9 (.slice A n c)).run Tryd.prog w = .ok (.string ⟨bs.toArray⟩) w := by
  subst hl
  exact run_str (P := Tryd.prog) w 22 5 Tryd.underlying22 Tryd.underlying5 (dst := 9) Tryd.underlying9 h
theorem own7_any {A : Option Addr} {B c : Nat} {bs : List UInt8} (w : World) (hr : Rd w B A c bs) (hB : B ≤ w.heap.size) (hl : bs.length ≤ 140737488355328) :
    Calls Tryd.prog 10 #[.slice A bs.length c] w fun e w' => ∃ A' c', e = .returned (.slice A' bs.length c') ∧ Own w' w.heap.size 5 A' c' bs ∧ Below w.heap.size w w' := by
  obtain ⟨i0, hi, hz0, hz1, hz2⟩ := info_parts infoB6
  have h2 : Rd (w.alloc (.cells #[] 5)) B A c bs := hr.keep ((Below.refl B w).alloc hB _)
  have h3 : Own (w.alloc (.cells #[] 5)) w.heap.size 5 (some ⟨w.heap.size, 0, none⟩) 0 [] := World.ownsRow_made w #[] 0 (Nat.le_refl _) (by decide) (by decide)
  have h4 : Below w.heap.size w (w.alloc (.cells #[] 5)) := (Below.refl _ w).alloc (Nat.le_refl _) _
  go_enter Tryd.func10, Tryd.ntmps10
  go_wp2_with (at_builtin; refine wpList_app _ rfl (.tmp 3) (.tmp 4) _ rfl w.heap.size 5 i0 _ Tryd.underlying22 hi hz0 hz1 hz2 rfl (xs := []) rfl h3 rfl h2 (by simpa using hl) (by simp) ?_; intro A1 c1 v1 ho hb)
  replace ho : Own v1 w.heap.size 5 A1 c1 bs := ho
  go_ret
  exact ⟨A1, c1, rfl, ho, h4.trans hb⟩
theorem own7_rd (bs : List UInt8) (A : Option Addr) (c : Nat) (w : World) (hl : bs.length ≤ 140737488355328) (hr : Rd w w.heap.size A c bs) :
    Calls Tryd.prog 10 #[.slice A bs.length c] w fun e w' => ∃ A' c', e = .returned (.slice A' bs.length c') ∧ Rd w' w'.heap.size A' c' bs ∧ Below w.heap.size w w' :=
  (own7_any w hr (Nat.le_refl _) hl).mono fun _ _ ⟨A, c, he, ho, hb⟩ => ⟨A, c, he, ho.rd, hb⟩
set_option maxHeartbeats 1600000 in
theorem macs_law {G : World → Prop} (hGn : ∀ w w', G w → Below w.heap.size w w' → G w') {A0 A1 : Option Addr} {c0 c1 : Nat} {key b S : List UInt8} (hSl : S.length = 32)
    (kg : ∀ (A : Option Addr) (c : Nat) (A' : Option Addr) (c' : Nat) (w : World), G w → Rd w w.heap.size A c key → Rd w w.heap.size A' c' b → Calls Tryd.prog 11 #[.slice A key.length c, .slice A' b.length c'] w fun e w' => ∃ A2 c2, e = .returned (.slice A2 32 c2) ∧ Rd w' w'.heap.size A2 c2 S ∧ Below w.heap.size w w')
    (kr : ∀ (A : Option Addr) (c : Nat) (A' : Option Addr) (c' : Nat) (w : World), Rd w w.heap.size A c key → Rd w w.heap.size A' c' b → Calls Tryd.prog 12 #[.slice A key.length c, .slice A' b.length c'] w fun e w' => ∃ A2 c2, e = .returned (.slice A2 32 c2) ∧ Rd w' w'.heap.size A2 c2 S ∧ Below w.heap.size w w')
    (ka : ∀ w, G w → Calls Tryd.prog 9 #[] w fun e w' => e = .returned (.bool true) ∧ Below w.heap.size w w')
    (n0 : key.length ≤ 4000) (n1 : b.length ≤ 4000) (w : World) (hG : G w) (hr : Rd w w.heap.size A0 c0 key) (hs : Rd w w.heap.size A1 c1 b) :
    Calls Tryd.prog 3 #[.slice A0 key.length c0, .slice A1 b.length c1] w fun e w' => e = .returned (.bool true) ∧ Below w.heap.size w w' := by
  have KG := Lib.hid kg
  have KR := Lib.hid kr
  have KA := Lib.hid ka
  have KO := Lib.hid (own7_any w hr (Nat.le_refl _) (by omega))
  have g1 : ¬ (4000 : Int) < (key.length : Int) := by omega
  have g2 : ¬ (4000 : Int) < (b.length : Int) := by omega
  clear kg kr ka
  go_enter Tryd.func3, Tryd.ntmps3
  go_wp2_with fail
  go_at_call 10
  refine KO.out.mono ?_
  rintro e v1 ⟨Ax, cx, rfl, ox, hc⟩
  have KO2 := Lib.hid (own7_any v1 (hs.keep hc) hc.size (by omega))
  clear KO
  go_wp2_with fail
  go_at_call 10
  refine KO2.out.mono ?_
  rintro e v2 ⟨Ay, cy, rfl, oy, hb⟩
  have hx := (ox.keep hb).rd
  have hy := oy.rd
  replace hc := hc.trans (hb.mono hc.size)
  have h0 := (hr.keep hc).mono hc.size
  have h1 := (hs.keep hc).mono hc.size
  have HG := Lib.hid (fun wz (hz : Below v2.heap.size v2 wz) => hGn _ _ hG (hc.trans (hz.mono hc.size)))
  clear ox oy hb hr hs KO2 hGn hG
  go_upto_region 4 with fail
  refine wp_region_inv 26 [20, 21, 22, 23, 24, 25, 26, 27, 28, 29, 30, 31, 32, 33, 34, 35, 36, 37, 38, 39, 40, 41, 42, 43, 44, 45] [.byt key, .byt b, .byt S, .val (.string ⟨S.toArray⟩), .byt key, .byt b, .byt S, .val (.string ⟨S.toArray⟩), .val (.bool true), .val (.bool true), .byt key, .val (.string ⟨key.toArray⟩), .byt key, .val (.string ⟨key.toArray⟩), .val (.bool true), .val (.bool true), .val (.bool true), .byt b, .val (.string ⟨b.toArray⟩), .byt b, .val (.string ⟨b.toArray⟩), .val (.bool true), .val (.bool true), .val (.bool true), .val (.bool true), .val (.bool true)] (fun wz => Below v2.heap.size v2 wz) (by kernel_rfl) (by kernel_rfl) (fun wz wz' hz hb => hz.trans (hb.mono hz.size)) ((Below.refl _ _).drew) (fun u => by simp only [puts, List.foldl_cons, List.foldl_nil]; go_simp; exact rfl) ?_ ?_
  · simp only [List.take_succ_cons, List.take_zero]
    refine Obs.cons (fun u w hS hd => ?_) ?_
    · exact Gv.run (.slice Ax key.length cx) rfl (by go_simp) (⟨_, _, rfl, (hx.keep hS).mono hS.size⟩)
    refine Obs.cons (fun u w hS hd => ?_) ?_
    · exact Gv.run (.slice Ay b.length cy) rfl (by go_simp) (⟨_, _, rfl, (hy.keep hS).mono hS.size⟩)
    refine Obs.cons (fun u w hS hd => ?_) ?_
    · obtain ⟨A20, c20, d20, g20⟩ : (Know.byt key).ok (u 20) w := dep hd 0 rfl
      rw [d20]
      obtain ⟨A21, c21, d21, g21⟩ : (Know.byt b).ok (u 21) w := dep hd 1 rfl
      rw [d21]
      refine Gv.call 11 #[.slice A20 key.length c20, .slice A21 b.length c21] rfl (by go_simp) ((KG.out _ _ _ _ w (HG.out w hS) g20 g21).mono ?_)
      rintro e w' ⟨A, c, rfl, R, hb⟩
      exact ⟨_, rfl, ⟨A, c, by rw [hSl], R⟩, hb⟩
    refine Obs.cons (fun u w hS hd => ?_) ?_
    · obtain ⟨A22, c22, d22, g22⟩ : (Know.byt S).ok (u 22) w := dep hd 2 rfl
      rw [hSl] at d22
      rw [d22]
      exact Gv.run (.string ⟨S.toArray⟩) rfl (run_conv rfl rfl (str7 w hSl g22)) rfl
    refine Obs.cons (fun u w hS hd => ?_) ?_
    · exact Gv.run (.slice A0 key.length c0) rfl (by go_simp) (⟨_, _, rfl, (h0.keep hS).mono hS.size⟩)
    refine Obs.cons (fun u w hS hd => ?_) ?_
    · exact Gv.run (.slice A1 b.length c1) rfl (by go_simp) (⟨_, _, rfl, (h1.keep hS).mono hS.size⟩)
    refine Obs.cons (fun u w hS hd => ?_) ?_
    · obtain ⟨A24, c24, d24, g24⟩ : (Know.byt key).ok (u 24) w := dep hd 4 rfl
      rw [d24]
      obtain ⟨A25, c25, d25, g25⟩ : (Know.byt b).ok (u 25) w := dep hd 5 rfl
      rw [d25]
      refine Gv.call 12 #[.slice A24 key.length c24, .slice A25 b.length c25] rfl (by go_simp) ((KR.out _ _ _ _ w g24 g25).mono ?_)
      rintro e w' ⟨A, c, rfl, R, hb⟩
      exact ⟨_, rfl, ⟨A, c, by rw [hSl], R⟩, hb⟩
    refine Obs.cons (fun u w hS hd => ?_) ?_
    · obtain ⟨A26, c26, d26, g26⟩ : (Know.byt S).ok (u 26) w := dep hd 6 rfl
      rw [hSl] at d26
      rw [d26]
      exact Gv.run (.string ⟨S.toArray⟩) rfl (run_conv rfl rfl (str7 w hSl g26)) rfl
    refine Obs.cons (fun u w hS hd => ?_) ?_
    · have d23 : u 23 = .string ⟨S.toArray⟩ := dep hd 3 rfl
      rw [d23]
      have d27 : u 27 = .string ⟨S.toArray⟩ := dep hd 7 rfl
      rw [d27]
      exact Gv.run (.bool true) rfl (by go_simp) rfl
    refine Obs.cons (fun u w hS hd => ?_) ?_
    · have d28 : u 28 = .bool true := dep hd 8 rfl
      rw [d28]
      exact Gv.run (.bool true) rfl (by go_simp) rfl
    refine Obs.cons (fun u w hS hd => ?_) ?_
    · have d29 : u 29 = .bool true := dep hd 9 rfl
      rw [d29]
      exact Gv.run (.slice Ax key.length cx) rfl (by go_simp) (⟨_, _, rfl, (hx.keep hS).mono hS.size⟩)
    refine Obs.cons (fun u w hS hd => ?_) ?_
    · have d29 : u 29 = .bool true := dep hd 9 rfl
      rw [d29]
      obtain ⟨A30, c30, d30, g30⟩ : (Know.byt key).ok (u 30) w := dep hd 10 rfl
      rw [d30]
      exact Gv.run (.string ⟨key.toArray⟩) rfl (run_conv rfl rfl (run_str w 22 5 Tryd.underlying22 Tryd.underlying5 (dst := 9) Tryd.underlying9 g30)) rfl
    refine Obs.cons (fun u w hS hd => ?_) ?_
    · have d29 : u 29 = .bool true := dep hd 9 rfl
      rw [d29]
      exact Gv.run (.slice A0 key.length c0) rfl (by go_simp) (⟨_, _, rfl, (h0.keep hS).mono hS.size⟩)
    refine Obs.cons (fun u w hS hd => ?_) ?_
    · have d29 : u 29 = .bool true := dep hd 9 rfl
      rw [d29]
      obtain ⟨A32, c32, d32, g32⟩ : (Know.byt key).ok (u 32) w := dep hd 12 rfl
      rw [d32]
      exact Gv.run (.string ⟨key.toArray⟩) rfl (run_conv rfl rfl (run_str w 22 5 Tryd.underlying22 Tryd.underlying5 (dst := 9) Tryd.underlying9 g32)) rfl
    refine Obs.cons (fun u w hS hd => ?_) ?_
    · have d29 : u 29 = .bool true := dep hd 9 rfl
      rw [d29]
      have d31 : u 31 = .string ⟨key.toArray⟩ := dep hd 11 rfl
      rw [d31]
      have d33 : u 33 = .string ⟨key.toArray⟩ := dep hd 13 rfl
      rw [d33]
      exact Gv.run (.bool true) rfl (by go_simp) rfl
    refine Obs.cons (fun u w hS hd => ?_) ?_
    · have d29 : u 29 = .bool true := dep hd 9 rfl
      rw [d29]
      have d34 : u 34 = .bool true := dep hd 14 rfl
      rw [d34]
      exact Gv.run (.bool true) rfl (by go_simp) rfl
    refine Obs.cons (fun u w hS hd => ?_) ?_
    · have d35 : u 35 = .bool true := dep hd 15 rfl
      rw [d35]
      exact Gv.run (.bool true) rfl (by go_simp) rfl
    refine Obs.cons (fun u w hS hd => ?_) ?_
    · have d36 : u 36 = .bool true := dep hd 16 rfl
      rw [d36]
      exact Gv.run (.slice Ay b.length cy) rfl (by go_simp) (⟨_, _, rfl, (hy.keep hS).mono hS.size⟩)
    refine Obs.cons (fun u w hS hd => ?_) ?_
    · have d36 : u 36 = .bool true := dep hd 16 rfl
      rw [d36]
      obtain ⟨A37, c37, d37, g37⟩ : (Know.byt b).ok (u 37) w := dep hd 17 rfl
      rw [d37]
      exact Gv.run (.string ⟨b.toArray⟩) rfl (run_conv rfl rfl (run_str w 22 5 Tryd.underlying22 Tryd.underlying5 (dst := 9) Tryd.underlying9 g37)) rfl
    refine Obs.cons (fun u w hS hd => ?_) ?_
    · have d36 : u 36 = .bool true := dep hd 16 rfl
      rw [d36]
      exact Gv.run (.slice A1 b.length c1) rfl (by go_simp) (⟨_, _, rfl, (h1.keep hS).mono hS.size⟩)
    refine Obs.cons (fun u w hS hd => ?_) ?_
    · have d36 : u 36 = .bool true := dep hd 16 rfl
      rw [d36]
      obtain ⟨A39, c39, d39, g39⟩ : (Know.byt b).ok (u 39) w := dep hd 19 rfl
      rw [d39]
      exact Gv.run (.string ⟨b.toArray⟩) rfl (run_conv rfl rfl (run_str w 22 5 Tryd.underlying22 Tryd.underlying5 (dst := 9) Tryd.underlying9 g39)) rfl
    refine Obs.cons (fun u w hS hd => ?_) ?_
    · have d36 : u 36 = .bool true := dep hd 16 rfl
      rw [d36]
      have d38 : u 38 = .string ⟨b.toArray⟩ := dep hd 18 rfl
      rw [d38]
      have d40 : u 40 = .string ⟨b.toArray⟩ := dep hd 20 rfl
      rw [d40]
      exact Gv.run (.bool true) rfl (by go_simp) rfl
    refine Obs.cons (fun u w hS hd => ?_) ?_
    · have d36 : u 36 = .bool true := dep hd 16 rfl
      rw [d36]
      have d41 : u 41 = .bool true := dep hd 21 rfl
      rw [d41]
      exact Gv.run (.bool true) rfl (by go_simp) rfl
    refine Obs.cons (fun u w hS hd => ?_) ?_
    · have d42 : u 42 = .bool true := dep hd 22 rfl
      rw [d42]
      exact Gv.run (.bool true) rfl (by go_simp) rfl
    refine Obs.cons (fun u w hS hd => ?_) ?_
    · have d43 : u 43 = .bool true := dep hd 23 rfl
      rw [d43]
      refine Gv.call 9 #[] rfl (by go_simp) ((KA.out w (HG.out w hS)).mono ?_)
      rintro e w' ⟨rfl, hb⟩
      exact ⟨_, rfl, rfl, hb⟩
    refine Obs.cons (fun u w hS hd => ?_) ?_
    · have d43 : u 43 = .bool true := dep hd 23 rfl
      rw [d43]
      have d44 : u 44 = .bool true := dep hd 24 rfl
      rw [d44]
      exact Gv.run (.bool true) rfl (by go_simp) rfl
    exact Obs.nil
  intro u wz hS hd
  have d45 : u 45 = .bool true := hd 25 (by decide)
  rw [d45]
  simp only [List.drop_succ_cons, List.drop_zero]
  go_wp2_with fail
  go_ret
  exact ⟨rfl, hc.trans (hS.mono hc.size)⟩
set_option maxHeartbeats 1600000 in
theorem extracts_law {G : World → Prop} (hGn : ∀ w w', G w → Below w.heap.size w w' → G w') {A0 A1 : Option Addr} {c0 c1 : Nat} {salt key S : List UInt8} (hSl : S.length = 32)
    (kg : ∀ (A : Option Addr) (c : Nat) (A' : Option Addr) (c' : Nat) (w : World), G w → Rd w w.heap.size A c salt → Rd w w.heap.size A' c' key → Calls Tryd.prog 13 #[.slice A salt.length c, .slice A' key.length c'] w fun e w' => ∃ A2 c2, e = .returned (.slice A2 32 c2) ∧ Rd w' w'.heap.size A2 c2 S ∧ Below w.heap.size w w')
    (kr : ∀ (A : Option Addr) (c : Nat) (A' : Option Addr) (c' : Nat) (w : World), Rd w w.heap.size A c salt → Rd w w.heap.size A' c' key → Calls Tryd.prog 14 #[.slice A salt.length c, .slice A' key.length c'] w fun e w' => ∃ A2 c2, e = .returned (.slice A2 32 c2) ∧ Rd w' w'.heap.size A2 c2 S ∧ Below w.heap.size w w')
    (ka : ∀ w, G w → Calls Tryd.prog 9 #[] w fun e w' => e = .returned (.bool true) ∧ Below w.heap.size w w')
    (n0 : salt.length ≤ 4000) (n1 : key.length ≤ 4000) (w : World) (hG : G w) (h0 : Rd w w.heap.size A0 c0 salt) (h1 : Rd w w.heap.size A1 c1 key) :
    Calls Tryd.prog 4 #[.slice A0 salt.length c0, .slice A1 key.length c1] w fun e w' => e = .returned (.bool true) ∧ Below w.heap.size w w' := by
  have KG := Lib.hid kg
  have KR := Lib.hid kr
  have KA := Lib.hid ka
  have KO1 := Lib.hid (fun A c w h => own7_rd salt A c w (by omega) h)
  have KO2 := Lib.hid (fun A c w h => own7_rd key A c w (by omega) h)
  have HG := Lib.hid (fun wz (hz : Below w.heap.size w wz) => hGn _ _ hG hz)
  have g1 : ¬ (4000 : Int) < (salt.length : Int) := by omega
  have g2 : ¬ (4000 : Int) < (key.length : Int) := by omega
  clear kg kr ka hGn hG
  go_enter Tryd.func4, Tryd.ntmps4
  go_upto_region 3 with fail
  refine wp_region_inv 14 [14, 15, 16, 17, 18, 19, 20, 21, 22, 23, 24, 25, 26, 27] [.byt salt, .byt salt, .byt key, .byt key, .byt S, .val (.string ⟨S.toArray⟩), .byt salt, .byt key, .byt S, .val (.string ⟨S.toArray⟩), .val (.bool true), .val (.bool true), .val (.bool true), .val (.bool true)] (fun wz => Below w.heap.size w wz) (by kernel_rfl) (by kernel_rfl) (fun wz wz' hz hb => hz.trans (hb.mono hz.size)) ((Below.refl _ _).drew) (fun u => by simp only [puts, List.foldl_cons, List.foldl_nil]; go_simp; exact rfl) ?_ ?_
  · simp only [List.take_succ_cons, List.take_zero]
    refine Obs.cons (fun u w hS hd => ?_) ?_
    · exact Gv.run (.slice A0 salt.length c0) rfl (by go_simp) (⟨_, _, rfl, (h0.keep hS).mono hS.size⟩)
    refine Obs.cons (fun u w hS hd => ?_) ?_
    · obtain ⟨A14, c14, d14, g14⟩ : (Know.byt salt).ok (u 14) w := dep hd 0 rfl
      rw [d14]
      refine Gv.call 10 #[.slice A14 salt.length c14] rfl (by go_simp) ((KO1.out _ _ w g14).mono ?_)
      rintro e w' ⟨A, c, rfl, R, hb⟩
      exact ⟨_, rfl, ⟨A, c, rfl, R⟩, hb⟩
    refine Obs.cons (fun u w hS hd => ?_) ?_
    · exact Gv.run (.slice A1 key.length c1) rfl (by go_simp) (⟨_, _, rfl, (h1.keep hS).mono hS.size⟩)
    refine Obs.cons (fun u w hS hd => ?_) ?_
    · obtain ⟨A16, c16, d16, g16⟩ : (Know.byt key).ok (u 16) w := dep hd 2 rfl
      rw [d16]
      refine Gv.call 10 #[.slice A16 key.length c16] rfl (by go_simp) ((KO2.out _ _ w g16).mono ?_)
      rintro e w' ⟨A, c, rfl, R, hb⟩
      exact ⟨_, rfl, ⟨A, c, rfl, R⟩, hb⟩
    refine Obs.cons (fun u w hS hd => ?_) ?_
    · obtain ⟨A15, c15, d15, g15⟩ : (Know.byt salt).ok (u 15) w := dep hd 1 rfl
      rw [d15]
      obtain ⟨A17, c17, d17, g17⟩ : (Know.byt key).ok (u 17) w := dep hd 3 rfl
      rw [d17]
      refine Gv.call 13 #[.slice A15 salt.length c15, .slice A17 key.length c17] rfl (by go_simp) ((KG.out _ _ _ _ w (HG.out w hS) g15 g17).mono ?_)
      rintro e w' ⟨A, c, rfl, R, hb⟩
      exact ⟨_, rfl, ⟨A, c, by rw [hSl], R⟩, hb⟩
    refine Obs.cons (fun u w hS hd => ?_) ?_
    · obtain ⟨A18, c18, d18, g18⟩ : (Know.byt S).ok (u 18) w := dep hd 4 rfl
      rw [hSl] at d18
      rw [d18]
      exact Gv.run (.string ⟨S.toArray⟩) rfl (run_conv rfl rfl (str7 w hSl g18)) rfl
    refine Obs.cons (fun u w hS hd => ?_) ?_
    · exact Gv.run (.slice A0 salt.length c0) rfl (by go_simp) (⟨_, _, rfl, (h0.keep hS).mono hS.size⟩)
    refine Obs.cons (fun u w hS hd => ?_) ?_
    · exact Gv.run (.slice A1 key.length c1) rfl (by go_simp) (⟨_, _, rfl, (h1.keep hS).mono hS.size⟩)
    refine Obs.cons (fun u w hS hd => ?_) ?_
    · obtain ⟨A20, c20, d20, g20⟩ : (Know.byt salt).ok (u 20) w := dep hd 6 rfl
      rw [d20]
      obtain ⟨A21, c21, d21, g21⟩ : (Know.byt key).ok (u 21) w := dep hd 7 rfl
      rw [d21]
      refine Gv.call 14 #[.slice A20 salt.length c20, .slice A21 key.length c21] rfl (by go_simp) ((KR.out _ _ _ _ w g20 g21).mono ?_)
      rintro e w' ⟨A, c, rfl, R, hb⟩
      exact ⟨_, rfl, ⟨A, c, by rw [hSl], R⟩, hb⟩
    refine Obs.cons (fun u w hS hd => ?_) ?_
    · obtain ⟨A22, c22, d22, g22⟩ : (Know.byt S).ok (u 22) w := dep hd 8 rfl
      rw [hSl] at d22
      rw [d22]
      exact Gv.run (.string ⟨S.toArray⟩) rfl (run_conv rfl rfl (str7 w hSl g22)) rfl
    refine Obs.cons (fun u w hS hd => ?_) ?_
    · have d19 : u 19 = .string ⟨S.toArray⟩ := dep hd 5 rfl
      rw [d19]
      have d23 : u 23 = .string ⟨S.toArray⟩ := dep hd 9 rfl
      rw [d23]
      exact Gv.run (.bool true) rfl (by go_simp) rfl
    refine Obs.cons (fun u w hS hd => ?_) ?_
    · have d24 : u 24 = .bool true := dep hd 10 rfl
      rw [d24]
      exact Gv.run (.bool true) rfl (by go_simp) rfl
    refine Obs.cons (fun u w hS hd => ?_) ?_
    · have d25 : u 25 = .bool true := dep hd 11 rfl
      rw [d25]
      refine Gv.call 9 #[] rfl (by go_simp) ((KA.out w (HG.out w hS)).mono ?_)
      rintro e w' ⟨rfl, hb⟩
      exact ⟨_, rfl, rfl, hb⟩
    refine Obs.cons (fun u w hS hd => ?_) ?_
    · have d25 : u 25 = .bool true := dep hd 11 rfl
      rw [d25]
      have d26 : u 26 = .bool true := dep hd 12 rfl
      rw [d26]
      exact Gv.run (.bool true) rfl (by go_simp) rfl
    exact Obs.nil
  intro u wz hS hd
  have d27 : u 27 = .bool true := hd 13 (by decide)
  rw [d27]
  simp only [List.drop_succ_cons, List.drop_zero]
  go_wp2_with fail
  go_ret
  exact ⟨rfl, hS⟩
theorem macs_much {G : World → Prop} {A0 A1 : Option Addr} {n0 n1 c0 c1 : Nat}
    (ka : ∀ w, G w → Calls Tryd.prog 9 #[] w fun e w' => e = .returned (.bool true) ∧ Below w.heap.size w w') (hn : 4000 < n0 ∨ (n0 ≤ 4000 ∧ 4000 < n1)) (w : World) (hG : G w) :
    Calls Tryd.prog 3 #[.slice A0 n0 c0, .slice A1 n1 c1] w fun e w' => e = .returned (.bool true) ∧ Below w.heap.size w w' := by
  have KA := Lib.hid (ka w hG)
  clear ka
  rcases hn with h | ⟨h, h'⟩
  · have g1 : (4000 : Int) < (n0 : Int) := by omega
    go_enter Tryd.func3, Tryd.ntmps3
    go_wp2_with fail
    go_at_call 9
    refine KA.out.mono ?_
    rintro e v1 ⟨rfl, hc⟩
    go_wp2_with fail
    go_ret
    exact ⟨rfl, hc⟩
  · have g1 : ¬ (4000 : Int) < (n0 : Int) := by omega
    have g2 : (4000 : Int) < (n1 : Int) := by omega
    go_enter Tryd.func3, Tryd.ntmps3
    go_wp2_with fail
    go_at_call 9
    refine KA.out.mono ?_
    rintro e v1 ⟨rfl, hc⟩
    go_wp2_with fail
    go_ret
    exact ⟨rfl, hc⟩
theorem extracts_much {G : World → Prop} {A0 A1 : Option Addr} {n0 n1 c0 c1 : Nat}
    (ka : ∀ w, G w → Calls Tryd.prog 9 #[] w fun e w' => e = .returned (.bool true) ∧ Below w.heap.size w w') (hn : 4000 < n0 ∨ (n0 ≤ 4000 ∧ 4000 < n1)) (w : World) (hG : G w) :
    Calls Tryd.prog 4 #[.slice A0 n0 c0, .slice A1 n1 c1] w fun e w' => e = .returned (.bool true) ∧ Below w.heap.size w w' := by
  have KA := Lib.hid (ka w hG)
  clear ka
  rcases hn with h | ⟨h, h'⟩
  · have g1 : (4000 : Int) < (n0 : Int) := by omega
    go_enter Tryd.func4, Tryd.ntmps4
    go_wp2_with fail
    go_at_call 9
    refine KA.out.mono ?_
    rintro e v1 ⟨rfl, hc⟩
    go_wp2_with fail
    go_ret
    exact ⟨rfl, hc⟩
  · have g1 : ¬ (4000 : Int) < (n0 : Int) := by omega
    have g2 : (4000 : Int) < (n1 : Int) := by omega
    go_enter Tryd.func4, Tryd.ntmps4
    go_wp2_with fail
    go_at_call 9
    refine KA.out.mono ?_
    rintro e v1 ⟨rfl, hc⟩
    go_wp2_with fail
    go_ret
    exact ⟨rfl, hc⟩
end Go.Proofs.YtbofehdihflkiaaDoor
namespace Go.Proofs.YtbofehdihflkiaaDoor
open Go Go.RowKit
set_option maxRecDepth 20000
/-- string(b) in a walk. -/
theorem conv_arm {ops : Array Oper} {rest : List Oper} {a : Act} {w : World} {Q : Exit → Act → World → Prop} {dst : Option Nat} {tp : TypeId} {ps : String} {af : Array Edge} {x : Operand} {A : Option Addr} {c : Nat} {bs : List UInt8} (hr : Rd w w.heap.size A c bs) (e1 : a.eval x = .slice A bs.length c)
    (h : wpList Tryd.prog ops Q rest (a.put dst (.string ⟨bs.toArray⟩)) w) : wpList Tryd.prog ops Q (⟨dst, .convert 22 9 x, tp, ps, af, none⟩ :: rest) a w :=
  wpList_plain rfl fun _ hK => by
    have h2 := run_str (P := Tryd.prog) w 22 5 Tryd.underlying22 Tryd.underlying5 (dst := 9) Tryd.underlying9 hr
    unfold Oper.wp execOp
    simp only [e1, Sem.run_bind, h2, Result.andThen_ok, Sem.run_pure]
    exact hK _ _ h
set_option maxHeartbeats 1600000 in
theorem expands_law {G : World → Prop} (hGn : ∀ w w', G w → Below w.heap.size w w' → G w') {A0 A1 : Option Addr} {c0 c1 er : Nat} {i : Int} {key info S : List UInt8}
    (kg : ∀ (A : Option Addr) (c : Nat) (A' : Option Addr) (c' : Nat) (w : World), G w → Rd w w.heap.size A c key → Rd w w.heap.size A' c' info → Calls Tryd.prog 15 #[.slice A key.length c, .slice A' info.length c', .int .i64 i] w fun e w' => ∃ A2 c2, e = .returned (.tuple #[.slice A2 S.length c2, .int .i64 (er : Int)]) ∧ Rd w' w'.heap.size A2 c2 S ∧ Below w.heap.size w w')
    (kr : ∀ (A : Option Addr) (c : Nat) (A' : Option Addr) (c' : Nat) (w : World), Rd w w.heap.size A c key → Rd w w.heap.size A' c' info → Calls Tryd.prog 16 #[.slice A key.length c, .slice A' info.length c', .int .i64 i] w fun e w' => ∃ A2 c2, e = .returned (.tuple #[.slice A2 S.length c2, .int .i64 (er : Int)]) ∧ Rd w' w'.heap.size A2 c2 S ∧ Below w.heap.size w w')
    (ka : ∀ w, G w → Calls Tryd.prog 9 #[] w fun e w' => e = .returned (.bool true) ∧ Below w.heap.size w w')
    (n0 : key.length ≤ 4000) (n1 : info.length ≤ 400) (w : World) (hG : G w) (hr : Rd w w.heap.size A0 c0 key) (hs : Rd w w.heap.size A1 c1 info) :
    Calls Tryd.prog 5 #[.slice A0 key.length c0, .slice A1 info.length c1, .int .i64 i] w fun e w' => e = .returned (.bool true) ∧ Below w.heap.size w w' := by
  have KG := Lib.hid kg
  have KR := Lib.hid kr
  have KA := Lib.hid ka
  have KO := Lib.hid (own7_any w hr (Nat.le_refl _) (by omega))
  have g1 : ¬ (4000 : Int) < (key.length : Int) := by omega
  have g2 : ¬ (400 : Int) < (info.length : Int) := by omega
  clear kg kr ka
  go_enter Tryd.func5, Tryd.ntmps5
  go_wp2_with fail
  go_at_call 10
  refine KO.out.mono ?_
  rintro e v1 ⟨Ax, cx, rfl, ox, hc⟩
  have KO2 := Lib.hid (own7_any v1 (hs.keep hc) hc.size (by omega))
  clear KO
  go_wp2_with fail
  go_at_call 10
  refine KO2.out.mono ?_
  rintro e v2 ⟨Ay, cy, rfl, oy, hb⟩
  have hx := (ox.keep hb).rd
  have hy := oy.rd
  replace hc := hc.trans (hb.mono hc.size)
  have hG2 := hGn _ _ hG hc
  clear ox oy hb KO2
  go_wp2_with fail
  go_at_call 15
  refine (KG.out _ _ _ _ _ hG2 hx hy).mono ?_
  rintro e v3 ⟨B3, d3, rfl, h3, hb⟩
  replace hc := hc.trans (hb.mono hc.size)
  have h0 := (hr.keep hc).mono hc.size
  have h1 := (hs.keep hc).mono hc.size
  clear hb hx hy hG2 KG
  go_wp2_with fail
  go_at_call 16
  refine (KR.out _ _ _ _ _ h0 h1).mono ?_
  rintro e v4 ⟨B4, d4, rfl, h4, hb⟩
  replace h3 := (h3.keep hb).mono hb.size
  replace hc := hc.trans (hb.mono hc.size)
  have HG := Lib.hid (fun wz (hz : Below v4.heap.size v4 wz) => hGn _ _ hG (hc.trans (hz.mono hc.size)))
  clear hb KR h0 h1 hGn hG hr hs
  go_wp2_with (first | ((with_reducible refine conv_arm h3 ?_ ?_); rfl) | ((with_reducible refine conv_arm h4 ?_ ?_); rfl))
  go_at_call 9
  refine (KA.out _ (HG.out _ (Below.refl _ _))).mono ?_
  rintro e v5 ⟨rfl, hb⟩
  go_wp2_with fail
  go_ret
  exact ⟨rfl, hc.trans (hb.mono hc.size)⟩
end Go.Proofs.YtbofehdihflkiaaDoor
namespace Go.Proofs.YtbofehdihflkiaaDoor
open Go Go.RowKit
abbrev KeyO : Obj := .cells #[.int .u8 107, .int .u8 101, .int .u8 121] 5 (3, 4)
abbrev FoxO : Obj := .cells #[.int .u8 84, .int .u8 104, .int .u8 101, .int .u8 32, .int .u8 113, .int .u8 117, .int .u8 105, .int .u8 99, .int .u8 107, .int .u8 32, .int .u8 98, .int .u8 114, .int .u8 111, .int .u8 119, .int .u8 110, .int .u8 32, .int .u8 102, .int .u8 111, .int .u8 120, .int .u8 32, .int .u8 106, .int .u8 117, .int .u8 109, .int .u8 112, .int .u8 115, .int .u8 32, .int .u8 111, .int .u8 118, .int .u8 101, .int .u8 114, .int .u8 32, .int .u8 116, .int .u8 104, .int .u8 101, .int .u8 32, .int .u8 108, .int .u8 97, .int .u8 122, .int .u8 121, .int .u8 32, .int .u8 100, .int .u8 111, .int .u8 103] 5 (43, 44)
theorem cst_rd (w : World) (cs : Array Value) (fr : Nat × Nat) {bs : List UInt8} (h : cs.toList = bs.map bv) : Rd (w.alloc (.cells cs 5 fr)) (w.alloc (.cells cs 5 fr)).heap.size (some ⟨w.heap.size, 0, none⟩) bs.length bs := by
  refine ⟨Nat.le_refl _, fun h => by simp at h, fun _ => ⟨w.heap.size, 0, rfl, by simp, fun k hk => ?_⟩⟩
  have hb : (w.alloc (.cells cs 5 fr)).heap[w.heap.size]? = some (.cells cs 5 fr) := by
    show (w.heap.push (.cells cs 5 fr))[w.heap.size]? = _
    simp
  have hc : cs[k]? = some (.int .u8 (nth bs k : Int)) := by
    rw [← Array.getElem?_toList, h]
    exact map_bv_get hk
  unfold World.cell?
  simp only [hb, Nat.zero_add]
  exact hc
theorem nth_take4 {L : List UInt8} {a b c d : UInt8} (h : L.take 4 = [a, b, c, d]) : nth L 0 = a.toNat ∧ nth L 1 = b.toNat ∧ nth L 2 = c.toNat ∧ nth L 3 = d.toNat := by
  match L, h with
  | [], h => simp at h
  | [x], h => simp at h
  | [x, y], h => simp at h
  | [x, y, z], h => simp at h
  | x :: y :: z :: t :: r, h =>
    simp only [List.take_succ_cons, List.take_zero, List.cons.injEq, and_true] at h
    obtain ⟨rfl, rfl, rfl, rfl⟩ := h
    exact ⟨rfl, rfl, rfl, rfl⟩
set_option maxRecDepth 20000
set_option maxHeartbeats 1600000 in
theorem awake7_gen {G : World → Prop} (hGn : ∀ w w', G w → Below w.heap.size w w' → G w') {S : List UInt8} (hS : S.length = 32) (s0 : nth S 0 = 247) (s1 : nth S 1 = 188) (s2 : nth S 2 = 131) (s3 : nth S 3 = 244)
    (kg : ∀ (A : Option Addr) (c : Nat) (A' : Option Addr) (c' : Nat) (w : World), G w → Rd w w.heap.size A c keyC → Rd w w.heap.size A' c' foxC → Calls Tryd.prog 11 #[.slice A 3 c, .slice A' 43 c'] w fun e w' => ∃ A2 c2, e = .returned (.slice A2 32 c2) ∧ Rd w' w'.heap.size A2 c2 S ∧ Below w.heap.size w w')
    (w : World) (hG : G w) : Calls Tryd.prog 9 #[] w fun e w' => e = .returned (.bool true) ∧ Below w.heap.size w w' := by
  have b1 := (Below.refl _ w).alloc (Nat.le_refl _) KeyO
  have b2 := (Below.refl _ (w.alloc KeyO)).alloc (Nat.le_refl _) FoxO
  have r1 := ((cst_rd w #[.int .u8 107, .int .u8 101, .int .u8 121] (3, 4) (bs := keyC) rfl).keep b2).mono b2.size
  have r2 := cst_rd (w.alloc KeyO) #[.int .u8 84, .int .u8 104, .int .u8 101, .int .u8 32, .int .u8 113, .int .u8 117, .int .u8 105, .int .u8 99, .int .u8 107, .int .u8 32, .int .u8 98, .int .u8 114, .int .u8 111, .int .u8 119, .int .u8 110, .int .u8 32, .int .u8 102, .int .u8 111, .int .u8 120, .int .u8 32, .int .u8 106, .int .u8 117, .int .u8 109, .int .u8 112, .int .u8 115, .int .u8 32, .int .u8 111, .int .u8 118, .int .u8 101, .int .u8 114, .int .u8 32, .int .u8 116, .int .u8 104, .int .u8 101, .int .u8 32, .int .u8 108, .int .u8 97, .int .u8 122, .int .u8 121, .int .u8 32, .int .u8 100, .int .u8 111, .int .u8 103] (43, 44) (bs := foxC) rfl
  have hb := b1.trans (b2.mono b1.size)
  have KG := Lib.hid (kg _ _ _ _ _ (hGn _ _ hG hb) r1 r2)
  have HB := Lib.hid hb
  have hcv := fun (w : World) (C : Array Value) (n c : Nat) => Lib.run_convert_bytes_const (P := Tryd.prog) w 22 5 C n c Tryd.underlying22 Tryd.underlying5
  have hcv2 := Lib.run_convert_bytes_const (P := Tryd.prog) (w.alloc KeyO) 22 5 #[.int .u8 84, .int .u8 104, .int .u8 101, .int .u8 32, .int .u8 113, .int .u8 117, .int .u8 105, .int .u8 99, .int .u8 107, .int .u8 32, .int .u8 98, .int .u8 114, .int .u8 111, .int .u8 119, .int .u8 110, .int .u8 32, .int .u8 102, .int .u8 111, .int .u8 120, .int .u8 32, .int .u8 106, .int .u8 117, .int .u8 109, .int .u8 112, .int .u8 115, .int .u8 32, .int .u8 111, .int .u8 118, .int .u8 101, .int .u8 114, .int .u8 32, .int .u8 116, .int .u8 104, .int .u8 101, .int .u8 32, .int .u8 108, .int .u8 97, .int .u8 122, .int .u8 121, .int .u8 32, .int .u8 100, .int .u8 111, .int .u8 103] 43 43 Tryd.underlying22 Tryd.underlying5
  rw [show (w.alloc KeyO).heap.size = w.heap.size + 1 by simp] at hcv2
  rw [show (w.alloc KeyO).heap.size = w.heap.size + 1 by simp] at KG
  clear kg r1 r2 b1 b2 hb hGn hG
  go_enter Tryd.func9, Tryd.ntmps9
  go_wp2_with fail
  go_at_call 11
  refine KG.out.mono ?_
  rintro e v1 ⟨A1, c1, rfl, r1, hb⟩
  have hc := HB.out.trans (hb.mono HB.out.size)
  clear hb KG HB hcv hcv2
  obtain ⟨b1, o1, rfl, _, x0⟩ := r1.at_ (k := 0) (by omega)
  obtain ⟨b2, o2, e2, _, x1⟩ := r1.at_ (k := 1) (by omega)
  obtain ⟨b3, o3, e3, _, x2⟩ := r1.at_ (k := 2) (by omega)
  obtain ⟨b4, o4, e4, _, x3⟩ := r1.at_ (k := 3) (by omega)
  simp only [Option.some.injEq, Addr.mk.injEq] at e2 e3 e4
  obtain ⟨rfl, rfl, _⟩ := e2
  obtain ⟨rfl, rfl, _⟩ := e3
  obtain ⟨rfl, rfl, _⟩ := e4
  rw [s0, Nat.add_zero] at x0
  rw [s1] at x1
  rw [s2] at x2
  rw [s3] at x3
  clear s0 s1 s2 s3 hS r1
  go_wp2_with fail
  go_ret
  exact ⟨rfl, hc⟩
theorem awake7 {G : World → Prop} (hGn : ∀ w w', G w → Below w.heap.size w w' → G w')
    (kg : ∀ (key b : List UInt8) (A : Option Addr) (c : Nat) (A' : Option Addr) (c' : Nat) (w : World), key.length ≤ 100000 → b.length ≤ 100000 → G w → Rd w w.heap.size A c key → Rd w w.heap.size A' c' b → Calls Tryd.prog 11 #[.slice A key.length c, .slice A' b.length c'] w fun e w' => ∃ A2 c2, e = .returned (.slice A2 32 c2) ∧ Rd w' w'.heap.size A2 c2 (macN key b) ∧ Below w.heap.size w w')
    (w : World) (hG : G w) : Calls Tryd.prog 9 #[] w fun e w' => e = .returned (.bool true) ∧ Below w.heap.size w w' :=
  awake7_gen hGn (macN_len keyC foxC) (nth_take4 fox_mac).1 (nth_take4 fox_mac).2.1 (nth_take4 fox_mac).2.2.1 (nth_take4 fox_mac).2.2.2 (fun A c A' c' w hG h1 h2 => kg keyC foxC A c A' c' w (by decide) (by decide) hG h1 h2) w hG
end Go.Proofs.YtbofehdihflkiaaDoor
