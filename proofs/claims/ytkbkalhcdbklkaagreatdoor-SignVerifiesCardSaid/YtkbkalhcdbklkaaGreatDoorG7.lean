/-
  Layer 9's SignPublics, SignSigns, SignVerifies over contracts. Written by tools/gen_g7.py. By an AI agent.
-/
import Derived.Test.YtkbkalhcdbklkaaGreatDoorG8
import Derived.Test.YtkbkalhcdbklkaaGreatDoorJ03
namespace Go.Proofs.YtkbkalhcdbklkaaGreatDoor
open Go Go.RowKit
section
attribute [local irreducible] wd by8
set_option maxRecDepth 20000
theorem signs_much {G : World → Prop} {A A1 : Option Addr} {n c n1 c1 : Nat}
  (ka : ∀ w, G w → Calls Tryz.prog 9 #[] w fun e w' => e = .returned (.bool true) ∧ Below w.heap.size w w') (hn : 4000 < n1) (w : World) (hG : G w) :
  Calls Tryz.prog 4 #[.slice A n c, .slice A1 n1 c1] w fun e w' => e = .returned (.bool true) ∧ Below w.heap.size w w' := by
 have KA := Lib.hid (ka w hG)
 clear ka
 have g1 : (4000 : Int) < (n1 : Int) := by omega
 go_enter Tryz.func4, Tryz.ntmps4
 go_wp2_with fail
 go_at_call 9
 refine KA.out.mono ?_
 rintro e v1 ⟨rfl, hc⟩
 go_wp2_with fail
 go_ret
 exact ⟨rfl, hc⟩
theorem verifies_much {G : World → Prop} {A A1 A2 : Option Addr} {n c n1 c1 n2 c2 : Nat}
  (ka : ∀ w, G w → Calls Tryz.prog 9 #[] w fun e w' => e = .returned (.bool true) ∧ Below w.heap.size w w') (hn : 4000 < n1) (w : World) (hG : G w) :
  Calls Tryz.prog 5 #[.slice A n c, .slice A1 n1 c1, .slice A2 n2 c2] w fun e w' => e = .returned (.bool true) ∧ Below w.heap.size w w' := by
 have KA := Lib.hid (ka w hG)
 clear ka
 have g1 : (4000 : Int) < (n1 : Int) := by omega
 go_enter Tryz.func5, Tryz.ntmps5
 go_wp2_with fail
 go_at_call 9
 refine KA.out.mono ?_
 rintro e v1 ⟨rfl, hc⟩
 go_wp2_with fail
 go_ret
 exact ⟨rfl, hc⟩
set_option maxHeartbeats 6400000 in
theorem verifies_gen {G : World → Prop} (hGn : ∀ w w', G w → Below w.heap.size w w' → G w') {A B C : Option Addr} {c d e0 er : Nat} {key b sig : List UInt8} (hl : key.length ≤ 140737488355328) (hs : sig.length ≤ 140737488355328) (hm : b.length ≤ 4000)
  (kg : ∀ (A B C : Option Addr) (c d e0 : Nat) (w : World), G w → Rd w w.heap.size A c key → Rd w w.heap.size B d b → Rd w w.heap.size C e0 sig → Calls Tryz.prog 12 #[.slice A key.length c, .slice B b.length d, .slice C sig.length e0] w fun e w' => e = .returned (.int .i64 (er : Int)) ∧ Below w.heap.size w w')
  (kr : ∀ (A B C : Option Addr) (c d e0 : Nat) (w : World), Rd w w.heap.size A c key → Rd w w.heap.size B d b → Rd w w.heap.size C e0 sig → Calls Tryz.prog 13 #[.slice A key.length c, .slice B b.length d, .slice C sig.length e0] w fun e w' => e = .returned (.int .i64 (er : Int)) ∧ Below w.heap.size w w')
  (k9 : ∀ w, G w → Calls Tryz.prog 9 #[] w fun e w' => e = .returned (.bool true) ∧ Below w.heap.size w w')
  (w : World) (r0 : Rd w w.heap.size A c key) (q0 : Rd w w.heap.size B d b) (p0 : Rd w w.heap.size C e0 sig) (hG : G w) : Calls Tryz.prog 5 #[.slice A key.length c, .slice B b.length d, .slice C sig.length e0] w fun e w' => e = .returned (.bool true) ∧ Below w.heap.size w w' := by
 have KG := Lib.hid kg
 have KR := Lib.hid kr
 have K9 := Lib.hid k9
 have HL := Lib.hid hl
 have HS := Lib.hid hs
 have HM := Lib.hid (show b.length ≤ 140737488355328 by omega)
 have g0 : ¬ (4000 : Int) < (b.length : Int) := by omega
 clear kg kr k9 hl hm hs
 have GN := Lib.hid hGn
 have HG := Lib.hid hG
 clear hGn hG
 have hc := Below.refl w.heap.size w
 go_enter Tryz.func5, Tryz.ntmps5
 go_wp2_with fail
 go_at_call 6
 refine (own9_rd key _ _ _ HL.out r0).mono ?_
 rintro e y1 ⟨A1, c1, rfl, r1, h0⟩
 replace HG := Lib.hid (GN.out _ _ HG.out h0)
 replace r0 := (r0.keep h0).mono h0.size
 replace q0 := (q0.keep h0).mono h0.size
 replace p0 := (p0.keep h0).mono h0.size
 replace hc := bnx hc h0
 clear h0
 go_wp2_with fail
 go_at_call 6
 refine (own9_rd b _ _ _ HM.out q0).mono ?_
 rintro e y2 ⟨B1, d1, rfl, q1, h0⟩
 replace HG := Lib.hid (GN.out _ _ HG.out h0)
 replace r0 := (r0.keep h0).mono h0.size
 replace q0 := (q0.keep h0).mono h0.size
 replace p0 := (p0.keep h0).mono h0.size
 replace r1 := (r1.keep h0).mono h0.size
 replace hc := bnx hc h0
 clear h0
 go_wp2_with fail
 go_at_call 6
 refine (own9_rd sig _ _ _ HS.out p0).mono ?_
 rintro e y3 ⟨C1, e1, rfl, p1, h0⟩
 replace HG := Lib.hid (GN.out _ _ HG.out h0)
 replace r0 := (r0.keep h0).mono h0.size
 replace q0 := (q0.keep h0).mono h0.size
 replace p0 := (p0.keep h0).mono h0.size
 replace r1 := (r1.keep h0).mono h0.size
 replace q1 := (q1.keep h0).mono h0.size
 replace hc := bnx hc h0
 clear h0
 go_wp2_with fail
 go_at_call 12
 refine (KG.out _ _ _ _ _ _ _ HG.out r1 q1 p1).mono ?_
 rintro e y4 ⟨rfl, h0⟩
 replace HG := Lib.hid (GN.out _ _ HG.out h0)
 replace r0 := (r0.keep h0).mono h0.size
 replace q0 := (q0.keep h0).mono h0.size
 replace p0 := (p0.keep h0).mono h0.size
 replace r1 := (r1.keep h0).mono h0.size
 replace q1 := (q1.keep h0).mono h0.size
 replace p1 := (p1.keep h0).mono h0.size
 replace hc := bnx hc h0
 clear h0
 go_upto_region 5 with fail
 refine wp_region_obs 30 [25, 26, 27, 28, 29, 30, 31, 32, 33, 34, 35, 36, 37, 38, 39, 40, 41, 42, 43, 44, 45, 46, 47, 48, 49, 50, 51, 52, 53, 54] [.val (.int .i64 (er : Int)), .byt key, .byt b, .byt sig, .val (.int .i64 (er : Int)), .val (.bool true), .val (.bool true), .byt key, .val (.string ⟨key.toArray⟩), .byt key, .val (.string ⟨key.toArray⟩), .val (.bool true), .val (.bool true), .val (.bool true), .byt b, .val (.string ⟨b.toArray⟩), .byt b, .val (.string ⟨b.toArray⟩), .val (.bool true), .val (.bool true), .val (.bool true), .byt sig, .val (.string ⟨sig.toArray⟩), .byt sig, .val (.string ⟨sig.toArray⟩), .val (.bool true), .val (.bool true), .val (.bool true), .val (.bool true), .val (.bool true)] (fun wz => Below y4.heap.size y4 wz) (by kernel_rfl) (fun wz wz' hz hb => bnx hz hb) (Below.refl _ _) (fun u => by simp only [puts, List.foldl_cons, List.foldl_nil]; go_simp; exact rfl) ?_ ?_
 ·simp only [List.take_succ_cons, List.take_zero]
  refine .cons (fun u w hS hd => ?_) ?_
  ·exact Gv.run (.int .i64 (er : Int)) rfl (by go_simp) rfl
  refine .cons (fun u w hS hd => ?_) ?_
  ·exact Gv.run (.slice A key.length c) rfl (by go_simp) (⟨_, _, rfl, (r0.keep hS).mono hS.size⟩)
  refine .cons (fun u w hS hd => ?_) ?_
  ·exact Gv.run (.slice B b.length d) rfl (by go_simp) (⟨_, _, rfl, (q0.keep hS).mono hS.size⟩)
  refine .cons (fun u w hS hd => ?_) ?_
  ·exact Gv.run (.slice C sig.length e0) rfl (by go_simp) (⟨_, _, rfl, (p0.keep hS).mono hS.size⟩)
  refine .cons (fun u w hS hd => ?_) ?_
  ·obtain ⟨A26, c26, d26, g26⟩ : (Know.byt key).ok (u 26) w := hd 1 (by decide)
   rw [d26]
   obtain ⟨A27, c27, d27, g27⟩ : (Know.byt b).ok (u 27) w := hd 2 (by decide)
   rw [d27]
   obtain ⟨A28, c28, d28, g28⟩ : (Know.byt sig).ok (u 28) w := hd 3 (by decide)
   rw [d28]
   refine Gv.call 13 #[.slice A26 key.length c26, .slice A27 b.length c27, .slice A28 sig.length c28] rfl (by go_simp) ((KR.out _ _ _ _ _ _ w g26 g27 g28).mono ?_)
   rintro e w' ⟨rfl, hb⟩
   exact ⟨_, rfl, rfl, hb⟩
  refine .cons (fun u w hS hd => ?_) ?_
  ·have d25 : u 25 = .int .i64 (er : Int) := hd 0 (by decide)
   rw [d25]
   have d29 : u 29 = .int .i64 (er : Int) := hd 4 (by decide)
   rw [d29]
   exact Gv.run (.bool true) rfl (by go_simp) rfl
  refine .cons (fun u w hS hd => ?_) ?_
  ·have d30 : u 30 = .bool true := hd 5 (by decide)
   rw [d30]
   exact Gv.run (.bool true) rfl (by go_simp) rfl
  refine .cons (fun u w hS hd => ?_) ?_
  ·have d31 : u 31 = .bool true := hd 6 (by decide)
   rw [d31]
   exact Gv.run (.slice A1 key.length c1) rfl (by go_simp) (⟨_, _, rfl, (r1.keep hS).mono hS.size⟩)
  refine .cons (fun u w hS hd => ?_) ?_
  ·have d31 : u 31 = .bool true := hd 6 (by decide)
   rw [d31]
   obtain ⟨A32, c32, d32, g32⟩ : (Know.byt key).ok (u 32) w := hd 7 (by decide)
   rw [d32]
   exact Gv.run (.string ⟨key.toArray⟩) rfl (run_conv rfl rfl (run_str w 22 5 Tryz.underlying22 Tryz.underlying5 (dst := 9) Tryz.underlying9 g32)) rfl
  refine .cons (fun u w hS hd => ?_) ?_
  ·have d31 : u 31 = .bool true := hd 6 (by decide)
   rw [d31]
   exact Gv.run (.slice A key.length c) rfl (by go_simp) (⟨_, _, rfl, (r0.keep hS).mono hS.size⟩)
  refine .cons (fun u w hS hd => ?_) ?_
  ·have d31 : u 31 = .bool true := hd 6 (by decide)
   rw [d31]
   obtain ⟨A34, c34, d34, g34⟩ : (Know.byt key).ok (u 34) w := hd 9 (by decide)
   rw [d34]
   exact Gv.run (.string ⟨key.toArray⟩) rfl (run_conv rfl rfl (run_str w 22 5 Tryz.underlying22 Tryz.underlying5 (dst := 9) Tryz.underlying9 g34)) rfl
  refine .cons (fun u w hS hd => ?_) ?_
  ·have d31 : u 31 = .bool true := hd 6 (by decide)
   rw [d31]
   have d33 : u 33 = .string ⟨key.toArray⟩ := hd 8 (by decide)
   rw [d33]
   have d35 : u 35 = .string ⟨key.toArray⟩ := hd 10 (by decide)
   rw [d35]
   exact Gv.run (.bool true) rfl (by go_simp) rfl
  refine .cons (fun u w hS hd => ?_) ?_
  ·have d31 : u 31 = .bool true := hd 6 (by decide)
   rw [d31]
   have d36 : u 36 = .bool true := hd 11 (by decide)
   rw [d36]
   exact Gv.run (.bool true) rfl (by go_simp) rfl
  refine .cons (fun u w hS hd => ?_) ?_
  ·have d37 : u 37 = .bool true := hd 12 (by decide)
   rw [d37]
   exact Gv.run (.bool true) rfl (by go_simp) rfl
  refine .cons (fun u w hS hd => ?_) ?_
  ·have d38 : u 38 = .bool true := hd 13 (by decide)
   rw [d38]
   exact Gv.run (.slice B1 b.length d1) rfl (by go_simp) (⟨_, _, rfl, (q1.keep hS).mono hS.size⟩)
  refine .cons (fun u w hS hd => ?_) ?_
  ·have d38 : u 38 = .bool true := hd 13 (by decide)
   rw [d38]
   obtain ⟨A39, c39, d39, g39⟩ : (Know.byt b).ok (u 39) w := hd 14 (by decide)
   rw [d39]
   exact Gv.run (.string ⟨b.toArray⟩) rfl (run_conv rfl rfl (run_str w 22 5 Tryz.underlying22 Tryz.underlying5 (dst := 9) Tryz.underlying9 g39)) rfl
  refine .cons (fun u w hS hd => ?_) ?_
  ·have d38 : u 38 = .bool true := hd 13 (by decide)
   rw [d38]
   exact Gv.run (.slice B b.length d) rfl (by go_simp) (⟨_, _, rfl, (q0.keep hS).mono hS.size⟩)
  refine .cons (fun u w hS hd => ?_) ?_
  ·have d38 : u 38 = .bool true := hd 13 (by decide)
   rw [d38]
   obtain ⟨A41, c41, d41, g41⟩ : (Know.byt b).ok (u 41) w := hd 16 (by decide)
   rw [d41]
   exact Gv.run (.string ⟨b.toArray⟩) rfl (run_conv rfl rfl (run_str w 22 5 Tryz.underlying22 Tryz.underlying5 (dst := 9) Tryz.underlying9 g41)) rfl
  refine .cons (fun u w hS hd => ?_) ?_
  ·have d38 : u 38 = .bool true := hd 13 (by decide)
   rw [d38]
   have d40 : u 40 = .string ⟨b.toArray⟩ := hd 15 (by decide)
   rw [d40]
   have d42 : u 42 = .string ⟨b.toArray⟩ := hd 17 (by decide)
   rw [d42]
   exact Gv.run (.bool true) rfl (by go_simp) rfl
  refine .cons (fun u w hS hd => ?_) ?_
  ·have d38 : u 38 = .bool true := hd 13 (by decide)
   rw [d38]
   have d43 : u 43 = .bool true := hd 18 (by decide)
   rw [d43]
   exact Gv.run (.bool true) rfl (by go_simp) rfl
  refine .cons (fun u w hS hd => ?_) ?_
  ·have d44 : u 44 = .bool true := hd 19 (by decide)
   rw [d44]
   exact Gv.run (.bool true) rfl (by go_simp) rfl
  refine .cons (fun u w hS hd => ?_) ?_
  ·have d45 : u 45 = .bool true := hd 20 (by decide)
   rw [d45]
   exact Gv.run (.slice C1 sig.length e1) rfl (by go_simp) (⟨_, _, rfl, (p1.keep hS).mono hS.size⟩)
  refine .cons (fun u w hS hd => ?_) ?_
  ·have d45 : u 45 = .bool true := hd 20 (by decide)
   rw [d45]
   obtain ⟨A46, c46, d46, g46⟩ : (Know.byt sig).ok (u 46) w := hd 21 (by decide)
   rw [d46]
   exact Gv.run (.string ⟨sig.toArray⟩) rfl (run_conv rfl rfl (run_str w 22 5 Tryz.underlying22 Tryz.underlying5 (dst := 9) Tryz.underlying9 g46)) rfl
  refine .cons (fun u w hS hd => ?_) ?_
  ·have d45 : u 45 = .bool true := hd 20 (by decide)
   rw [d45]
   exact Gv.run (.slice C sig.length e0) rfl (by go_simp) (⟨_, _, rfl, (p0.keep hS).mono hS.size⟩)
  refine .cons (fun u w hS hd => ?_) ?_
  ·have d45 : u 45 = .bool true := hd 20 (by decide)
   rw [d45]
   obtain ⟨A48, c48, d48, g48⟩ : (Know.byt sig).ok (u 48) w := hd 23 (by decide)
   rw [d48]
   exact Gv.run (.string ⟨sig.toArray⟩) rfl (run_conv rfl rfl (run_str w 22 5 Tryz.underlying22 Tryz.underlying5 (dst := 9) Tryz.underlying9 g48)) rfl
  refine .cons (fun u w hS hd => ?_) ?_
  ·have d45 : u 45 = .bool true := hd 20 (by decide)
   rw [d45]
   have d47 : u 47 = .string ⟨sig.toArray⟩ := hd 22 (by decide)
   rw [d47]
   have d49 : u 49 = .string ⟨sig.toArray⟩ := hd 24 (by decide)
   rw [d49]
   exact Gv.run (.bool true) rfl (by go_simp) rfl
  refine .cons (fun u w hS hd => ?_) ?_
  ·have d45 : u 45 = .bool true := hd 20 (by decide)
   rw [d45]
   have d50 : u 50 = .bool true := hd 25 (by decide)
   rw [d50]
   exact Gv.run (.bool true) rfl (by go_simp) rfl
  refine .cons (fun u w hS hd => ?_) ?_
  ·have d51 : u 51 = .bool true := hd 26 (by decide)
   rw [d51]
   exact Gv.run (.bool true) rfl (by go_simp) rfl
  refine .cons (fun u w hS hd => ?_) ?_
  ·have d52 : u 52 = .bool true := hd 27 (by decide)
   rw [d52]
   refine Gv.call 9 #[] rfl (by go_simp) ((K9.out w (GN.out _ _ HG.out hS)).mono ?_)
   rintro e w' ⟨rfl, hb⟩
   exact ⟨_, rfl, rfl, hb⟩
  refine .cons (fun u w hS hd => ?_) ?_
  ·have d52 : u 52 = .bool true := hd 27 (by decide)
   rw [d52]
   have d53 : u 53 = .bool true := hd 28 (by decide)
   rw [d53]
   exact Gv.run (.bool true) rfl (by go_simp) rfl
  exact ObsS.nil
 intro uy5 y5 hS hd
 have d54 : uy5 54 = .bool true := hd 29 (by decide)
 rw [d54]
 replace HG := Lib.hid (GN.out _ _ HG.out hS)
 replace r0 := (r0.keep hS).mono hS.size
 replace q0 := (q0.keep hS).mono hS.size
 replace p0 := (p0.keep hS).mono hS.size
 replace r1 := (r1.keep hS).mono hS.size
 replace q1 := (q1.keep hS).mono hS.size
 replace p1 := (p1.keep hS).mono hS.size
 replace hc := bnx hc hS
 clear hS hd d54
 simp only [List.drop_succ_cons, List.drop_zero]
 go_wp2_with fail
 go_ret
 exact ⟨rfl, hc⟩
end
end Go.Proofs.YtkbkalhcdbklkaaGreatDoor
