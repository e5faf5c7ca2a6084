/-
  Layer 9's SignBack over contracts. Written by tools/gen_g9.py. By an AI agent.
-/
import Derived.Test.YtgaofocjnifjdaaDoorJ01
import Derived.Test.YtgaofocjnifjdaaDoorJ03
import Derived.Test.YtgaofocjnifjdaaDoorJ19
namespace Go.Proofs.YtgaofocjnifjdaaDoor
open Go Go.RowKit
theorem slice9_hi {o : Oper} {a : Act} {w : World} {x hi : Operand} {A : Option Addr} {n c h : Nat} (ho : o.op = .slice 22 x none (some hi) none) (e1 : a.eval x = .slice A n c) (e2 : a.eval hi = .int .i64 (h : Int)) (h1 : h ≤ c) :
    (execOp a.eval o).run Tryd.prog w = .ok (.value (.slice (subA A c 0) h c)) w := by
  unfold execOp
  simp only [ho, e1, e2, Option.map_some, Option.map_none, Instr.sliceAt, Sem.run_bind, run_underlying Tryd.underlying22 w, slice_run_hi w h1, Result.andThen_ok, Sem.run_pure]
theorem own9_n {n : Nat} {bs : List UInt8} (hn : bs.length = n) (hl : n ≤ 140737488355328) (A : Option Addr) (c : Nat) (w : World) (hr : Rd w w.heap.size A c bs) :
    Calls Tryd.prog 7 #[.slice A n c] w fun e w' => ∃ A' c', e = .returned (.slice A' n c') ∧ Rd w' w'.heap.size A' c' bs ∧ Below w.heap.size w w' := by
  subst hn
  exact own9_rd bs A c w hl hr
section
attribute [local irreducible] wd by8
set_option maxRecDepth 20000
theorem back_much {G : World → Prop} {A A1 : Option Addr} {n c n1 c1 : Nat}
    (ka : ∀ w, G w → Calls Tryd.prog 5 #[] w fun e w' => e = .returned (.bool true) ∧ Below w.heap.size w w') (hn : 4000 < n1) (w : World) (hG : G w) :
    Calls Tryd.prog 3 #[.slice A n c, .slice A1 n1 c1] w fun e w' => e = .returned (.bool true) ∧ Below w.heap.size w w' := by
  have KA := Lib.hid (ka w hG)
  clear ka
  have g1 : (4000 : Int) < (n1 : Int) := by omega
  go_enter Tryd.func3, Tryd.ntmps3
  go_wp2_with fail
  go_at_call 5
  refine KA.out.mono ?_
  rintro e v1 ⟨rfl, hc⟩
  go_wp2_with fail
  go_ret
  exact ⟨rfl, hc⟩
set_option maxHeartbeats 6400000 in
theorem back_no {G : World → Prop} (hGn : ∀ w w', G w → Below w.heap.size w w' → G w') {A B : Option Addr} {c d : Nat} {seed b : List UInt8} (hl : seed.length ≤ 140737488355328) (hm : b.length ≤ 4000) (hn : seed.length ≠ 32)
    (ks : ∀ (A B : Option Addr) (c d : Nat) (w : World), G w → Rd w w.heap.size A c seed → Rd w w.heap.size B d b → Calls Tryd.prog 6 #[.slice A seed.length c, .slice B b.length d] w fun e w' => (∃ A2 c2, e = .returned (.tuple #[.slice A2 0 c2, .int .i64 1])) ∧ Below w.heap.size w w')
    (kp : ∀ (A : Option Addr) (c : Nat) (w : World), G w → Rd w w.heap.size A c seed → Calls Tryd.prog 8 #[.slice A seed.length c] w fun e w' => (∃ A2 c2, e = .returned (.tuple #[.slice A2 0 c2, .int .i64 1])) ∧ Below w.heap.size w w')
    (k9 : ∀ w, G w → Calls Tryd.prog 5 #[] w fun e w' => e = .returned (.bool true) ∧ Below w.heap.size w w')
    (w : World) (r0 : Rd w w.heap.size A c seed) (q0 : Rd w w.heap.size B d b) (hG : G w) : Calls Tryd.prog 3 #[.slice A seed.length c, .slice B b.length d] w fun e w' => e = .returned (.bool true) ∧ Below w.heap.size w w' := by
  have KS := Lib.hid ks
  have KP := Lib.hid kp
  have K9 := Lib.hid k9
  have HL := Lib.hid hl
  have HM := Lib.hid (show b.length ≤ 140737488355328 by omega)
  have g0 : ¬ (4000 : Int) < (b.length : Int) := by omega
  have g1 : ((seed.length : Int) == 32) = false := by simp; omega
  have g2 : ((seed.length : Int) != 32) = true := by simp; omega
  clear ks kp k9 hl hm hn
  have GN := Lib.hid hGn
  have HG := Lib.hid hG
  clear hGn hG
  have hc := Below.refl w.heap.size w
  go_enter Tryd.func3, Tryd.ntmps3
  go_wp2_with fail
  go_at_call 7
  refine (own9_rd seed _ _ _ HL.out r0).mono ?_
  rintro e y1 ⟨A1, c1, rfl, r1, h0⟩
  replace HG := Lib.hid (GN.out _ _ HG.out h0)
  replace r0 := (r0.keep h0).mono h0.size
  replace q0 := (q0.keep h0).mono h0.size
  replace hc := hc.trans (h0.mono hc.size)
  clear h0
  go_wp2_with fail
  go_at_call 7
  refine (own9_rd b _ _ _ HM.out q0).mono ?_
  rintro e y2 ⟨B1, d1, rfl, q1, h0⟩
  replace HG := Lib.hid (GN.out _ _ HG.out h0)
  replace r0 := (r0.keep h0).mono h0.size
  replace q0 := (q0.keep h0).mono h0.size
  replace r1 := (r1.keep h0).mono h0.size
  replace hc := hc.trans (h0.mono hc.size)
  clear h0
  go_wp2_with fail
  go_at_call 6
  refine (KS.out _ _ _ _ _ HG.out r1 q1).mono ?_
  rintro e y3 ⟨⟨A2, c2, rfl⟩, h0⟩
  replace HG := Lib.hid (GN.out _ _ HG.out h0)
  replace r0 := (r0.keep h0).mono h0.size
  replace q0 := (q0.keep h0).mono h0.size
  replace r1 := (r1.keep h0).mono h0.size
  replace q1 := (q1.keep h0).mono h0.size
  replace hc := hc.trans (h0.mono hc.size)
  clear h0
  go_wp2_with fail
  go_at_call 7
  refine (own9_rd seed _ _ _ HL.out r0).mono ?_
  rintro e y4 ⟨A3, c3, rfl, r3, h0⟩
  replace HG := Lib.hid (GN.out _ _ HG.out h0)
  replace r0 := (r0.keep h0).mono h0.size
  replace q0 := (q0.keep h0).mono h0.size
  replace r1 := (r1.keep h0).mono h0.size
  replace q1 := (q1.keep h0).mono h0.size
  replace hc := hc.trans (h0.mono hc.size)
  clear h0
  go_wp2_with fail
  go_at_call 8
  refine (KP.out _ _ _ HG.out r3).mono ?_
  rintro e y5 ⟨⟨A4, c4, rfl⟩, h0⟩
  replace HG := Lib.hid (GN.out _ _ HG.out h0)
  replace r0 := (r0.keep h0).mono h0.size
  replace q0 := (q0.keep h0).mono h0.size
  replace r1 := (r1.keep h0).mono h0.size
  replace q1 := (q1.keep h0).mono h0.size
  replace r3 := (r3.keep h0).mono h0.size
  replace hc := hc.trans (h0.mono hc.size)
  clear h0
  go_wp2_with fail
  go_at_call 5
  refine (K9.out _ HG.out).mono ?_
  rintro e y6 ⟨rfl, h0⟩
  replace HG := Lib.hid (GN.out _ _ HG.out h0)
  replace r0 := (r0.keep h0).mono h0.size
  replace q0 := (q0.keep h0).mono h0.size
  replace r1 := (r1.keep h0).mono h0.size
  replace q1 := (q1.keep h0).mono h0.size
  replace r3 := (r3.keep h0).mono h0.size
  replace hc := hc.trans (h0.mono hc.size)
  clear h0
  go_wp2_with fail
  go_ret
  exact ⟨rfl, hc⟩
set_option maxHeartbeats 6400000 in
theorem back_yes {G : World → Prop} (hGn : ∀ w w', G w → Below w.heap.size w w' → G w') {A B : Option Addr} {c d : Nat} {seed b sg pk cut : List UInt8} (hl : seed.length ≤ 140737488355328) (hm : b.length ≤ 4000) (hn : seed.length = 32) (hsl : sg.length = 64) (hpl : pk.length = 32) (hcl : cut.length = 63) (hcut : sg.take 63 = cut)
    (ks : ∀ (A B : Option Addr) (c d : Nat) (w : World), G w → Rd w w.heap.size A c seed → Rd w w.heap.size B d b → Calls Tryd.prog 6 #[.slice A seed.length c, .slice B b.length d] w fun e w' => ∃ A2 c2, e = .returned (.tuple #[.slice A2 64 c2, .int .i64 0]) ∧ Rd w' w'.heap.size A2 c2 sg ∧ Below w.heap.size w w')
    (kp : ∀ (A : Option Addr) (c : Nat) (w : World), G w → Rd w w.heap.size A c seed → Calls Tryd.prog 8 #[.slice A seed.length c] w fun e w' => ∃ A2 c2, e = .returned (.tuple #[.slice A2 32 c2, .int .i64 0]) ∧ Rd w' w'.heap.size A2 c2 pk ∧ Below w.heap.size w w')
    (kv : ∀ (A B C : Option Addr) (c d e0 : Nat) (w : World), G w → Rd w w.heap.size A c pk → Rd w w.heap.size B d b → Rd w w.heap.size C e0 sg → Calls Tryd.prog 9 #[.slice A 32 c, .slice B b.length d, .slice C 64 e0] w fun e w' => e = .returned (.int .i64 0) ∧ Below w.heap.size w w')
    (kw : ∀ (A B C : Option Addr) (c d e0 : Nat) (w : World), G w → Rd w w.heap.size A c pk → Rd w w.heap.size B d b → Rd w w.heap.size C e0 cut → Calls Tryd.prog 9 #[.slice A 32 c, .slice B b.length d, .slice C 63 e0] w fun e w' => e = .returned (.int .i64 1) ∧ Below w.heap.size w w')
    (k9 : ∀ w, G w → Calls Tryd.prog 5 #[] w fun e w' => e = .returned (.bool true) ∧ Below w.heap.size w w')
    (w : World) (r0 : Rd w w.heap.size A c seed) (q0 : Rd w w.heap.size B d b) (hG : G w) : Calls Tryd.prog 3 #[.slice A seed.length c, .slice B b.length d] w fun e w' => e = .returned (.bool true) ∧ Below w.heap.size w w' := by
  have KS := Lib.hid ks
  have KP := Lib.hid kp
  have KV := Lib.hid kv
  have KW := Lib.hid kw
  have K9 := Lib.hid k9
  have HC := Lib.hid hcut
  have HL := Lib.hid hl
  have HM := Lib.hid (show b.length ≤ 140737488355328 by omega)
  have g0 : ¬ (4000 : Int) < (b.length : Int) := by omega
  have g1 : ((seed.length : Int) == 32) = true := by simp; omega
  have g2 : ((seed.length : Int) != 32) = false := by simp; omega
  clear ks kp kv kw k9 hl hm hn hcut
  have GN := Lib.hid hGn
  have HG := Lib.hid hG
  clear hGn hG
  have hc := Below.refl w.heap.size w
  go_enter Tryd.func3, Tryd.ntmps3
  go_wp2_with fail
  go_at_call 7
  refine (own9_rd seed _ _ _ HL.out r0).mono ?_
  rintro e y1 ⟨A1, c1, rfl, r1, h0⟩
  replace HG := Lib.hid (GN.out _ _ HG.out h0)
  replace r0 := (r0.keep h0).mono h0.size
  replace q0 := (q0.keep h0).mono h0.size
  replace hc := hc.trans (h0.mono hc.size)
  clear h0
  go_wp2_with fail
  go_at_call 7
  refine (own9_rd b _ _ _ HM.out q0).mono ?_
  rintro e y2 ⟨B1, d1, rfl, q1, h0⟩
  replace HG := Lib.hid (GN.out _ _ HG.out h0)
  replace r0 := (r0.keep h0).mono h0.size
  replace q0 := (q0.keep h0).mono h0.size
  replace r1 := (r1.keep h0).mono h0.size
  replace hc := hc.trans (h0.mono hc.size)
  clear h0
  go_wp2_with fail
  go_at_call 6
  refine (KS.out _ _ _ _ _ HG.out r1 q1).mono ?_
  rintro e y3 ⟨A2, c2, rfl, s2, h0⟩
  replace HG := Lib.hid (GN.out _ _ HG.out h0)
  replace r0 := (r0.keep h0).mono h0.size
  replace q0 := (q0.keep h0).mono h0.size
  replace r1 := (r1.keep h0).mono h0.size
  replace q1 := (q1.keep h0).mono h0.size
  replace hc := hc.trans (h0.mono hc.size)
  clear h0
  go_wp2_with fail
  go_at_call 7
  refine (own9_rd seed _ _ _ HL.out r0).mono ?_
  rintro e y4 ⟨A3, c3, rfl, r3, h0⟩
  replace HG := Lib.hid (GN.out _ _ HG.out h0)
  replace r0 := (r0.keep h0).mono h0.size
  replace q0 := (q0.keep h0).mono h0.size
  replace r1 := (r1.keep h0).mono h0.size
  replace q1 := (q1.keep h0).mono h0.size
  replace s2 := (s2.keep h0).mono h0.size
  replace hc := hc.trans (h0.mono hc.size)
  clear h0
  go_wp2_with fail
  go_at_call 8
  refine (KP.out _ _ _ HG.out r3).mono ?_
  rintro e y5 ⟨A4, c4, rfl, p4, h0⟩
  replace HG := Lib.hid (GN.out _ _ HG.out h0)
  replace r0 := (r0.keep h0).mono h0.size
  replace q0 := (q0.keep h0).mono h0.size
  replace r1 := (r1.keep h0).mono h0.size
  replace q1 := (q1.keep h0).mono h0.size
  replace s2 := (s2.keep h0).mono h0.size
  replace r3 := (r3.keep h0).mono h0.size
  replace hc := hc.trans (h0.mono hc.size)
  clear h0
  go_upto_region 9 with fail
  refine wp_region_inv 22 [65, 66, 67, 68, 69, 70, 71, 72, 73, 74, 75, 76, 77, 78, 79, 80, 81, 82, 83, 84, 85, 86] [.byt pk, .byt pk, .byt b, .byt b, .byt sg, .byt sg, .val (.int .i64 0), .val (.bool true), .val (.bool true), .byt pk, .byt pk, .byt b, .byt b, .byt sg, .byt cut, .byt cut, .val (.int .i64 1), .val (.bool true), .val (.bool true), .val (.bool true), .val (.bool true), .val (.bool true)] (fun wz => Below y5.heap.size y5 wz) (by kernel_rfl) (by kernel_rfl) (fun wz wz' hz hb => hz.trans (hb.mono hz.size)) ((Below.refl _ _).drew) (fun u => by simp only [puts, List.foldl_cons, List.foldl_nil]; go_simp; exact rfl) ?_ ?_
  · simp only [List.take_succ_cons, List.take_zero]
    refine Obs.cons (fun u w hS hd => ?_) ?_
    · exact Gv.run (.slice A4 32 c4) rfl (by go_simp) (⟨_, _, by rw [hpl], (p4.keep hS).mono hS.size⟩)
    refine Obs.cons (fun u w hS hd => ?_) ?_
    · obtain ⟨A65, c65, d65, g65⟩ : (Know.byt pk).ok (u 65) w := dep hd 0 rfl
      rw [hpl] at d65
      rw [d65]
      refine Gv.call 7 #[.slice A65 32 c65] rfl (by go_simp) ((own9_n hpl (by decide) _ _ w g65).mono ?_)
      rintro e w' ⟨A, c, rfl, R, hb⟩
      exact ⟨_, rfl, ⟨A, c, by rw [hpl], R⟩, hb⟩
    refine Obs.cons (fun u w hS hd => ?_) ?_
    · exact Gv.run (.slice B b.length d) rfl (by go_simp) (⟨_, _, rfl, (q0.keep hS).mono hS.size⟩)
    refine Obs.cons (fun u w hS hd => ?_) ?_
    · obtain ⟨A67, c67, d67, g67⟩ : (Know.byt b).ok (u 67) w := dep hd 2 rfl
      rw [d67]
      refine Gv.call 7 #[.slice A67 b.length c67] rfl (by go_simp) ((own9_rd b _ _ w HM.out g67).mono ?_)
      rintro e w' ⟨A, c, rfl, R, hb⟩
      exact ⟨_, rfl, ⟨A, c, rfl, R⟩, hb⟩
    refine Obs.cons (fun u w hS hd => ?_) ?_
    · exact Gv.run (.slice A2 64 c2) rfl (by go_simp) (⟨_, _, by rw [hsl], (s2.keep hS).mono hS.size⟩)
    refine Obs.cons (fun u w hS hd => ?_) ?_
    · obtain ⟨A69, c69, d69, g69⟩ : (Know.byt sg).ok (u 69) w := dep hd 4 rfl
      rw [hsl] at d69
      rw [d69]
      refine Gv.call 7 #[.slice A69 64 c69] rfl (by go_simp) ((own9_n hsl (by decide) _ _ w g69).mono ?_)
      rintro e w' ⟨A, c, rfl, R, hb⟩
      exact ⟨_, rfl, ⟨A, c, by rw [hsl], R⟩, hb⟩
    refine Obs.cons (fun u w hS hd => ?_) ?_
    · obtain ⟨A66, c66, d66, g66⟩ : (Know.byt pk).ok (u 66) w := dep hd 1 rfl
      rw [hpl] at d66
      rw [d66]
      obtain ⟨A68, c68, d68, g68⟩ : (Know.byt b).ok (u 68) w := dep hd 3 rfl
      rw [d68]
      obtain ⟨A70, c70, d70, g70⟩ : (Know.byt sg).ok (u 70) w := dep hd 5 rfl
      rw [hsl] at d70
      rw [d70]
      refine Gv.call 9 #[.slice A66 32 c66, .slice A68 b.length c68, .slice A70 64 c70] rfl (by go_simp) ((KV.out _ _ _ _ _ _ w (GN.out _ _ HG.out hS) g66 g68 g70).mono ?_)
      rintro e w' ⟨rfl, hb⟩
      exact ⟨_, rfl, rfl, hb⟩
    refine Obs.cons (fun u w hS hd => ?_) ?_
    · have d71 : u 71 = .int .i64 0 := dep hd 6 rfl
      rw [d71]
      exact Gv.run (.bool true) rfl (by go_simp) rfl
    refine Obs.cons (fun u w hS hd => ?_) ?_
    · have d72 : u 72 = .bool true := dep hd 7 rfl
      rw [d72]
      exact Gv.run (.bool true) rfl (by go_simp) rfl
    refine Obs.cons (fun u w hS hd => ?_) ?_
    · have d73 : u 73 = .bool true := dep hd 8 rfl
      rw [d73]
      exact Gv.run (.slice A4 32 c4) rfl (by go_simp) (⟨_, _, by rw [hpl], (p4.keep hS).mono hS.size⟩)
    refine Obs.cons (fun u w hS hd => ?_) ?_
    · have d73 : u 73 = .bool true := dep hd 8 rfl
      rw [d73]
      obtain ⟨A74, c74, d74, g74⟩ : (Know.byt pk).ok (u 74) w := dep hd 9 rfl
      rw [hpl] at d74
      rw [d74]
      refine Gv.call 7 #[.slice A74 32 c74] rfl (by go_simp) ((own9_n hpl (by decide) _ _ w g74).mono ?_)
      rintro e w' ⟨A, c, rfl, R, hb⟩
      exact ⟨_, rfl, ⟨A, c, by rw [hpl], R⟩, hb⟩
    refine Obs.cons (fun u w hS hd => ?_) ?_
    · have d73 : u 73 = .bool true := dep hd 8 rfl
      rw [d73]
      exact Gv.run (.slice B b.length d) rfl (by go_simp) (⟨_, _, rfl, (q0.keep hS).mono hS.size⟩)
    refine Obs.cons (fun u w hS hd => ?_) ?_
    · have d73 : u 73 = .bool true := dep hd 8 rfl
      rw [d73]
      obtain ⟨A76, c76, d76, g76⟩ : (Know.byt b).ok (u 76) w := dep hd 11 rfl
      rw [d76]
      refine Gv.call 7 #[.slice A76 b.length c76] rfl (by go_simp) ((own9_rd b _ _ w HM.out g76).mono ?_)
      rintro e w' ⟨A, c, rfl, R, hb⟩
      exact ⟨_, rfl, ⟨A, c, rfl, R⟩, hb⟩
    refine Obs.cons (fun u w hS hd => ?_) ?_
    · have d73 : u 73 = .bool true := dep hd 8 rfl
      rw [d73]
      exact Gv.run (.slice A2 64 c2) rfl (by go_simp) (⟨_, _, by rw [hsl], (s2.keep hS).mono hS.size⟩)
    refine Obs.cons (fun u w hS hd => ?_) ?_
    · have d73 : u 73 = .bool true := dep hd 8 rfl
      rw [d73]
      obtain ⟨A78, c78, d78, g78⟩ : (Know.byt sg).ok (u 78) w := dep hd 13 rfl
      rw [hsl] at d78
      rw [d78]
      have g79 := g78.sub_ (l := 0) (n := 63) (by rw [hsl]; decide)
      rw [List.drop_zero, Nat.sub_zero, HC.out] at g79
      have hc78 := g78.cap
      rw [hsl] at hc78
      exact Gv.run (.slice (subA A78 c78 0) 63 c78) (by rfl) (slice9_hi (h := 63) rfl rfl rfl (by omega)) ⟨_, _, by rw [hcl], g79⟩
    refine Obs.cons (fun u w hS hd => ?_) ?_
    · have d73 : u 73 = .bool true := dep hd 8 rfl
      rw [d73]
      obtain ⟨A79, c79, d79, g79⟩ : (Know.byt cut).ok (u 79) w := dep hd 14 rfl
      rw [hcl] at d79
      rw [d79]
      refine Gv.call 7 #[.slice A79 63 c79] rfl (by go_simp) ((own9_n hcl (by decide) _ _ w g79).mono ?_)
      rintro e w' ⟨A, c, rfl, R, hb⟩
      exact ⟨_, rfl, ⟨A, c, by rw [hcl], R⟩, hb⟩
    refine Obs.cons (fun u w hS hd => ?_) ?_
    · have d73 : u 73 = .bool true := dep hd 8 rfl
      rw [d73]
      obtain ⟨A75, c75, d75, g75⟩ : (Know.byt pk).ok (u 75) w := dep hd 10 rfl
      rw [hpl] at d75
      rw [d75]
      obtain ⟨A77, c77, d77, g77⟩ : (Know.byt b).ok (u 77) w := dep hd 12 rfl
      rw [d77]
      obtain ⟨A80, c80, d80, g80⟩ : (Know.byt cut).ok (u 80) w := dep hd 15 rfl
      rw [hcl] at d80
      rw [d80]
      refine Gv.call 9 #[.slice A75 32 c75, .slice A77 b.length c77, .slice A80 63 c80] rfl (by go_simp) ((KW.out _ _ _ _ _ _ w (GN.out _ _ HG.out hS) g75 g77 g80).mono ?_)
      rintro e w' ⟨rfl, hb⟩
      exact ⟨_, rfl, rfl, hb⟩
    refine Obs.cons (fun u w hS hd => ?_) ?_
    · have d73 : u 73 = .bool true := dep hd 8 rfl
      rw [d73]
      have d81 : u 81 = .int .i64 1 := dep hd 16 rfl
      rw [d81]
      exact Gv.run (.bool true) rfl (by go_simp) rfl
    refine Obs.cons (fun u w hS hd => ?_) ?_
    · have d73 : u 73 = .bool true := dep hd 8 rfl
      rw [d73]
      have d82 : u 82 = .bool true := dep hd 17 rfl
      rw [d82]
      exact Gv.run (.bool true) rfl (by go_simp) rfl
    refine Obs.cons (fun u w hS hd => ?_) ?_
    · have d83 : u 83 = .bool true := dep hd 18 rfl
      rw [d83]
      exact Gv.run (.bool true) rfl (by go_simp) rfl
    refine Obs.cons (fun u w hS hd => ?_) ?_
    · have d84 : u 84 = .bool true := dep hd 19 rfl
      rw [d84]
      refine Gv.call 5 #[] rfl (by go_simp) ((K9.out w (GN.out _ _ HG.out hS)).mono ?_)
      rintro e w' ⟨rfl, hb⟩
      exact ⟨_, rfl, rfl, hb⟩
    refine Obs.cons (fun u w hS hd => ?_) ?_
    · have d84 : u 84 = .bool true := dep hd 19 rfl
      rw [d84]
      have d85 : u 85 = .bool true := dep hd 20 rfl
      rw [d85]
      exact Gv.run (.bool true) rfl (by go_simp) rfl
    exact Obs.nil
  intro uy6 y6 hS hd
  have d86 : uy6 86 = .bool true := hd 21 (by decide)
  rw [d86]
  replace HG := Lib.hid (GN.out _ _ HG.out hS)
  replace r0 := (r0.keep hS).mono hS.size
  replace q0 := (q0.keep hS).mono hS.size
  replace r1 := (r1.keep hS).mono hS.size
  replace q1 := (q1.keep hS).mono hS.size
  replace s2 := (s2.keep hS).mono hS.size
  replace r3 := (r3.keep hS).mono hS.size
  replace p4 := (p4.keep hS).mono hS.size
  replace hc := hc.trans (hS.mono hc.size)
  clear hS hd d86
  simp only [List.drop_succ_cons, List.drop_zero]
  go_wp2_with fail
  go_ret
  exact ⟨rfl, hc⟩
end
end Go.Proofs.YtgaofocjnifjdaaDoor
