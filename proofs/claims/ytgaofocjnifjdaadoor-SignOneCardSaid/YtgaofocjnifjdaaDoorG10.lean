/-
  Layer 9's SignOne over contracts. Written by tools/gen_g10.py. By an AI agent.
-/
import Derived.Test.YtgaofocjnifjdaaDoorJ01
import Derived.Test.YtgaofocjnifjdaaDoorJ03
import Derived.Test.YtgaofocjnifjdaaDoorJ19
namespace Go.Proofs.YtgaofocjnifjdaaDoor
open Go Go.RowKit
theorem own9_o {n : Nat} {bs : List UInt8} (hn : bs.length = n) (hl : n ≤ 140737488355328) (A : Option Addr) (c : Nat) (w : World) (hr : Rd w w.heap.size A c bs) :
    Calls Tryd.prog 7 #[.slice A n c] w fun e w' => ∃ A' c', e = .returned (.slice A' n c') ∧ Own w' w.heap.size 5 A' c' bs ∧ Below w.heap.size w w' := by
  subst hn
  exact own9_any w hr (Nat.le_refl _) hl
theorem str9o (w : World) {B c : Nat} {A : Option Addr} {bs : List UInt8} (hl : bs.length = 32) (hr : Rd w B A c bs) : (convert 22 9 (.slice A 32 c)).run Tryd.prog w = .ok (.string ⟨bs.toArray⟩) w := by
  have h := run_str (P := Tryd.prog) w 22 5 Tryd.underlying22 Tryd.underlying5 (dst := 9) Tryd.underlying9 hr
  rw [hl] at h
  exact h
section
attribute [local irreducible] wd by8
set_option maxRecDepth 20000
theorem one_much {G : World → Prop} {A A1 A2 : Option Addr} {n c n1 c1 n2 c2 : Nat}
    (ka : ∀ w, G w → Calls Tryd.prog 5 #[] w fun e w' => e = .returned (.bool true) ∧ Below w.heap.size w w') (hn : 4000 < n1) (w : World) (hG : G w) :
    Calls Tryd.prog 4 #[.slice A n c, .slice A1 n1 c1, .slice A2 n2 c2] w fun e w' => e = .returned (.bool true) ∧ Below w.heap.size w w' := by
  have KA := Lib.hid (ka w hG)
  clear ka
  have g1 : (4000 : Int) < (n1 : Int) := by omega
  go_enter Tryd.func4, Tryd.ntmps4
  go_wp2_with fail
  go_at_call 5
  refine KA.out.mono ?_
  rintro e v1 ⟨rfl, hc⟩
  go_wp2_with fail
  go_ret
  exact ⟨rfl, hc⟩
theorem one_no {G : World → Prop} {A A1 A2 : Option Addr} {n c n1 c1 n2 c2 : Nat}
    (ka : ∀ w, G w → Calls Tryd.prog 5 #[] w fun e w' => e = .returned (.bool true) ∧ Below w.heap.size w w') (hn : ¬ 4000 < n1) (hs : n ≠ 32) (w : World) (hG : G w) :
    Calls Tryd.prog 4 #[.slice A n c, .slice A1 n1 c1, .slice A2 n2 c2] w fun e w' => e = .returned (.bool true) ∧ Below w.heap.size w w' := by
  have KA := Lib.hid (ka w hG)
  clear ka
  have g1 : ¬ (4000 : Int) < (n1 : Int) := by omega
  have g2 : ((n : Int) == 32) = false := by simp; omega
  have g3 : ((n : Int) != 32) = true := by simp; omega
  clear hs
  go_enter Tryd.func4, Tryd.ntmps4
  go_wp2_with fail
  go_at_call 5
  refine KA.out.mono ?_
  rintro e v1 ⟨rfl, hc⟩
  go_wp2_with fail
  go_ret
  exact ⟨rfl, hc⟩
theorem one_no2 {G : World → Prop} {A A1 A2 : Option Addr} {n c n1 c1 n2 c2 : Nat}
    (ka : ∀ w, G w → Calls Tryd.prog 5 #[] w fun e w' => e = .returned (.bool true) ∧ Below w.heap.size w w') (hn : ¬ 4000 < n1) (hs : n = 32) (ht : n2 ≠ 32) (w : World) (hG : G w) :
    Calls Tryd.prog 4 #[.slice A n c, .slice A1 n1 c1, .slice A2 n2 c2] w fun e w' => e = .returned (.bool true) ∧ Below w.heap.size w w' := by
  have KA := Lib.hid (ka w hG)
  clear ka
  have g1 : ¬ (4000 : Int) < (n1 : Int) := by omega
  have g2 : ((n : Int) == 32) = true := by simp; omega
  have g3 : ((n : Int) != 32) = false := by simp; omega
  have g4 : ((n2 : Int) == 32) = false := by simp; omega
  have g5 : ((n2 : Int) != 32) = true := by simp; omega
  clear hs ht
  go_enter Tryd.func4, Tryd.ntmps4
  go_wp2_with fail
  go_at_call 5
  refine KA.out.mono ?_
  rintro e v1 ⟨rfl, hc⟩
  go_wp2_with fail
  go_ret
  exact ⟨rfl, hc⟩
set_option maxHeartbeats 6400000 in
theorem one_yes {G : World → Prop} (hGn : ∀ w w', G w → Below w.heap.size w w' → G w') {A B C : Option Addr} {c d e0 : Nat} {seed b other sg pk T F : List UInt8} (hl : seed.length ≤ 140737488355328) (hm : b.length ≤ 4000) (hn : seed.length = 32) (hol : other.length = 32) (hsl : sg.length = 64) (hpl : pk.length = 32) (hT : sg.take 32 = T) (hTl : T.length = 32) (hF : T ++ other = F) (hFl : F.length = 64) (hD : sg.drop 32 = other)
    (ks : ∀ (A B : Option Addr) (c d : Nat) (w : World), G w → Rd w w.heap.size A c seed → Rd w w.heap.size B d b → Calls Tryd.prog 6 #[.slice A seed.length c, .slice B b.length d] w fun e w' => ∃ A2 c2, e = .returned (.tuple #[.slice A2 64 c2, .int .i64 0]) ∧ Rd w' w'.heap.size A2 c2 sg ∧ Below w.heap.size w w')
    (kp : ∀ (A : Option Addr) (c : Nat) (w : World), G w → Rd w w.heap.size A c seed → Calls Tryd.prog 8 #[.slice A seed.length c] w fun e w' => ∃ A2 c2, e = .returned (.tuple #[.slice A2 32 c2, .int .i64 0]) ∧ Rd w' w'.heap.size A2 c2 pk ∧ Below w.heap.size w w')
    (kv : ∀ (A B C : Option Addr) (c d e0 : Nat) (w : World), G w → Rd w w.heap.size A c pk → Rd w w.heap.size B d b → Rd w w.heap.size C e0 F → Calls Tryd.prog 9 #[.slice A 32 c, .slice B b.length d, .slice C 64 e0] w fun e w' => e = .returned (.int .i64 0) ∧ Below w.heap.size w w')
    (k9 : ∀ w, G w → Calls Tryd.prog 5 #[] w fun e w' => e = .returned (.bool true) ∧ Below w.heap.size w w')
    (w : World) (r0 : Rd w w.heap.size A c seed) (q0 : Rd w w.heap.size B d b) (p0 : Rd w w.heap.size C e0 other) (hG : G w) : Calls Tryd.prog 4 #[.slice A seed.length c, .slice B b.length d, .slice C 32 e0] w fun e w' => e = .returned (.bool true) ∧ Below w.heap.size w w' := by
  obtain ⟨i0, hi, hz0, hz1, hz2⟩ := info_parts infoByte
  have KS := Lib.hid ks
  have KP := Lib.hid kp
  have KV := Lib.hid kv
  have K9 := Lib.hid k9
  have HT := Lib.hid hT
  have HF := Lib.hid hF
  have HD := Lib.hid hD
  have HL := Lib.hid hl
  have HM := Lib.hid (show b.length ≤ 140737488355328 by omega)
  have g0 : ¬ (4000 : Int) < (b.length : Int) := by omega
  have g1 : ((seed.length : Int) == 32) = true := by simp; omega
  have g2 : ((seed.length : Int) != 32) = false := by simp; omega
  clear ks kp kv k9 hl hm hn hT hF hD
  have GN := Lib.hid hGn
  have HG := Lib.hid hG
  clear hGn hG
  have hc := Below.refl w.heap.size w
  go_enter Tryd.func4, Tryd.ntmps4
  go_wp2_with fail
  go_at_call 7
  refine (own9_rd seed _ _ _ HL.out r0).mono ?_
  rintro e y1 ⟨A1, c1, rfl, r1, h0⟩
  replace HG := Lib.hid (GN.out _ _ HG.out h0)
  replace r0 := (r0.keep h0).mono h0.size
  replace q0 := (q0.keep h0).mono h0.size
  replace p0 := (p0.keep h0).mono h0.size
  replace hc := hc.trans (h0.mono hc.size)
  clear h0
  go_wp2_with fail
  go_at_call 7
  refine (own9_rd b _ _ _ HM.out q0).mono ?_
  rintro e y2 ⟨B1, d1, rfl, q1, h0⟩
  replace HG := Lib.hid (GN.out _ _ HG.out h0)
  replace r0 := (r0.keep h0).mono h0.size
  replace q0 := (q0.keep h0).mono h0.size
  replace p0 := (p0.keep h0).mono h0.size
  replace r1 := (r1.keep h0).mono h0.size
  replace hc := hc.trans (h0.mono hc.size)
  clear h0
  go_wp2_with fail
  go_at_call 6
  refine (KS.out _ _ _ _ _ HG.out r1 q1).mono ?_
  rintro e y3 ⟨A2, c2, rfl, s2, h0⟩
  replace HG := Lib.hid (GN.out _ _ HG.out h0)
  replace r0 := (r0.keep h0).mono h0.size
  replace q0 := (q0.keep h0).mono h0.size
  replace p0 := (p0.keep h0).mono h0.size
  replace r1 := (r1.keep h0).mono h0.size
  replace q1 := (q1.keep h0).mono h0.size
  replace hc := hc.trans (h0.mono hc.size)
  clear h0
  go_wp2_with fail
  go_at_call 7
  refine (own9_rd seed _ _ _ HL.out r0).mono ?_
  rintro e y4 ⟨A3, c3, rfl, r3, h0⟩
  replace HG := Lib.hid (GN.out _ _ HG.out h0)
  replace r0 := (r0.keep h0).mono h0.size
  replace q0 := (q0.keep h0).mono h0.size
  replace p0 := (p0.keep h0).mono h0.size
  replace r1 := (r1.keep h0).mono h0.size
  replace q1 := (q1.keep h0).mono h0.size
  replace s2 := (s2.keep h0).mono h0.size
  replace hc := hc.trans (h0.mono hc.size)
  clear h0
  go_wp2_with fail
  go_at_call 8
  refine (KP.out _ _ _ HG.out r3).mono ?_
  rintro e y5 ⟨A4, c4, rfl, p4, h0⟩
  replace HG := Lib.hid (GN.out _ _ HG.out h0)
  replace r0 := (r0.keep h0).mono h0.size
  replace q0 := (q0.keep h0).mono h0.size
  replace p0 := (p0.keep h0).mono h0.size
  replace r1 := (r1.keep h0).mono h0.size
  replace q1 := (q1.keep h0).mono h0.size
  replace s2 := (s2.keep h0).mono h0.size
  replace r3 := (r3.keep h0).mono h0.size
  replace hc := hc.trans (h0.mono hc.size)
  clear h0
  have hcap := s2.cap
  rw [hsl] at hcap
  obtain ⟨b2, o2, rfl, _, _⟩ := s2.at_ (k := 0) (by omega)
  have t2 := s2.pre (n := 32) (by rw [hsl]; decide) (by decide)
  rw [HT.out] at t2
  go_wp2_with fail
  go_at_call 7
  refine (own9_o hTl (by decide) _ _ _ t2).mono ?_
  rintro e y9 ⟨T1, c9, rfl, o9, h0⟩
  have p9 := p0.keep h0
  go_upto_region 10 with (at_builtin; refine wpList_app _ rfl (.tmp 52) (.tmp 53) _ rfl _ 5 i0 _ Tryd.underlying22 hi hz0 hz1 hz2 rfl (xs := T) (by rw [hTl]; rfl) o9 (by rw [hol]; rfl) p9 (by rw [hTl, hol]; decide) h0.size ?_; intro F1 f9 y10 o10 hb; rw [show (T ++ other).length = 64 by rw [HF.out, hFl]])
  rw [HF.out] at o10
  replace h0 := h0.trans hb
  have f10 := o10.rd
  clear hb p9 o9 o10 t2
  replace HG := Lib.hid (GN.out _ _ HG.out h0)
  replace r0 := (r0.keep h0).mono h0.size
  replace q0 := (q0.keep h0).mono h0.size
  replace p0 := (p0.keep h0).mono h0.size
  replace r1 := (r1.keep h0).mono h0.size
  replace q1 := (q1.keep h0).mono h0.size
  replace s2 := (s2.keep h0).mono h0.size
  replace r3 := (r3.keep h0).mono h0.size
  replace p4 := (p4.keep h0).mono h0.size
  replace hc := hc.trans (h0.mono hc.size)
  clear h0
  refine wp_region_inv 16 [55, 56, 57, 58, 59, 60, 61, 62, 63, 64, 65, 66, 67, 68, 69, 70] [.byt pk, .byt b, .byt b, .byt F, .val (.int .i64 0), .val (.bool true), .byt other, .val (.string ⟨other.toArray⟩), .byt sg, .byt other, .val (.string ⟨other.toArray⟩), .val (.bool true), .val (.bool true), .val (.bool true), .val (.bool true), .val (.bool true)] (fun wz => Below y10.heap.size y10 wz) (by kernel_rfl) (by kernel_rfl) (fun wz wz' hz hb => hz.trans (hb.mono hz.size)) ((Below.refl _ _).drew) (fun u => by simp only [puts, List.foldl_cons, List.foldl_nil]; go_simp; exact rfl) ?_ ?_
  · simp only [List.take_succ_cons, List.take_zero]
    refine Obs.cons (fun u w hS hd => ?_) ?_
    · exact Gv.run (.slice A4 32 c4) rfl (by go_simp) (⟨_, _, by rw [hpl], (p4.keep hS).mono hS.size⟩)
    refine Obs.cons (fun u w hS hd => ?_) ?_
    · exact Gv.run (.slice B b.length d) rfl (by go_simp) (⟨_, _, rfl, (q0.keep hS).mono hS.size⟩)
    refine Obs.cons (fun u w hS hd => ?_) ?_
    · obtain ⟨A56, c56, d56, g56⟩ : (Know.byt b).ok (u 56) w := dep hd 1 rfl
      rw [d56]
      refine Gv.call 7 #[.slice A56 b.length c56] rfl (by go_simp) ((own9_rd b _ _ w HM.out g56).mono ?_)
      rintro e w' ⟨A, c, rfl, R, hb⟩
      exact ⟨_, rfl, ⟨A, c, rfl, R⟩, hb⟩
    refine Obs.cons (fun u w hS hd => ?_) ?_
    · exact Gv.run (.slice F1 64 f9) rfl (by go_simp) (⟨_, _, by rw [hFl], (f10.keep hS).mono hS.size⟩)
    refine Obs.cons (fun u w hS hd => ?_) ?_
    · obtain ⟨A55, c55, d55, g55⟩ : (Know.byt pk).ok (u 55) w := dep hd 0 rfl
      rw [hpl] at d55
      rw [d55]
      obtain ⟨A57, c57, d57, g57⟩ : (Know.byt b).ok (u 57) w := dep hd 2 rfl
      rw [d57]
      obtain ⟨A58, c58, d58, g58⟩ : (Know.byt F).ok (u 58) w := dep hd 3 rfl
      rw [hFl] at d58
      rw [d58]
      refine Gv.call 9 #[.slice A55 32 c55, .slice A57 b.length c57, .slice A58 64 c58] rfl (by go_simp) ((KV.out _ _ _ _ _ _ w (GN.out _ _ HG.out hS) g55 g57 g58).mono ?_)
      rintro e w' ⟨rfl, hb⟩
      exact ⟨_, rfl, rfl, hb⟩
    refine Obs.cons (fun u w hS hd => ?_) ?_
    · have d59 : u 59 = .int .i64 0 := dep hd 4 rfl
      rw [d59]
      exact Gv.run (.bool true) rfl (by go_simp) rfl
    refine Obs.cons (fun u w hS hd => ?_) ?_
    · exact Gv.run (.slice C 32 e0) rfl (by go_simp) (⟨_, _, by rw [hol], (p0.keep hS).mono hS.size⟩)
    refine Obs.cons (fun u w hS hd => ?_) ?_
    · obtain ⟨A61, c61, d61, g61⟩ : (Know.byt other).ok (u 61) w := dep hd 6 rfl
      rw [hol] at d61
      rw [d61]
      exact Gv.run (.string ⟨other.toArray⟩) rfl (run_conv rfl rfl (str9o w hol g61)) rfl
    refine Obs.cons (fun u w hS hd => ?_) ?_
    · exact Gv.run (.slice (some ⟨b2, o2, none⟩) 64 c2) rfl (by go_simp) (⟨_, _, by rw [hsl], (s2.keep hS).mono hS.size⟩)
    refine Obs.cons (fun u w hS hd => ?_) ?_
    · obtain ⟨A63, c63, d63, g63⟩ : (Know.byt sg).ok (u 63) w := dep hd 8 rfl
      rw [hsl] at d63
      rw [d63]
      have g64 := g63.drop_ (l := 32) (by rw [hsl]; decide)
      rw [HD.out] at g64
      exact Gv.run (.slice (subA A63 c63 32) 32 (c63 - 32)) (by rfl) (slice_op_lo (n := 64) (l := 32) rfl rfl rfl (by decide)) ⟨_, _, by rw [hol], g64⟩
    refine Obs.cons (fun u w hS hd => ?_) ?_
    · obtain ⟨A64, c64, d64, g64⟩ : (Know.byt other).ok (u 64) w := dep hd 9 rfl
      rw [hol] at d64
      rw [d64]
      exact Gv.run (.string ⟨other.toArray⟩) rfl (run_conv rfl rfl (str9o w hol g64)) rfl
    refine Obs.cons (fun u w hS hd => ?_) ?_
    · have d62 : u 62 = .string ⟨other.toArray⟩ := dep hd 7 rfl
      rw [d62]
      have d65 : u 65 = .string ⟨other.toArray⟩ := dep hd 10 rfl
      rw [d65]
      exact Gv.run (.bool true) rfl (by go_simp) rfl
    refine Obs.cons (fun u w hS hd => ?_) ?_
    · have d60 : u 60 = .bool true := dep hd 5 rfl
      rw [d60]
      have d66 : u 66 = .bool true := dep hd 11 rfl
      rw [d66]
      exact Gv.run (.bool true) rfl (by go_simp) rfl
    refine Obs.cons (fun u w hS hd => ?_) ?_
    · have d67 : u 67 = .bool true := dep hd 12 rfl
      rw [d67]
      exact Gv.run (.bool true) rfl (by go_simp) rfl
    refine Obs.cons (fun u w hS hd => ?_) ?_
    · have d68 : u 68 = .bool true := dep hd 13 rfl
      rw [d68]
      refine Gv.call 5 #[] rfl (by go_simp) ((K9.out w (GN.out _ _ HG.out hS)).mono ?_)
      rintro e w' ⟨rfl, hb⟩
      exact ⟨_, rfl, rfl, hb⟩
    refine Obs.cons (fun u w hS hd => ?_) ?_
    · have d68 : u 68 = .bool true := dep hd 13 rfl
      rw [d68]
      have d69 : u 69 = .bool true := dep hd 14 rfl
      rw [d69]
      exact Gv.run (.bool true) rfl (by go_simp) rfl
    exact Obs.nil
  intro uy6 y6 hS hd
  have d70 : uy6 70 = .bool true := hd 15 (by decide)
  rw [d70]
  replace HG := Lib.hid (GN.out _ _ HG.out hS)
  replace r0 := (r0.keep hS).mono hS.size
  replace q0 := (q0.keep hS).mono hS.size
  replace p0 := (p0.keep hS).mono hS.size
  replace r1 := (r1.keep hS).mono hS.size
  replace q1 := (q1.keep hS).mono hS.size
  replace s2 := (s2.keep hS).mono hS.size
  replace r3 := (r3.keep hS).mono hS.size
  replace p4 := (p4.keep hS).mono hS.size
  replace f10 := (f10.keep hS).mono hS.size
  replace hc := hc.trans (hS.mono hc.size)
  clear hS hd d70
  simp only [List.drop_succ_cons, List.drop_zero]
  go_wp2_with fail
  go_ret
  exact ⟨rfl, hc⟩
set_option maxHeartbeats 6400000 in
theorem one_not {G : World → Prop} (hGn : ∀ w w', G w → Below w.heap.size w w' → G w') {A B C : Option Addr} {c d e0 : Nat} {seed b other sg pk T F D : List UInt8} (hl : seed.length ≤ 140737488355328) (hm : b.length ≤ 4000) (hn : seed.length = 32) (hol : other.length = 32) (hsl : sg.length = 64) (hpl : pk.length = 32) (hT : sg.take 32 = T) (hTl : T.length = 32) (hF : T ++ other = F) (hFl : F.length = 64) (hD : sg.drop 32 = D) (hDl : D.length = 32) (hne : other ≠ D) {er : Int} (her : er ≠ 0)
    (ks : ∀ (A B : Option Addr) (c d : Nat) (w : World), G w → Rd w w.heap.size A c seed → Rd w w.heap.size B d b → Calls Tryd.prog 6 #[.slice A seed.length c, .slice B b.length d] w fun e w' => ∃ A2 c2, e = .returned (.tuple #[.slice A2 64 c2, .int .i64 0]) ∧ Rd w' w'.heap.size A2 c2 sg ∧ Below w.heap.size w w')
    (kp : ∀ (A : Option Addr) (c : Nat) (w : World), G w → Rd w w.heap.size A c seed → Calls Tryd.prog 8 #[.slice A seed.length c] w fun e w' => ∃ A2 c2, e = .returned (.tuple #[.slice A2 32 c2, .int .i64 0]) ∧ Rd w' w'.heap.size A2 c2 pk ∧ Below w.heap.size w w')
    (kv : ∀ (A B C : Option Addr) (c d e0 : Nat) (w : World), G w → Rd w w.heap.size A c pk → Rd w w.heap.size B d b → Rd w w.heap.size C e0 F → Calls Tryd.prog 9 #[.slice A 32 c, .slice B b.length d, .slice C 64 e0] w fun e w' => e = .returned (.int .i64 er) ∧ Below w.heap.size w w')
    (k9 : ∀ w, G w → Calls Tryd.prog 5 #[] w fun e w' => e = .returned (.bool true) ∧ Below w.heap.size w w')
    (w : World) (r0 : Rd w w.heap.size A c seed) (q0 : Rd w w.heap.size B d b) (p0 : Rd w w.heap.size C e0 other) (hG : G w) : Calls Tryd.prog 4 #[.slice A seed.length c, .slice B b.length d, .slice C 32 e0] w fun e w' => e = .returned (.bool true) ∧ Below w.heap.size w w' := by
  obtain ⟨i0, hi, hz0, hz1, hz2⟩ := info_parts infoByte
  have KS := Lib.hid ks
  have KP := Lib.hid kp
  have KV := Lib.hid kv
  have K9 := Lib.hid k9
  have HT := Lib.hid hT
  have HF := Lib.hid hF
  have HD := Lib.hid hD
  have HN := Lib.hid hne
  have HE := Lib.hid her
  clear hne her
  have HL := Lib.hid hl
  have HM := Lib.hid (show b.length ≤ 140737488355328 by omega)
  have g0 : ¬ (4000 : Int) < (b.length : Int) := by omega
  have g1 : ((seed.length : Int) == 32) = true := by simp; omega
  have g2 : ((seed.length : Int) != 32) = false := by simp; omega
  clear ks kp kv k9 hl hm hn hT hF hD
  have GN := Lib.hid hGn
  have HG := Lib.hid hG
  clear hGn hG
  have hc := Below.refl w.heap.size w
  go_enter Tryd.func4, Tryd.ntmps4
  go_wp2_with fail
  go_at_call 7
  refine (own9_rd seed _ _ _ HL.out r0).mono ?_
  rintro e y1 ⟨A1, c1, rfl, r1, h0⟩
  replace HG := Lib.hid (GN.out _ _ HG.out h0)
  replace r0 := (r0.keep h0).mono h0.size
  replace q0 := (q0.keep h0).mono h0.size
  replace p0 := (p0.keep h0).mono h0.size
  replace hc := hc.trans (h0.mono hc.size)
  clear h0
  go_wp2_with fail
  go_at_call 7
  refine (own9_rd b _ _ _ HM.out q0).mono ?_
  rintro e y2 ⟨B1, d1, rfl, q1, h0⟩
  replace HG := Lib.hid (GN.out _ _ HG.out h0)
  replace r0 := (r0.keep h0).mono h0.size
  replace q0 := (q0.keep h0).mono h0.size
  replace p0 := (p0.keep h0).mono h0.size
  replace r1 := (r1.keep h0).mono h0.size
  replace hc := hc.trans (h0.mono hc.size)
  clear h0
  go_wp2_with fail
  go_at_call 6
  refine (KS.out _ _ _ _ _ HG.out r1 q1).mono ?_
  rintro e y3 ⟨A2, c2, rfl, s2, h0⟩
  replace HG := Lib.hid (GN.out _ _ HG.out h0)
  replace r0 := (r0.keep h0).mono h0.size
  replace q0 := (q0.keep h0).mono h0.size
  replace p0 := (p0.keep h0).mono h0.size
  replace r1 := (r1.keep h0).mono h0.size
  replace q1 := (q1.keep h0).mono h0.size
  replace hc := hc.trans (h0.mono hc.size)
  clear h0
  go_wp2_with fail
  go_at_call 7
  refine (own9_rd seed _ _ _ HL.out r0).mono ?_
  rintro e y4 ⟨A3, c3, rfl, r3, h0⟩
  replace HG := Lib.hid (GN.out _ _ HG.out h0)
  replace r0 := (r0.keep h0).mono h0.size
  replace q0 := (q0.keep h0).mono h0.size
  replace p0 := (p0.keep h0).mono h0.size
  replace r1 := (r1.keep h0).mono h0.size
  replace q1 := (q1.keep h0).mono h0.size
  replace s2 := (s2.keep h0).mono h0.size
  replace hc := hc.trans (h0.mono hc.size)
  clear h0
  go_wp2_with fail
  go_at_call 8
  refine (KP.out _ _ _ HG.out r3).mono ?_
  rintro e y5 ⟨A4, c4, rfl, p4, h0⟩
  replace HG := Lib.hid (GN.out _ _ HG.out h0)
  replace r0 := (r0.keep h0).mono h0.size
  replace q0 := (q0.keep h0).mono h0.size
  replace p0 := (p0.keep h0).mono h0.size
  replace r1 := (r1.keep h0).mono h0.size
  replace q1 := (q1.keep h0).mono h0.size
  replace s2 := (s2.keep h0).mono h0.size
  replace r3 := (r3.keep h0).mono h0.size
  replace hc := hc.trans (h0.mono hc.size)
  clear h0
  have hcap := s2.cap
  rw [hsl] at hcap
  obtain ⟨b2, o2, rfl, _, _⟩ := s2.at_ (k := 0) (by omega)
  have t2 := s2.pre (n := 32) (by rw [hsl]; decide) (by decide)
  rw [HT.out] at t2
  go_wp2_with fail
  go_at_call 7
  refine (own9_o hTl (by decide) _ _ _ t2).mono ?_
  rintro e y9 ⟨T1, c9, rfl, o9, h0⟩
  have p9 := p0.keep h0
  go_upto_region 10 with (at_builtin; refine wpList_app _ rfl (.tmp 52) (.tmp 53) _ rfl _ 5 i0 _ Tryd.underlying22 hi hz0 hz1 hz2 rfl (xs := T) (by rw [hTl]; rfl) o9 (by rw [hol]; rfl) p9 (by rw [hTl, hol]; decide) h0.size ?_; intro F1 f9 y10 o10 hb; rw [show (T ++ other).length = 64 by rw [HF.out, hFl]])
  rw [HF.out] at o10
  replace h0 := h0.trans hb
  have f10 := o10.rd
  clear hb p9 o9 o10 t2
  replace HG := Lib.hid (GN.out _ _ HG.out h0)
  replace r0 := (r0.keep h0).mono h0.size
  replace q0 := (q0.keep h0).mono h0.size
  replace p0 := (p0.keep h0).mono h0.size
  replace r1 := (r1.keep h0).mono h0.size
  replace q1 := (q1.keep h0).mono h0.size
  replace s2 := (s2.keep h0).mono h0.size
  replace r3 := (r3.keep h0).mono h0.size
  replace p4 := (p4.keep h0).mono h0.size
  replace hc := hc.trans (h0.mono hc.size)
  clear h0
  refine wp_region_inv 16 [55, 56, 57, 58, 59, 60, 61, 62, 63, 64, 65, 66, 67, 68, 69, 70] [.byt pk, .byt b, .byt b, .byt F, .val (.int .i64 er), .val (.bool false), .byt other, .val (.string ⟨other.toArray⟩), .byt sg, .byt D, .val (.string ⟨D.toArray⟩), .val (.bool false), .val (.bool true), .val (.bool true), .val (.bool true), .val (.bool true)] (fun wz => Below y10.heap.size y10 wz) (by kernel_rfl) (by kernel_rfl) (fun wz wz' hz hb => hz.trans (hb.mono hz.size)) ((Below.refl _ _).drew) (fun u => by simp only [puts, List.foldl_cons, List.foldl_nil]; go_simp; exact rfl) ?_ ?_
  · simp only [List.take_succ_cons, List.take_zero]
    refine Obs.cons (fun u w hS hd => ?_) ?_
    · exact Gv.run (.slice A4 32 c4) rfl (by go_simp) (⟨_, _, by rw [hpl], (p4.keep hS).mono hS.size⟩)
    refine Obs.cons (fun u w hS hd => ?_) ?_
    · exact Gv.run (.slice B b.length d) rfl (by go_simp) (⟨_, _, rfl, (q0.keep hS).mono hS.size⟩)
    refine Obs.cons (fun u w hS hd => ?_) ?_
    · obtain ⟨A56, c56, d56, g56⟩ : (Know.byt b).ok (u 56) w := dep hd 1 rfl
      rw [d56]
      refine Gv.call 7 #[.slice A56 b.length c56] rfl (by go_simp) ((own9_rd b _ _ w HM.out g56).mono ?_)
      rintro e w' ⟨A, c, rfl, R, hb⟩
      exact ⟨_, rfl, ⟨A, c, rfl, R⟩, hb⟩
    refine Obs.cons (fun u w hS hd => ?_) ?_
    · exact Gv.run (.slice F1 64 f9) rfl (by go_simp) (⟨_, _, by rw [hFl], (f10.keep hS).mono hS.size⟩)
    refine Obs.cons (fun u w hS hd => ?_) ?_
    · obtain ⟨A55, c55, d55, g55⟩ : (Know.byt pk).ok (u 55) w := dep hd 0 rfl
      rw [hpl] at d55
      rw [d55]
      obtain ⟨A57, c57, d57, g57⟩ : (Know.byt b).ok (u 57) w := dep hd 2 rfl
      rw [d57]
      obtain ⟨A58, c58, d58, g58⟩ : (Know.byt F).ok (u 58) w := dep hd 3 rfl
      rw [hFl] at d58
      rw [d58]
      refine Gv.call 9 #[.slice A55 32 c55, .slice A57 b.length c57, .slice A58 64 c58] rfl (by go_simp) ((KV.out _ _ _ _ _ _ w (GN.out _ _ HG.out hS) g55 g57 g58).mono ?_)
      rintro e w' ⟨rfl, hb⟩
      exact ⟨_, rfl, rfl, hb⟩
    refine Obs.cons (fun u w hS hd => ?_) ?_
    · have d59 : u 59 = .int .i64 er := dep hd 4 rfl
      rw [d59]
      exact Gv.run (.bool false) rfl (by have he := HE.out; go_simp) rfl
    refine Obs.cons (fun u w hS hd => ?_) ?_
    · exact Gv.run (.slice C 32 e0) rfl (by go_simp) (⟨_, _, by rw [hol], (p0.keep hS).mono hS.size⟩)
    refine Obs.cons (fun u w hS hd => ?_) ?_
    · obtain ⟨A61, c61, d61, g61⟩ : (Know.byt other).ok (u 61) w := dep hd 6 rfl
      rw [hol] at d61
      rw [d61]
      exact Gv.run (.string ⟨other.toArray⟩) rfl (run_conv rfl rfl (str9o w hol g61)) rfl
    refine Obs.cons (fun u w hS hd => ?_) ?_
    · exact Gv.run (.slice (some ⟨b2, o2, none⟩) 64 c2) rfl (by go_simp) (⟨_, _, by rw [hsl], (s2.keep hS).mono hS.size⟩)
    refine Obs.cons (fun u w hS hd => ?_) ?_
    · obtain ⟨A63, c63, d63, g63⟩ : (Know.byt sg).ok (u 63) w := dep hd 8 rfl
      rw [hsl] at d63
      rw [d63]
      have g64 := g63.drop_ (l := 32) (by rw [hsl]; decide)
      rw [HD.out] at g64
      exact Gv.run (.slice (subA A63 c63 32) 32 (c63 - 32)) (by rfl) (slice_op_lo (n := 64) (l := 32) rfl rfl rfl (by decide)) ⟨_, _, by rw [hDl], g64⟩
    refine Obs.cons (fun u w hS hd => ?_) ?_
    · obtain ⟨A64, c64, d64, g64⟩ : (Know.byt D).ok (u 64) w := dep hd 9 rfl
      rw [hDl] at d64
      rw [d64]
      exact Gv.run (.string ⟨D.toArray⟩) rfl (run_conv rfl rfl (str9o w hDl g64)) rfl
    refine Obs.cons (fun u w hS hd => ?_) ?_
    · have d62 : u 62 = .string ⟨other.toArray⟩ := dep hd 7 rfl
      rw [d62]
      have d65 : u 65 = .string ⟨D.toArray⟩ := dep hd 10 rfl
      rw [d65]
      exact Gv.run (.bool false) rfl (by have hne := HN.out; go_simp) rfl
    refine Obs.cons (fun u w hS hd => ?_) ?_
    · have d60 : u 60 = .bool false := dep hd 5 rfl
      rw [d60]
      have d66 : u 66 = .bool false := dep hd 11 rfl
      rw [d66]
      exact Gv.run (.bool true) rfl (by go_simp) rfl
    refine Obs.cons (fun u w hS hd => ?_) ?_
    · have d67 : u 67 = .bool true := dep hd 12 rfl
      rw [d67]
      exact Gv.run (.bool true) rfl (by go_simp) rfl
    refine Obs.cons (fun u w hS hd => ?_) ?_
    · have d68 : u 68 = .bool true := dep hd 13 rfl
      rw [d68]
      refine Gv.call 5 #[] rfl (by go_simp) ((K9.out w (GN.out _ _ HG.out hS)).mono ?_)
      rintro e w' ⟨rfl, hb⟩
      exact ⟨_, rfl, rfl, hb⟩
    refine Obs.cons (fun u w hS hd => ?_) ?_
    · have d68 : u 68 = .bool true := dep hd 13 rfl
      rw [d68]
      have d69 : u 69 = .bool true := dep hd 14 rfl
      rw [d69]
      exact Gv.run (.bool true) rfl (by go_simp) rfl
    exact Obs.nil
  intro uy6 y6 hS hd
  have d70 : uy6 70 = .bool true := hd 15 (by decide)
  rw [d70]
  replace HG := Lib.hid (GN.out _ _ HG.out hS)
  replace r0 := (r0.keep hS).mono hS.size
  replace q0 := (q0.keep hS).mono hS.size
  replace p0 := (p0.keep hS).mono hS.size
  replace r1 := (r1.keep hS).mono hS.size
  replace q1 := (q1.keep hS).mono hS.size
  replace s2 := (s2.keep hS).mono hS.size
  replace r3 := (r3.keep hS).mono hS.size
  replace p4 := (p4.keep hS).mono hS.size
  replace f10 := (f10.keep hS).mono hS.size
  replace hc := hc.trans (hS.mono hc.size)
  clear hS hd d70
  simp only [List.drop_succ_cons, List.drop_zero]
  go_wp2_with fail
  go_ret
  exact ⟨rfl, hc⟩
end
end Go.Proofs.YtgaofocjnifjdaaDoor
