/-
  Layer 7's law HkdfBegins. Written by tools/gen_h16.py. By an AI agent. Layer 7's law HkdfLong. Written by tools/gen_h16.py. By an AI agent. Layer 7's six laws, walked whole. By an AI agent.
-/
import Derived.Test.YtbofehdihflkiaaDoorTC
namespace Go.Proofs.YtbofehdihflkiaaDoor
open Go Go.RowKit
set_option maxRecDepth 20000
section
attribute [local irreducible] sumN macN extN expN
set_option maxHeartbeats 3200000 in
theorem begins_law {A0 A1 : Option Addr} {c0 c1 x y : Nat} {key info : List UInt8}
    (ka : ∀ w, Glb w → Calls Tryd.prog 9 #[] w fun e w' => e = .returned (.bool true) ∧ Below w.heap.size w w')
    (hx : x < 65536) (hy : y < 65536) (n0 : key.length ≤ 4000) (n1 : info.length ≤ 400) (w : World) (hG : Glb w) (hr : Rd w w.heap.size A0 c0 key) (hs : Rd w w.heap.size A1 c1 info) :
    Calls Tryd.prog 7 #[.slice A0 key.length c0, .slice A1 info.length c1, .int .u16 (x : Int), .int .u16 (y : Int)] w fun e w' => e = .returned (.bool true) ∧ Below w.heap.size w w' := by
  obtain ⟨many, hm⟩ : ∃ z, z = x % 8161 := ⟨_, rfl⟩
  obtain ⟨m1, hm1⟩ : ∃ z, z = many + 1 := ⟨_, rfl⟩
  obtain ⟨few, hf⟩ : ∃ z, z = y % m1 := ⟨_, rfl⟩
  have hml : many ≤ 8160 := by omega
  have hfl : few ≤ many := by have := Nat.mod_lt y (show 0 < m1 by omega); omega
  have KG := Lib.hid (fun (n : Nat) (hn : n ≤ 8160) (A : Option Addr) (c : Nat) (A' : Option Addr) (c' : Nat) (w : World) hG hr hs => codeExpand_any (A := A) (A' := A') (c := c) (c' := c') (key := key) (info := info) (n := n) hn (by omega) (by omega) w hG hr hs)
  have ET := Lib.hid (expN_take key info hfl)
  have EL := Lib.hid (expN_len key info many)
  have EL2 := Lib.hid (expN_len key info few)
  have EF := Lib.hid hfl
  have HM := Lib.hid hml
  have KA := Lib.hid ka
  have KO := Lib.hid (fun w hr => own7_any (A := A0) (c := c0) (bs := key) (B := w.heap.size) w hr (Nat.le_refl _) (by omega))
  have KI := Lib.hid (fun w hr => own7_any (A := A1) (c := c1) (bs := info) (B := w.heap.size) w hr (Nat.le_refl _) (by omega))
  have a1 : ¬ (4000 : Int) < (key.length : Int) := by omega
  have a2 : ¬ (400 : Int) < (info.length : Int) := by omega
  have e0 : IntKind.i64.wrap (x : Int) = (x : Int) := by rw [IntKind.wrap_i64]; omega
  have e0' : IntKind.i64.wrap (y : Int) = (y : Int) := by rw [IntKind.wrap_i64]; omega
  have e1 : (x : Int) % 8161 = (many : Int) := by omega
  have e1' : (x : Int).tmod 8161 = (many : Int) := by rw [Int.tmod_eq_emod_of_nonneg (by omega)]; omega
  have e2 : IntKind.i64.wrap ((many : Int) + 1) = (m1 : Int) := by rw [IntKind.wrap_i64]; omega
  have e3 : (y : Int) % (m1 : Int) = (few : Int) := by rw [hf]; exact (Int.natCast_emod y m1).symm
  have e3' : (y : Int).tmod (m1 : Int) = (few : Int) := by rw [Int.tmod_eq_emod_of_nonneg (by omega)]; exact e3
  have z0 : ((m1 : Int) == 0) = false := beq_eq_false_iff_ne.2 (by omega)
  have z1 : ¬ (m1 : Int) = 0 := by omega
  have z2 : ¬ m1 = 0 := by omega
  clear hm hm1 hf hml hfl ka hx hy
  go_enter Tryd.func7, Tryd.ntmps7
  go_wp2_with fail
  go_at_call 10
  refine (KO.out w hr).mono ?_
  rintro e v1 ⟨Ax, cx, rfl, ox, hc⟩
  clear e0 e0' e1 e1' e2 e3 e3' z0 z1 z2 a1 a2
  go_wp2_with fail
  go_at_call 10
  refine (KI.out v1 ((hs.keep hc).mono hc.size)).mono ?_
  rintro e v2 ⟨Ay, cy, rfl, oy, hb⟩
  have hx := (ox.keep hb).rd
  have hy := oy.rd
  replace hc := hc.trans (hb.mono hc.size)
  clear ox oy hb
  go_wp2_with fail
  go_at_call 15
  refine (KG.out many HM.out _ _ _ _ _ (hG.next hc) hx hy).mono ?_
  rintro e v3 ⟨B3, d3, rfl, h3, hb⟩
  replace hc := hc.trans (hb.mono hc.size)
  clear hb hx hy
  go_wp2_with fail
  go_at_call 10
  refine (KO.out v3 ((hr.keep hc).mono hc.size)).mono ?_
  rintro e v4 ⟨Ax, cx, rfl, ox, hb⟩
  replace h3 := (h3.keep hb).mono hb.size
  replace hc := hc.trans (hb.mono hc.size)
  clear hb
  go_wp2_with fail
  go_at_call 10
  refine (KI.out v4 ((hs.keep hc).mono hc.size)).mono ?_
  rintro e v5 ⟨Ay, cy, rfl, oy, hb⟩
  have hx := (ox.keep hb).rd
  have hy := oy.rd
  replace h3 := (h3.keep hb).mono hb.size
  replace hc := hc.trans (hb.mono hc.size)
  clear ox oy hb
  go_wp2_with fail
  go_at_call 15
  refine (KG.out few (Nat.le_trans EF.out HM.out) _ _ _ _ _ (hG.next hc) hx hy).mono ?_
  rintro e v6 ⟨B4, d4, rfl, h4, hb⟩
  replace h3 := (h3.keep hb).mono hb.size
  replace hc := hc.trans (hb.mono hc.size)
  have HG := Lib.hid (fun wz (hz : Below v6.heap.size v6 wz) => hG.next (hc.trans (hz.mono hc.size)))
  clear hb hx hy KG KO KI hr hs hG
  go_upto_region 7 with fail
  obtain ⟨S1, hS1⟩ : ∃ S, S = expN key info many := ⟨_, rfl⟩
  obtain ⟨S2, hS2⟩ : ∃ S, S = expN key info few := ⟨_, rfl⟩
  rw [← hS1] at h3 EL ET
  rw [← hS2] at h4 EL2 ET
  clear hS1 hS2
  refine wp_region_inv 30 [50, 51, 52, 53, 54, 55, 56, 57, 58, 59, 60, 61, 62, 63, 64, 65, 66, 67, 68, 69, 70, 71, 72, 73, 74, 75, 76, 77, 78, 79] [.val (.int .i64 0), .val (.bool true), .val (.bool true), .val (.int .i64 0), .val (.bool true), .val (.bool true), .val (.bool true), .byt S1, .val (.int .i64 (many : Int)), .val (.int .i64 (many : Int)), .val (.bool true), .val (.bool true), .val (.bool true), .byt S2, .val (.int .i64 (few : Int)), .val (.int .i64 (few : Int)), .val (.bool true), .val (.bool true), .val (.bool true), .byt S1, .val (.int .i64 (few : Int)), .byt S2, .val (.string ⟨S2.toArray⟩), .byt S2, .val (.string ⟨S2.toArray⟩), .val (.bool true), .val (.bool true), .val (.bool true), .val (.bool true), .val (.bool true)] (fun wz => Below v6.heap.size v6 wz) (by kernel_rfl) (by kernel_rfl) (fun wz wz' hz hb => hz.trans (hb.mono hz.size)) ((Below.refl _ _).drew) (fun u => by simp only [puts, List.foldl_cons, List.foldl_nil]; go_simp; exact rfl) ?_ ?_
  · simp only [List.take_succ_cons, List.take_zero]
    refine Obs.cons (fun u w hS hd => ?_) ?_
    · exact Gv.run (.int .i64 0) rfl (by go_simp) rfl
    refine Obs.cons (fun u w hS hd => ?_) ?_
    · have d50 : u 50 = .int .i64 0 := dep hd 0 rfl
      rw [d50]
      exact Gv.run (.bool true) rfl (by go_simp) rfl
    refine Obs.cons (fun u w hS hd => ?_) ?_
    · have d51 : u 51 = .bool true := dep hd 1 rfl
      rw [d51]
      exact Gv.run (.bool true) rfl (by go_simp) rfl
    refine Obs.cons (fun u w hS hd => ?_) ?_
    · have d52 : u 52 = .bool true := dep hd 2 rfl
      rw [d52]
      exact Gv.run (.int .i64 0) rfl (by go_simp) rfl
    refine Obs.cons (fun u w hS hd => ?_) ?_
    · have d52 : u 52 = .bool true := dep hd 2 rfl
      rw [d52]
      have d53 : u 53 = .int .i64 0 := dep hd 3 rfl
      rw [d53]
      exact Gv.run (.bool true) rfl (by go_simp) rfl
    refine Obs.cons (fun u w hS hd => ?_) ?_
    · have d52 : u 52 = .bool true := dep hd 2 rfl
      rw [d52]
      have d54 : u 54 = .bool true := dep hd 4 rfl
      rw [d54]
      exact Gv.run (.bool true) rfl (by go_simp) rfl
    refine Obs.cons (fun u w hS hd => ?_) ?_
    · have d55 : u 55 = .bool true := dep hd 5 rfl
      rw [d55]
      exact Gv.run (.bool true) rfl (by go_simp) rfl
    refine Obs.cons (fun u w hS hd => ?_) ?_
    · have d56 : u 56 = .bool true := dep hd 6 rfl
      rw [d56]
      exact Gv.run (.slice B3 many d3) rfl (by go_simp) (⟨_, _, by rw [EL.out], (h3.keep hS).mono hS.size⟩)
    refine Obs.cons (fun u w hS hd => ?_) ?_
    · have d56 : u 56 = .bool true := dep hd 6 rfl
      rw [d56]
      obtain ⟨A57, c57, d57, g57⟩ : (Know.byt S1).ok (u 57) w := dep hd 7 rfl
      rw [EL.out] at d57
      rw [d57]
      exact Gv.run (.int .i64 (many : Int)) (by rfl) (by go_simp) rfl
    refine Obs.cons (fun u w hS hd => ?_) ?_
    · have d56 : u 56 = .bool true := dep hd 6 rfl
      rw [d56]
      exact Gv.run (.int .i64 (many : Int)) rfl (by go_simp) rfl
    refine Obs.cons (fun u w hS hd => ?_) ?_
    · have d56 : u 56 = .bool true := dep hd 6 rfl
      rw [d56]
      have d58 : u 58 = .int .i64 (many : Int) := dep hd 8 rfl
      rw [d58]
      have d59 : u 59 = .int .i64 (many : Int) := dep hd 9 rfl
      rw [d59]
      exact Gv.run (.bool true) rfl (by go_simp) rfl
    refine Obs.cons (fun u w hS hd => ?_) ?_
    · have d56 : u 56 = .bool true := dep hd 6 rfl
      rw [d56]
      have d60 : u 60 = .bool true := dep hd 10 rfl
      rw [d60]
      exact Gv.run (.bool true) rfl (by go_simp) rfl
    refine Obs.cons (fun u w hS hd => ?_) ?_
    · have d61 : u 61 = .bool true := dep hd 11 rfl
      rw [d61]
      exact Gv.run (.bool true) rfl (by go_simp) rfl
    refine Obs.cons (fun u w hS hd => ?_) ?_
    · have d62 : u 62 = .bool true := dep hd 12 rfl
      rw [d62]
      exact Gv.run (.slice B4 few d4) rfl (by go_simp) (⟨_, _, by rw [EL2.out], (h4.keep hS).mono hS.size⟩)
    refine Obs.cons (fun u w hS hd => ?_) ?_
    · have d62 : u 62 = .bool true := dep hd 12 rfl
      rw [d62]
      obtain ⟨A63, c63, d63, g63⟩ : (Know.byt S2).ok (u 63) w := dep hd 13 rfl
      rw [EL2.out] at d63
      rw [d63]
      exact Gv.run (.int .i64 (few : Int)) (by rfl) (by go_simp) rfl
    refine Obs.cons (fun u w hS hd => ?_) ?_
    · have d62 : u 62 = .bool true := dep hd 12 rfl
      rw [d62]
      exact Gv.run (.int .i64 (few : Int)) rfl (by go_simp) rfl
    refine Obs.cons (fun u w hS hd => ?_) ?_
    · have d62 : u 62 = .bool true := dep hd 12 rfl
      rw [d62]
      have d64 : u 64 = .int .i64 (few : Int) := dep hd 14 rfl
      rw [d64]
      have d65 : u 65 = .int .i64 (few : Int) := dep hd 15 rfl
      rw [d65]
      exact Gv.run (.bool true) rfl (by go_simp) rfl
    refine Obs.cons (fun u w hS hd => ?_) ?_
    · have d62 : u 62 = .bool true := dep hd 12 rfl
      rw [d62]
      have d66 : u 66 = .bool true := dep hd 16 rfl
      rw [d66]
      exact Gv.run (.bool true) rfl (by go_simp) rfl
    refine Obs.cons (fun u w hS hd => ?_) ?_
    · have d67 : u 67 = .bool true := dep hd 17 rfl
      rw [d67]
      exact Gv.run (.bool true) rfl (by go_simp) rfl
    refine Obs.cons (fun u w hS hd => ?_) ?_
    · have d68 : u 68 = .bool true := dep hd 18 rfl
      rw [d68]
      exact Gv.run (.slice B3 many d3) rfl (by go_simp) (⟨_, _, by rw [EL.out], (h3.keep hS).mono hS.size⟩)
    refine Obs.cons (fun u w hS hd => ?_) ?_
    · have d68 : u 68 = .bool true := dep hd 18 rfl
      rw [d68]
      exact Gv.run (.int .i64 (few : Int)) rfl (by go_simp) rfl
    refine Obs.cons (fun u w hS hd => ?_) ?_
    · have d68 : u 68 = .bool true := dep hd 18 rfl
      rw [d68]
      obtain ⟨A69, c69, d69, g69⟩ : (Know.byt S1).ok (u 69) w := dep hd 19 rfl
      rw [EL.out] at d69
      rw [d69]
      have d70 : u 70 = .int .i64 (few : Int) := dep hd 20 rfl
      rw [d70]
      have g71 := g69.sub_ (l := 0) (n := few) (by rw [EL.out, Nat.zero_add]; exact EF.out)
      rw [List.drop_zero, Nat.sub_zero, ET.out] at g71
      have hc69 := g69.cap
      rw [EL.out] at hc69
      exact Gv.run (.slice (subA A69 c69 0) few c69) (by rfl) (slice_op_hi rfl rfl rfl (Nat.le_trans EF.out hc69)) ⟨_, _, by rw [EL2.out], g71⟩
    refine Obs.cons (fun u w hS hd => ?_) ?_
    · have d68 : u 68 = .bool true := dep hd 18 rfl
      rw [d68]
      obtain ⟨A71, c71, d71, g71⟩ : (Know.byt S2).ok (u 71) w := dep hd 21 rfl
      rw [EL2.out] at d71
      rw [d71]
      exact Gv.run (.string ⟨S2.toArray⟩) rfl (run_conv rfl rfl (str7 w EL2.out g71)) rfl
    refine Obs.cons (fun u w hS hd => ?_) ?_
    · have d68 : u 68 = .bool true := dep hd 18 rfl
      rw [d68]
      exact Gv.run (.slice B4 few d4) rfl (by go_simp) (⟨_, _, by rw [EL2.out], (h4.keep hS).mono hS.size⟩)
    refine Obs.cons (fun u w hS hd => ?_) ?_
    · have d68 : u 68 = .bool true := dep hd 18 rfl
      rw [d68]
      obtain ⟨A73, c73, d73, g73⟩ : (Know.byt S2).ok (u 73) w := dep hd 23 rfl
      rw [EL2.out] at d73
      rw [d73]
      exact Gv.run (.string ⟨S2.toArray⟩) rfl (run_conv rfl rfl (str7 w EL2.out g73)) rfl
    refine Obs.cons (fun u w hS hd => ?_) ?_
    · have d68 : u 68 = .bool true := dep hd 18 rfl
      rw [d68]
      have d72 : u 72 = .string ⟨S2.toArray⟩ := dep hd 22 rfl
      rw [d72]
      have d74 : u 74 = .string ⟨S2.toArray⟩ := dep hd 24 rfl
      rw [d74]
      exact Gv.run (.bool true) rfl (by go_simp) rfl
    refine Obs.cons (fun u w hS hd => ?_) ?_
    · have d68 : u 68 = .bool true := dep hd 18 rfl
      rw [d68]
      have d75 : u 75 = .bool true := dep hd 25 rfl
      rw [d75]
      exact Gv.run (.bool true) rfl (by go_simp) rfl
    refine Obs.cons (fun u w hS hd => ?_) ?_
    · have d76 : u 76 = .bool true := dep hd 26 rfl
      rw [d76]
      exact Gv.run (.bool true) rfl (by go_simp) rfl
    refine Obs.cons (fun u w hS hd => ?_) ?_
    · have d77 : u 77 = .bool true := dep hd 27 rfl
      rw [d77]
      refine Gv.call 9 #[] rfl (by go_simp) ((KA.out w (HG.out w hS)).mono ?_)
      rintro e w' ⟨rfl, hb⟩
      exact ⟨_, rfl, rfl, hb⟩
    refine Obs.cons (fun u w hS hd => ?_) ?_
    · have d77 : u 77 = .bool true := dep hd 27 rfl
      rw [d77]
      have d78 : u 78 = .bool true := dep hd 28 rfl
      rw [d78]
      exact Gv.run (.bool true) rfl (by go_simp) rfl
    exact Obs.nil
  intro u wz hS hd
  have d79 : u 79 = .bool true := hd 29 (by decide)
  rw [d79]
  clear hd
  have hfin := hc.trans (hS.mono hc.size)
  simp only [List.drop_succ_cons, List.drop_zero]
  go_wp2_with fail
  go_ret
  exact ⟨rfl, hfin⟩
set_option maxHeartbeats 1600000 in
theorem begins_much {A0 A1 : Option Addr} {n0 n1 c0 c1 x y : Nat}
    (ka : ∀ w, Glb w → Calls Tryd.prog 9 #[] w fun e w' => e = .returned (.bool true) ∧ Below w.heap.size w w') (hn : 4000 < n0 ∨ (n0 ≤ 4000 ∧ 400 < n1)) (w : World) (hG : Glb w) :
    Calls Tryd.prog 7 #[.slice A0 n0 c0, .slice A1 n1 c1, .int .u16 (x : Int), .int .u16 (y : Int)] w fun e w' => e = .returned (.bool true) ∧ Below w.heap.size w w' := by
  have KA := Lib.hid (ka w hG)
  clear ka
  rcases hn with h | ⟨h, h'⟩
  · have g1 : (4000 : Int) < (n0 : Int) := by omega
    go_enter Tryd.func7, Tryd.ntmps7
    go_wp2_with fail
    go_at_call 9
    refine KA.out.mono ?_
    rintro e v1 ⟨rfl, hc⟩
    go_wp2_with fail
    go_ret
    exact ⟨rfl, hc⟩
  · have g1 : ¬ (4000 : Int) < (n0 : Int) := by omega
    have g2 : (400 : Int) < (n1 : Int) := by omega
    go_enter Tryd.func7, Tryd.ntmps7
    go_wp2_with fail
    go_at_call 9
    refine KA.out.mono ?_
    rintro e v1 ⟨rfl, hc⟩
    go_wp2_with fail
    go_ret
    exact ⟨rfl, hc⟩
end
end Go.Proofs.YtbofehdihflkiaaDoor
namespace Go.Proofs.YtbofehdihflkiaaDoor
open Go Go.RowKit
set_option maxRecDepth 20000
section
attribute [local irreducible] sumN macN extN expN
set_option maxHeartbeats 3200000 in
theorem long_gt {A0 A1 : Option Addr} {c0 c1 : Nat} {key b : List UInt8}
    (ka : ∀ w, Glb w → Calls Tryd.prog 9 #[] w fun e w' => e = .returned (.bool true) ∧ Below w.heap.size w w')
    (h64 : 64 < key.length) (n0 : key.length ≤ 4000) (n1 : b.length ≤ 4000) (w : World) (hG : Glb w) (hr : Rd w w.heap.size A0 c0 key) (hs : Rd w w.heap.size A1 c1 b) :
    Calls Tryd.prog 8 #[.slice A0 key.length c0, .slice A1 b.length c1] w fun e w' => e = .returned (.bool true) ∧ Below w.heap.size w w' := by
  have KG := Lib.hid (fun (A : Option Addr) (c : Nat) (A' : Option Addr) (c' : Nat) (w : World) hG hr hs => codeMac_any (A := A) (A' := A') (c := c) (c' := c') (key := key) (b := b) (by omega) (by omega) w hG hr hs)
  have km := fun (A : Option Addr) (c : Nat) (A' : Option Addr) (c' : Nat) (w : World) hG hr hs => codeMac_any (A := A) (A' := A') (c := c) (c' := c') (key := sumN smallS key) (b := b) (by rw [sumN_len7]; decide) (by omega) w hG hr hs
  rw [macN_long h64] at km
  obtain ⟨KS, hKS⟩ : ∃ S, S = sumN smallS key := ⟨_, rfl⟩
  have hKl : KS.length = 32 := by rw [hKS]; exact sumN_len7 _ _
  rw [← hKS] at km
  rw [hKl] at km
  have KM := Lib.hid km
  have KU := Lib.hid (fun (A : Option Addr) (c : Nat) (w : World) (hr : Rd w w.heap.size A c key) => (sum256_any (A0 := A) (c0 := c) (bs := key) (by omega) w hr (Nat.le_refl _)).mono fun _ _ ⟨A, c, he, ho, hb⟩ => (show ∃ A' c', _ = Ending.returned (.slice A' 32 c') ∧ Rd _ _ A' c' KS ∧ Below _ _ _ from ⟨A, c, he, by rw [hKS]; exact ho.rd, hb⟩))
  have KO := Lib.hid (fun A c w h => own7_rd b A c w (by omega) h)
  have KY := Lib.hid (fun w hr => own7_any (A := A0) (c := c0) (bs := key) (B := w.heap.size) w hr (Nat.le_refl _) (by omega))
  have KA := Lib.hid ka
  have hSl := macN_len key b
  obtain ⟨S, eS⟩ : ∃ S, S = macN key b := ⟨_, rfl⟩
  rw [← eS] at KG KM hSl
  have a1 : ¬ (4000 : Int) < (key.length : Int) := by omega
  have a2 : ¬ (4000 : Int) < (b.length : Int) := by omega
  have a3 : (64 : Int) < (key.length : Int) := by omega
  clear ka km hKS eS
  go_enter Tryd.func8, Tryd.ntmps8
  go_wp2_with fail
  go_at_call 10
  refine (KY.out w hr).mono ?_
  rintro e v1 ⟨Ax, cx, rfl, ox, hc⟩
  go_wp2_with fail
  go_at_call 10
  refine (KO.out _ _ v1 ((hs.keep hc).mono hc.size)).mono ?_
  rintro e v2 ⟨Ay, cy, rfl, hy, hb⟩
  have hx := (ox.keep hb).rd
  replace hc := hc.trans (hb.mono hc.size)
  clear ox hb
  go_wp2_with fail
  go_at_call 11
  refine (KG.out _ _ _ _ _ (hG.next hc) hx hy).mono ?_
  rintro e v3 ⟨B3, d3, rfl, h3, hb⟩
  replace hc := hc.trans (hb.mono hc.size)
  have h0 := (hr.keep hc).mono hc.size
  have h1 := (hs.keep hc).mono hc.size
  have HG := Lib.hid (fun wz (hz : Below v3.heap.size v3 wz) => hG.next (hc.trans (hz.mono hc.size)))
  clear hb hx hy KG KY hr hs hG
  go_upto_region 5 with fail
  clear a1 a2 a3
  refine wp_region_inv 12 [23, 24, 25, 26, 27, 28, 29, 30, 31, 32, 33, 34] [.byt S, .val (.string ⟨S.toArray⟩), .byt key, .byt KS, .byt b, .byt b, .byt S, .val (.string ⟨S.toArray⟩), .val (.bool true), .val (.bool true), .val (.bool true), .val (.bool true)] (fun wz => Below v3.heap.size v3 wz) (by kernel_rfl) (by kernel_rfl) (fun wz wz' hz hb => hz.trans (hb.mono hz.size)) ((Below.refl _ _).drew) (fun u => by simp only [puts, List.foldl_cons, List.foldl_nil]; go_simp; exact rfl) ?_ ?_
  · simp only [List.take_succ_cons, List.take_zero]
    refine Obs.cons (fun u w hS hd => ?_) ?_
    · exact Gv.run (.slice B3 32 d3) rfl (by go_simp) (⟨_, _, by rw [hSl], (h3.keep hS).mono hS.size⟩)
    refine Obs.cons (fun u w hS hd => ?_) ?_
    · obtain ⟨A23, c23, d23, g23⟩ : (Know.byt S).ok (u 23) w := dep hd 0 rfl
      rw [hSl] at d23
      rw [d23]
      exact Gv.run (.string ⟨S.toArray⟩) rfl (run_conv rfl rfl (str7 w hSl g23)) rfl
    refine Obs.cons (fun u w hS hd => ?_) ?_
    · exact Gv.run (.slice A0 key.length c0) rfl (by go_simp) (⟨_, _, rfl, (h0.keep hS).mono hS.size⟩)
    refine Obs.cons (fun u w hS hd => ?_) ?_
    · obtain ⟨A25, c25, d25, g25⟩ : (Know.byt key).ok (u 25) w := dep hd 2 rfl
      rw [d25]
      refine Gv.call 19 #[.slice A25 key.length c25] rfl (by go_simp) ((KU.out _ _ w g25).mono ?_)
      rintro e w' ⟨A, c, rfl, R, hb⟩
      exact ⟨_, rfl, ⟨A, c, by rw [hKl], R⟩, hb⟩
    refine Obs.cons (fun u w hS hd => ?_) ?_
    · exact Gv.run (.slice A1 b.length c1) rfl (by go_simp) (⟨_, _, rfl, (h1.keep hS).mono hS.size⟩)
    refine Obs.cons (fun u w hS hd => ?_) ?_
    · obtain ⟨A27, c27, d27, g27⟩ : (Know.byt b).ok (u 27) w := dep hd 4 rfl
      rw [d27]
      refine Gv.call 10 #[.slice A27 b.length c27] rfl (by go_simp) ((KO.out _ _ w g27).mono ?_)
      rintro e w' ⟨A, c, rfl, R, hb⟩
      exact ⟨_, rfl, ⟨A, c, rfl, R⟩, hb⟩
    refine Obs.cons (fun u w hS hd => ?_) ?_
    · obtain ⟨A26, c26, d26, g26⟩ : (Know.byt KS).ok (u 26) w := dep hd 3 rfl
      rw [hKl] at d26
      rw [d26]
      obtain ⟨A28, c28, d28, g28⟩ : (Know.byt b).ok (u 28) w := dep hd 5 rfl
      rw [d28]
      refine Gv.call 11 #[.slice A26 32 c26, .slice A28 b.length c28] rfl (by go_simp) ((KM.out _ _ _ _ w (HG.out w hS) g26 g28).mono ?_)
      rintro e w' ⟨A, c, rfl, R, hb⟩
      exact ⟨_, rfl, ⟨A, c, by rw [hSl], R⟩, hb⟩
    refine Obs.cons (fun u w hS hd => ?_) ?_
    · obtain ⟨A29, c29, d29, g29⟩ : (Know.byt S).ok (u 29) w := dep hd 6 rfl
      rw [hSl] at d29
      rw [d29]
      exact Gv.run (.string ⟨S.toArray⟩) rfl (run_conv rfl rfl (str7 w hSl g29)) rfl
    refine Obs.cons (fun u w hS hd => ?_) ?_
    · have d24 : u 24 = .string ⟨S.toArray⟩ := dep hd 1 rfl
      rw [d24]
      have d30 : u 30 = .string ⟨S.toArray⟩ := dep hd 7 rfl
      rw [d30]
      exact Gv.run (.bool true) rfl (by go_simp) rfl
    refine Obs.cons (fun u w hS hd => ?_) ?_
    · have d31 : u 31 = .bool true := dep hd 8 rfl
      rw [d31]
      exact Gv.run (.bool true) rfl (by go_simp) rfl
    refine Obs.cons (fun u w hS hd => ?_) ?_
    · have d32 : u 32 = .bool true := dep hd 9 rfl
      rw [d32]
      refine Gv.call 9 #[] rfl (by go_simp) ((KA.out w (HG.out w hS)).mono ?_)
      rintro e w' ⟨rfl, hb⟩
      exact ⟨_, rfl, rfl, hb⟩
    refine Obs.cons (fun u w hS hd => ?_) ?_
    · have d32 : u 32 = .bool true := dep hd 9 rfl
      rw [d32]
      have d33 : u 33 = .bool true := dep hd 10 rfl
      rw [d33]
      exact Gv.run (.bool true) rfl (by go_simp) rfl
    exact Obs.nil
  intro u wz hS hd
  have d34 : u 34 = .bool true := hd 11 (by decide)
  rw [d34]
  clear hd
  have hfin := hc.trans (hS.mono hc.size)
  simp only [List.drop_succ_cons, List.drop_zero]
  go_wp2_with fail
  go_ret
  exact ⟨rfl, hfin⟩
/-- append of noughts as an operation of such a region. -/
theorem mut_app0 {ops : Array Oper} {o : Oper} {a : Act} {w : World} {s x : Operand} {B0 c m : Nat} {A : Option Addr} {xs : List UInt8} {p : Value → World → Prop} (hw : Region.wanted o (yielded ops a.tmps) = true) (ho : o.op = .call { callee := .builtin .append, args := #[s, x], argTypes := #[22, 3] })
    (hs : a.eval s = .slice A xs.length c) (hown : Own w B0 5 A c xs) (hx : a.eval x = .int .i64 (m : Int)) (hl : xs.length + m ≤ 140737488355328) (hB : B0 ≤ w.heap.size)
    (hp : ∀ A' c' w', Own w' B0 5 A' c' (xs ++ List.replicate m 0) → Below B0 w w' → p (.slice A' (xs ++ List.replicate m 0).length c') w') :
    Region.wanted o (yielded ops a.tmps) = true ∧ ∃ v w', (execOp a.eval o).run Tryd.prog w = .ok (.value v) w' ∧ p v w' := by
  obtain ⟨i0, hi, hz0, hz1, hz2⟩ := info_parts infoB6
  obtain ⟨v', w', hrun, h2, h3⟩ := run_append_zeros (P := Tryd.prog) w B0 22 3 o.type 5 _ i0 _ Tryd.underlying22 Tryd.underlying3 hi hz0 hz1 hz2 rfl rfl hown hl hB
  have e1 : (xs.map bv) ++ List.replicate m (Value.int .u8 0) = (xs ++ List.replicate m 0).map bv := by rw [List.map_append, List.map_replicate]; rfl
  have e2 : xs.length + m = (xs ++ List.replicate m 0).length := by rw [List.length_append, List.length_replicate]
  rw [e1, e2] at h2
  obtain ⟨A', c', rfl, h4⟩ := owned_shape h2
  refine ⟨hw, _, w', ?_, hp A' c' w' h4 ((Below.refl _ _).grown h3 hB fun k hk => (World.ownsRow.lt hown k hk).1)⟩
  unfold execOp
  simp only [ho, resolve, invoke, builtin, Sem.run_bind, Sem.run_pure, Result.andThen_ok, List.map_toArray, List.map_cons, List.map_nil, hs, hx, hrun]
/-- What is known of the operations of HkdfLong's last region. -/
def DL (A0 A1 B3 : Option Addr) (c0 c1 d3 B0 m : Nat) (key b S : List UInt8) : Nat → Bool → Value → World → Prop
  | 0, _, v, w => B0 ≤ w.heap.size ∧ v = .slice B3 32 d3 ∧ Rd w B0 B3 d3 S
  | 1, _, v, _ => v = .string ⟨S.toArray⟩
  | 2, _, v, _ => v = .slice A0 key.length c0
  | 3, bb, v, w => bb = true ∨ ∃ A c, v = .slice A key.length c ∧ Own w B0 5 A c key
  | 4, _, v, _ => v = .slice A0 key.length c0
  | 5, _, v, _ => v = .int .i64 (key.length : Int)
  | 6, _, v, _ => v = .int .i64 (m : Int)
  | 7, _, v, w => ∃ A c, v = .slice A (key ++ List.replicate m 0).length c ∧ Rd w w.heap.size A c (key ++ List.replicate m 0)
  | 8, _, v, _ => v = .slice A1 b.length c1
  | 9, bb, v, w => bb = true ∧ ∃ A c, v = .slice A b.length c ∧ Rd w w.heap.size A c b
  | 10, bb, v, w => bb = true ∧ ∃ A c, v = .slice A 32 c ∧ Rd w w.heap.size A c S
  | 11, _, v, _ => v = .string ⟨S.toArray⟩
  | 12, _, v, _ => v = .bool true
  | 13, _, v, _ => v = .bool true
  | 14, _, v, _ => v = .bool true
  | 15, _, v, _ => v = .bool true
  | _, _, _, _ => True
theorem DL_keep {A0 A1 B3 : Option Addr} {c0 c1 d3 B0 m : Nat} {key b S : List UInt8} (k : Nat) (bb : Bool) (v : Value) (w w' : World) (h : DL A0 A1 B3 c0 c1 d3 B0 m key b S k bb v w) (hb : Below w.heap.size w w') : DL A0 A1 B3 c0 c1 d3 B0 m key b S k bb v w' := by
  match k, h with
  | 0, h => exact ⟨Nat.le_trans h.1 hb.size, h.2.1, h.2.2.keep (hb.mono h.1)⟩
  | 1, h => exact h
  | 2, h => exact h
  | 3, h => exact h.imp id fun ⟨A, c, e, o⟩ => ⟨A, c, e, o.keep hb⟩
  | 4, h => exact h
  | 5, h => exact h
  | 6, h => exact h
  | 7, h => obtain ⟨A, c, e, r⟩ := h; exact ⟨A, c, e, (r.keep hb).mono hb.size⟩
  | 8, h => exact h
  | 9, h => obtain ⟨h0, A, c, e, r⟩ := h; exact ⟨h0, A, c, e, (r.keep hb).mono hb.size⟩
  | 10, h => obtain ⟨h0, A, c, e, r⟩ := h; exact ⟨h0, A, c, e, (r.keep hb).mono hb.size⟩
  | 11, h => exact h
  | 12, h => exact h
  | 13, h => exact h
  | 14, h => exact h
  | 15, h => exact h
  | k + 16, _ => trivial
theorem DL_turn {A0 A1 B3 : Option Addr} {c0 c1 d3 B0 m : Nat} {key b S : List UInt8} (w w' : World) (j : Nat) (hj : j ≠ 7) (x : Value) (h : DL A0 A1 B3 c0 c1 d3 B0 m key b S j false x w) (hb : Below B0 w w') : DL A0 A1 B3 c0 c1 d3 B0 m key b S j true x w' := by
  match j, h with
  | 0, h => exact ⟨Nat.le_trans h.1 hb.size, h.2.1, h.2.2.keep hb⟩
  | 1, h => exact h
  | 2, h => exact h
  | 3, _ => exact .inl rfl
  | 4, h => exact h
  | 5, h => exact h
  | 6, h => exact h
  | 7, _ => exact absurd rfl hj
  | 8, h => exact h
  | 9, h => exact absurd h.1 (by decide)
  | 10, h => exact absurd h.1 (by decide)
  | 11, h => exact h
  | 12, h => exact h
  | 13, h => exact h
  | 14, h => exact h
  | 15, h => exact h
  | k + 16, _ => trivial
set_option maxHeartbeats 3200000 in
theorem long_le {A0 A1 : Option Addr} {c0 c1 : Nat} {key b : List UInt8}
    (ka : ∀ w, Glb w → Calls Tryd.prog 9 #[] w fun e w' => e = .returned (.bool true) ∧ Below w.heap.size w w')
    (h64 : key.length ≤ 64) (n1 : b.length ≤ 4000) (w : World) (hG : Glb w) (hr : Rd w w.heap.size A0 c0 key) (hs : Rd w w.heap.size A1 c1 b) :
    Calls Tryd.prog 8 #[.slice A0 key.length c0, .slice A1 b.length c1] w fun e w' => e = .returned (.bool true) ∧ Below w.heap.size w w' := by
  have KG := Lib.hid (fun (A : Option Addr) (c : Nat) (A' : Option Addr) (c' : Nat) (w : World) hG hr hs => codeMac_any (A := A) (A' := A') (c := c) (c' := c') (key := key) (b := b) (by omega) (by omega) w hG hr hs)
  obtain ⟨m, hm⟩ : ∃ m, m = 64 - key.length := ⟨_, rfl⟩
  have km := fun (A : Option Addr) (c : Nat) (A' : Option Addr) (c' : Nat) (w : World) hG hr hs => codeMac_any (A := A) (A' := A') (c := c) (c' := c') (key := key ++ List.replicate m 0) (b := b) (by rw [List.length_append, List.length_replicate]; omega) (by omega) w hG hr hs
  have hmn := macN_noughts h64 b
  rw [← hm] at hmn
  rw [hmn] at km
  have KM := Lib.hid km
  have EM := Lib.hid (show IntKind.i64.wrap (64 - (key.length : Int)) = (m : Int) by rw [IntKind.wrap_i64]; omega)
  have HL := Lib.hid (show key.length + m ≤ 140737488355328 by omega)
  have KO := Lib.hid (fun A c w h => own7_rd b A c w (by omega) h)
  have KY := Lib.hid (fun w hr => own7_any (A := A0) (c := c0) (bs := key) (B := w.heap.size) w hr (Nat.le_refl _) (by omega))
  have KA := Lib.hid ka
  have hSl := macN_len key b
  obtain ⟨S, eS⟩ : ∃ S, S = macN key b := ⟨_, rfl⟩
  rw [← eS] at KG KM hSl
  have a1 : ¬ (4000 : Int) < (key.length : Int) := by omega
  have a2 : ¬ (4000 : Int) < (b.length : Int) := by omega
  have a3 : ¬ (64 : Int) < (key.length : Int) := by omega
  clear ka km eS hmn hm
  go_enter Tryd.func8, Tryd.ntmps8
  go_wp2_with fail
  go_at_call 10
  refine (KY.out w hr).mono ?_
  rintro e v1 ⟨Ax, cx, rfl, ox, hc⟩
  go_wp2_with fail
  go_at_call 10
  refine (KO.out _ _ v1 ((hs.keep hc).mono hc.size)).mono ?_
  rintro e v2 ⟨Ay, cy, rfl, hy, hb⟩
  have hx := (ox.keep hb).rd
  replace hc := hc.trans (hb.mono hc.size)
  clear ox hb
  go_wp2_with fail
  go_at_call 11
  refine (KG.out _ _ _ _ _ (hG.next hc) hx hy).mono ?_
  rintro e v3 ⟨B3, d3, rfl, h3, hb⟩
  replace hc := hc.trans (hb.mono hc.size)
  have h0 := (hr.keep hc).mono hc.size
  have h1 := (hs.keep hc).mono hc.size
  have HG := Lib.hid (fun wz (hz : Below v3.heap.size v3 wz) => hG.next (hc.trans (hz.mono hc.size)))
  clear hb hx hy KG hr hs hG
  go_upto_region 6 with fail
  clear a1 a2 a3
  refine wp_region_mut 16 7 [.late, .late, .pre, .pre, .pre, .pre, .pre, .pre, .late, .post, .post, .late, .late, .late, .late, .late] [35, 36, 37, 38, 39, 40, 41, 42, 43, 44, 45, 46, 47, 48, 49, 50] (DL A0 A1 B3 c0 c1 d3 v3.heap.size m key b S) (fun _ wz => Below v3.heap.size v3 wz) (by kernel_rfl) (by kernel_rfl) (fun _ wz wz' hz hb => hz.trans (hb.mono hz.size)) DL_keep ((Below.refl _ _).drew) (fun u => by simp only [puts, List.foldl_cons, List.foldl_nil]; go_simp; exact rfl) ?_ ?_
  · simp only [List.take_succ_cons, List.take_zero]
    refine ObsM.cons (by decide) ?_ ?_
    · intro bb hbb u w hS hd
      exact GvM.run (.slice B3 32 d3) rfl (by go_simp) ⟨hS.size, rfl, h3.keep hS⟩
    refine ObsM.cons (by decide) ?_ ?_
    · intro bb hbb u w hS hd
      obtain ⟨k0, d35, g35⟩ : v3.heap.size ≤ w.heap.size ∧ u 35 = .slice B3 32 d3 ∧ Rd w v3.heap.size B3 d3 S := depM hd 0 rfl
      rw [d35]
      exact GvM.run (.string ⟨S.toArray⟩) rfl (run_conv rfl rfl (str7 w hSl (g35.mono k0))) rfl
    refine ObsM.cons (by decide) ?_ ?_
    · intro bb hbb u w hS hd
      exact GvM.run (.slice A0 key.length c0) rfl (by go_simp) rfl
    refine ObsM.cons (by decide) ?_ ?_
    · intro bb hbb u w hS hd
      have hb' : bb = false := hbb
      subst hb'
      have d37 : u 37 = .slice A0 key.length c0 := depM hd 2 rfl
      rw [d37]
      refine GvM.call 10 #[.slice A0 key.length c0] rfl (by go_simp) ((KY.out w ((h0.keep hS).mono hS.size)).mono ?_)
      rintro e w' ⟨A, c, rfl, o, hb⟩
      exact ⟨_, rfl, .inr ⟨A, c, rfl, o.mono hS.size⟩, hb⟩
    refine ObsM.cons (by decide) ?_ ?_
    · intro bb hbb u w hS hd
      exact GvM.run (.slice A0 key.length c0) rfl (by go_simp) rfl
    refine ObsM.cons (by decide) ?_ ?_
    · intro bb hbb u w hS hd
      have d39 : u 39 = .slice A0 key.length c0 := depM hd 4 rfl
      rw [d39]
      exact GvM.run (.int .i64 (key.length : Int)) rfl (by go_simp) rfl
    refine ObsM.cons (by decide) ?_ ?_
    · intro bb hbb u w hS hd
      have d40 : u 40 = .int .i64 (key.length : Int) := depM hd 5 rfl
      rw [d40]
      have hq := EM.out
      exact GvM.run (.int .i64 (m : Int)) rfl (by go_simp) rfl
    refine ObsM.mut ?_ ?_
    · intro u w hS hd
      have d38 : DL A0 A1 B3 c0 c1 d3 v3.heap.size m key b S 3 false (u 38) w := depM hd 3 rfl
      have d41 : u 41 = .int .i64 (m : Int) := depM hd 6 rfl
      obtain ⟨A3, c3, e38, o3⟩ := d38.resolve_left (by decide)
      rw [e38, d41]
      exact mut_app0 (A := A3) (c := c3) (m := m) (xs := key) (s := .tmp 38) (x := .tmp 41) rfl rfl rfl o3 rfl HL.out hS.size (fun A5 c5 w5 o5 hb5 => ⟨hS.trans hb5, ⟨A5, c5, rfl, o5.rd⟩, fun j hj x hx => DL_turn w w5 j hj x hx hb5⟩)
    refine ObsM.cons (by decide) ?_ ?_
    · intro bb hbb u w hS hd
      exact GvM.run (.slice A1 b.length c1) rfl (by go_simp) rfl
    refine ObsM.cons (by decide) ?_ ?_
    · intro bb hbb u w hS hd
      have hb' : bb = true := hbb
      subst hb'
      have d43 : u 43 = .slice A1 b.length c1 := depM hd 8 rfl
      rw [d43]
      refine GvM.call 10 #[.slice A1 b.length c1] rfl (by go_simp) ((KO.out _ _ w ((h1.keep hS).mono hS.size)).mono ?_)
      rintro e w' ⟨A, c, rfl, o, hb⟩
      exact ⟨_, rfl, ⟨rfl, A, c, rfl, o⟩, hb⟩
    refine ObsM.cons (by decide) ?_ ?_
    · intro bb hbb u w hS hd
      have hb' : bb = true := hbb
      subst hb'
      obtain ⟨A3, c3, d42, g42⟩ : ∃ A c, u 42 = .slice A (key ++ List.replicate m (0 : UInt8)).length c ∧ Rd w w.heap.size A c (key ++ List.replicate m (0 : UInt8)) := depM hd 7 rfl
      obtain ⟨_, A4, c4, d44, g44⟩ : true = true ∧ ∃ A c, u 44 = .slice A b.length c ∧ Rd w w.heap.size A c b := depM hd 9 rfl
      rw [d42, d44]
      refine GvM.call 11 #[.slice A3 (key ++ List.replicate m (0 : UInt8)).length c3, .slice A4 b.length c4] rfl (by go_simp) ((KM.out _ _ _ _ w (HG.out w hS) g42 g44).mono ?_)
      rintro e w' ⟨A, c, rfl, o, hb⟩
      exact ⟨_, rfl, ⟨rfl, A, c, rfl, o⟩, hb⟩
    refine ObsM.cons (by decide) ?_ ?_
    · intro bb hbb u w hS hd
      obtain ⟨_, A4, c4, d45, g45⟩ : bb = true ∧ ∃ A c, u 45 = .slice A 32 c ∧ Rd w w.heap.size A c S := depM hd 10 rfl
      rw [d45]
      exact GvM.run (.string ⟨S.toArray⟩) rfl (run_conv rfl rfl (str7 w hSl g45)) rfl
    refine ObsM.cons (by decide) ?_ ?_
    · intro bb hbb u w hS hd
      have d36 : u 36 = .string ⟨S.toArray⟩ := depM hd 1 rfl
      have d46 : u 46 = .string ⟨S.toArray⟩ := depM hd 11 rfl
      rw [d36, d46]
      exact GvM.run (.bool true) rfl (by go_simp) rfl
    refine ObsM.cons (by decide) ?_ ?_
    · intro bb hbb u w hS hd
      have d47 : u 47 = .bool true := depM hd 12 rfl
      rw [d47]
      exact GvM.run (.bool true) rfl (by go_simp) rfl
    refine ObsM.cons (by decide) ?_ ?_
    · intro bb hbb u w hS hd
      have d48 : u 48 = .bool true := depM hd 13 rfl
      rw [d48]
      refine GvM.call 9 #[] rfl (by go_simp) ((KA.out w (HG.out w hS)).mono ?_)
      rintro e w' ⟨rfl, hb⟩
      exact ⟨_, rfl, rfl, hb⟩
    refine ObsM.cons (by decide) ?_ ?_
    · intro bb hbb u w hS hd
      have d48 : u 48 = .bool true := depM hd 13 rfl
      have d49 : u 49 = .bool true := depM hd 14 rfl
      rw [d48, d49]
      exact GvM.run (.bool true) rfl (by go_simp) rfl
    exact trivial
  intro u wz hS hd
  have d50 : u 50 = .bool true := hd 15 (by decide)
  rw [d50]
  clear hd
  have hfin := hc.trans (hS.mono hc.size)
  simp only [List.drop_succ_cons, List.drop_zero]
  go_wp2_with fail
  go_ret
  exact ⟨rfl, hfin⟩
theorem long_much {A0 A1 : Option Addr} {n0 n1 c0 c1 : Nat}
    (ka : ∀ w, Glb w → Calls Tryd.prog 9 #[] w fun e w' => e = .returned (.bool true) ∧ Below w.heap.size w w') (hn : 4000 < n0 ∨ (n0 ≤ 4000 ∧ 4000 < n1)) (w : World) (hG : Glb w) :
    Calls Tryd.prog 8 #[.slice A0 n0 c0, .slice A1 n1 c1] w fun e w' => e = .returned (.bool true) ∧ Below w.heap.size w w' := by
  have KA := Lib.hid (ka w hG)
  clear ka
  rcases hn with h | ⟨h, h'⟩
  · have g1 : (4000 : Int) < (n0 : Int) := by omega
    go_enter Tryd.func8, Tryd.ntmps8
    go_wp2_with fail
    go_at_call 9
    refine KA.out.mono ?_
    rintro e v1 ⟨rfl, hc⟩
    go_wp2_with fail
    go_ret
    exact ⟨rfl, hc⟩
  · have g1 : ¬ (4000 : Int) < (n0 : Int) := by omega
    have g2 : (4000 : Int) < (n1 : Int) := by omega
    go_enter Tryd.func8, Tryd.ntmps8
    go_wp2_with fail
    go_at_call 9
    refine KA.out.mono ?_
    rintro e v1 ⟨rfl, hc⟩
    go_wp2_with fail
    go_ret
    exact ⟨rfl, hc⟩
end
end Go.Proofs.YtbofehdihflkiaaDoor
namespace Go.Proofs.YtbofehdihflkiaaDoor
open Go Go.RowKit
set_option maxRecDepth 20000
section
attribute [local irreducible] sumN macN extN expN
theorem awakeC7 (w : World) (hG : Glb w) : Calls Tryd.prog 9 #[] w fun e w' => e = .returned (.bool true) ∧ Below w.heap.size w w' :=
  awake7 (G := Glb) (fun _ _ h hb => h.next hb) (fun _ _ _ _ _ _ w hk hb hG h1 h2 => codeMac_any (Nat.le_trans hk (by decide)) (Nat.le_trans hb (by decide)) w hG h1 h2) w hG
theorem macs_walk {A0 A1 : Option Addr} {c0 c1 : Nat} {key b : List UInt8} {w0 : World} (hr : Rd w0 w0.heap.size A0 c0 key) (_l0 : key.length ≤ 140737488351232) (hs : Rd w0 w0.heap.size A1 c1 b) (_l1 : b.length ≤ 140737488351232) (w : World) (hw : w = w0) (hG : Glb w) :
    Calls Tryd.prog 3 #[.slice A0 key.length c0, .slice A1 b.length c1] w fun e w' => e = .returned (.bool true) ∧ Below w.heap.size w w' := by
  subst hw
  by_cases h : key.length ≤ 4000
  · by_cases h' : b.length ≤ 4000
    · exact macs_law (G := Glb) (fun _ _ h hb => h.next hb) (macN_len key b) (fun A c A' c' w hG hr hs => codeMac_any (by omega) (by omega) w hG hr hs) (fun A c A' c' w hr hs => refMac_any (by omega) (by omega) w hr hs) awakeC7 h h' w hG hr hs
    · exact macs_much awakeC7 (.inr ⟨h, by omega⟩) w hG
  · exact macs_much awakeC7 (.inl (by omega)) w hG
theorem extracts_walk {A0 A1 : Option Addr} {c0 c1 : Nat} {salt key : List UInt8} {w0 : World} (hr : Rd w0 w0.heap.size A0 c0 salt) (_l0 : salt.length ≤ 140737488351232) (hs : Rd w0 w0.heap.size A1 c1 key) (_l1 : key.length ≤ 140737488351232) (w : World) (hw : w = w0) (hG : Glb w) :
    Calls Tryd.prog 4 #[.slice A0 salt.length c0, .slice A1 key.length c1] w fun e w' => e = .returned (.bool true) ∧ Below w.heap.size w w' := by
  subst hw
  by_cases h : salt.length ≤ 4000
  · by_cases h' : key.length ≤ 4000
    · exact extracts_law (G := Glb) (fun _ _ h hb => h.next hb) (extN_len salt key) (fun A c A' c' w hG hr hs => codeExtract_any (by omega) (by omega) w hG hr hs) (fun A c A' c' w hr hs => refExtract_any (by omega) (by omega) w hr hs) awakeC7 h h' w hG hr hs
    · exact extracts_much awakeC7 (.inr ⟨h, by omega⟩) w hG
  · exact extracts_much awakeC7 (.inl (by omega)) w hG
theorem expands_walk {A0 A1 : Option Addr} {c0 c1 : Nat} {i : Int} {key info : List UInt8} {w0 : World} (hr : Rd w0 w0.heap.size A0 c0 key) (_l0 : key.length ≤ 140737488351232) (hs : Rd w0 w0.heap.size A1 c1 info) (_l1 : info.length ≤ 140737488351232) (_l2 : (Lit.int .i64 i).wf = true) (w : World) (hw : w = w0) (hG : Glb w) :
    Calls Tryd.prog 5 #[.slice A0 key.length c0, .slice A1 info.length c1, .int .i64 i] w fun e w' => e = .returned (.bool true) ∧ Below w.heap.size w w' := by
  subst hw
  by_cases h : key.length ≤ 4000
  · by_cases h' : info.length ≤ 400
    · by_cases hi : i < 0 ∨ 8160 < i
      · exact expands_law (G := Glb) (fun _ _ h hb => h.next hb) (er := 2) (S := []) (fun A c A' c' w hG hr hs => (codeExpand_no hi w).mono fun _ _ ⟨he, hb⟩ => ⟨none, 0, he, rd_no _ _, hb⟩) (fun A c A' c' w hr hs => (refExpand_no hi w).mono fun _ _ ⟨he, hb⟩ => ⟨none, 0, he, rd_no _ _, hb⟩) awakeC7 h h' w hG hr hs
      · obtain ⟨n, rfl⟩ : ∃ n : Nat, i = (n : Int) := ⟨i.toNat, by omega⟩
        have hn : n ≤ 8160 := by omega
        have hl := expN_len key info n
        exact expands_law (G := Glb) (fun _ _ h hb => h.next hb) (er := 0) (S := expN key info n) (fun A c A' c' w hG hr hs => by rw [hl]; exact codeExpand_any hn (by omega) (by omega) w hG hr hs) (fun A c A' c' w hr hs => by rw [hl]; exact refExpand_any hn (by omega) (by omega) w hr hs) awakeC7 h h' w hG hr hs
    · exact expands_much awakeC7 (.inr ⟨h, by omega⟩) w hG
  · exact expands_much awakeC7 (.inl (by omega)) w hG
theorem derives_walk {A0 A1 A2 : Option Addr} {c0 c1 c2 : Nat} {i : Int} {salt key info : List UInt8} {w0 : World} (hr : Rd w0 w0.heap.size A0 c0 salt) (hk : Rd w0 w0.heap.size A1 c1 key) (hs : Rd w0 w0.heap.size A2 c2 info) (w : World) (hw : w = w0) (hG : Glb w) :
    Calls Tryd.prog 6 #[.agg (keysV A0 salt.length c0 A1 key.length c1 A2 info.length c2 i)] w fun e w' => e = .returned (.bool true) ∧ Below w.heap.size w w' := by
  subst hw
  by_cases h : salt.length ≤ 4000
  · by_cases h' : key.length ≤ 4000
    · by_cases h'' : info.length ≤ 400
      · by_cases hi : i < 0 ∨ 8160 < i
        · exact derives_law (er := 2) (S := []) (fun A c A' c' A2 c2 w hG hr hk hs => (codeDerive_no hi (by omega) (by omega) w hG hr hk).mono fun _ _ ⟨he, hb⟩ => ⟨none, 0, he, rd_no _ _, hb⟩) (fun A c A' c' A2 c2 w hr hk hs => (refDerive_no hi (by omega) (by omega) w hr hk).mono fun _ _ ⟨he, hb⟩ => ⟨none, 0, he, rd_no _ _, hb⟩) awakeC7 h h' h'' w hG hr hk hs
        · obtain ⟨n, rfl⟩ : ∃ n : Nat, i = (n : Int) := ⟨i.toNat, by omega⟩
          have hn : n ≤ 8160 := by omega
          have hl := expN_len (extN salt key) info n
          exact derives_law (er := 0) (S := expN (extN salt key) info n) (fun A c A' c' A2 c2 w hG hr hk hs => by rw [hl]; exact codeDerive_any hn (by omega) (by omega) (by omega) w hG hr hk hs) (fun A c A' c' A2 c2 w hr hk hs => by rw [hl]; exact refDerive_any hn (by omega) (by omega) (by omega) w hr hk hs) awakeC7 h h' h'' w hG hr hk hs
      · exact derives_much awakeC7 (.inr (.inr ⟨h, h', by omega⟩)) w hG
    · exact derives_much awakeC7 (.inr (.inl ⟨h, by omega⟩)) w hG
  · exact derives_much awakeC7 (.inl (by omega)) w hG
theorem begins_walk {A0 A1 : Option Addr} {c0 c1 : Nat} {x y : Int} {key info : List UInt8} {w0 : World} (hr : Rd w0 w0.heap.size A0 c0 key) (_l0 : key.length ≤ 140737488351232) (hs : Rd w0 w0.heap.size A1 c1 info) (_l1 : info.length ≤ 140737488351232) (l2 : (Lit.int .u16 x).wf = true) (l3 : (Lit.int .u16 y).wf = true) (w : World) (hw : w = w0) (hG : Glb w) :
    Calls Tryd.prog 7 #[.slice A0 key.length c0, .slice A1 info.length c1, .int .u16 x, .int .u16 y] w fun e w' => e = .returned (.bool true) ∧ Below w.heap.size w w' := by
  subst hw
  have b2 : 0 ≤ x ∧ x ≤ 65535 := by simpa [Lit.wf, IntKind.min, IntKind.max, IntKind.signed, IntKind.bits] using l2
  have b3 : 0 ≤ y ∧ y ≤ 65535 := by simpa [Lit.wf, IntKind.min, IntKind.max, IntKind.signed, IntKind.bits] using l3
  obtain ⟨n, rfl⟩ : ∃ n : Nat, x = (n : Int) := ⟨x.toNat, by omega⟩
  obtain ⟨m, rfl⟩ : ∃ n : Nat, y = (n : Int) := ⟨y.toNat, by omega⟩
  by_cases h : key.length ≤ 4000
  · by_cases h' : info.length ≤ 400
    · exact begins_law awakeC7 (by omega) (by omega) h h' w hG hr hs
    · exact begins_much awakeC7 (.inr ⟨h, by omega⟩) w hG
  · exact begins_much awakeC7 (.inl (by omega)) w hG
theorem long_walk {A0 A1 : Option Addr} {c0 c1 : Nat} {key b : List UInt8} {w0 : World} (hr : Rd w0 w0.heap.size A0 c0 key) (_l0 : key.length ≤ 140737488351232) (hs : Rd w0 w0.heap.size A1 c1 b) (_l1 : b.length ≤ 140737488351232) (w : World) (hw : w = w0) (hG : Glb w) :
    Calls Tryd.prog 8 #[.slice A0 key.length c0, .slice A1 b.length c1] w fun e w' => e = .returned (.bool true) ∧ Below w.heap.size w w' := by
  subst hw
  by_cases h : key.length ≤ 4000
  · by_cases h' : b.length ≤ 4000
    · by_cases h64 : 64 < key.length
      · exact long_gt awakeC7 h64 h h' w hG hr hs
      · exact long_le awakeC7 (by omega) h' w hG hr hs
    · exact long_much awakeC7 (.inr ⟨h, by omega⟩) w hG
  · exact long_much awakeC7 (.inl (by omega)) w hG
end
end Go.Proofs.YtbofehdihflkiaaDoor
