/-
  '==' over points. By an AI agent. The document's Small, Digits (layer 8). By an AI agent. A point in bytes; the document's Encode (layer 8). By an AI agent. Layer 8's awake over contracts. By an AI agent. The code's D, Base, each (layer 8), over letters. Written by tools/gen_u6.py. By an AI agent.
-/
import Derived.Test.YtkbkalhcdbklkaaGreatDoorJ10
import Derived.Test.YtkbkalhcdbklkaaGreatDoorJ09
import Derived.Laws.StructEq
import Derived.Test.YtkbkalhcdbklkaaGreatDoorE8
import Derived.Test.YtkbkalhcdbklkaaGreatDoorJ12
import Derived.Test.YtkbkalhcdbklkaaGreatDoorJ10
import Derived.Test.YtkbkalhcdbklkaaGreatDoorJ05
namespace Go.Proofs.YtkbkalhcdbklkaaGreatDoor
open Go Go.RowKit
section
variable {o : Oper} {a : Act} {s1 s2 : Operand} {ty : TypeId} {x y u v : Nat} {r : Bool}
end
end Go.Proofs.YtkbkalhcdbklkaaGreatDoor
namespace Go.Proofs.YtkbkalhcdbklkaaGreatDoor
open Go Go.RowKit
set_option maxRecDepth 20000
section
attribute [local irreducible] wd by8 d16 set16w fl rl setA t3f ivN mlN adN sbN
end
end Go.Proofs.YtkbkalhcdbklkaaGreatDoor
namespace Go.Proofs.YtkbkalhcdbklkaaGreatDoor
open Go Go.RowKit
set_option maxRecDepth 20000
theorem P25_half : P25 < 2 ^ 255 := by decide +kernel
theorem half_is : (2 : Nat) ^ 255 = 256 ^ 31 * 128 := by decide +kernel
theorem by8_31 {y : Nat} (hy : y < 2 ^ 255) : by8 y 31 < 128 ∧ by8 (y + 2 ^ 255) 31 = by8 y 31 + 128 := by
  rw [half_is] at hy ⊢
  unfold by8 dgt
  rw [Nat.add_mul_div_left _ _ (by decide : 0 < 256 ^ 31)]
  have h : y / 256 ^ 31 < 128 := Nat.div_lt_of_lt_mul hy
  generalize y / 256 ^ 31 = q at *
  omega
theorem by8_low (y : Nat) {k : Nat} (hk : k < 31) : by8 (y + 2 ^ 255) k = by8 y k := by
  rw [half_is]
  unfold by8 dgt
  have e : (256 : Nat) ^ 31 * 128 = 256 ^ k * (256 * (256 ^ (30 - k) * 128)) := by
    rw [← Nat.mul_assoc, ← Nat.mul_assoc, ← Nat.pow_succ, ← Nat.pow_add, show k + 1 + (30 - k) = 31 by omega]
  rw [e, Nat.add_mul_div_left _ _ (Nat.pow_pos (by decide)), Nat.add_mul_mod_self_left]
/-- The highest bit is set. -/
theorem high_set {y : Nat} (hy : y < 2 ^ 255) {b : UInt8} (h : b.toNat = by8 y 31 + 128) : (gen (bf y) 32).set 31 b = gen (bf (y + 2 ^ 255)) 32 := by
  refine nth_ext (by simp [gen_length]) fun k hk => ?_
  have hk' : k < 32 := by simpa [gen_length] using hk
  rw [nth_gen hk', bf_nat, nth_set _ _ _ _ (by rw [gen_length]; omega)]
  by_cases e : 31 = k
  · subst e; rw [if_pos rfl, h, (by8_31 hy).2]
  · rw [if_neg e, nth_gen hk', bf_nat, by8_low y (by omega)]
/-- A point in bytes: y, and x's lowest bit ahead of all. -/
def encN (x y : Nat) : List UInt8 := gen (bf (y + 2 ^ 255 * (x % 2))) 32
theorem encN_len (x y : Nat) : (encN x y).length = 32 := gen_length _ _
theorem wd_par8 (x : Nat) : wd x 0 % 2 = x % 2 := by
  unfold wd dgt
  rw [Nat.pow_zero, Nat.div_one]
  omega
section
attribute [local irreducible] wd by8 d16 set16w fl
set_option maxHeartbeats 3200000 in
theorem refEncode_any {x y : Nat} (hy : y < P25) (w : World) : Calls Tryz.prog 49 #[prv x y] w fun e w' => ∃ A c, e = .returned (.slice A 32 c) ∧ Own w' w.heap.size 5 A c (encN x y) ∧ Below w.heap.size w w' := by
  have hyW := lt_W hy
  have kO := fun w => lOf hyW w
  rw [Nat.mod_eq_of_lt hy] at kO
  have KO := Lib.hid kO
  have KE := Lib.hid (fun w => rencode_any hyW w)
  have hy5 := Nat.lt_trans hy P25_half
  obtain ⟨b, hb⟩ : ∃ b, b = x % 2 := ⟨_, rfl⟩
  have hp := wd_par8 x
  rw [← hb] at hp
  have f1 : (wd x 0 : Int) % 2 = (b : Int) := by omega
  have f2 : (wd x 0 : Int).tmod 2 = (b : Int) := by rw [Int.tmod_eq_emod_of_nonneg (by omega)]; omega
  have HB := Lib.hid hb
  have hb2 : b = 0 ∨ b = 1 := by omega
  have h31 := by8_31 hy5
  have HS := Lib.hid (fun b0 (h : UInt8.toNat b0 = by8 y 31 + 128) => high_set hy5 h)
  obtain ⟨v1, e1⟩ : ∃ v, v = w.alloc (A8p x y) := ⟨_, rfl⟩
  obtain ⟨g1, eg⟩ : ∃ g, g = w.heap.size := ⟨_, rfl⟩
  have o1 : O8 v1 w.heap.size g1 x y := by rw [e1, eg]; exact O8.new (Nat.le_refl _) x y
  have hc : Below w.heap.size w v1 := by rw [e1]; exact (Below.refl _ _).alloc (Nat.le_refl _) _
  clear kO hy hyW hb hp hy5
  go_enter Tryz.func49, Tryz.ntmps49
  go_upto_region 1 with fail
  rw [← e1]
  rw [show Value.pointer (some ⟨w.heap.size, 0, none⟩) = .pointer (some ⟨g1, 0, none⟩) by rw [eg]]
  clear e1 eg
  obtain ⟨c0, c1, c2, c3, c4, c5, c6, c7⟩ := o1.c8
  go_wp2_with fail
  clear c0 c1 c2 c3 c4 c5 c6 c7
  go_at_call 93
  refine (KO.out _).mono ?_
  rintro e v2 ⟨rfl, h0⟩
  replace o1 := o1.keep h0
  replace hc := hc.trans (h0.mono hc.size)
  clear h0 KO
  go_wp2_with fail
  go_at_call 92
  refine (KE.out _).mono ?_
  rintro e v3 ⟨A, c, rfl, ho, h0⟩
  replace o1 := o1.keep h0
  replace ho := ho.mono hc.size
  replace hc := hc.trans (h0.mono hc.size)
  clear h0 KE
  obtain ⟨c0, c1, c2, c3, c4, c5, c6, c7⟩ := o1.c8
  clear c1 c2 c3 c4 c5 c6 c7
  rcases hb2 with rfl | rfl
  · have HO := Lib.hid (show Own v3 w.heap.size 5 A c (encN x y) by unfold encN; rw [← HB.out, Nat.mul_zero, Nat.add_zero]; exact ho)
    clear ho HS h31 o1
    go_wp2_with fail
    go_ret
    exact ⟨A, c, rfl, HO.out, hc⟩
  · obtain ⟨g, rfl⟩ := ho.at0 (by rw [gen_length]; decide)
    obtain ⟨m0, hm0⟩ : ∃ m, m = by8 y 31 := ⟨_, rfl⟩
    have cl := ho.cell (k := 31) (by rw [gen_length]; decide)
    rw [nth_gen (by decide), bf_nat, ← hm0] at cl
    have fr := ho.free 31
    obtain ⟨b0, hb0⟩ : ∃ b : UInt8, b = UInt8.ofNat (m0 + 128) := ⟨_, rfl⟩
    have hm := h31.1
    rw [← hm0] at hm
    have hbn : b0.toNat = m0 + 128 := by rw [hb0, UInt8.toNat_ofNat']; omega
    have u0 : IntKind.u8.wrap ((m0 : Int) + 128) = (b0.toNat : Int) := by rw [IntKind.wrap_u8, hbn]; omega
    have o3 := ho.set_ 31 b0
    rw [HS.out b0 (by rw [hbn, hm0])] at o3
    have HO := Lib.hid (show Own (v3.setCell ⟨g, 31, none⟩ (.int .u8 (b0.toNat : Int))) w.heap.size 5 (some ⟨g, 0, none⟩) c (encN x y) by unfold encN; rw [← HB.out, Nat.mul_one]; exact o3)
    have HF := Lib.hid (hc.setCell (p := ⟨g, 31, none⟩) ho.ge (.int .u8 (b0.toNat : Int)))
    have gl31 : (31 : Int) < 32 := by decide
    generalize (b0.toNat : Int) = z0 at *
    clear ho HS h31 o1 o3 hb0 hbn hm hm0 hc
    go_wp2_with fail
    go_ret
    exact ⟨_, _, rfl, HO.out, HF.out⟩
end
end Go.Proofs.YtkbkalhcdbklkaaGreatDoor
namespace Go.Proofs.YtkbkalhcdbklkaaGreatDoor
open Go Go.RowKit
set_option maxRecDepth 20000
section
attribute [local irreducible] wd by8 d16 set16w fl rl setA t3f set8p set4w
end
end Go.Proofs.YtkbkalhcdbklkaaGreatDoor
namespace Go.Proofs.YtkbkalhcdbklkaaGreatDoor
open Go Go.RowKit
theorem l_ed : lit4 8496970652267935907 31536524315187371 10144147576115030168 5909686906226998899 = nv ed := by kernel_rfl
theorem l_bx : lit4 14507833142362363162 7578651490590762930 13881468655802702940 2407515759118799870 = nv bx := by kernel_rfl
theorem l_by : lit4 7378697629483820632 7378697629483820646 7378697629483820646 7378697629483820646 = nv by_ := by kernel_rfl
theorem T_two {ops : Array Oper} {rest : List Oper} {a : Act} {w : World} {Q : Exit → Act → World → Prop} {dst : Option Nat} {tp : TypeId} {ps : String} {af : Array Edge} {s0 s1 : Operand} (x z : Nat) (h0 : a.eval s0 = nv x) (h1 : a.eval s1 = nv z) (h : wpList Tryz.prog ops Q rest (a.put dst (prv x z)) w) : wpList Tryz.prog ops Q (⟨dst, .build 60 #[(0, s0), (1, s1)], tp, ps, af, none⟩ :: rest) a w :=
  read_to (prv x z) rfl (run_Tbuild rfl h0 h1) h
section
attribute [local irreducible] wd by8 fl rl setA sf taf set8p set4w ed2 bt
set_option maxRecDepth 20000
theorem cD_any (w : World) : Calls Tryz.prog 104 #[] w fun e w' => e = .returned (nv ed) ∧ Below w.heap.size w w' := by
  obtain ⟨v1, ev1⟩ : ∃ v, v = w.alloc (Z4) := ⟨_, rfl⟩
  have bv1 : Below w.heap.size w v1 := by rw [ev1]; exact (Below.refl _ _).alloc (Nat.le_refl _) _
  have sv1 : v1.heap.size = w.heap.size + 1 := by rw [ev1]; simp
  obtain ⟨g0, eg0⟩ : ∃ g, g = w.heap.size := ⟨_, rfl⟩
  have o0 : O4 v1 w.heap.size g0 0 := by rw [eg0, ev1]; exact O4.newz (Nat.le_refl _)
  have hc := bv1
  have hs1 := hc.size
  go_enter Tryz.func104, Tryz.ntmps104
  go_upto_region 1 with fail
  rw [← ev1]
  rw [show Value.pointer (some ⟨w.heap.size, 0, none⟩) = .pointer (some ⟨g0, 0, none⟩) by rw [eg0]]
  clear ev1 bv1 sv1 eg0 hs1
  have hfb := Lib.hid (hc.trans (o0.below ed))
  have HR := Lib.hid (o0.put ed)
  go_wp2_with ((with_reducible refine n_store o0 ed ?_ ?_ ?_); rfl; exact l_ed)
  exact bodyPost_ret (nres Tryz.results104 _ HR.out rfl) rfl ⟨rfl, hfb.out⟩
theorem cBase_any (w : World) : Calls Tryz.prog 35 #[] w fun e w' => e = .returned (prv bx by_) ∧ Below w.heap.size w w' := by
  obtain ⟨v1, ev1⟩ : ∃ v, v = w.alloc (Z8p) := ⟨_, rfl⟩
  have bv1 : Below w.heap.size w v1 := by rw [ev1]; exact (Below.refl _ _).alloc (Nat.le_refl _) _
  have sv1 : v1.heap.size = w.heap.size + 1 := by rw [ev1]; simp
  obtain ⟨g0, eg0⟩ : ∃ g, g = w.heap.size := ⟨_, rfl⟩
  have o0 : O8 v1 w.heap.size g0 0 0 := by rw [eg0, ev1]; exact O8.newz (Nat.le_refl _)
  have hc := bv1
  have hs1 := hc.size
  go_enter Tryz.func35, Tryz.ntmps35
  go_upto_region 1 with fail
  rw [← ev1]
  rw [show Value.pointer (some ⟨w.heap.size, 0, none⟩) = .pointer (some ⟨g0, 0, none⟩) by rw [eg0]]
  clear ev1 bv1 sv1 eg0 hs1
  have hfb := Lib.hid (hc.trans (o0.below bx by_))
  have HR := Lib.hid (o0.put bx by_)
  go_wp2_with (first | ((with_reducible refine T_two bx by_ ?_ ?_ ?_); exact l_bx; exact l_by) | ((with_reducible refine p_store o0 bx by_ ?_ ?_ ?_); rfl; rfl))
  exact bodyPost_ret (pres Tryz.results35 _ HR.out rfl) rfl ⟨rfl, hfb.out⟩
set_option maxHeartbeats 6400000 in
theorem each_any {B g a b : Nat} {t : Ta} {p q : Pt E25} (ha : a < W4) (hb : b < W4) (h4 : t.of4 p q) (h0 : t.s.ok) (h1 : t.s.of (Pt.nought E25)) (w : World) (hG : ∀ v, Below B w v → G8 v) (hT : OTa w B g t)
    (kp : ∀ (s : Sp) (i j : Nat) (w : World), s.ok → i < 2 → j < 2 → G8 w → OTa w B g ⟨s, t.n, t.f, t.h, t.b⟩ → Calls Tryz.prog 74 #[.pointer (some ⟨g, 0, none⟩), .int .u64 (i : Int), .int .u64 (j : Int)] w fun e w' => e = .returned (.tuple #[]) ∧ OTa w' B g ⟨Sp.plus (Sp.plus s s) (t.pick i j), t.n, t.f, t.h, t.b⟩ ∧ Oth B g w w') :
    Calls Tryz.prog 73 #[nv a, nv b, .func (.func 74) #[.pointer (some ⟨g, 0, none⟩)] #[]] w fun e w' => e = .returned (.tuple #[]) ∧ (∃ s : Sp, (s.ok ∧ s.of ((p.mul a).add (q.mul b))) ∧ OTa w' B g ⟨s, t.n, t.f, t.h, t.b⟩) ∧ Oth B g w w' := by
  have hg := hT.lt
  have hB : B ≤ w.heap.size := Nat.le_trans hT.ge (Nat.le_of_lt hg)
  have s1 : (w.alloc (A4 a)).heap.size = w.heap.size + 1 := by simp
  have oa := (O4.new (w := w) (Nat.le_refl _) a).alloc (A4 b)
  have ob := O4.new (w := w.alloc (A4 a)) (B := w.heap.size) (by omega) b
  have hc := (((Below.refl _ w).alloc (Nat.le_refl _) (A4 a)).alloc (by omega) (A4 b))
  rw [s1] at ob
  have oT := hT.keep hc
  have hO : Oth B g w ((w.alloc (A4 a)).alloc (A4 b)) := Oth.of_below hB hc
  have HB := Lib.hid hB
  have HGT := Lib.hid hg
  have H4 := Lib.hid h4
  have HA := Lib.hid ha
  have HBB := Lib.hid hb
  have HG := Lib.hid hG
  have KP := Lib.hid kp
  have hst : ∃ s : Sp, (s.ok ∧ s.of ((p.mul (a / 2 ^ (256 - 0))).add (q.mul (b / 2 ^ (256 - 0))))) ∧ OTa ((w.alloc (A4 a)).alloc (A4 b)) B g ⟨s, t.n, t.f, t.h, t.b⟩ := ⟨t.s, ⟨h0, by rw [hi_zero ha, hi_zero hb]; show t.s.of ((Pt.nought E25).add (Pt.nought E25)); rw [Pt.add_nought]; exact h1⟩, oT⟩
  clear s1 hc oT hT hg hB ha hb h4 h0 h1 hG kp
  unfold nv
  go_enter Tryz.func73, Tryz.ntmps73
  go_wp2_with fail
  go_loopw [8] (fun i wr => ∃ k : Nat, k ≤ 256 ∧ i = .int .i64 k ∧ O4 wr w.heap.size w.heap.size a ∧ O4 wr w.heap.size (w.heap.size + 1) b ∧ (∃ s : Sp, (s.ok ∧ s.of ((p.mul (a / 2 ^ (256 - k))).add (q.mul (b / 2 ^ (256 - k))))) ∧ OTa wr B g ⟨s, t.n, t.f, t.h, t.b⟩) ∧ Oth B g w wr)
    (fun i _ => 256 - (intOf i).toNat)
  case atStart => exact ⟨0, by omega, rfl, oa, ob, hst, hO⟩
  case round =>
    clear oa ob hst hO
    obtain ⟨k, hk, rfl, oa, ob, ⟨s, ⟨hs1, hs2⟩, oT⟩, hO⟩ := hrel
    have HS := Lib.hid hs1
    have HS2 := Lib.hid hs2
    clear hs1 hs2
    by_cases hlt : k < 256
    · have g1 : (k : Int) < 256 := by omega
      obtain ⟨m, hm⟩ : ∃ m, m = 255 - k := ⟨_, rfl⟩
      have g2 : IntKind.i64.wrap (255 - (k : Int)) = (m : Int) := by rw [IntKind.wrap_i64]; omega
      have HM := Lib.hid (show m < 256 by omega)
      have HME := Lib.hid hm
      clear hm
      go_upto_region 5 with fail
      refine wp_region_inv 7 [13, 14, 15, 16, 17, 18, 19] [.val (.func (.func 74) #[.pointer (some ⟨g, 0, none⟩)] #[]), .val (nv a), .val (.int .i64 (m : Int)), .val (.int .u64 (bt a m : Int)), .val (nv b), .val (.int .i64 (m : Int)), .val (.int .u64 (bt b m : Int))] (fun wz => Below wr.heap.size wr wz) (by kernel_rfl) (by kernel_rfl) (fun wz wz' hz hb => hz.trans (hb.mono hz.size)) ((Below.refl _ _).drew) (fun u => by simp only [puts, List.foldl_cons, List.foldl_nil]; go_simp; exact rfl) ?_ ?_
      · simp only [List.take_succ_cons, List.take_zero]
        refine Obs.cons (fun u w hS hd => ?_) ?_
        · exact Gv.run (.func (.func 74) #[.pointer (some ⟨g, 0, none⟩)] #[]) rfl (by go_simp) rfl
        refine Obs.cons (fun u w hS hd => ?_) ?_
        · exact Gv.run (nv a) rfl (run_nload rfl rfl (O4.keep oa hS)) rfl
        refine Obs.cons (fun u w hS hd => ?_) ?_
        · exact Gv.run (.int .i64 (m : Int)) rfl (by go_simp) rfl
        refine Obs.cons (fun u w hS hd => ?_) ?_
        · have d14 : u 14 = nv a := dep hd 1 rfl
          rw [d14]
          have d15 : u 15 = .int .i64 (m : Int) := dep hd 2 rfl
          rw [d15]
          refine Gv.call 66 #[nv a, .int .i64 (m : Int)] rfl (by go_simp) ((bit_in a m HM.out w).mono ?_)
          rintro e w' ⟨rfl, hb⟩
          exact ⟨_, rfl, rfl, hb⟩
        refine Obs.cons (fun u w hS hd => ?_) ?_
        · exact Gv.run (nv b) rfl (run_nload rfl rfl (O4.keep ob hS)) rfl
        refine Obs.cons (fun u w hS hd => ?_) ?_
        · exact Gv.run (.int .i64 (m : Int)) rfl (by go_simp) rfl
        refine Obs.cons (fun u w hS hd => ?_) ?_
        · have d17 : u 17 = nv b := dep hd 4 rfl
          rw [d17]
          have d18 : u 18 = .int .i64 (m : Int) := dep hd 5 rfl
          rw [d18]
          refine Gv.call 66 #[nv b, .int .i64 (m : Int)] rfl (by go_simp) ((bit_in b m HM.out w).mono ?_)
          rintro e w' ⟨rfl, hb⟩
          exact ⟨_, rfl, rfl, hb⟩
        exact Obs.nil
      intro uy1 y1 hS hd
      have d13 : uy1 13 = .func (.func 74) #[.pointer (some ⟨g, 0, none⟩)] #[] := hd 0 (by decide)
      have d16 : uy1 16 = .int .u64 (bt a m : Int) := hd 3 (by decide)
      have d19 : uy1 19 = .int .u64 (bt b m : Int) := hd 6 (by decide)
      rw [d13, d16, d19]
      replace oa := O4.keep oa hS
      replace ob := O4.keep ob hS
      replace oT := oT.keep hS
      replace hO := hO.trans (Oth.of_below (Nat.le_trans HB.out hO.2.2) hS)
      clear hS hd d13 d16 d19
      simp only [List.drop_succ_cons, List.drop_zero]
      go_wp2_with fail
      go_at_call 74
      refine (KP.out s (bt a m) (bt b m) _ HS.out (by unfold bt; exact Nat.mod_lt _ (by decide)) (by unfold bt; exact Nat.mod_lt _ (by decide)) (HG.out _ hO.2.1) oT).mono ?_
      rintro r v2 ⟨rfl, o2, hO2⟩
      have hpk := H4.out.pick (i := bt a m) (j := bt b m) (by unfold bt; exact Nat.mod_lt _ (by decide)) (by unfold bt; exact Nat.mod_lt _ (by decide))
      have hn := Sp.plus_of (Sp.plus_ok s s) hpk.1 (Sp.plus_of HS.out HS.out HS2.out HS2.out) hpk.2
      rw [Pt.step2, HME.out, ← hi_succ hlt, ← hi_succ hlt, ← HME.out] at hn
      have HN := Lib.hid hn
      have hgt := HGT.out
      replace oa := hO2.1 _ _ _ _ _ _ (by omega) oa
      replace ob := hO2.1 _ _ _ _ _ _ (by omega) ob
      replace hO := hO.trans hO2
      clear hO2 hpk hn hgt
      go_wp2_with fail
      go_roundw
      case rel => exact ⟨k + 1, by omega, by go_num, oa, ob, ⟨_, ⟨Sp.plus_ok _ _, HN.out⟩, o2⟩, hO⟩
      case measure => simp [intOf]; omega
    · obtain rfl : k = 256 := by omega
      have h2 := HS2.out
      rw [hi_end, hi_end] at h2
      have H2 := Lib.hid h2
      clear h2
      go_wp2_with fail
      go_returns
      exact ⟨rfl, ⟨s, ⟨HS.out, H2.out⟩, oT⟩, hO⟩
end
end Go.Proofs.YtkbkalhcdbklkaaGreatDoor
