/-
  The code's D, Base, each (layer 8), over letters. Written by tools/gen_u6.py. By an AI agent.
-/
import Derived.Test.YtgaofocjnifjdaaDoorU4
import Derived.Test.YtgaofocjnifjdaaDoorJ15
namespace Go.Proofs.YtgaofocjnifjdaaDoor
open Go Go.RowKit
theorem l_ed : lit4 8496970652267935907 31536524315187371 10144147576115030168 5909686906226998899 = nv ed := by kernel_rfl
theorem l_bx : lit4 14507833142362363162 7578651490590762930 13881468655802702940 2407515759118799870 = nv bx := by kernel_rfl
theorem l_by : lit4 7378697629483820632 7378697629483820646 7378697629483820646 7378697629483820646 = nv by_ := by kernel_rfl
theorem T_two {ops : Array Oper} {rest : List Oper} {a : Act} {w : World} {Q : Exit → Act → World → Prop} {dst : Option Nat} {tp : TypeId} {ps : String} {af : Array Edge} {s0 s1 : Operand} (x z : Nat) (h0 : a.eval s0 = nv x) (h1 : a.eval s1 = nv z) (h : wpList Tryd.prog ops Q rest (a.put dst (prv x z)) w) : wpList Tryd.prog ops Q (⟨dst, .build 50 #[(0, s0), (1, s1)], tp, ps, af, none⟩ :: rest) a w :=
  read_to (prv x z) rfl (run_Tbuild rfl h0 h1) h
section
attribute [local irreducible] wd by8 fl rl setA sf taf set8p set4w ed2 bt
set_option maxRecDepth 20000
theorem cD_any (w : World) : Calls Tryd.prog 60 #[] w fun e w' => e = .returned (nv ed) ∧ Below w.heap.size w w' := by
  obtain ⟨v1, ev1⟩ : ∃ v, v = w.alloc (Z4) := ⟨_, rfl⟩
  have bv1 : Below w.heap.size w v1 := by rw [ev1]; exact (Below.refl _ _).alloc (Nat.le_refl _) _
  have sv1 : v1.heap.size = w.heap.size + 1 := by rw [ev1]; simp
  obtain ⟨g0, eg0⟩ : ∃ g, g = w.heap.size := ⟨_, rfl⟩
  have o0 : O4 v1 w.heap.size g0 0 := by rw [eg0, ev1]; exact O4.newz (Nat.le_refl _)
  have hc := bv1
  have hs1 := hc.size
  go_enter Tryd.func60, Tryd.ntmps60
  go_upto_region 1 with fail
  rw [← ev1]
  rw [show Value.pointer (some ⟨w.heap.size, 0, none⟩) = .pointer (some ⟨g0, 0, none⟩) by rw [eg0]]
  clear ev1 bv1 sv1 eg0 hs1
  have hfb := Lib.hid (hc.trans (o0.below ed))
  have HR := Lib.hid (o0.put ed)
  go_wp2_with ((with_reducible refine n_store o0 ed ?_ ?_ ?_); rfl; exact l_ed)
  exact bodyPost_ret (nres Tryd.results60 _ HR.out rfl) rfl ⟨rfl, hfb.out⟩
theorem cBase_any (w : World) : Calls Tryd.prog 23 #[] w fun e w' => e = .returned (prv bx by_) ∧ Below w.heap.size w w' := by
  obtain ⟨v1, ev1⟩ : ∃ v, v = w.alloc (Z8p) := ⟨_, rfl⟩
  have bv1 : Below w.heap.size w v1 := by rw [ev1]; exact (Below.refl _ _).alloc (Nat.le_refl _) _
  have sv1 : v1.heap.size = w.heap.size + 1 := by rw [ev1]; simp
  obtain ⟨g0, eg0⟩ : ∃ g, g = w.heap.size := ⟨_, rfl⟩
  have o0 : O8 v1 w.heap.size g0 0 0 := by rw [eg0, ev1]; exact O8.newz (Nat.le_refl _)
  have hc := bv1
  have hs1 := hc.size
  go_enter Tryd.func23, Tryd.ntmps23
  go_upto_region 1 with fail
  rw [← ev1]
  rw [show Value.pointer (some ⟨w.heap.size, 0, none⟩) = .pointer (some ⟨g0, 0, none⟩) by rw [eg0]]
  clear ev1 bv1 sv1 eg0 hs1
  have hfb := Lib.hid (hc.trans (o0.below bx by_))
  have HR := Lib.hid (o0.put bx by_)
  go_wp2_with (first | ((with_reducible refine T_two bx by_ ?_ ?_ ?_); exact l_bx; exact l_by) | ((with_reducible refine p_store o0 bx by_ ?_ ?_ ?_); rfl; rfl))
  exact bodyPost_ret (pres Tryd.results23 _ HR.out rfl) rfl ⟨rfl, hfb.out⟩
set_option maxHeartbeats 6400000 in
theorem each_any {B g a b : Nat} {t : Ta} {p q : Pt E25} (ha : a < W4) (hb : b < W4) (h4 : t.of4 p q) (h0 : t.s.ok) (h1 : t.s.of (Pt.nought E25)) (w : World) (hG : ∀ v, Below B w v → G8 v) (hT : OTa w B g t)
    (kp : ∀ (s : Sp) (i j : Nat) (w : World), s.ok → i < 2 → j < 2 → G8 w → OTa w B g ⟨s, t.n, t.f, t.h, t.b⟩ → Calls Tryd.prog 46 #[.pointer (some ⟨g, 0, none⟩), .int .u64 (i : Int), .int .u64 (j : Int)] w fun e w' => e = .returned (.tuple #[]) ∧ OTa w' B g ⟨Sp.plus (Sp.plus s s) (t.pick i j), t.n, t.f, t.h, t.b⟩ ∧ Oth B g w w') :
    Calls Tryd.prog 45 #[nv a, nv b, .func (.func 46) #[.pointer (some ⟨g, 0, none⟩)] #[]] w fun e w' => e = .returned (.tuple #[]) ∧ (∃ s : Sp, (s.ok ∧ s.of ((p.mul a).add (q.mul b))) ∧ OTa w' B g ⟨s, t.n, t.f, t.h, t.b⟩) ∧ Oth B g w w' := by
  have hg := hT.lt
  have hB : B ≤ w.heap.size := Nat.le_trans hT.ge (Nat.le_of_lt hg)
  have s1 : (w.alloc (A4 a)).heap.size = w.heap.size + 1 := by simp
  have oa := (O4.new (w := w) (Nat.le_refl _) a).alloc (A4 b)
  have ob := O4.new (w := w.alloc (A4 a)) (B := w.heap.size) (by omega) b
  have hc := (((Below.refl _ w).alloc (Nat.le_refl _) (A4 a)).alloc (by omega) (A4 b))
  rw [s1] at ob
  have oT := hT.keep hc
  have hO : Oth B g w ((w.alloc (A4 a)).alloc (A4 b)) := Oth.of_below hB hc
  have HB := Lib.hid hB
  have HGT := Lib.hid hg
  have H4 := Lib.hid h4
  have HA := Lib.hid ha
  have HBB := Lib.hid hb
  have HG := Lib.hid hG
  have KP := Lib.hid kp
  have hst : ∃ s : Sp, (s.ok ∧ s.of ((p.mul (a / 2 ^ (256 - 0))).add (q.mul (b / 2 ^ (256 - 0))))) ∧ OTa ((w.alloc (A4 a)).alloc (A4 b)) B g ⟨s, t.n, t.f, t.h, t.b⟩ := ⟨t.s, ⟨h0, by rw [hi_zero ha, hi_zero hb]; show t.s.of ((Pt.nought E25).add (Pt.nought E25)); rw [Pt.add_nought]; exact h1⟩, oT⟩
  clear s1 hc oT hT hg hB ha hb h4 h0 h1 hG kp
  unfold nv
  go_enter Tryd.func45, Tryd.ntmps45
  go_wp2_with fail
  go_loopw [8] (fun i wr => ∃ k : Nat, k ≤ 256 ∧ i = .int .i64 k ∧ O4 wr w.heap.size w.heap.size a ∧ O4 wr w.heap.size (w.heap.size + 1) b ∧ (∃ s : Sp, (s.ok ∧ s.of ((p.mul (a / 2 ^ (256 - k))).add (q.mul (b / 2 ^ (256 - k))))) ∧ OTa wr B g ⟨s, t.n, t.f, t.h, t.b⟩) ∧ Oth B g w wr)
    (fun i _ => 256 - (intOf i).toNat)
  case atStart => exact ⟨0, by omega, rfl, oa, ob, hst, hO⟩
  case round =>
    clear oa ob hst hO
    obtain ⟨k, hk, rfl, oa, ob, ⟨s, ⟨hs1, hs2⟩, oT⟩, hO⟩ := hrel
    have HS := Lib.hid hs1
    have HS2 := Lib.hid hs2
    clear hs1 hs2
    by_cases hlt : k < 256
    · have g1 : (k : Int) < 256 := by omega
      obtain ⟨m, hm⟩ : ∃ m, m = 255 - k := ⟨_, rfl⟩
      have g2 : IntKind.i64.wrap (255 - (k : Int)) = (m : Int) := by rw [IntKind.wrap_i64]; omega
      have HM := Lib.hid (show m < 256 by omega)
      have HME := Lib.hid hm
      clear hm
      go_upto_region 5 with fail
      refine wp_region_inv 7 [13, 14, 15, 16, 17, 18, 19] [.val (.func (.func 46) #[.pointer (some ⟨g, 0, none⟩)] #[]), .val (nv a), .val (.int .i64 (m : Int)), .val (.int .u64 (bt a m : Int)), .val (nv b), .val (.int .i64 (m : Int)), .val (.int .u64 (bt b m : Int))] (fun wz => Below wr.heap.size wr wz) (by kernel_rfl) (by kernel_rfl) (fun wz wz' hz hb => hz.trans (hb.mono hz.size)) ((Below.refl _ _).drew) (fun u => by simp only [puts, List.foldl_cons, List.foldl_nil]; go_simp; exact rfl) ?_ ?_
      · simp only [List.take_succ_cons, List.take_zero]
        refine Obs.cons (fun u w hS hd => ?_) ?_
        · exact Gv.run (.func (.func 46) #[.pointer (some ⟨g, 0, none⟩)] #[]) rfl (by go_simp) rfl
        refine Obs.cons (fun u w hS hd => ?_) ?_
        · exact Gv.run (nv a) rfl (run_nload rfl rfl (O4.keep oa hS)) rfl
        refine Obs.cons (fun u w hS hd => ?_) ?_
        · exact Gv.run (.int .i64 (m : Int)) rfl (by go_simp) rfl
        refine Obs.cons (fun u w hS hd => ?_) ?_
        · have d14 : u 14 = nv a := dep hd 1 rfl
          rw [d14]
          have d15 : u 15 = .int .i64 (m : Int) := dep hd 2 rfl
          rw [d15]
          refine Gv.call 38 #[nv a, .int .i64 (m : Int)] rfl (by go_simp) ((bit_in a m HM.out w).mono ?_)
          rintro e w' ⟨rfl, hb⟩
          exact ⟨_, rfl, rfl, hb⟩
        refine Obs.cons (fun u w hS hd => ?_) ?_
        · exact Gv.run (nv b) rfl (run_nload rfl rfl (O4.keep ob hS)) rfl
        refine Obs.cons (fun u w hS hd => ?_) ?_
        · exact Gv.run (.int .i64 (m : Int)) rfl (by go_simp) rfl
        refine Obs.cons (fun u w hS hd => ?_) ?_
        · have d17 : u 17 = nv b := dep hd 4 rfl
          rw [d17]
          have d18 : u 18 = .int .i64 (m : Int) := dep hd 5 rfl
          rw [d18]
          refine Gv.call 38 #[nv b, .int .i64 (m : Int)] rfl (by go_simp) ((bit_in b m HM.out w).mono ?_)
          rintro e w' ⟨rfl, hb⟩
          exact ⟨_, rfl, rfl, hb⟩
        exact Obs.nil
      intro uy1 y1 hS hd
      have d13 : uy1 13 = .func (.func 46) #[.pointer (some ⟨g, 0, none⟩)] #[] := hd 0 (by decide)
      have d16 : uy1 16 = .int .u64 (bt a m : Int) := hd 3 (by decide)
      have d19 : uy1 19 = .int .u64 (bt b m : Int) := hd 6 (by decide)
      rw [d13, d16, d19]
      replace oa := O4.keep oa hS
      replace ob := O4.keep ob hS
      replace oT := oT.keep hS
      replace hO := hO.trans (Oth.of_below (Nat.le_trans HB.out hO.2.2) hS)
      clear hS hd d13 d16 d19
      simp only [List.drop_succ_cons, List.drop_zero]
      go_wp2_with fail
      go_at_call 46
      refine (KP.out s (bt a m) (bt b m) _ HS.out (by unfold bt; exact Nat.mod_lt _ (by decide)) (by unfold bt; exact Nat.mod_lt _ (by decide)) (HG.out _ hO.2.1) oT).mono ?_
      rintro r v2 ⟨rfl, o2, hO2⟩
      have hpk := H4.out.pick (i := bt a m) (j := bt b m) (by unfold bt; exact Nat.mod_lt _ (by decide)) (by unfold bt; exact Nat.mod_lt _ (by decide))
      have hn := Sp.plus_of (Sp.plus_ok s s) hpk.1 (Sp.plus_of HS.out HS.out HS2.out HS2.out) hpk.2
      rw [Pt.step2, HME.out, ← hi_succ hlt, ← hi_succ hlt, ← HME.out] at hn
      have HN := Lib.hid hn
      have hgt := HGT.out
      replace oa := hO2.1 _ _ _ _ _ _ (by omega) oa
      replace ob := hO2.1 _ _ _ _ _ _ (by omega) ob
      replace hO := hO.trans hO2
      clear hO2 hpk hn hgt
      go_wp2_with fail
      go_roundw
      case rel => exact ⟨k + 1, by omega, by go_num, oa, ob, ⟨_, ⟨Sp.plus_ok _ _, HN.out⟩, o2⟩, hO⟩
      case measure => simp [intOf]; omega
    · obtain rfl : k = 256 := by omega
      have h2 := HS2.out
      rw [hi_end, hi_end] at h2
      have H2 := Lib.hid h2
      clear h2
      go_wp2_with fail
      go_returns
      exact ⟨rfl, ⟨s, ⟨HS.out, H2.out⟩, oT⟩, hO⟩
end
end Go.Proofs.YtgaofocjnifjdaaDoor
