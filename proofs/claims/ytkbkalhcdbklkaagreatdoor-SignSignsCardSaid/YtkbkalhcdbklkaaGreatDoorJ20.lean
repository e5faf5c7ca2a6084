/-
  The code's Both, Mult, Small (layer 8), over letters. Written by tools/gen_u6.py. By an AI agent. The code's across, Encode (layer 8), over letters. Written by tools/gen_u6.py. By an AI agent.
-/
import Derived.Test.YtkbkalhcdbklkaaGreatDoorJ13
import Derived.Test.YtkbkalhcdbklkaaGreatDoorJ15
import Derived.Test.YtkbkalhcdbklkaaGreatDoorJ13
namespace Go.Proofs.YtkbkalhcdbklkaaGreatDoor
open Go Go.RowKit
section
variable {w : World} {B g : Nat} {ops : Array Oper} {rest : List Oper} {a : Act} {Q : Exit → Act → World → Prop} {dst : Option Nat} {tp : TypeId} {ps : String} {af : Array Edge} {x y : Operand}
theorem ta_load1 {s n f h b : Sp} (o : OTa w B g ⟨s, n, f, h, b⟩) (hx : a.eval x = .pointer (some ⟨g, 0, none⟩)) (hh : wpList Tryz.prog ops Q rest (a.put dst (sv s)) w) : wpList Tryz.prog ops Q (⟨dst, .load 98 x, tp, ps, af, none⟩ :: rest) a w := ta_load0 o hx hh
theorem gN_load (h : G8 w) (hx : a.eval x = .pointer (some ⟨0, 0, none⟩)) (hh : wpList Tryz.prog ops Q rest (a.put dst (prv 0 1)) w) : wpList Tryz.prog ops Q (⟨dst, .load 60 x, tp, ps, af, none⟩ :: rest) a w :=
  read_to (prv 0 1) rfl (run_gN rfl hx h) hh
end
section
attribute [local irreducible] wd by8 fl rl setA sf taf set8p set4w ed2
set_option maxRecDepth 20000
set_option maxHeartbeats 6400000 in
theorem cBoth_c {i j x y m n a b : Nat} {n0 p q r : Sp} {Sx : Sp → Prop}
    (k1 : ∀ w, Calls Tryz.prog 70 #[prv x y] w fun e w' => e = .returned (.bool true) ∧ Below w.heap.size w w')
    (k2 : ∀ w, Calls Tryz.prog 70 #[prv m n] w fun e w' => e = .returned (.bool true) ∧ Below w.heap.size w w')
    (k3 : ∀ w, Calls Tryz.prog 71 #[prv 0 1] w fun e w' => e = .returned (sv n0) ∧ Below w.heap.size w w')
    (k4 : ∀ w, Calls Tryz.prog 71 #[prv x y] w fun e w' => e = .returned (sv p) ∧ Below w.heap.size w w')
    (k5 : ∀ w, Calls Tryz.prog 71 #[prv m n] w fun e w' => e = .returned (sv q) ∧ Below w.heap.size w w')
    (k6 : ∀ w, G8 w → Calls Tryz.prog 72 #[sv p, sv q] w fun e w' => e = .returned (sv r) ∧ Below w.heap.size w w')
    (ke : ∀ (B g : Nat) (v : World), (∀ v', Below B v v' → G8 v') → OTa v B g (⟨n0, n0, p, q, r⟩) → Calls Tryz.prog 73 #[nv i, nv j, .func (.func 74) #[.pointer (some ⟨g, 0, none⟩)] #[]] v fun e v' => e = .returned (.tuple #[]) ∧ (∃ s : Sp, Sx s ∧ OTa v' B g ⟨s, n0, p, q, r⟩) ∧ Oth B g v v')
    (kf : ∀ s : Sp, Sx s → ∀ w, Calls Tryz.prog 75 #[sv s] w fun e w' => e = .returned (prv a b) ∧ Below w.heap.size w w')
    (w : World) (hG : G8 w) : Calls Tryz.prog 34 #[nv i, prv x y, nv j, prv m n] w fun e w' => e = .returned (.tuple #[prv a b, .int .i64 0]) ∧ Below w.heap.size w w' := by
  have KE := Lib.hid ke
  have KF := Lib.hid kf
  have HG0 := Lib.hid hG
  have hmf : ∀ (fn : Fn) (first cap : Array Value) (w : World), (Instr.makeFunc fn first cap).run Tryz.prog w = .ok (.func fn first cap) w := fun _ _ _ _ => rfl
  clear ke kf
  have K1 := Lib.hid k1
  have K2 := Lib.hid k2
  have K3 := Lib.hid k3
  have K4 := Lib.hid k4
  have K5 := Lib.hid k5
  have K6 := Lib.hid k6
  clear k1 k2 k3 k4 k5 k6
  have HG := Lib.hid hG
  clear hG
  obtain ⟨v1, ev1⟩ : ∃ v, v = w.alloc (A4 i) := ⟨_, rfl⟩
  have bv1 : Below w.heap.size w v1 := by rw [ev1]; exact (Below.refl _ _).alloc (Nat.le_refl _) _
  have sv1 : v1.heap.size = w.heap.size + 1 := by rw [ev1]; simp
  obtain ⟨g4, eg4⟩ : ∃ g, g = w.heap.size := ⟨_, rfl⟩
  have o4 : O4 v1 w.heap.size g4 i := by rw [eg4, ev1]; exact O4.new (Nat.le_refl _) i
  have hc := bv1
  have hs1 := hc.size
  obtain ⟨v2, ev2⟩ : ∃ v, v = v1.alloc (A8p x y) := ⟨_, rfl⟩
  have bv2 : Below v1.heap.size v1 v2 := by rw [ev2]; exact (Below.refl _ _).alloc (Nat.le_refl _) _
  have sv2 : v2.heap.size = v1.heap.size + 1 := by rw [ev2]; simp
  obtain ⟨g5, eg5⟩ : ∃ g, g = v1.heap.size := ⟨_, rfl⟩
  have o5 : O8 v2 v1.heap.size g5 x y := by rw [eg5, ev2]; exact O8.new (Nat.le_refl _) x y
  have n5_4 : g5 ≠ g4 := by have := OwnF.lt o4; omega
  replace o4 := o4.keep bv2
  replace hc := hc.trans (bv2.mono hc.size)
  replace o5 := o5.mono hs1
  have hs2 := hc.size
  obtain ⟨v3, ev3⟩ : ∃ v, v = v2.alloc (A4 j) := ⟨_, rfl⟩
  have bv3 : Below v2.heap.size v2 v3 := by rw [ev3]; exact (Below.refl _ _).alloc (Nat.le_refl _) _
  have sv3 : v3.heap.size = v2.heap.size + 1 := by rw [ev3]; simp
  obtain ⟨g6, eg6⟩ : ∃ g, g = v2.heap.size := ⟨_, rfl⟩
  have o6 : O4 v3 v2.heap.size g6 j := by rw [eg6, ev3]; exact O4.new (Nat.le_refl _) j
  have n6_4 : g6 ≠ g4 := by have := OwnF.lt o4; omega
  have n6_5 : g6 ≠ g5 := by have := OwnF.lt o5; omega
  replace o4 := o4.keep bv3
  replace o5 := o5.keep bv3
  replace hc := hc.trans (bv3.mono hc.size)
  replace o6 := o6.mono hs2
  have hs3 := hc.size
  obtain ⟨v4, ev4⟩ : ∃ v, v = v3.alloc (A8p m n) := ⟨_, rfl⟩
  have bv4 : Below v3.heap.size v3 v4 := by rw [ev4]; exact (Below.refl _ _).alloc (Nat.le_refl _) _
  have sv4 : v4.heap.size = v3.heap.size + 1 := by rw [ev4]; simp
  obtain ⟨g7, eg7⟩ : ∃ g, g = v3.heap.size := ⟨_, rfl⟩
  have o7 : O8 v4 v3.heap.size g7 m n := by rw [eg7, ev4]; exact O8.new (Nat.le_refl _) m n
  have n7_4 : g7 ≠ g4 := by have := OwnF.lt o4; omega
  have n7_5 : g7 ≠ g5 := by have := OwnF.lt o5; omega
  have n7_6 : g7 ≠ g6 := by have := OwnF.lt o6; omega
  replace o4 := o4.keep bv4
  replace o5 := o5.keep bv4
  replace o6 := o6.keep bv4
  replace hc := hc.trans (bv4.mono hc.size)
  replace o7 := o7.mono hs3
  have hs4 := hc.size
  obtain ⟨v5, ev5⟩ : ∃ v, v = v4.alloc (Z8p) := ⟨_, rfl⟩
  have bv5 : Below v4.heap.size v4 v5 := by rw [ev5]; exact (Below.refl _ _).alloc (Nat.le_refl _) _
  have sv5 : v5.heap.size = v4.heap.size + 1 := by rw [ev5]; simp
  obtain ⟨g8, eg8⟩ : ∃ g, g = v4.heap.size := ⟨_, rfl⟩
  have o8 : O8 v5 v4.heap.size g8 0 0 := by rw [eg8, ev5]; exact O8.newz (Nat.le_refl _)
  have n8_4 : g8 ≠ g4 := by have := OwnF.lt o4; omega
  have n8_5 : g8 ≠ g5 := by have := OwnF.lt o5; omega
  have n8_6 : g8 ≠ g6 := by have := OwnF.lt o6; omega
  have n8_7 : g8 ≠ g7 := by have := OwnF.lt o7; omega
  replace o4 := o4.keep bv5
  replace o5 := o5.keep bv5
  replace o6 := o6.keep bv5
  replace o7 := o7.keep bv5
  replace hc := hc.trans (bv5.mono hc.size)
  replace o8 := o8.mono hs4
  have hs5 := hc.size
  unfold nv
  go_enter Tryz.func34, Tryz.ntmps34
  go_upto_region 1 with fail
  rw [← ev1, ← ev2, ← ev3, ← ev4, ← ev5]
  rw [show Value.pointer (some ⟨w.heap.size, 0, none⟩) = .pointer (some ⟨g4, 0, none⟩) by rw [eg4]]
  rw [show Value.pointer (some ⟨w.heap.size + 1, 0, none⟩) = .pointer (some ⟨g5, 0, none⟩) by rw [eg5, sv1]]
  rw [show Value.pointer (some ⟨w.heap.size + 2, 0, none⟩) = .pointer (some ⟨g6, 0, none⟩) by rw [eg6, sv2, sv1]]
  rw [show Value.pointer (some ⟨w.heap.size + 3, 0, none⟩) = .pointer (some ⟨g7, 0, none⟩) by rw [eg7, sv3, sv2, sv1]]
  rw [show Value.pointer (some ⟨w.heap.size + 4, 0, none⟩) = .pointer (some ⟨g8, 0, none⟩) by rw [eg8, sv4, sv3, sv2, sv1]]
  clear ev1 bv1 sv1 ev2 bv2 sv2 ev3 bv3 sv3 ev4 bv4 sv4 ev5 bv5 sv5 eg4 eg5 eg6 eg7 eg8 hs1 hs2 hs3 hs4 hs5
  replace HG := Lib.hid (HG.out.next hc)
  refine wp_region_obs 7 [14, 15, 16, 17, 18, 19, 20] [.val (prv x y), .val (.bool true), .val (.bool false), .val (.bool false), .val (prv m n), .val (.bool true), .val (.bool false)] (fun wz => Below v5.heap.size v5 wz) (by kernel_rfl) (fun wz wz' hz hb => hz.trans (hb.mono hz.size)) (Below.refl _ _) (fun u => by simp only [puts, List.foldl_cons, List.foldl_nil]; go_simp; exact rfl) ?_ ?_
  · simp only [List.take_succ_cons, List.take_zero]
    refine ObsS.cons (fun u w hS hd => ?_) ?_
    · exact Gv.run (prv x y) rfl (run_pload rfl rfl (O8.keep o5 hS)) rfl
    refine ObsS.cons (fun u w hS hd => ?_) ?_
    · have d14 : u 14 = prv x y := hd 0 (by decide)
      rw [d14]
      refine Gv.call 70 #[prv x y] rfl (by go_simp) ((K1.out w).mono ?_)
      rintro e w' ⟨rfl, hb⟩
      exact ⟨_, rfl, rfl, hb⟩
    refine ObsS.cons (fun u w hS hd => ?_) ?_
    · have d15 : u 15 = .bool true := hd 1 (by decide)
      rw [d15]
      exact Gv.run (.bool false) rfl (by go_simp) rfl
    refine ObsS.cons (fun u w hS hd => ?_) ?_
    · have d16 : u 16 = .bool false := hd 2 (by decide)
      rw [d16]
      exact Gv.run (.bool false) rfl (by go_simp) rfl
    refine ObsS.cons (fun u w hS hd => ?_) ?_
    · have d17 : u 17 = .bool false := hd 3 (by decide)
      rw [d17]
      exact Gv.run (prv m n) (by rfl) (run_pload rfl rfl (O8.keep o7 hS)) rfl
    refine ObsS.cons (fun u w hS hd => ?_) ?_
    · have d17 : u 17 = .bool false := hd 3 (by decide)
      rw [d17]
      have d18 : u 18 = prv m n := hd 4 (by decide)
      rw [d18]
      refine Gv.call 70 #[prv m n] rfl (by go_simp) ((K2.out w).mono ?_)
      rintro e w' ⟨rfl, hb⟩
      exact ⟨_, rfl, rfl, hb⟩
    refine ObsS.cons (fun u w hS hd => ?_) ?_
    · have d17 : u 17 = .bool false := hd 3 (by decide)
      rw [d17]
      have d19 : u 19 = .bool true := hd 5 (by decide)
      rw [d19]
      exact Gv.run (.bool false) rfl (by go_simp) rfl
    exact ObsS.nil
  intro uy6 y6 hS hd
  have d17 : uy6 17 = .bool false := hd 3 (by decide)
  have d20 : uy6 20 = .bool false := hd 6 (by decide)
  rw [d17, d20]
  replace o4 := O4.keep o4 hS
  replace o5 := O8.keep o5 hS
  replace o6 := O4.keep o6 hS
  replace o7 := O8.keep o7 hS
  replace o8 := O8.keep o8 hS
  replace HG := Lib.hid (HG.out.next hS)
  replace hc := hc.trans (hS.mono hc.size)
  clear hS hd d17 d20
  simp only [List.drop_succ_cons, List.drop_zero]
  go_upto_region 3 with fail
  refine wp_region_box 12 [some 23, some 24, some 25, some 26, some 27, some 28, some 10, some 11, some 12, none, none, none] [.val (prv 0 1), .val (sv n0), .val (prv x y), .val (sv p), .val (prv m n), .val (sv q), .box 98 16, .box 98 16, .box 98 16, .holds 6 98 16 (sf n0), .holds 7 98 16 (sf p), .holds 8 98 16 (sf q)] y6.heap.size (fun wz => Below y6.heap.size y6 wz) (by kernel_rfl) (by kernel_rfl)
    (fun _ _ h _ hb => h.trans hb) ((Below.refl _ _).drew) (Nat.le_refl _) (fun u => by simp only [List.filterMap_cons, List.filterMap_nil, id, puts, List.foldl_cons, List.foldl_nil]; go_simp; exact rfl) ?_ ?_
  · simp only [List.take_succ_cons, List.take_zero]
    refine ObsB.cons (fun u w L hL hS hBw hd => ?_) ?_
    · exact GB.run 23 rfl (prv 0 1) rfl (run_gN rfl rfl (HG.out.next hS)) rfl rfl
    refine ObsB.cons (fun u w L hL hS hBw hd => ?_) ?_
    · have d23 : u 23 = prv 0 1 := depB hd 0 rfl
      rw [d23]
      refine GB.call 24 rfl 71 #[prv 0 1] rfl (by go_simp) rfl ((K3.out w).mono ?_)
      rintro e w' ⟨rfl, hb⟩
      exact ⟨_, rfl, rfl, hb⟩
    refine ObsB.cons (fun u w L hL hS hBw hd => ?_) ?_
    · exact GB.run 25 rfl (prv x y) rfl (run_pload rfl rfl (O8.keep o5 hS)) rfl rfl
    refine ObsB.cons (fun u w L hL hS hBw hd => ?_) ?_
    · have d25 : u 25 = prv x y := depB hd 2 rfl
      rw [d25]
      refine GB.call 26 rfl 71 #[prv x y] rfl (by go_simp) rfl ((K4.out w).mono ?_)
      rintro e w' ⟨rfl, hb⟩
      exact ⟨_, rfl, rfl, hb⟩
    refine ObsB.cons (fun u w L hL hS hBw hd => ?_) ?_
    · exact GB.run 27 rfl (prv m n) rfl (run_pload rfl rfl (O8.keep o7 hS)) rfl rfl
    refine ObsB.cons (fun u w L hL hS hBw hd => ?_) ?_
    · have d27 : u 27 = prv m n := depB hd 4 rfl
      rw [d27]
      refine GB.call 28 rfl 71 #[prv m n] rfl (by go_simp) rfl ((K5.out w).mono ?_)
      rintro e w' ⟨rfl, hb⟩
      exact ⟨_, rfl, rfl, hb⟩
    refine ObsB.cons (fun u w L hL hS hBw hd => ?_) ?_
    · exact GB.alloc 10 rfl rfl #[.int .u64 0, .int .u64 0, .int .u64 0, .int .u64 0, .int .u64 0, .int .u64 0, .int .u64 0, .int .u64 0, .int .u64 0, .int .u64 0, .int .u64 0, .int .u64 0, .int .u64 0, .int .u64 0, .int .u64 0, .int .u64 0] 98 16 (fun _ => .int .u64 0) rfl rfl (by go_simp) hBw (by decide) rfl
    refine ObsB.cons (fun u w L hL hS hBw hd => ?_) ?_
    · exact GB.alloc 11 rfl rfl #[.int .u64 0, .int .u64 0, .int .u64 0, .int .u64 0, .int .u64 0, .int .u64 0, .int .u64 0, .int .u64 0, .int .u64 0, .int .u64 0, .int .u64 0, .int .u64 0, .int .u64 0, .int .u64 0, .int .u64 0, .int .u64 0] 98 16 (fun _ => .int .u64 0) rfl rfl (by go_simp) hBw (by decide) rfl
    refine ObsB.cons (fun u w L hL hS hBw hd => ?_) ?_
    · exact GB.alloc 12 rfl rfl #[.int .u64 0, .int .u64 0, .int .u64 0, .int .u64 0, .int .u64 0, .int .u64 0, .int .u64 0, .int .u64 0, .int .u64 0, .int .u64 0, .int .u64 0, .int .u64 0, .int .u64 0, .int .u64 0, .int .u64 0, .int .u64 0] 98 16 (fun _ => .int .u64 0) rfl rfl (by go_simp) hBw (by decide) rfl
    refine ObsB.cons (fun u w L hL hS hBw hd => ?_) ?_
    · have d24 : u 24 = sv n0 := depB hd 1 rfl
      obtain ⟨g, fg, e10, o10⟩ : (Fact.box 98 16).ok y6.heap.size [some 23, some 24, some 25, some 26, some 27, some 28, some 10, some 11, some 12, none, none, none] 6 u w L := depB hd 6 rfl
      exact GB.store rfl 6 g 98 16 (sf n0) rfl rfl rfl e10 (run_sstore rfl (by exact e10) (by exact d24) o10) (s_only w g n0) (sput o10 n0)
    refine ObsB.cons (fun u w L hL hS hBw hd => ?_) ?_
    · have d26 : u 26 = sv p := depB hd 3 rfl
      obtain ⟨g, fg, e11, o11⟩ : (Fact.box 98 16).ok y6.heap.size [some 23, some 24, some 25, some 26, some 27, some 28, some 10, some 11, some 12, none, none, none] 7 u w L := depB hd 7 rfl
      exact GB.store rfl 7 g 98 16 (sf p) rfl rfl rfl e11 (run_sstore rfl (by exact e11) (by exact d26) o11) (s_only w g p) (sput o11 p)
    refine ObsB.cons (fun u w L hL hS hBw hd => ?_) ?_
    · have d28 : u 28 = sv q := depB hd 5 rfl
      obtain ⟨g, fg, e12, o12⟩ : (Fact.box 98 16).ok y6.heap.size [some 23, some 24, some 25, some 26, some 27, some 28, some 10, some 11, some 12, none, none, none] 8 u w L := depB hd 8 rfl
      exact GB.store rfl 8 g 98 16 (sf q) rfl rfl rfl e12 (run_sstore rfl (by exact e12) (by exact d28) o12) (s_only w g q) (sput o12 q)
    exact ObsB.nil
  intro uy7 y7 hS hd
  obtain ⟨g10, eg10, o10⟩ : (Fact.holds 6 98 16 (sf n0)).ok y6.heap.size [some 23, some 24, some 25, some 26, some 27, some 28, some 10, some 11, some 12, none, none, none] 9 uy7 y7 (fun _ => true) := hd 9 (by decide)
  replace eg10 : uy7 10 = .pointer (some ⟨g10, 0, none⟩) := eg10
  replace o10 : OS y7 y6.heap.size g10 n0 := o10
  have n10_4 : g10 ≠ g4 := by have := OwnF.ge o10; have := OwnF.lt o4; omega
  have n10_5 : g10 ≠ g5 := by have := OwnF.ge o10; have := OwnF.lt o5; omega
  have n10_6 : g10 ≠ g6 := by have := OwnF.ge o10; have := OwnF.lt o6; omega
  have n10_7 : g10 ≠ g7 := by have := OwnF.ge o10; have := OwnF.lt o7; omega
  have n10_8 : g10 ≠ g8 := by have := OwnF.ge o10; have := OwnF.lt o8; omega
  replace o10 := o10.mono hc.size
  obtain ⟨g11, eg11, o11⟩ : (Fact.holds 7 98 16 (sf p)).ok y6.heap.size [some 23, some 24, some 25, some 26, some 27, some 28, some 10, some 11, some 12, none, none, none] 10 uy7 y7 (fun _ => true) := hd 10 (by decide)
  replace eg11 : uy7 11 = .pointer (some ⟨g11, 0, none⟩) := eg11
  replace o11 : OS y7 y6.heap.size g11 p := o11
  have n11_4 : g11 ≠ g4 := by have := OwnF.ge o11; have := OwnF.lt o4; omega
  have n11_5 : g11 ≠ g5 := by have := OwnF.ge o11; have := OwnF.lt o5; omega
  have n11_6 : g11 ≠ g6 := by have := OwnF.ge o11; have := OwnF.lt o6; omega
  have n11_7 : g11 ≠ g7 := by have := OwnF.ge o11; have := OwnF.lt o7; omega
  have n11_8 : g11 ≠ g8 := by have := OwnF.ge o11; have := OwnF.lt o8; omega
  replace o11 := o11.mono hc.size
  obtain ⟨g12, eg12, o12⟩ : (Fact.holds 8 98 16 (sf q)).ok y6.heap.size [some 23, some 24, some 25, some 26, some 27, some 28, some 10, some 11, some 12, none, none, none] 11 uy7 y7 (fun _ => true) := hd 11 (by decide)
  replace eg12 : uy7 12 = .pointer (some ⟨g12, 0, none⟩) := eg12
  replace o12 : OS y7 y6.heap.size g12 q := o12
  have n12_4 : g12 ≠ g4 := by have := OwnF.ge o12; have := OwnF.lt o4; omega
  have n12_5 : g12 ≠ g5 := by have := OwnF.ge o12; have := OwnF.lt o5; omega
  have n12_6 : g12 ≠ g6 := by have := OwnF.ge o12; have := OwnF.lt o6; omega
  have n12_7 : g12 ≠ g7 := by have := OwnF.ge o12; have := OwnF.lt o7; omega
  have n12_8 : g12 ≠ g8 := by have := OwnF.ge o12; have := OwnF.lt o8; omega
  replace o12 := o12.mono hc.size
  replace o4 := O4.keep o4 hS
  replace o5 := O8.keep o5 hS
  replace o6 := O4.keep o6 hS
  replace o7 := O8.keep o7 hS
  replace o8 := O8.keep o8 hS
  replace HG := Lib.hid (HG.out.next hS)
  replace hc := hc.trans (hS.mono hc.size)
  rw [eg10, eg11, eg12]
  clear hS hd eg10 eg11 eg12
  simp only [List.drop_succ_cons, List.drop_zero]
  go_upto_region 4 with fail
  refine wp_region_box 10 [some 29, some 30, some 31, some 32, some 33, some 34, some 35, some 36, some 13, none] [.val (sv n0), .val (sv n0), .val (sv p), .val (sv q), .val (sv p), .val (sv q), .val (sv r), .val (tav (⟨n0, n0, p, q, r⟩)), .box 102 80, .holds 8 102 80 (taf (⟨n0, n0, p, q, r⟩))] y7.heap.size (fun wz => Below y7.heap.size y7 wz) (by kernel_rfl) (by kernel_rfl)
    (fun _ _ h _ hb => h.trans hb) ((Below.refl _ _).drew) (Nat.le_refl _) (fun u => by simp only [List.filterMap_cons, List.filterMap_nil, id, puts, List.foldl_cons, List.foldl_nil]; go_simp; exact rfl) ?_ ?_
  · simp only [List.take_succ_cons, List.take_zero]
    refine ObsB.cons (fun u w L hL hS hBw hd => ?_) ?_
    · exact GB.run 29 rfl (sv n0) rfl (run_Sload rfl rfl (OS.keep o10 hS)) rfl rfl
    refine ObsB.cons (fun u w L hL hS hBw hd => ?_) ?_
    · exact GB.run 30 rfl (sv n0) rfl (run_Sload rfl rfl (OS.keep o10 hS)) rfl rfl
    refine ObsB.cons (fun u w L hL hS hBw hd => ?_) ?_
    · exact GB.run 31 rfl (sv p) rfl (run_Sload rfl rfl (OS.keep o11 hS)) rfl rfl
    refine ObsB.cons (fun u w L hL hS hBw hd => ?_) ?_
    · exact GB.run 32 rfl (sv q) rfl (run_Sload rfl rfl (OS.keep o12 hS)) rfl rfl
    refine ObsB.cons (fun u w L hL hS hBw hd => ?_) ?_
    · exact GB.run 33 rfl (sv p) rfl (run_Sload rfl rfl (OS.keep o11 hS)) rfl rfl
    refine ObsB.cons (fun u w L hL hS hBw hd => ?_) ?_
    · exact GB.run 34 rfl (sv q) rfl (run_Sload rfl rfl (OS.keep o12 hS)) rfl rfl
    refine ObsB.cons (fun u w L hL hS hBw hd => ?_) ?_
    · have d33 : u 33 = sv p := depB hd 4 rfl
      rw [d33]
      have d34 : u 34 = sv q := depB hd 5 rfl
      rw [d34]
      refine GB.call 35 rfl 72 #[sv p, sv q] rfl (by go_simp) rfl ((K6.out w (HG.out.next hS)).mono ?_)
      rintro e w' ⟨rfl, hb⟩
      exact ⟨_, rfl, rfl, hb⟩
    refine ObsB.cons (fun u w L hL hS hBw hd => ?_) ?_
    · have d29 : u 29 = sv n0 := depB hd 0 rfl
      rw [d29]
      have d30 : u 30 = sv n0 := depB hd 1 rfl
      rw [d30]
      have d31 : u 31 = sv p := depB hd 2 rfl
      rw [d31]
      have d32 : u 32 = sv q := depB hd 3 rfl
      rw [d32]
      have d35 : u 35 = sv r := depB hd 6 rfl
      rw [d35]
      exact GB.run 36 rfl (tav (⟨n0, n0, p, q, r⟩)) rfl (run_Tabuild rfl rfl rfl rfl rfl rfl) rfl rfl
    refine ObsB.cons (fun u w L hL hS hBw hd => ?_) ?_
    · exact GB.alloc 13 rfl rfl Tryz.zeroCells102 102 80 (fun _ => .int .u64 0) rfl rfl (by go_simp) hBw (by decide) rfl
    refine ObsB.cons (fun u w L hL hS hBw hd => ?_) ?_
    · have d36 : u 36 = tav (⟨n0, n0, p, q, r⟩) := depB hd 7 rfl
      obtain ⟨g, fg, e13, o13⟩ : (Fact.box 102 80).ok y7.heap.size [some 29, some 30, some 31, some 32, some 33, some 34, some 35, some 36, some 13, none] 8 u w L := depB hd 8 rfl
      exact GB.store rfl 8 g 102 80 (taf (⟨n0, n0, p, q, r⟩)) rfl rfl rfl e13 (run_tastore rfl (by exact e13) (by exact d36) o13) (ta_only w g (⟨n0, n0, p, q, r⟩)) (taput o13 (⟨n0, n0, p, q, r⟩))
    exact ObsB.nil
  intro uy8 y8 hS hd
  obtain ⟨g13, eg13, o13⟩ : (Fact.holds 8 102 80 (taf (⟨n0, n0, p, q, r⟩))).ok y7.heap.size [some 29, some 30, some 31, some 32, some 33, some 34, some 35, some 36, some 13, none] 9 uy8 y8 (fun _ => true) := hd 9 (by decide)
  replace eg13 : uy8 13 = .pointer (some ⟨g13, 0, none⟩) := eg13
  replace o13 : OTa y8 y7.heap.size g13 (⟨n0, n0, p, q, r⟩) := o13
  have n13_4 : g13 ≠ g4 := by have := OwnF.ge o13; have := OwnF.lt o4; omega
  have n13_5 : g13 ≠ g5 := by have := OwnF.ge o13; have := OwnF.lt o5; omega
  have n13_6 : g13 ≠ g6 := by have := OwnF.ge o13; have := OwnF.lt o6; omega
  have n13_7 : g13 ≠ g7 := by have := OwnF.ge o13; have := OwnF.lt o7; omega
  have n13_8 : g13 ≠ g8 := by have := OwnF.ge o13; have := OwnF.lt o8; omega
  have n13_10 : g13 ≠ g10 := by have := OwnF.ge o13; have := OwnF.lt o10; omega
  have n13_11 : g13 ≠ g11 := by have := OwnF.ge o13; have := OwnF.lt o11; omega
  have n13_12 : g13 ≠ g12 := by have := OwnF.ge o13; have := OwnF.lt o12; omega
  replace o13 := o13.mono hc.size
  replace o4 := O4.keep o4 hS
  replace o5 := O8.keep o5 hS
  replace o6 := O4.keep o6 hS
  replace o7 := O8.keep o7 hS
  replace o8 := O8.keep o8 hS
  replace o10 := OS.keep o10 hS
  replace o11 := OS.keep o11 hS
  replace o12 := OS.keep o12 hS
  replace HG := Lib.hid (HG.out.next hS)
  replace hc := hc.trans (hS.mono hc.size)
  rw [eg13]
  clear hS hd eg13
  simp only [List.drop_succ_cons, List.drop_zero]
  go_wp2_with (first | ((with_reducible refine n_load o4 ?_ ?_); rfl) | ((with_reducible refine p_load o5 ?_ ?_); rfl) | ((with_reducible refine n_load o6 ?_ ?_); rfl) | ((with_reducible refine p_load o7 ?_ ?_); rfl) | ((with_reducible refine p_load o8 ?_ ?_); rfl) | ((with_reducible refine s_load o10 ?_ ?_); rfl) | ((with_reducible refine sz_load o10 ?_ ?_); rfl) | ((with_reducible refine s_load o11 ?_ ?_); rfl) | ((with_reducible refine sz_load o11 ?_ ?_); rfl) | ((with_reducible refine s_load o12 ?_ ?_); rfl) | ((with_reducible refine sz_load o12 ?_ ?_); rfl))
  go_at_call 73
  refine (KE.out w.heap.size g13 _ (fun v' hv => HG0.out.next (hc.trans hv)) o13).mono ?_
  rintro e v9 ⟨rfl, ⟨s, hs, oT⟩, hO⟩
  replace o8 : O8 v9 w.heap.size g8 0 0 := hO.1 _ _ _ _ _ _ (Ne.symm n13_8) o8
  replace hc := hc.trans hO.2.1
  have KS := Lib.hid (KF.out s hs)
  clear hO o4 o5 o6 o7 o10 o11 o12 o13 hs
  go_wp2_with ((with_reducible refine ta_load1 oT ?_ ?_); rfl)
  go_at_call 75
  refine (KS.out _).mono ?_
  rintro e v10 ⟨rfl, h0⟩
  replace o8 := o8.keep h0
  replace hc := hc.trans (h0.mono hc.size)
  clear h0 oT
  have hfb := Lib.hid (hc.trans (o8.below a b))
  have HR := Lib.hid (o8.put a b)
  go_wp2_with (first | ((with_reducible refine p_store o8 a b ?_ ?_ ?_); rfl; rfl))
  exact bodyPost_ret (pres2 Tryz.results34 _ HR.out rfl rfl) rfl ⟨rfl, hfb.out⟩
set_option maxHeartbeats 6400000 in
theorem cMult_gen {i x y a b : Nat} {er : Int}
    (k1 : ∀ w, G8 w → Calls Tryz.prog 34 #[nv i, prv x y, lit4 0 0 0 0, prv 0 1] w fun e w' => e = .returned (.tuple #[prv a b, .int .i64 er]) ∧ Below w.heap.size w w')
    (w : World) (hG : G8 w) : Calls Tryz.prog 51 #[nv i, prv x y] w fun e w' => e = .returned (.tuple #[prv a b, .int .i64 er]) ∧ Below w.heap.size w w' := by
  have K1 := Lib.hid k1
  clear k1
  have HG := Lib.hid hG
  clear hG
  obtain ⟨v1, ev1⟩ : ∃ v, v = w.alloc (A4 i) := ⟨_, rfl⟩
  have bv1 : Below w.heap.size w v1 := by rw [ev1]; exact (Below.refl _ _).alloc (Nat.le_refl _) _
  have sv1 : v1.heap.size = w.heap.size + 1 := by rw [ev1]; simp
  obtain ⟨g2, eg2⟩ : ∃ g, g = w.heap.size := ⟨_, rfl⟩
  have o2 : O4 v1 w.heap.size g2 i := by rw [eg2, ev1]; exact O4.new (Nat.le_refl _) i
  have hc := bv1
  have hs1 := hc.size
  obtain ⟨v2, ev2⟩ : ∃ v, v = v1.alloc (A8p x y) := ⟨_, rfl⟩
  have bv2 : Below v1.heap.size v1 v2 := by rw [ev2]; exact (Below.refl _ _).alloc (Nat.le_refl _) _
  have sv2 : v2.heap.size = v1.heap.size + 1 := by rw [ev2]; simp
  obtain ⟨g3, eg3⟩ : ∃ g, g = v1.heap.size := ⟨_, rfl⟩
  have o3 : O8 v2 v1.heap.size g3 x y := by rw [eg3, ev2]; exact O8.new (Nat.le_refl _) x y
  replace o2 := o2.keep bv2
  replace hc := hc.trans (bv2.mono hc.size)
  replace o3 := o3.mono hs1
  have hs2 := hc.size
  obtain ⟨v3, ev3⟩ : ∃ v, v = v2.alloc (Z8p) := ⟨_, rfl⟩
  have bv3 : Below v2.heap.size v2 v3 := by rw [ev3]; exact (Below.refl _ _).alloc (Nat.le_refl _) _
  have sv3 : v3.heap.size = v2.heap.size + 1 := by rw [ev3]; simp
  obtain ⟨g4, eg4⟩ : ∃ g, g = v2.heap.size := ⟨_, rfl⟩
  have o4 : O8 v3 v2.heap.size g4 0 0 := by rw [eg4, ev3]; exact O8.newz (Nat.le_refl _)
  replace o2 := o2.keep bv3
  replace o3 := o3.keep bv3
  replace hc := hc.trans (bv3.mono hc.size)
  replace o4 := o4.mono hs2
  have hs3 := hc.size
  unfold nv
  go_enter Tryz.func51, Tryz.ntmps51
  go_upto_region 1 with fail
  rw [← ev1, ← ev2, ← ev3]
  rw [show Value.pointer (some ⟨w.heap.size, 0, none⟩) = .pointer (some ⟨g2, 0, none⟩) by rw [eg2]]
  rw [show Value.pointer (some ⟨w.heap.size + 1, 0, none⟩) = .pointer (some ⟨g3, 0, none⟩) by rw [eg3, sv1]]
  rw [show Value.pointer (some ⟨w.heap.size + 2, 0, none⟩) = .pointer (some ⟨g4, 0, none⟩) by rw [eg4, sv2, sv1]]
  clear ev1 bv1 sv1 ev2 bv2 sv2 ev3 bv3 sv3 eg2 eg3 eg4 hs1 hs2 hs3
  replace HG := Lib.hid (HG.out.next hc)
  go_wp2_with (first | ((with_reducible refine n_load o2 ?_ ?_); rfl) | ((with_reducible refine p_load o3 ?_ ?_); rfl) | ((with_reducible refine p_load o4 ?_ ?_); rfl) | ((with_reducible refine gN_load HG.out ?_ ?_); rfl))
  go_at_call 34
  refine (K1.out _ HG.out).mono ?_
  rintro e y4 ⟨rfl, h0⟩
  replace o2 := O4.keep o2 h0
  replace o3 := O8.keep o3 h0
  replace o4 := O8.keep o4 h0
  replace HG := Lib.hid (HG.out.next h0)
  replace hc := hc.trans (h0.mono hc.size)
  clear h0
  have hfb := Lib.hid (hc.trans (o4.below a b))
  have HR := Lib.hid (o4.put a b)
  go_wp2_with (first | ((with_reducible refine p_store o4 a b ?_ ?_ ?_); rfl; rfl))
  exact bodyPost_ret (pres2 Tryz.results51 _ HR.out rfl rfl) rfl ⟨rfl, hfb.out⟩
end
end Go.Proofs.YtkbkalhcdbklkaaGreatDoor
namespace Go.Proofs.YtkbkalhcdbklkaaGreatDoor
open Go Go.RowKit
theorem O4.set3 {w : World} {B g y z : Nat} (h : O4 w B g y) (hz : ∀ k, k < 3 → wd z k = wd y k) : O4 (w.setCell ⟨g, 3, none⟩ (.int .u64 (wd z 3 : Int))) B g z := by
  refine OwnF.congr (OwnF.set_ h 3 _) fun k hk => ?_
  by_cases h3 : k = 3
  · subst h3; rfl
  · rw [if_neg h3]
    unfold wv
    rw [hz k (by omega)]
section
variable {w : World} {B g : Nat} {ops : Array Oper} {rest : List Oper} {a : Act} {Q : Exit → Act → World → Prop} {dst : Option Nat} {tp : TypeId} {ps : String} {af : Array Edge} {x : Operand}
theorem z_load {m n : Nat} (o : O8 w B g m n) (hx : a.eval x = .pointer (some ⟨g, 4, none⟩)) (h : wpList Tryz.prog ops Q rest (a.put dst (nv n)) w) : wpList Tryz.prog ops Q (⟨dst, .load 35 x, tp, ps, af, none⟩ :: rest) a w :=
  read_to (nv n) rfl (run_zload rfl hx o) h
end
section
attribute [local irreducible] wd by8 fl rl setA sf taf set8p set4w ed2
set_option maxRecDepth 20000
set_option maxHeartbeats 6400000 in
theorem cEncode_b0 {x y z : Nat} {L : List UInt8} (hor : bits .or .u64 (wd y 3 : Int) 0 = (wd z 3 : Int)) (hz : ∀ k, k < 3 → wd z k = wd y k)
    (k1 : ∀ w, Calls Tryz.prog 70 #[prv x y] w fun e w' => e = .returned (.bool true) ∧ Below w.heap.size w w')
    (k2 : ∀ w, Calls Tryz.prog 66 #[nv x, .int .i64 0] w fun e w' => e = .returned (.int .u64 0) ∧ Below w.heap.size w w')
    (kb : ∀ w, Calls Tryz.prog 56 #[nv z] w fun e w' => ∃ A c, e = .returned (.slice A 32 c) ∧ Own w' w.heap.size 5 A c L ∧ Below w.heap.size w w')
    (w : World) : Calls Tryz.prog 52 #[prv x y] w fun e w' => ∃ A c, e = .returned (.tuple #[.slice A 32 c, .int .i64 0]) ∧ Own w' w.heap.size 5 A c L ∧ Below w.heap.size w w' := by
  have HOR := Lib.hid hor
  have HZ := Lib.hid hz
  have KB := Lib.hid kb
  clear hor hz kb
  have K1 := Lib.hid k1
  have K2 := Lib.hid k2
  clear k1 k2
  obtain ⟨v1, ev1⟩ : ∃ v, v = w.alloc (A8p x y) := ⟨_, rfl⟩
  have bv1 : Below w.heap.size w v1 := by rw [ev1]; exact (Below.refl _ _).alloc (Nat.le_refl _) _
  have sv1 : v1.heap.size = w.heap.size + 1 := by rw [ev1]; simp
  obtain ⟨g1, eg1⟩ : ∃ g, g = w.heap.size := ⟨_, rfl⟩
  have o1 : O8 v1 w.heap.size g1 x y := by rw [eg1, ev1]; exact O8.new (Nat.le_refl _) x y
  have hc := bv1
  have hs1 := hc.size
  go_enter Tryz.func52, Tryz.ntmps52
  go_upto_region 1 with fail
  rw [← ev1]
  rw [show Value.pointer (some ⟨w.heap.size, 0, none⟩) = .pointer (some ⟨g1, 0, none⟩) by rw [eg1]]
  clear ev1 bv1 sv1 eg1 hs1
  go_wp2_with (first | ((with_reducible refine p_load o1 ?_ ?_); rfl))
  go_at_call 70
  refine (K1.out _).mono ?_
  rintro e y2 ⟨rfl, h0⟩
  replace o1 := O8.keep o1 h0
  replace hc := hc.trans (h0.mono hc.size)
  clear h0
  have oq1 := o1
  have on0 := O4.newz (w := y2) (Nat.le_refl _)
  have o4 := (on0.put y).mono hc.size
  have hbz := ((Below.refl _ y2).alloc (Nat.le_refl _) Z4).trans (on0.below y)
  replace o1 := O8.keep o1 hbz
  replace hc := hc.trans (hbz.mono hc.size)
  clear hbz
  go_upto_region 4 with (first | ((with_reducible refine z_load oq1 ?_ ?_); rfl) | ((with_reducible refine n_store on0 y ?_ ?_ ?_); rfl; rfl))
  obtain ⟨y3, ev⟩ : ∃ v, v = set4w (y2.alloc Z4) y2.heap.size y := ⟨_, rfl⟩
  obtain ⟨g4, eg⟩ : ∃ g, g = y2.heap.size := ⟨_, rfl⟩
  rw [← ev] at o1 o4 hc ⊢
  rw [← eg] at o4 ⊢
  clear ev eg on0
  clear oq1
  refine wp_region_inv 8 [10, 11, 12, 13, 14, 15, 16, 17] [.val (.pointer (some ⟨g4, 3, none⟩)), .val (.int .u64 (wd y 3 : Int)), .val (.pointer (some ⟨g1, 0, none⟩)), .val (nv x), .val (.int .u64 0), .val (.int .u64 0), .val (.int .u64 (wd z 3 : Int)), .val (.pointer (some ⟨g4, 3, none⟩))] (fun wz => Below y3.heap.size y3 wz) (by kernel_rfl) (by kernel_rfl) (fun wz wz' hz hb => hz.trans (hb.mono hz.size)) ((Below.refl _ _).drew) (fun u => by simp only [puts, List.foldl_cons, List.foldl_nil]; go_simp; exact rfl) ?_ ?_
  · simp only [List.take_succ_cons, List.take_zero]
    refine Obs.cons (fun u w hS hd => ?_) ?_
    · exact Gv.run (.pointer (some ⟨g4, 3, none⟩)) rfl (by go_simp) rfl
    refine Obs.cons (fun u w hS hd => ?_) ?_
    · have d10 : u 10 = .pointer (some ⟨g4, 3, none⟩) := dep hd 0 rfl
      rw [d10]
      obtain ⟨c0, c1, c2, c3⟩ := (O4.keep o4 hS).c4
      exact Gv.run (.int .u64 (wd y 3 : Int)) rfl (by go_simp) rfl
    refine Obs.cons (fun u w hS hd => ?_) ?_
    · exact Gv.run (.pointer (some ⟨g1, 0, none⟩)) rfl (run_pfield 0 (by decide) rfl rfl) rfl
    refine Obs.cons (fun u w hS hd => ?_) ?_
    · have d12 : u 12 = .pointer (some ⟨g1, 0, none⟩) := dep hd 2 rfl
      rw [d12]
      exact Gv.run (nv x) rfl (run_xload rfl rfl (O8.keep o1 hS)) rfl
    refine Obs.cons (fun u w hS hd => ?_) ?_
    · have d13 : u 13 = nv x := dep hd 3 rfl
      rw [d13]
      refine Gv.call 66 #[nv x, .int .i64 0] rfl (by go_simp) ((K2.out w).mono ?_)
      rintro e w' ⟨rfl, hb⟩
      exact ⟨_, rfl, rfl, hb⟩
    refine Obs.cons (fun u w hS hd => ?_) ?_
    · have d14 : u 14 = .int .u64 0 := dep hd 4 rfl
      rw [d14]
      have hw : IntKind.u64.wrap 0 = 0 := by decide
      exact Gv.run (.int .u64 0) rfl (by go_simp) rfl
    refine Obs.cons (fun u w hS hd => ?_) ?_
    · have d11 : u 11 = .int .u64 (wd y 3 : Int) := dep hd 1 rfl
      rw [d11]
      have d15 : u 15 = .int .u64 0 := dep hd 5 rfl
      rw [d15]
      have hor := HOR.out
      exact Gv.run (.int .u64 (wd z 3 : Int)) rfl (by go_simp) rfl
    refine Obs.cons (fun u w hS hd => ?_) ?_
    · exact Gv.run (.pointer (some ⟨g4, 3, none⟩)) rfl (by go_simp) rfl
    exact Obs.nil
  intro uy4 y4 hS hd
  have d16 : uy4 16 = .int .u64 (wd z 3 : Int) := hd 6 (by decide)
  have d17 : uy4 17 = .pointer (some ⟨g4, 3, none⟩) := hd 7 (by decide)
  rw [d16, d17]
  replace o1 := O8.keep o1 hS
  replace o4 := O4.keep o4 hS
  replace hc := hc.trans (hS.mono hc.size)
  clear hS hd d16 d17
  simp only [List.drop_succ_cons, List.drop_zero]
  obtain ⟨c0, c1, c2, c3⟩ := o4.c4
  obtain ⟨f0, f1, f2, f3⟩ := o4.f4
  go_upto_region 5 with fail
  clear c0 c1 c2 c3 f0 f1 f2 f3
  have hb4 : Below w.heap.size y4 (y4.setCell ⟨g4, 3, none⟩ (.int .u64 (wd z 3 : Int))) := (Below.refl _ _).setCell (p := ⟨g4, 3, none⟩) o4.ge _
  replace hc := hc.trans hb4
  replace o4 := o4.set3 HZ.out
  clear o1 hb4
  go_wp2_with ((with_reducible refine n_load o4 ?_ ?_); rfl)
  go_at_call 56
  refine (KB.out _).mono ?_
  rintro e v8 ⟨A, c, rfl, R, h0⟩
  replace R := R.mono hc.size
  replace hc := hc.trans (h0.mono hc.size)
  go_wp2_with fail
  go_returns
  exact ⟨_, _, rfl, R, hc⟩
set_option maxHeartbeats 6400000 in
theorem cEncode_b1 {x y z : Nat} {L : List UInt8} (hor : bits .or .u64 (wd y 3 : Int) 9223372036854775808 = (wd z 3 : Int)) (hz : ∀ k, k < 3 → wd z k = wd y k)
    (k1 : ∀ w, Calls Tryz.prog 70 #[prv x y] w fun e w' => e = .returned (.bool true) ∧ Below w.heap.size w w')
    (k2 : ∀ w, Calls Tryz.prog 66 #[nv x, .int .i64 0] w fun e w' => e = .returned (.int .u64 1) ∧ Below w.heap.size w w')
    (kb : ∀ w, Calls Tryz.prog 56 #[nv z] w fun e w' => ∃ A c, e = .returned (.slice A 32 c) ∧ Own w' w.heap.size 5 A c L ∧ Below w.heap.size w w')
    (w : World) : Calls Tryz.prog 52 #[prv x y] w fun e w' => ∃ A c, e = .returned (.tuple #[.slice A 32 c, .int .i64 0]) ∧ Own w' w.heap.size 5 A c L ∧ Below w.heap.size w w' := by
  have HOR := Lib.hid hor
  have HZ := Lib.hid hz
  have KB := Lib.hid kb
  clear hor hz kb
  have K1 := Lib.hid k1
  have K2 := Lib.hid k2
  clear k1 k2
  obtain ⟨v1, ev1⟩ : ∃ v, v = w.alloc (A8p x y) := ⟨_, rfl⟩
  have bv1 : Below w.heap.size w v1 := by rw [ev1]; exact (Below.refl _ _).alloc (Nat.le_refl _) _
  have sv1 : v1.heap.size = w.heap.size + 1 := by rw [ev1]; simp
  obtain ⟨g1, eg1⟩ : ∃ g, g = w.heap.size := ⟨_, rfl⟩
  have o1 : O8 v1 w.heap.size g1 x y := by rw [eg1, ev1]; exact O8.new (Nat.le_refl _) x y
  have hc := bv1
  have hs1 := hc.size
  go_enter Tryz.func52, Tryz.ntmps52
  go_upto_region 1 with fail
  rw [← ev1]
  rw [show Value.pointer (some ⟨w.heap.size, 0, none⟩) = .pointer (some ⟨g1, 0, none⟩) by rw [eg1]]
  clear ev1 bv1 sv1 eg1 hs1
  go_wp2_with (first | ((with_reducible refine p_load o1 ?_ ?_); rfl))
  go_at_call 70
  refine (K1.out _).mono ?_
  rintro e y2 ⟨rfl, h0⟩
  replace o1 := O8.keep o1 h0
  replace hc := hc.trans (h0.mono hc.size)
  clear h0
  have oq1 := o1
  have on0 := O4.newz (w := y2) (Nat.le_refl _)
  have o4 := (on0.put y).mono hc.size
  have hbz := ((Below.refl _ y2).alloc (Nat.le_refl _) Z4).trans (on0.below y)
  replace o1 := O8.keep o1 hbz
  replace hc := hc.trans (hbz.mono hc.size)
  clear hbz
  go_upto_region 4 with (first | ((with_reducible refine z_load oq1 ?_ ?_); rfl) | ((with_reducible refine n_store on0 y ?_ ?_ ?_); rfl; rfl))
  obtain ⟨y3, ev⟩ : ∃ v, v = set4w (y2.alloc Z4) y2.heap.size y := ⟨_, rfl⟩
  obtain ⟨g4, eg⟩ : ∃ g, g = y2.heap.size := ⟨_, rfl⟩
  rw [← ev] at o1 o4 hc ⊢
  rw [← eg] at o4 ⊢
  clear ev eg on0
  clear oq1
  refine wp_region_inv 8 [10, 11, 12, 13, 14, 15, 16, 17] [.val (.pointer (some ⟨g4, 3, none⟩)), .val (.int .u64 (wd y 3 : Int)), .val (.pointer (some ⟨g1, 0, none⟩)), .val (nv x), .val (.int .u64 1), .val (.int .u64 9223372036854775808), .val (.int .u64 (wd z 3 : Int)), .val (.pointer (some ⟨g4, 3, none⟩))] (fun wz => Below y3.heap.size y3 wz) (by kernel_rfl) (by kernel_rfl) (fun wz wz' hz hb => hz.trans (hb.mono hz.size)) ((Below.refl _ _).drew) (fun u => by simp only [puts, List.foldl_cons, List.foldl_nil]; go_simp; exact rfl) ?_ ?_
  · simp only [List.take_succ_cons, List.take_zero]
    refine Obs.cons (fun u w hS hd => ?_) ?_
    · exact Gv.run (.pointer (some ⟨g4, 3, none⟩)) rfl (by go_simp) rfl
    refine Obs.cons (fun u w hS hd => ?_) ?_
    · have d10 : u 10 = .pointer (some ⟨g4, 3, none⟩) := dep hd 0 rfl
      rw [d10]
      obtain ⟨c0, c1, c2, c3⟩ := (O4.keep o4 hS).c4
      exact Gv.run (.int .u64 (wd y 3 : Int)) rfl (by go_simp) rfl
    refine Obs.cons (fun u w hS hd => ?_) ?_
    · exact Gv.run (.pointer (some ⟨g1, 0, none⟩)) rfl (run_pfield 0 (by decide) rfl rfl) rfl
    refine Obs.cons (fun u w hS hd => ?_) ?_
    · have d12 : u 12 = .pointer (some ⟨g1, 0, none⟩) := dep hd 2 rfl
      rw [d12]
      exact Gv.run (nv x) rfl (run_xload rfl rfl (O8.keep o1 hS)) rfl
    refine Obs.cons (fun u w hS hd => ?_) ?_
    · have d13 : u 13 = nv x := dep hd 3 rfl
      rw [d13]
      refine Gv.call 66 #[nv x, .int .i64 0] rfl (by go_simp) ((K2.out w).mono ?_)
      rintro e w' ⟨rfl, hb⟩
      exact ⟨_, rfl, rfl, hb⟩
    refine Obs.cons (fun u w hS hd => ?_) ?_
    · have d14 : u 14 = .int .u64 1 := dep hd 4 rfl
      rw [d14]
      have hw : IntKind.u64.wrap 9223372036854775808 = 9223372036854775808 := by decide
      exact Gv.run (.int .u64 9223372036854775808) rfl (by go_simp) rfl
    refine Obs.cons (fun u w hS hd => ?_) ?_
    · have d11 : u 11 = .int .u64 (wd y 3 : Int) := dep hd 1 rfl
      rw [d11]
      have d15 : u 15 = .int .u64 9223372036854775808 := dep hd 5 rfl
      rw [d15]
      have hor := HOR.out
      exact Gv.run (.int .u64 (wd z 3 : Int)) rfl (by go_simp) rfl
    refine Obs.cons (fun u w hS hd => ?_) ?_
    · exact Gv.run (.pointer (some ⟨g4, 3, none⟩)) rfl (by go_simp) rfl
    exact Obs.nil
  intro uy4 y4 hS hd
  have d16 : uy4 16 = .int .u64 (wd z 3 : Int) := hd 6 (by decide)
  have d17 : uy4 17 = .pointer (some ⟨g4, 3, none⟩) := hd 7 (by decide)
  rw [d16, d17]
  replace o1 := O8.keep o1 hS
  replace o4 := O4.keep o4 hS
  replace hc := hc.trans (hS.mono hc.size)
  clear hS hd d16 d17
  simp only [List.drop_succ_cons, List.drop_zero]
  obtain ⟨c0, c1, c2, c3⟩ := o4.c4
  obtain ⟨f0, f1, f2, f3⟩ := o4.f4
  go_upto_region 5 with fail
  clear c0 c1 c2 c3 f0 f1 f2 f3
  have hb4 : Below w.heap.size y4 (y4.setCell ⟨g4, 3, none⟩ (.int .u64 (wd z 3 : Int))) := (Below.refl _ _).setCell (p := ⟨g4, 3, none⟩) o4.ge _
  replace hc := hc.trans hb4
  replace o4 := o4.set3 HZ.out
  clear o1 hb4
  go_wp2_with ((with_reducible refine n_load o4 ?_ ?_); rfl)
  go_at_call 56
  refine (KB.out _).mono ?_
  rintro e v8 ⟨A, c, rfl, R, h0⟩
  replace R := R.mono hc.size
  replace hc := hc.trans (h0.mono hc.size)
  go_wp2_with fail
  go_returns
  exact ⟨_, _, rfl, R, hc⟩
end
end Go.Proofs.YtkbkalhcdbklkaaGreatDoor
