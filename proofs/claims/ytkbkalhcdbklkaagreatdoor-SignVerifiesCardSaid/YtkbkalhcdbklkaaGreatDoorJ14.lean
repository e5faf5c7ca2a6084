/-
   (and more)
-/
import Derived.Test.YtkbkalhcdbklkaaGreatDoorJ10
import Derived.Test.YtkbkalhcdbklkaaGreatDoorMT
import Derived.Test.YtkbkalhcdbklkaaGreatDoorJ10
namespace Go.Proofs.YtkbkalhcdbklkaaGreatDoor
section
open Go Go.RowKit
theorem part_int (xs : Array Value) (i : Nat) (v : Value) (h : xs[i]? = some v) (w : World) : (part 3 xs (i * Tryz.prog.cellsOf 3)).run Tryz.prog w = .ok v w := by
 have e : Tryz.prog.cellsOf 3 = 1 := by kernel_rfl
 rw [e, Nat.mul_one]
 simp [part, go_sem, h]
theorem items_int (xs ys : Array Value) (a b : Nat → Int) (w : World) : ∀ is : List Nat, (∀ i ∈ is, xs[i]? = some (.int .i64 (a i)) ∧ ys[i]? = some (.int .i64 (b i))) →
  (Op.eqItems 9999 3 (Tryz.prog.cellsOf 3) xs ys is).run Tryz.prog w = .ok (is.all fun i => a i == b i) w
 | [], _ => rfl
 | i :: is, h => by
  have h0 := h i (by simp)
  have ih := items_int xs ys a b w is (fun j hj => h j (by simp [hj]))
  simp only [Op.eqItems, Sem.run_bind, part_int _ _ _ h0.1, part_int _ _ _ h0.2, Result.andThen_ok, run_equalIn_int w 9998 3 .i64 .i64 (a i) (b i) Tryz.underlying3, List.all_cons]
  cases he : (a i == b i)
  ·simp
  ·simpa using ih
theorem eqd (x y : Nat) (hx : x < W4) (hy : y < W4) : ((List.range 16).all fun i => ((d16 x i : Nat) : Int) == ((d16 y i : Nat) : Int)) = decide (x = y) := by
 by_cases h : x = y
 ·subst h; simp
 ·rw [decide_eq_false h]
  cases hb : (List.range 16).all fun i => ((d16 x i : Nat) : Int) == ((d16 y i : Nat) : Int)
  ·rfl
  ·refine absurd (dgt_ext (b := 65536) (n := 16) (by rw [← W4_d16]; exact hx) (by rw [← W4_d16]; exact hy) fun i hi => ?_) h
   have := List.all_eq_true.1 hb i (by simpa using hi)
   have : ((d16 x i : Nat) : Int) = ((d16 y i : Nat) : Int) := by simpa using this
   exact Int.ofNat.inj this
theorem eqF (x y : Nat) (hx : x < W4) (hy : y < W4) (w : World) : (Op.equalIn 10000 68 (fv x) (fv y)).run Tryz.prog w = .ok (decide (x = y)) w := by
 obtain ⟨i0, hi⟩ : ∃ i, Tryz.prog.info? 3 = some i := by
  have := infoInt
  cases h : Tryz.prog.info? 3 with
  | none => rw [h] at this; simp at this
  | some i => exact ⟨i, rfl⟩
 rw [run_equalIn_array (P := Tryz.prog) (w := w) 9999 _ _ Tryz.underlying68 hi, items_int _ _ (fun i => (d16 x i : Int)) (fun i => (d16 y i : Int)) w (List.range 16), eqd x y hx hy]
 intro i hi
 have hi' : i < 16 := by simpa using hi
 exact ⟨by rw [List.getElem?_toArray, fl_get hi']; rfl, by rw [List.getElem?_toArray, fl_get hi']; rfl⟩
theorem guardF (s1 s2 : Operand) (xs ys : Array Value) (w : World) : (eqGuard .eql 68 s1 s2 (.agg xs) (.agg ys)).run Tryz.prog w = .ok () w := by
 unfold eqGuard; simp [go_sem]
theorem run_eqF {a : Act} {o : Oper} {s1 s2 : Operand} {ty : TypeId} {x y : Nat} {r : Bool} (ho : o.op = .binOp .eql 68 s1 s2 ty) (h1 : a.eval s1 = fv x) (h2 : a.eval s2 = fv y) (hx : x < W4) (hy : y < W4) (hr : decide (x = y) = r) (w : World) :
  (execOp a.eval o).run Tryz.prog w = .ok (.value (.bool r)) w := by
 subst hr
 unfold execOp
 simp only [ho, h1, h2, Sem.run_bind, guardF, Result.andThen_ok, run_eql_struct, eqF x y hx hy, Sem.run_pure]
attribute [local irreducible] wd by8 d16 set16w fl
set_option maxRecDepth 20000
set_option maxHeartbeats 800000 in
theorem reven_one {r a s d m : Nat} {b2 : Bool} (hba : a < W4) (hbs : s < W4) (hd0 : d16 r 0 = d) (hm1 : (d : Int).tmod 2 = (m : Int)) (hm2 : (d : Int) % 2 = (m : Int)) (hb1 : ((m : Int) == 0) = true) (hb2 : decide (s = a) = b2)
  (k1 : ∀ w, Calls Tryz.prog 82 #[fv r, fv r] w fun e w' => e = .returned (fv s) ∧ Below w.heap.size w w') (w0 : World) :
  Calls Tryz.prog 134 #[fv r, fv a] w0 fun e w' => e = .returned (.bool b2) ∧ Below w0.heap.size w0 w' := by
 have K1 := Lib.hid k1
 clear k1
 have s1 : (w0.alloc (A16 r)).heap.size = w0.heap.size + 1 := by simp
 have orr := (O16.new (w := w0) (Nat.le_refl _) r).alloc (A16 a)
 have oa := O16.new (w := w0.alloc (A16 r)) (B := w0.heap.size) (by omega) a
 rw [s1] at oa
 have hc := ((Below.refl _ w0).alloc (Nat.le_refl _) (A16 r)).alloc (by omega) (A16 a)
 clear s1
 go_enter Tryz.func134, Tryz.ntmps134
 go_upto_region 1 with fail
 obtain ⟨v2, e2⟩ : ∃ v, v = (w0.alloc (A16 r)).alloc (A16 a) := ⟨_, rfl⟩
 rw [← e2] at orr oa hc ⊢
 clear e2
 have hs := hc.size
 have HC : ∀ wz, Below v2.heap.size v2 wz → wz.cell? ⟨w0.heap.size, 0, none⟩ = some (.int .i64 (d : Int)) := fun wz hz => by
  have h := OwnF.cell (orr.keep hz) (k := 0) (by decide)
  rw [h]
  unfold dv16
  rw [hd0]
 have HS := Lib.hid HC
 clear HC
 refine wp_region_inv 11 [5, 6, 7, 8, 9, 10, 11, 12, 13, 14, 15] [.val (.pointer (some ⟨w0.heap.size, 0, none⟩)), .val (.int .i64 (d : Int)), .val (.int .i64 (m : Int)), .val (.bool true), .val (.bool true), .val (fv r), .val (fv r), .val (fv s), .val (fv a), .val (.bool b2), .val (.bool b2)] (fun wz => Below v2.heap.size v2 wz) (by kernel_rfl) (by kernel_rfl) (fun wz wz' hz hb => bnx hz hb) ((Below.refl _ _).drew) (fun u => by simp only [puts, List.foldl_cons, List.foldl_nil]; go_simp; exact rfl) ?_ ?_
 ·simp only [List.take_succ_cons, List.take_zero]
  refine .cons (fun u w hS hd => ?_) ?_
  ·exact Gv.run (.pointer (some ⟨w0.heap.size, 0, none⟩)) rfl (by go_simp) rfl
  refine .cons (fun u w hS hd => ?_) ?_
  ·have d5 : u 5 = .pointer (some ⟨w0.heap.size, 0, none⟩) := dep hd 0 rfl
   rw [d5]
   have s0 := HS.out w hS
   exact Gv.run (.int .i64 (d : Int)) rfl (by go_simp) rfl
  refine .cons (fun u w hS hd => ?_) ?_
  ·have d6 : u 6 = .int .i64 (d : Int) := dep hd 1 rfl
   rw [d6]
   have h1 := hm1
   have h2 := hm2
   exact Gv.run (.int .i64 (m : Int)) rfl (by go_simp) rfl
  refine .cons (fun u w hS hd => ?_) ?_
  ·have d7 : u 7 = .int .i64 (m : Int) := dep hd 2 rfl
   rw [d7]
   have h1 := hb1
   exact Gv.run (.bool true) rfl (by go_simp) rfl
  refine .cons (fun u w hS hd => ?_) ?_
  ·have d8 : u 8 = .bool true := dep hd 3 rfl
   rw [d8]
   exact Gv.run (.bool true) rfl (by go_simp) rfl
  refine .cons (fun u w hS hd => ?_) ?_
  ·have d9 : u 9 = .bool true := dep hd 4 rfl
   rw [d9]
   exact Gv.run (fv r) (by rfl) (run_fload rfl rfl (orr.keep hS)) rfl
  refine .cons (fun u w hS hd => ?_) ?_
  ·have d9 : u 9 = .bool true := dep hd 4 rfl
   rw [d9]
   exact Gv.run (fv r) (by rfl) (run_fload rfl rfl (orr.keep hS)) rfl
  refine .cons (fun u w hS hd => ?_) ?_
  ·have d9 : u 9 = .bool true := dep hd 4 rfl
   rw [d9]
   have d10 : u 10 = fv r := dep hd 5 rfl
   rw [d10]
   have d11 : u 11 = fv r := dep hd 6 rfl
   rw [d11]
   refine Gv.call 82 #[fv r, fv r] rfl (by go_simp) ((K1.out w).mono ?_)
   rintro e w' ⟨rfl, hb⟩
   exact ⟨_, rfl, rfl, hb⟩
  refine .cons (fun u w hS hd => ?_) ?_
  ·have d9 : u 9 = .bool true := dep hd 4 rfl
   rw [d9]
   exact Gv.run (fv a) (by rfl) (run_fload rfl rfl (oa.keep hS)) rfl
  refine .cons (fun u w hS hd => ?_) ?_
  ·have d9 : u 9 = .bool true := dep hd 4 rfl
   rw [d9]
   have d12 : u 12 = fv s := dep hd 7 rfl
   rw [d12]
   have d13 : u 13 = fv a := dep hd 8 rfl
   rw [d13]
   exact Gv.run (.bool b2) rfl (run_eqF rfl rfl rfl hbs hba hb2 w) rfl
  refine .cons (fun u w hS hd => ?_) ?_
  ·have d9 : u 9 = .bool true := dep hd 4 rfl
   rw [d9]
   have d14 : u 14 = .bool b2 := dep hd 9 rfl
   rw [d14]
   exact Gv.run (.bool b2) rfl (by go_simp) rfl
  exact Obs.nil
 ·intro u w hS hd
  have dl : u 15 = .bool b2 := hd 10 (by decide)
  rw [dl]
  simp only [List.drop_succ_cons, List.drop_zero]
  go_wp2_with fail
  go_ret
  exact ⟨rfl, hc.trans (hS.mono hs)⟩
set_option maxHeartbeats 800000 in
theorem reven_two {r a s d m : Nat} {b2 : Bool} (_hba : a < W4) (_hbs : s < W4) (hd0 : d16 r 0 = d) (hm1 : (d : Int).tmod 2 = (m : Int)) (hm2 : (d : Int) % 2 = (m : Int)) (hb1 : ((m : Int) == 0) = false) (_hb2 : decide (s = a) = b2)
  (k1 : ∀ w, Calls Tryz.prog 82 #[fv r, fv r] w fun e w' => e = .returned (fv s) ∧ Below w.heap.size w w') (w0 : World) :
  Calls Tryz.prog 134 #[fv r, fv a] w0 fun e w' => e = .returned (.bool false) ∧ Below w0.heap.size w0 w' := by
 have K1 := Lib.hid k1
 clear k1
 have s1 : (w0.alloc (A16 r)).heap.size = w0.heap.size + 1 := by simp
 have orr := (O16.new (w := w0) (Nat.le_refl _) r).alloc (A16 a)
 have oa := O16.new (w := w0.alloc (A16 r)) (B := w0.heap.size) (by omega) a
 rw [s1] at oa
 have hc := ((Below.refl _ w0).alloc (Nat.le_refl _) (A16 r)).alloc (by omega) (A16 a)
 clear s1
 go_enter Tryz.func134, Tryz.ntmps134
 go_upto_region 1 with fail
 obtain ⟨v2, e2⟩ : ∃ v, v = (w0.alloc (A16 r)).alloc (A16 a) := ⟨_, rfl⟩
 rw [← e2] at orr oa hc ⊢
 clear e2
 have hs := hc.size
 have HC : ∀ wz, Below v2.heap.size v2 wz → wz.cell? ⟨w0.heap.size, 0, none⟩ = some (.int .i64 (d : Int)) := fun wz hz => by
  have h := OwnF.cell (orr.keep hz) (k := 0) (by decide)
  rw [h]
  unfold dv16
  rw [hd0]
 have HS := Lib.hid HC
 clear HC
 refine wp_region_inv 11 [5, 6, 7, 8, 9, 10, 11, 12, 13, 14, 15] [.val (.pointer (some ⟨w0.heap.size, 0, none⟩)), .val (.int .i64 (d : Int)), .val (.int .i64 (m : Int)), .val (.bool false), .val (.bool false), .val (undef), .val (undef), .val (undef), .val (undef), .val (undef), .val (.bool false)] (fun wz => Below v2.heap.size v2 wz) (by kernel_rfl) (by kernel_rfl) (fun wz wz' hz hb => bnx hz hb) ((Below.refl _ _).drew) (fun u => by simp only [puts, List.foldl_cons, List.foldl_nil]; go_simp; exact rfl) ?_ ?_
 ·simp only [List.take_succ_cons, List.take_zero]
  refine .cons (fun u w hS hd => ?_) ?_
  ·exact Gv.run (.pointer (some ⟨w0.heap.size, 0, none⟩)) rfl (by go_simp) rfl
  refine .cons (fun u w hS hd => ?_) ?_
  ·have d5 : u 5 = .pointer (some ⟨w0.heap.size, 0, none⟩) := dep hd 0 rfl
   rw [d5]
   have s0 := HS.out w hS
   exact Gv.run (.int .i64 (d : Int)) rfl (by go_simp) rfl
  refine .cons (fun u w hS hd => ?_) ?_
  ·have d6 : u 6 = .int .i64 (d : Int) := dep hd 1 rfl
   rw [d6]
   have h1 := hm1
   have h2 := hm2
   exact Gv.run (.int .i64 (m : Int)) rfl (by go_simp) rfl
  refine .cons (fun u w hS hd => ?_) ?_
  ·have d7 : u 7 = .int .i64 (m : Int) := dep hd 2 rfl
   rw [d7]
   have h1 := hb1
   exact Gv.run (.bool false) rfl (by go_simp) rfl
  refine .cons (fun u w hS hd => ?_) ?_
  ·have d8 : u 8 = .bool false := dep hd 3 rfl
   rw [d8]
   exact Gv.run (.bool false) rfl (by go_simp) rfl
  refine .cons (fun u w hS hd => ?_) ?_
  ·have d9 : u 9 = .bool false := dep hd 4 rfl
   rw [d9]
   exact Gv.skip (by rfl) rfl
  refine .cons (fun u w hS hd => ?_) ?_
  ·have d9 : u 9 = .bool false := dep hd 4 rfl
   rw [d9]
   exact Gv.skip (by rfl) rfl
  refine .cons (fun u w hS hd => ?_) ?_
  ·have d9 : u 9 = .bool false := dep hd 4 rfl
   rw [d9]
   exact Gv.skip (by rfl) rfl
  refine .cons (fun u w hS hd => ?_) ?_
  ·have d9 : u 9 = .bool false := dep hd 4 rfl
   rw [d9]
   exact Gv.skip (by rfl) rfl
  refine .cons (fun u w hS hd => ?_) ?_
  ·have d9 : u 9 = .bool false := dep hd 4 rfl
   rw [d9]
   exact Gv.skip (by rfl) rfl
  refine .cons (fun u w hS hd => ?_) ?_
  ·have d9 : u 9 = .bool false := dep hd 4 rfl
   rw [d9]
   have d14 : u 14 = undef := dep hd 9 rfl
   rw [d14]
   exact Gv.run (.bool false) rfl (by go_simp) rfl
  exact Obs.nil
 ·intro u w hS hd
  have dl : u 15 = .bool false := hd 10 (by decide)
  rw [dl]
  simp only [List.drop_succ_cons, List.drop_zero]
  go_wp2_with fail
  go_ret
  exact ⟨rfl, hc.trans (hS.mono hs)⟩
theorem d16_par (r : Nat) : d16 r 0 % 2 = r % 2 := by unfold d16 dgt; rw [Nat.pow_zero, Nat.div_one]; omega
theorem reven_any {r a : Nat} (hr : r < W4) (ha : a < W4) (w : World) :
  Calls Tryz.prog 134 #[fv r, fv a] w fun e w' => e = .returned (.bool (decide (r % 2 = 0) && decide (r * r % P25 = a))) ∧ Below w.heap.size w w' := by
 have hp := d16_par r
 have h1 : ((d16 r 0 : Nat) : Int).tmod 2 = ((d16 r 0 % 2 : Nat) : Int) := by rw [Int.tmod_eq_emod_of_nonneg (by omega)]; omega
 have h2 : ((d16 r 0 : Nat) : Int) % 2 = ((d16 r 0 % 2 : Nat) : Int) := by omega
 by_cases h : r % 2 = 0
 ·rw [decide_eq_true h, Bool.true_and]
  exact reven_one ha (red_W4 _) rfl h1 h2 (by rw [hp, h]; rfl) rfl (fun w => rmul_any hr hr w) w
 ·rw [decide_eq_false h, Bool.false_and]
  exact reven_two ha (red_W4 _) rfl h1 h2 (by rw [hp]; simp; omega) (b2 := decide (r * r % P25 = a)) rfl (fun w => rmul_any hr hr w) w
end
section
open Go Go.RowKit
attribute [local irreducible] wd by8 d16 set16w fl
set_option maxRecDepth 20000
set_option maxHeartbeats 3200000 in
theorem rroot_gen {a b t h1 h2 p x0 r : Nat} {T : Bool} {X : Nat → Nat} {E : Nat → Bool} (hX0 : X 0 = x0) (hR : (∀ k, k < 4 → (∀ j, j < k → E j = false) → E k = true → r = X k ∧ T = true) ∧ ((∀ k, k < 4 → E k = false) → r = 0 ∧ T = false))
  (k1 : ∀ w, Calls Tryz.prog 83 #[.int .i64 2] w fun e w' => e = .returned (fv b) ∧ Below w.heap.size w w')
  (k2 : ∀ w, Calls Tryz.prog 116 #[.int .i64 1, .int .i64 4] w fun e w' => ∃ A c n, e = .returned (.slice A n c) ∧ DOwn w' w.heap.size A c n h1 ∧ Below w.heap.size w w')
  (k3 : ∀ (w : World) (A : Option Addr) (c n : Nat), Dig w w.heap.size A c n h1 → Can n h1 → Calls Tryz.prog 115 #[fv b, .slice A n c] w fun e w' => e = .returned (fv t) ∧ Below w.heap.size w w')
  (k4 : ∀ w, Calls Tryz.prog 116 #[.int .i64 5, .int .i64 8] w fun e w' => ∃ A c n, e = .returned (.slice A n c) ∧ DOwn w' w.heap.size A c n h2 ∧ Below w.heap.size w w')
  (k5 : ∀ (w : World) (A : Option Addr) (c n : Nat), Dig w w.heap.size A c n h2 → Can n h2 → Calls Tryz.prog 115 #[fv a, .slice A n c] w fun e w' => e = .returned (fv p) ∧ Below w.heap.size w w')
  (k6 : ∀ w, Calls Tryz.prog 82 #[fv p, fv a] w fun e w' => e = .returned (fv x0) ∧ Below w.heap.size w w')
  (k7 : ∀ k, k < 4 → ∀ w, Calls Tryz.prog 134 #[fv (X k), fv a] w fun e w' => e = .returned (.bool (E k)) ∧ Below w.heap.size w w')
  (k8 : ∀ k, k < 4 → ∀ w, Calls Tryz.prog 82 #[fv (X k), fv t] w fun e w' => e = .returned (fv (X (k + 1))) ∧ Below w.heap.size w w')
  (k9 : ∀ w, Calls Tryz.prog 83 #[.int .i64 0] w fun e w' => e = .returned (fv 0) ∧ Below w.heap.size w w') (w : World) :
  Calls Tryz.prog 110 #[fv a] w fun e w' => e = .returned (.tuple #[fv r, .bool T]) ∧ Below w.heap.size w w' := by
 have K1 := Lib.hid k1
 have K2 := Lib.hid k2
 have K3 := Lib.hid k3
 have K4 := Lib.hid k4
 have K5 := Lib.hid k5
 have K6 := Lib.hid k6
 have K7 := Lib.hid k7
 have K8 := Lib.hid k8
 have K9 := Lib.hid k9
 clear k1 k2 k3 k4 k5 k6 k7 k8 k9
 have HR := Lib.hid hR
 have HX := Lib.hid hX0
 clear hR hX0
 have s1 : (w.alloc (A16 a)).heap.size = w.heap.size + 1 := by simp
 have oa := (O16.new (w := w) (Nat.le_refl _) a).alloc Z16
 have oz := O16.zero (own_Z16 (w := w.alloc (A16 a)) (B := w.heap.size) (by omega))
 rw [s1] at oz
 have hc := ((Below.refl _ w).alloc (Nat.le_refl _) (A16 a)).alloc (by omega) Z16
 clear s1
 go_enter Tryz.func110, Tryz.ntmps110
 go_wp2_with fail
 obtain ⟨v0, e0⟩ : ∃ u, u = (w.alloc (A16 a)).alloc Z16 := ⟨_, rfl⟩
 rw [← e0] at oa oz hc ⊢
 clear e0
 go_at_call 83
 refine (K1.out _).mono ?_
 rintro e v1 ⟨rfl, h0⟩
 replace oa := oa.keep h0
 replace oz := oz.keep h0
 replace hc := bnx hc h0
 clear h0
 go_wp2_with fail
 go_at_call 116
 refine (K2.out _).mono ?_
 rintro e v3 ⟨A1, c1, n1, rfl, d1, h0⟩
 replace oa := oa.keep h0
 replace oz := oz.keep h0
 replace hc := bnx hc h0
 have KP := Lib.hid (K3.out v3 _ _ _ d1.dig d1.can)
 clear h0 d1
 go_wp2_with fail
 go_at_call 115
 refine KP.out.mono ?_
 rintro e v4 ⟨rfl, h0⟩
 replace oa := oa.keep h0
 replace oz := oz.keep h0
 replace hc := bnx hc h0
 clear h0 KP
 have ot0 := O16.zero (own_Z16 (w := v4) (B := w.heap.size) hc.size)
 have ot := Lib.hid (ot0.put t)
 have hb0 := ot0.below t
 have hva := oa.lt
 have hvz := oz.lt
 replace oa := (oa.alloc Z16).other (g' := v4.heap.size) (by omega) t
 replace oz := (oz.alloc Z16).other (g' := v4.heap.size) (by omega) t
 replace hc := (hc.alloc hc.size Z16).trans hb0
 clear ot0 hb0
 obtain ⟨ot0⟩ : Nonempty (O16 (v4.alloc Z16) w.heap.size v4.heap.size 0) := ⟨O16.zero (own_Z16 (w := v4) (B := w.heap.size) (by have := hvz; omega))⟩
 go_upto_region 2 with (first | ((with_reducible refine fl_store ot0 t ?_ ?_ ?_); rfl; rfl))
 replace ot := ot.out
 obtain ⟨v2, e2⟩ : ∃ u, u = set16w (v4.alloc Z16) v4.heap.size t := ⟨_, rfl⟩
 rw [← e2] at oa oz ot hc ⊢
 obtain ⟨gt, hgt⟩ : ∃ g, g = v4.heap.size := ⟨_, rfl⟩
 rw [← hgt] at ot ⊢
 have hgz : w.heap.size + 1 < gt := by omega
 clear e2 ot0 hva hvz hgt
 have hs := hc.size
 refine wp_region_box 7 [some 10, some 11, some 12, some 13, some 14, some 5, none] [.val (fv a), .dig h2 2, .val (fv p), .val (fv a), .val (fv x0), .box 68 16, .holds 5 68 16 (dv16 x0)] v2.heap.size (fun wz => Below v2.heap.size v2 wz) (by kernel_rfl) (by kernel_rfl)
  (fun _ _ h _ hb => h.trans hb) ((Below.refl _ _).drew) (Nat.le_refl _) (fun u => by simp only [List.filterMap_cons, List.filterMap_nil, id, puts, List.foldl_cons, List.foldl_nil]; go_simp; exact rfl) ?_ ?_
 ·simp only [List.take_succ_cons, List.take_zero]
  refine .cons (fun u w L hL hS hBw hd => ?_) ?_
  ·exact GB.run 10 rfl (fv a) rfl (run_fload rfl rfl (oa.keep hS)) rfl rfl
  refine .cons (fun u w L hL hS hBw hd => ?_) ?_
  ·refine GB.call 11 rfl 116 #[.int .i64 5, .int .i64 8] rfl (by go_simp) rfl ((K4.out w).mono ?_)
   rintro e w' ⟨A, c, n, rfl, D, hb⟩
   exact ⟨_, rfl, .inr ⟨A, c, n, rfl, D.dig, D.can⟩, hb⟩
  refine .cons (fun u w L hL hS hBw hd => ?_) ?_
  ·have d10 : u 10 = fv a := depB hd 0 rfl
   rw [d10]
   obtain ⟨A11, c11, n11, d11, g11, k11⟩ : ∃ A c n, u 11 = .slice A n c ∧ Dig w w.heap.size A c n h2 ∧ Can n h2 := (show (Fact.dig h2 2).ok v2.heap.size [some 10, some 11, some 12, some 13, some 14, some 5, none] 1 u w L from depB hd 1 rfl).resolve_left (by rw [show L 2 = false from hL]; exact fun h => nomatch h)
   rw [d11]
   refine GB.call 12 rfl 115 #[fv a, .slice A11 n11 c11] rfl (by go_simp) rfl ((K5.out w _ _ _ g11 k11).mono ?_)
   rintro e w' ⟨rfl, hb⟩
   exact ⟨_, rfl, rfl, hb⟩
  refine .cons (fun u w L hL hS hBw hd => ?_) ?_
  ·exact GB.run 13 rfl (fv a) rfl (run_fload rfl rfl (oa.keep hS)) rfl rfl
  refine .cons (fun u w L hL hS hBw hd => ?_) ?_
  ·have d12 : u 12 = fv p := depB hd 2 rfl
   rw [d12]
   have d13 : u 13 = fv a := depB hd 3 rfl
   rw [d13]
   refine GB.call 14 rfl 82 #[fv p, fv a] rfl (by go_simp) rfl ((K6.out w).mono ?_)
   rintro e w' ⟨rfl, hb⟩
   exact ⟨_, rfl, rfl, hb⟩
  refine .cons (fun u w L hL hS hBw hd => ?_) ?_
  ·exact GB.alloc 5 rfl rfl #[.int .i64 0, .int .i64 0, .int .i64 0, .int .i64 0, .int .i64 0, .int .i64 0, .int .i64 0, .int .i64 0, .int .i64 0, .int .i64 0, .int .i64 0, .int .i64 0, .int .i64 0, .int .i64 0, .int .i64 0, .int .i64 0] 68 16 (fun _ => .int .i64 0) rfl rfl (by go_simp) hBw (by decide) rfl
  refine .cons (fun u w L hL hS hBw hd => ?_) ?_
  ·have d14 : u 14 = fv x0 := depB hd 4 rfl
   obtain ⟨g, fg, e5, o5⟩ : (Fact.box 68 16).ok v2.heap.size [some 10, some 11, some 12, some 13, some 14, some 5, none] 5 u w L := depB hd 5 rfl
   exact GB.store rfl 5 g 68 16 (dv16 x0) rfl rfl rfl e5 (run_fstore rfl (by exact e5) (by exact d14) o5) (only16 w g x0) (put16 o5 x0)
  exact ObsB.nil
 ·intro u1 v5 hS1 hd1
  obtain ⟨gx0, ex0, ox0⟩ : (Fact.holds 5 68 16 (dv16 x0)).ok v2.heap.size [some 10, some 11, some 12, some 13, some 14, some 5, none] 6 u1 v5 (fun _ => true) := hd1 6 (by decide)
  replace ex0 : u1 5 = .pointer (some ⟨gx0, 0, none⟩) := ex0
  replace ox0 : O16 v5 v2.heap.size gx0 x0 := ox0
  replace ox0 : O16 v5 v2.heap.size gx0 x0 := ox0
  rw [ex0]
  clear hd1 ex0
  simp only [List.drop_succ_cons, List.drop_zero]
  have hgtl := ot.lt
  have hgx := ox0.ge
  replace oa := oa.keep hS1
  replace oz := oz.keep hS1
  replace ot := ot.keep hS1
  replace hc := hc.trans (hS1.mono hs)
  have ox : O16 v5 w.heap.size gx0 (X 0) := by rw [HX.out]; exact ox0.mono hs
  clear ox0
  have hne1 : gx0 ≠ w.heap.size := by omega
  have hne2 : gx0 ≠ w.heap.size + 1 := by omega
  have hne3 : gx0 ≠ gt := by omega
  clear hs hS1 hgtl hgx
  go_wp2_with fail
  go_loopw [6] (fun i wr => ∃ k : Nat, k ≤ 4 ∧ i = .int .i64 k ∧ (∀ j, j < k → E j = false) ∧ O16 wr w.heap.size w.heap.size a ∧ O16 wr w.heap.size (w.heap.size + 1) 0 ∧ O16 wr w.heap.size gt t ∧ O16 wr w.heap.size gx0 (X k) ∧ Below w.heap.size w wr)
   (fun i _ => 4 - (intOf i).toNat)
  case atStart => exact ⟨0, by omega, rfl, fun j h => absurd h (by omega), oa, oz, ot, ox, hc⟩
  case round =>
   clear oa oz ot ox hc
   obtain ⟨k, hk, rfl, hall, oa, oz, ot, ox, hc⟩ := hrel
   have HA := Lib.hid hall
   clear hall
   by_cases hlt : k < 4
   ·have g1 : (k : Int) < 4 := by omega
    have KE := Lib.hid (K7.out k hlt)
    have KM := Lib.hid (K8.out k hlt)
    obtain ⟨xk, hxk⟩ : ∃ x, x = X k := ⟨_, rfl⟩
    obtain ⟨xn, hxn⟩ : ∃ x, x = X (k + 1) := ⟨_, rfl⟩
    obtain ⟨ek, hek⟩ : ∃ x, x = E k := ⟨_, rfl⟩
    have HXK := Lib.hid hxk
    have HXN := Lib.hid hxn
    have HEK := Lib.hid hek
    rw [← hxk] at ox KE KM
    rw [← hxn] at KM
    rw [← hek] at KE
    clear hxk hxn hek
    go_wp2_with (first | ((with_reducible refine fl_load ox ?_ ?_); rfl) | ((with_reducible refine fl_load oa ?_ ?_); rfl))
    go_at_call 134
    refine (KE.out _).mono ?_
    rintro e v6 ⟨rfl, h0⟩
    replace oa := oa.keep h0
    replace oz := oz.keep h0
    replace ot := ot.keep h0
    replace ox := ox.keep h0
    replace hc := bnx hc h0
    clear h0
    cases ek
    ·go_wp2_with (first | ((with_reducible refine fl_load ox ?_ ?_); rfl) | ((with_reducible refine fl_load ot ?_ ?_); rfl))
     go_at_call 82
     refine (KM.out _).mono ?_
     rintro e v7 ⟨rfl, h0⟩
     replace oa := oa.keep h0
     replace oz := oz.keep h0
     replace ot := ot.keep h0
     replace ox := ox.keep h0
     replace hc := bnx hc h0
     clear h0
     go_wp2_with (first | ((with_reducible refine fl_store ox xn ?_ ?_ ?_); rfl; rfl))
     refine ⟨⟨k + 1, by omega, by go_num, fun j hj => ?_, oa.other hne1 xn, oz.other hne2 xn, ot.other hne3 xn, by rw [← HXN.out]; exact ox.put xn, hc.trans (ox.below xn)⟩, by simp [intOf]; omega⟩
     by_cases hjk : j = k
     ·rw [hjk, ← HEK.out]
     ·exact HA.out j (by omega)
    ·obtain ⟨er, eT⟩ := HR.out.1 k hlt HA.out HEK.out.symm
     have hop := Lib.hid (oz.put xk)
     have hbz := oz.below xk
     have hrx : r = xk := er.trans HXK.out.symm
     clear KE KM HXN ot oa er
     go_wp2_with (first | ((with_reducible refine fl_load ox ?_ ?_); rfl) | ((with_reducible refine fl_store oz xk ?_ ?_ ?_); rfl; rfl))
     exact bodyPost_ret (fresv Tryz.results110 _ hop.out rfl rfl) rfl ⟨by rw [hrx, eT]; rfl, hc.trans hbz⟩
   ·obtain rfl : k = 4 := by omega
    obtain ⟨er, eT⟩ := HR.out.2 (fun j hj => HA.out j hj)
    clear ot oa ox
    go_wp2_with fail
    go_at_call 83
    refine (K9.out _).mono ?_
    rintro e v6 ⟨rfl, h0⟩
    replace oz := oz.keep h0
    replace hc := bnx hc h0
    clear h0
    have hop := Lib.hid (oz.put 0)
    have hbz := oz.below 0
    go_wp2_with (first | ((with_reducible refine fl_store oz 0 ?_ ?_ ?_); rfl; rfl))
    exact bodyPost_ret (fresv Tryz.results110 _ hop.out rfl rfl) rfl ⟨by rw [er, eT]; rfl, hc.trans hbz⟩
theorem rroot_any {a : Nat} (ha : a < P25) (w : World) :
  Calls Tryz.prog 110 #[fv a] w fun e w' => e = .returned (.tuple #[fv (rtr a), .bool (decide (rtq a = 1))]) ∧ Below w.heap.size w w' := by
 have hb := Nat.lt_trans ha P25_W4
 have k1 : ∀ w, Calls Tryz.prog 83 #[.int .i64 2] w fun e w' => e = .returned (fv 2) ∧ Below w.heap.size w w' := fun w => int_any (n := 2) (by decide) w
 have k2 : ∀ w, Calls Tryz.prog 116 #[.int .i64 1, .int .i64 4] w fun e w' => ∃ A c n, e = .returned (.slice A n c) ∧ DOwn w' w.heap.size A c n TE ∧ Below w.heap.size w w' := fun w => rless_any (n := 1) (b := 4) (by decide) (by decide) (by decide) w
 have k3 : ∀ (b : Nat), b < P25 → ∀ (w : World) (A : Option Addr) (c n : Nat), Dig w w.heap.size A c n TE → Can n TE → Calls Tryz.prog 115 #[fv b, .slice A n c] w fun e w' => e = .returned (fv (pm P25 256 b TE)) ∧ Below w.heap.size w w' := fun b hb w A c n h hc => by
  have h := rpower_any hb (Nat.le_trans (hc 32 (by decide +kernel)) (by decide)) w h (Nat.le_refl _)
  rw [tb_pm] at h
  exact h
 have k4 : ∀ w, Calls Tryz.prog 116 #[.int .i64 5, .int .i64 8] w fun e w' => ∃ A c n, e = .returned (.slice A n c) ∧ DOwn w' w.heap.size A c n ((P25 - 5) / 8) ∧ Below w.heap.size w w' := fun w => rless_any (n := 5) (b := 8) (by decide) (by decide) (by decide) w
 refine rroot_gen (b := 2) (t := TT) (h1 := TE) (h2 := (P25 - 5) / 8) (p := a ^ ((P25 - 5) / 8) % P25) (x0 := XX a 0) (X := XX a) (E := EE a) rfl (root_first ha) k1 k2 (k3 2 (by decide +kernel)) k4
  (fun w A c n h hc => rpower_any ha (Nat.le_trans (hc 32 (by decide +kernel)) (by decide)) w h (Nat.le_refl _)) (fun w => ?_) (fun k _ w => ?_) (fun k _ w => ?_) (fun w => int_any (n := 0) (by decide) w) w
 ·exact rmul_any (red_W4 _) hb w
 ·exact reven_any (Nat.lt_trans (XX_lt a k) P25_W4) hb w
 ·exact rmul_any (Nat.lt_trans (XX_lt a k) P25_W4) (Nat.lt_trans TT_lt P25_W4) w
end
end Go.Proofs.YtkbkalhcdbklkaaGreatDoor
