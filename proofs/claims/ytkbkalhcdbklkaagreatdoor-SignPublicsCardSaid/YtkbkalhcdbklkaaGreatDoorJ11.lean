/-
   The document's Clamp and bit (layer 5), over letters. By an AI agent. The ladder's Clamp and number (layer 5), over letters. By an AI agent.
-/
import Derived.Test.YtkbkalhcdbklkaaGreatDoorJ08
import Derived.Test.YtkbkalhcdbklkaaGreatDoorMT
import Derived.Test.YtkbkalhcdbklkaaGreatDoorJ08
import Derived.Test.YtkbkalhcdbklkaaGreatDoorMS
import Derived.Test.YtkbkalhcdbklkaaGreatDoorJ02
import Derived.Test.YtkbkalhcdbklkaaGreatDoorJ08
import Derived.Test.YtkbkalhcdbklkaaGreatDoorJ10
import Derived.Test.YtkbkalhcdbklkaaGreatDoorMG
namespace Go.Proofs.YtkbkalhcdbklkaaGreatDoor
open Go Go.RowKit
theorem part_int (xs : Array Value) (i : Nat) (v : Value) (h : xs[i]? = some v) (w : World) : (part 3 xs (i * Tryz.prog.cellsOf 3)).run Tryz.prog w = .ok v w := by
  have e : Tryz.prog.cellsOf 3 = 1 := by kernel_rfl
  rw [e, Nat.mul_one]
  simp [part, go_sem, h]
theorem items_int (xs ys : Array Value) (a b : Nat → Int) (w : World) : ∀ is : List Nat, (∀ i ∈ is, xs[i]? = some (.int .i64 (a i)) ∧ ys[i]? = some (.int .i64 (b i))) →
    (Op.eqItems 9999 3 (Tryz.prog.cellsOf 3) xs ys is).run Tryz.prog w = .ok (is.all fun i => a i == b i) w
  | [], _ => rfl
  | i :: is, h => by
    have h0 := h i (by simp)
    have ih := items_int xs ys a b w is (fun j hj => h j (by simp [hj]))
    simp only [Op.eqItems, Sem.run_bind, part_int _ _ _ h0.1, part_int _ _ _ h0.2, Result.andThen_ok, run_equalIn_int w 9998 3 .i64 .i64 (a i) (b i) Tryz.underlying3, List.all_cons]
    cases he : (a i == b i)
    · simp
    · simpa using ih
theorem eqd (x y : Nat) (hx : x < W4) (hy : y < W4) : ((List.range 16).all fun i => ((d16 x i : Nat) : Int) == ((d16 y i : Nat) : Int)) = decide (x = y) := by
  by_cases h : x = y
  · subst h; simp
  · rw [decide_eq_false h]
    cases hb : (List.range 16).all fun i => ((d16 x i : Nat) : Int) == ((d16 y i : Nat) : Int)
    · rfl
    · refine absurd (dgt_ext (b := 65536) (n := 16) (by rw [← W4_d16]; exact hx) (by rw [← W4_d16]; exact hy) fun i hi => ?_) h
      have := List.all_eq_true.1 hb i (by simpa using hi)
      have : ((d16 x i : Nat) : Int) = ((d16 y i : Nat) : Int) := by simpa using this
      exact Int.ofNat.inj this
theorem eqF (x y : Nat) (hx : x < W4) (hy : y < W4) (w : World) : (Op.equalIn 10000 68 (fv x) (fv y)).run Tryz.prog w = .ok (decide (x = y)) w := by
  obtain ⟨i0, hi⟩ : ∃ i, Tryz.prog.info? 3 = some i := by
    have := infoInt
    cases h : Tryz.prog.info? 3 with
    | none => rw [h] at this; simp at this
    | some i => exact ⟨i, rfl⟩
  rw [run_equalIn_array (P := Tryz.prog) (w := w) 9999 _ _ Tryz.underlying68 hi, items_int _ _ (fun i => (d16 x i : Int)) (fun i => (d16 y i : Int)) w (List.range 16), eqd x y hx hy]
  intro i hi
  have hi' : i < 16 := by simpa using hi
  exact ⟨by rw [List.getElem?_toArray, fl_get hi']; rfl, by rw [List.getElem?_toArray, fl_get hi']; rfl⟩
theorem guardF (s1 s2 : Operand) (xs ys : Array Value) (w : World) : (eqGuard .eql 68 s1 s2 (.agg xs) (.agg ys)).run Tryz.prog w = .ok () w := by
  unfold eqGuard; simp [go_sem]
theorem run_eqF {a : Act} {o : Oper} {s1 s2 : Operand} {ty : TypeId} {x y : Nat} {r : Bool} (ho : o.op = .binOp .eql 68 s1 s2 ty) (h1 : a.eval s1 = fv x) (h2 : a.eval s2 = fv y) (hx : x < W4) (hy : y < W4) (hr : decide (x = y) = r) (w : World) :
    (execOp a.eval o).run Tryz.prog w = .ok (.value (.bool r)) w := by
  subst hr
  unfold execOp
  simp only [ho, h1, h2, Sem.run_bind, guardF, Result.andThen_ok, run_eql_struct, eqF x y hx hy, Sem.run_pure]
attribute [local irreducible] wd by8 d16 set16w fl
set_option maxRecDepth 20000
set_option maxHeartbeats 800000 in
theorem reven_one {r a s d m : Nat} {b2 : Bool} (hba : a < W4) (hbs : s < W4) (hd0 : d16 r 0 = d) (hm1 : (d : Int).tmod 2 = (m : Int)) (hm2 : (d : Int) % 2 = (m : Int)) (hb1 : ((m : Int) == 0) = true) (hb2 : decide (s = a) = b2)
    (k1 : ∀ w, Calls Tryz.prog 82 #[fv r, fv r] w fun e w' => e = .returned (fv s) ∧ Below w.heap.size w w') (w0 : World) :
    Calls Tryz.prog 134 #[fv r, fv a] w0 fun e w' => e = .returned (.bool b2) ∧ Below w0.heap.size w0 w' := by
  have K1 := Lib.hid k1
  clear k1
  have s1 : (w0.alloc (A16 r)).heap.size = w0.heap.size + 1 := by simp
  have orr := (O16.new (w := w0) (Nat.le_refl _) r).alloc (A16 a)
  have oa := O16.new (w := w0.alloc (A16 r)) (B := w0.heap.size) (by omega) a
  rw [s1] at oa
  have hc := ((Below.refl _ w0).alloc (Nat.le_refl _) (A16 r)).alloc (by omega) (A16 a)
  clear s1
  go_enter Tryz.func134, Tryz.ntmps134
  go_upto_region 1 with fail
  obtain ⟨v2, e2⟩ : ∃ v, v = (w0.alloc (A16 r)).alloc (A16 a) := ⟨_, rfl⟩
  rw [← e2] at orr oa hc ⊢
  clear e2
  have hs := hc.size
  have HC : ∀ wz, Below v2.heap.size v2 wz → wz.cell? ⟨w0.heap.size, 0, none⟩ = some (.int .i64 (d : Int)) := fun wz hz => by
    have h := OwnF.cell (orr.keep hz) (k := 0) (by decide)
    rw [h]
    unfold dv16
    rw [hd0]
  have HS := Lib.hid HC
  clear HC
  refine wp_region_inv 11 [5, 6, 7, 8, 9, 10, 11, 12, 13, 14, 15] [.val (.pointer (some ⟨w0.heap.size, 0, none⟩)), .val (.int .i64 (d : Int)), .val (.int .i64 (m : Int)), .val (.bool true), .val (.bool true), .val (fv r), .val (fv r), .val (fv s), .val (fv a), .val (.bool b2), .val (.bool b2)] (fun wz => Below v2.heap.size v2 wz) (by kernel_rfl) (by kernel_rfl) (fun wz wz' hz hb => hz.trans (hb.mono hz.size)) ((Below.refl _ _).drew) (fun u => by simp only [puts, List.foldl_cons, List.foldl_nil]; go_simp; exact rfl) ?_ ?_
  · simp only [List.take_succ_cons, List.take_zero]
    refine Obs.cons (fun u w hS hd => ?_) ?_
    · exact Gv.run (.pointer (some ⟨w0.heap.size, 0, none⟩)) rfl (by go_simp) rfl
    refine Obs.cons (fun u w hS hd => ?_) ?_
    · have d5 : u 5 = .pointer (some ⟨w0.heap.size, 0, none⟩) := dep hd 0 rfl
      rw [d5]
      have s0 := HS.out w hS
      exact Gv.run (.int .i64 (d : Int)) rfl (by go_simp) rfl
    refine Obs.cons (fun u w hS hd => ?_) ?_
    · have d6 : u 6 = .int .i64 (d : Int) := dep hd 1 rfl
      rw [d6]
      have h1 := hm1
      have h2 := hm2
      exact Gv.run (.int .i64 (m : Int)) rfl (by go_simp) rfl
    refine Obs.cons (fun u w hS hd => ?_) ?_
    · have d7 : u 7 = .int .i64 (m : Int) := dep hd 2 rfl
      rw [d7]
      have h1 := hb1
      exact Gv.run (.bool true) rfl (by go_simp) rfl
    refine Obs.cons (fun u w hS hd => ?_) ?_
    · have d8 : u 8 = .bool true := dep hd 3 rfl
      rw [d8]
      exact Gv.run (.bool true) rfl (by go_simp) rfl
    refine Obs.cons (fun u w hS hd => ?_) ?_
    · have d9 : u 9 = .bool true := dep hd 4 rfl
      rw [d9]
      exact Gv.run (fv r) (by rfl) (run_fload rfl rfl (orr.keep hS)) rfl
    refine Obs.cons (fun u w hS hd => ?_) ?_
    · have d9 : u 9 = .bool true := dep hd 4 rfl
      rw [d9]
      exact Gv.run (fv r) (by rfl) (run_fload rfl rfl (orr.keep hS)) rfl
    refine Obs.cons (fun u w hS hd => ?_) ?_
    · have d9 : u 9 = .bool true := dep hd 4 rfl
      rw [d9]
      have d10 : u 10 = fv r := dep hd 5 rfl
      rw [d10]
      have d11 : u 11 = fv r := dep hd 6 rfl
      rw [d11]
      refine Gv.call 82 #[fv r, fv r] rfl (by go_simp) ((K1.out w).mono ?_)
      rintro e w' ⟨rfl, hb⟩
      exact ⟨_, rfl, rfl, hb⟩
    refine Obs.cons (fun u w hS hd => ?_) ?_
    · have d9 : u 9 = .bool true := dep hd 4 rfl
      rw [d9]
      exact Gv.run (fv a) (by rfl) (run_fload rfl rfl (oa.keep hS)) rfl
    refine Obs.cons (fun u w hS hd => ?_) ?_
    · have d9 : u 9 = .bool true := dep hd 4 rfl
      rw [d9]
      have d12 : u 12 = fv s := dep hd 7 rfl
      rw [d12]
      have d13 : u 13 = fv a := dep hd 8 rfl
      rw [d13]
      exact Gv.run (.bool b2) rfl (run_eqF rfl rfl rfl hbs hba hb2 w) rfl
    refine Obs.cons (fun u w hS hd => ?_) ?_
    · have d9 : u 9 = .bool true := dep hd 4 rfl
      rw [d9]
      have d14 : u 14 = .bool b2 := dep hd 9 rfl
      rw [d14]
      exact Gv.run (.bool b2) rfl (by go_simp) rfl
    exact Obs.nil
  · intro u w hS hd
    have dl : u 15 = .bool b2 := hd 10 (by decide)
    rw [dl]
    simp only [List.drop_succ_cons, List.drop_zero]
    go_wp2_with fail
    go_ret
    exact ⟨rfl, hc.trans (hS.mono hs)⟩
set_option maxHeartbeats 800000 in
theorem reven_two {r a s d m : Nat} {b2 : Bool} (_hba : a < W4) (_hbs : s < W4) (hd0 : d16 r 0 = d) (hm1 : (d : Int).tmod 2 = (m : Int)) (hm2 : (d : Int) % 2 = (m : Int)) (hb1 : ((m : Int) == 0) = false) (_hb2 : decide (s = a) = b2)
    (k1 : ∀ w, Calls Tryz.prog 82 #[fv r, fv r] w fun e w' => e = .returned (fv s) ∧ Below w.heap.size w w') (w0 : World) :
    Calls Tryz.prog 134 #[fv r, fv a] w0 fun e w' => e = .returned (.bool false) ∧ Below w0.heap.size w0 w' := by
  have K1 := Lib.hid k1
  clear k1
  have s1 : (w0.alloc (A16 r)).heap.size = w0.heap.size + 1 := by simp
  have orr := (O16.new (w := w0) (Nat.le_refl _) r).alloc (A16 a)
  have oa := O16.new (w := w0.alloc (A16 r)) (B := w0.heap.size) (by omega) a
  rw [s1] at oa
  have hc := ((Below.refl _ w0).alloc (Nat.le_refl _) (A16 r)).alloc (by omega) (A16 a)
  clear s1
  go_enter Tryz.func134, Tryz.ntmps134
  go_upto_region 1 with fail
  obtain ⟨v2, e2⟩ : ∃ v, v = (w0.alloc (A16 r)).alloc (A16 a) := ⟨_, rfl⟩
  rw [← e2] at orr oa hc ⊢
  clear e2
  have hs := hc.size
  have HC : ∀ wz, Below v2.heap.size v2 wz → wz.cell? ⟨w0.heap.size, 0, none⟩ = some (.int .i64 (d : Int)) := fun wz hz => by
    have h := OwnF.cell (orr.keep hz) (k := 0) (by decide)
    rw [h]
    unfold dv16
    rw [hd0]
  have HS := Lib.hid HC
  clear HC
  refine wp_region_inv 11 [5, 6, 7, 8, 9, 10, 11, 12, 13, 14, 15] [.val (.pointer (some ⟨w0.heap.size, 0, none⟩)), .val (.int .i64 (d : Int)), .val (.int .i64 (m : Int)), .val (.bool false), .val (.bool false), .val (undef), .val (undef), .val (undef), .val (undef), .val (undef), .val (.bool false)] (fun wz => Below v2.heap.size v2 wz) (by kernel_rfl) (by kernel_rfl) (fun wz wz' hz hb => hz.trans (hb.mono hz.size)) ((Below.refl _ _).drew) (fun u => by simp only [puts, List.foldl_cons, List.foldl_nil]; go_simp; exact rfl) ?_ ?_
  · simp only [List.take_succ_cons, List.take_zero]
    refine Obs.cons (fun u w hS hd => ?_) ?_
    · exact Gv.run (.pointer (some ⟨w0.heap.size, 0, none⟩)) rfl (by go_simp) rfl
    refine Obs.cons (fun u w hS hd => ?_) ?_
    · have d5 : u 5 = .pointer (some ⟨w0.heap.size, 0, none⟩) := dep hd 0 rfl
      rw [d5]
      have s0 := HS.out w hS
      exact Gv.run (.int .i64 (d : Int)) rfl (by go_simp) rfl
    refine Obs.cons (fun u w hS hd => ?_) ?_
    · have d6 : u 6 = .int .i64 (d : Int) := dep hd 1 rfl
      rw [d6]
      have h1 := hm1
      have h2 := hm2
      exact Gv.run (.int .i64 (m : Int)) rfl (by go_simp) rfl
    refine Obs.cons (fun u w hS hd => ?_) ?_
    · have d7 : u 7 = .int .i64 (m : Int) := dep hd 2 rfl
      rw [d7]
      have h1 := hb1
      exact Gv.run (.bool false) rfl (by go_simp) rfl
    refine Obs.cons (fun u w hS hd => ?_) ?_
    · have d8 : u 8 = .bool false := dep hd 3 rfl
      rw [d8]
      exact Gv.run (.bool false) rfl (by go_simp) rfl
    refine Obs.cons (fun u w hS hd => ?_) ?_
    · have d9 : u 9 = .bool false := dep hd 4 rfl
      rw [d9]
      exact Gv.skip (by rfl) rfl
    refine Obs.cons (fun u w hS hd => ?_) ?_
    · have d9 : u 9 = .bool false := dep hd 4 rfl
      rw [d9]
      exact Gv.skip (by rfl) rfl
    refine Obs.cons (fun u w hS hd => ?_) ?_
    · have d9 : u 9 = .bool false := dep hd 4 rfl
      rw [d9]
      exact Gv.skip (by rfl) rfl
    refine Obs.cons (fun u w hS hd => ?_) ?_
    · have d9 : u 9 = .bool false := dep hd 4 rfl
      rw [d9]
      exact Gv.skip (by rfl) rfl
    refine Obs.cons (fun u w hS hd => ?_) ?_
    · have d9 : u 9 = .bool false := dep hd 4 rfl
      rw [d9]
      exact Gv.skip (by rfl) rfl
    refine Obs.cons (fun u w hS hd => ?_) ?_
    · have d9 : u 9 = .bool false := dep hd 4 rfl
      rw [d9]
      have d14 : u 14 = undef := dep hd 9 rfl
      rw [d14]
      exact Gv.run (.bool false) rfl (by go_simp) rfl
    exact Obs.nil
  · intro u w hS hd
    have dl : u 15 = .bool false := hd 10 (by decide)
    rw [dl]
    simp only [List.drop_succ_cons, List.drop_zero]
    go_wp2_with fail
    go_ret
    exact ⟨rfl, hc.trans (hS.mono hs)⟩
theorem d16_par (r : Nat) : d16 r 0 % 2 = r % 2 := by unfold d16 dgt; rw [Nat.pow_zero, Nat.div_one]; omega
theorem reven_any {r a : Nat} (hr : r < W4) (ha : a < W4) (w : World) :
    Calls Tryz.prog 134 #[fv r, fv a] w fun e w' => e = .returned (.bool (decide (r % 2 = 0) && decide (r * r % P25 = a))) ∧ Below w.heap.size w w' := by
  have hp := d16_par r
  have h1 : ((d16 r 0 : Nat) : Int).tmod 2 = ((d16 r 0 % 2 : Nat) : Int) := by rw [Int.tmod_eq_emod_of_nonneg (by omega)]; omega
  have h2 : ((d16 r 0 : Nat) : Int) % 2 = ((d16 r 0 % 2 : Nat) : Int) := by omega
  by_cases h : r % 2 = 0
  · rw [decide_eq_true h, Bool.true_and]
    exact reven_one ha (red_W4 _) rfl h1 h2 (by rw [hp, h]; rfl) rfl (fun w => rmul_any hr hr w) w
  · rw [decide_eq_false h, Bool.false_and]
    exact reven_two ha (red_W4 _) rfl h1 h2 (by rw [hp]; simp; omega) (b2 := decide (r * r % P25 = a)) rfl (fun w => rmul_any hr hr w) w
end Go.Proofs.YtkbkalhcdbklkaaGreatDoor
namespace Go.Proofs.YtkbkalhcdbklkaaGreatDoor
open Go Go.RowKit
/-- A secret clamped, in numbers. -/
def clam (x : Nat) : Nat := 8 * (x / 8 % 2 ^ 251) + 2 ^ 254
theorem clam_zero (x : Nat) : by8 (clam x) 0 = by8 x 0 - by8 x 0 % 8 := by
  unfold clam by8 dgt
  simp only [Nat.reducePow, Nat.pow_zero, Nat.div_one]
  omega
theorem clam_top (x : Nat) : by8 (clam x) 31 = by8 x 31 % 64 + 64 := by
  unfold clam by8 dgt
  simp only [Nat.reducePow]
  omega
theorem clam_mid (x : Nat) {k : Nat} (h1 : 1 ≤ k) (h2 : k < 31) : by8 (clam x) k = by8 x k := by
  unfold clam by8 dgt
  have : k = 1 ∨ k = 2 ∨ k = 3 ∨ k = 4 ∨ k = 5 ∨ k = 6 ∨ k = 7 ∨ k = 8 ∨ k = 9 ∨ k = 10 ∨ k = 11 ∨ k = 12 ∨ k = 13 ∨ k = 14 ∨ k = 15 ∨ k = 16 ∨ k = 17 ∨ k = 18 ∨ k = 19 ∨ k = 20 ∨ k = 21 ∨ k = 22 ∨ k = 23 ∨ k = 24 ∨ k = 25 ∨ k = 26 ∨ k = 27 ∨ k = 28 ∨ k = 29 ∨ k = 30 := by omega
  rcases this with rfl | rfl | rfl | rfl | rfl | rfl | rfl | rfl | rfl | rfl | rfl | rfl | rfl | rfl | rfl | rfl | rfl | rfl | rfl | rfl | rfl | rfl | rfl | rfl | rfl | rfl | rfl | rfl | rfl | rfl <;>
    (simp only [Nat.reducePow]; omega)
theorem clam_lt (x : Nat) : clam x < 2 ^ 255 := by
  unfold clam
  have := Nat.mod_lt (x / 8) (show 0 < 2 ^ 251 by decide)
  omega
theorem clam_W4 (x : Nat) : clam x < W4 := Nat.lt_trans (clam_lt x) (by decide +kernel)
/-- The first block's byte is rounded down, the last one's is filled up. -/
theorem clam_set {bs : List UInt8} (hl : bs.length = 32) {b0 b1 : UInt8} (h0 : b0.toNat = nth bs 0 - nth bs 0 % 8) (h1 : b1.toNat = nth bs 31 % 64 + 64) :
    (bs.set 0 b0).set 31 b1 = gen (bf (clam (vb bs))) 32 := by
  have hv : ∀ i, i < 32 → by8 (vb bs) i = nth bs i := fun i hi => by unfold vb; rw [hl]; exact vk_dig bs i 32 hi
  refine nth_ext (by simp [gen_length, hl]) fun k hk => ?_
  have hk' : k < 32 := by simpa [hl] using hk
  rw [nth_gen hk', bf_nat, nth_set _ _ _ _ (by simp [hl]), nth_set _ _ _ _ (by omega)]
  by_cases e31 : 31 = k
  · subst e31; rw [if_pos rfl, h1, clam_top, hv 31 (by decide)]
  · rw [if_neg e31]
    by_cases e0 : 0 = k
    · subst e0; rw [if_pos rfl, h0, clam_zero, hv 0 (by decide)]
    · rw [if_neg e0, clam_mid _ (by omega) (by omega), hv k hk']
set_option maxRecDepth 20000
set_option maxHeartbeats 800000 in
theorem rclamp_gen {A : Option Addr} {B c : Nat} {bs : List UInt8} (h32 : bs.length = 32) (w : World) (hr : Rd w B A c bs) (hB : B ≤ w.heap.size) :
    Calls Tryz.prog 47 #[.slice A bs.length c] w fun e w' => ∃ A' c', e = .returned (.tuple #[.slice A' bs.length c', .int .i64 0]) ∧ Own w' w.heap.size 5 A' c' (gen (bf (clam (vb bs))) 32) ∧ Below w.heap.size w w' := by
  obtain ⟨i0, hi, hz0, hz1, hz2⟩ := info_parts infoByte
  have h2 : Rd (w.alloc (.cells #[] 5)) B A c bs := hr.keep ((Below.refl B w).alloc hB _)
  have h3 : Own (w.alloc (.cells #[] 5)) w.heap.size 5 (some ⟨w.heap.size, 0, none⟩) 0 [] := World.ownsRow_made w #[] 0 (Nat.le_refl _) (by decide) (by decide)
  have h4 : Below w.heap.size w (w.alloc (.cells #[] 5)) := (Below.refl _ w).alloc (Nat.le_refl _) _
  obtain ⟨z, hz⟩ : ∃ z, z = clam (vb bs) := ⟨_, rfl⟩
  have l0 := nth_lt bs 0
  have l31 := nth_lt bs 31
  have hset := @clam_set bs h32 (UInt8.ofNat (nth bs 0 - nth bs 0 % 8)) (UInt8.ofNat (nth bs 31 % 64 + 64)) (by simp; omega) (by simp; omega)
  have hs1 : nth (bs.set 0 (UInt8.ofNat (nth bs 0 - nth bs 0 % 8))) 31 = nth bs 31 := by rw [nth_set _ _ _ _ (by omega), if_neg (by decide)]
  have hb0 : (UInt8.ofNat (nth bs 0 - nth bs 0 % 8)).toNat = nth bs 0 - nth bs 0 % 8 := by simp; omega
  have hb1 : (UInt8.ofNat (nth bs 31 % 64 + 64)).toNat = nth bs 31 % 64 + 64 := by simp; omega
  generalize UInt8.ofNat (nth bs 0 - nth bs 0 % 8) = b0 at hset hs1 hb0
  generalize UInt8.ofNat (nth bs 31 % 64 + 64) = b1 at hset hb1
  rw [← hz] at hset ⊢
  clear hz
  have t0 : (nth bs 0 : Int).tmod 8 = ((nth bs 0 % 8 : Nat) : Int) := by rw [Int.tmod_eq_emod_of_nonneg (by omega)]; omega
  have t31 : (nth bs 31 : Int).tmod 64 = ((nth bs 31 % 64 : Nat) : Int) := by rw [Int.tmod_eq_emod_of_nonneg (by omega)]; omega
  have u0 : IntKind.u8.wrap ((nth bs 0 % 8 : Nat) : Int) = ((nth bs 0 % 8 : Nat) : Int) := by rw [IntKind.wrap_u8]; omega
  have u1 : IntKind.u8.wrap ((nth bs 0 : Int) - ((nth bs 0 % 8 : Nat) : Int)) = (b0.toNat : Int) := by rw [IntKind.wrap_u8, hb0]; omega
  have u2 : IntKind.u8.wrap ((nth bs 31 % 64 : Nat) : Int) = ((nth bs 31 % 64 : Nat) : Int) := by rw [IntKind.wrap_u8]; omega
  have u3 : IntKind.u8.wrap (((nth bs 31 % 64 : Nat) : Int) + 64) = (b1.toNat : Int) := by rw [IntKind.wrap_u8, hb1]; omega
  generalize hy0 : nth bs 0 % 8 = m0 at *
  generalize hy1 : nth bs 31 % 64 = m1 at *
  have g1 : ((bs.length : Int) == 32) = true := by simp; omega
  have g2 : ((bs.length : Int) != 32) = false := by simp; omega
  have gl0 : (0 : Int) < (bs.length : Int) := by omega
  have gl31 : (31 : Int) < (bs.length : Int) := by omega
  clear hb0 hb1 hy0 hy1
  go_enter Tryz.func47, Tryz.ntmps47
  go_upto_region 4 with (at_builtin; refine wpList_app _ rfl (.tmp 8) (.tmp 9) _ rfl w.heap.size 5 i0 _ Tryz.underlying22 hi hz0 hz1 hz2 rfl (xs := []) rfl h3 rfl h2 (by simp only [List.length_nil]; omega) (by simp) ?_; intro A1 c1 v1 ho hb)
  replace ho : Own v1 w.heap.size 5 A1 c1 bs := ho
  have hc := h4.trans hb
  clear h2 h3 h4 hb hr
  obtain ⟨g, rfl⟩ := ho.at0 (by omega)
  have hs := hc.size
  have HO := Lib.hid (fun wz (hz : Below v1.heap.size v1 wz) => (ho.keep hz).cell (k := 0) (by omega))
  refine wp_region_inv 10 [11, 12, 13, 14, 15, 16, 17, 18, 19, 20] [.val (.slice (some ⟨g, 0, none⟩) bs.length c1), .val (.slice (some ⟨g, 0, none⟩) bs.length c1), .val (.pointer (some ⟨g, 0, none⟩)), .val (.int .u8 (nth bs 0 : Int)), .val (.slice (some ⟨g, 0, none⟩) bs.length c1), .val (.pointer (some ⟨g, 0, none⟩)), .val (.int .u8 (nth bs 0 : Int)), .val (.int .u8 ((m0 : Nat) : Int)), .val (.int .u8 (b0.toNat : Int)), .val (.pointer (some ⟨g, 0, none⟩))] (fun wz => Below v1.heap.size v1 wz) (by kernel_rfl) (by kernel_rfl) (fun wz wz' hz hb => hz.trans (hb.mono hz.size)) ((Below.refl _ _).drew) (fun u => by simp only [puts, List.foldl_cons, List.foldl_nil]; go_simp; exact rfl) ?_ ?_
  · simp only [List.take_succ_cons, List.take_zero]
    refine Obs.cons (fun u w hS hd => ?_) ?_
    · exact Gv.run (.slice (some ⟨g, 0, none⟩) bs.length c1) rfl (by go_simp) rfl
    refine Obs.cons (fun u w hS hd => ?_) ?_
    · exact Gv.run (.slice (some ⟨g, 0, none⟩) bs.length c1) rfl (by go_simp) rfl
    refine Obs.cons (fun u w hS hd => ?_) ?_
    · have d12 : u 12 = .slice (some ⟨g, 0, none⟩) bs.length c1 := dep hd 1 rfl
      rw [d12]
      exact Gv.run (.pointer (some ⟨g, 0, none⟩)) rfl (by go_simp) rfl
    refine Obs.cons (fun u w hS hd => ?_) ?_
    · have d13 : u 13 = .pointer (some ⟨g, 0, none⟩) := dep hd 2 rfl
      rw [d13]
      have hcl := HO.out w hS
      exact Gv.run (.int .u8 (nth bs 0 : Int)) rfl (by go_simp) rfl
    refine Obs.cons (fun u w hS hd => ?_) ?_
    · exact Gv.run (.slice (some ⟨g, 0, none⟩) bs.length c1) rfl (by go_simp) rfl
    refine Obs.cons (fun u w hS hd => ?_) ?_
    · have d15 : u 15 = .slice (some ⟨g, 0, none⟩) bs.length c1 := dep hd 4 rfl
      rw [d15]
      exact Gv.run (.pointer (some ⟨g, 0, none⟩)) rfl (by go_simp) rfl
    refine Obs.cons (fun u w hS hd => ?_) ?_
    · have d16 : u 16 = .pointer (some ⟨g, 0, none⟩) := dep hd 5 rfl
      rw [d16]
      have hcl := HO.out w hS
      exact Gv.run (.int .u8 (nth bs 0 : Int)) rfl (by go_simp) rfl
    refine Obs.cons (fun u w hS hd => ?_) ?_
    · have d17 : u 17 = .int .u8 (nth bs 0 : Int) := dep hd 6 rfl
      rw [d17]
      exact Gv.run (.int .u8 ((m0 : Nat) : Int)) rfl (by go_simp) rfl
    refine Obs.cons (fun u w hS hd => ?_) ?_
    · have d14 : u 14 = .int .u8 (nth bs 0 : Int) := dep hd 3 rfl
      rw [d14]
      have d18 : u 18 = .int .u8 ((m0 : Nat) : Int) := dep hd 7 rfl
      rw [d18]
      exact Gv.run (.int .u8 (b0.toNat : Int)) rfl (by go_simp) rfl
    refine Obs.cons (fun u w hS hd => ?_) ?_
    · have d11 : u 11 = .slice (some ⟨g, 0, none⟩) bs.length c1 := dep hd 0 rfl
      rw [d11]
      exact Gv.run (.pointer (some ⟨g, 0, none⟩)) rfl (by go_simp) rfl
    exact Obs.nil
  · intro u v2 hS hd
    have d19 : u 19 = .int .u8 (b0.toNat : Int) := hd 8 (by decide)
    have d20 : u 20 = .pointer (some ⟨g, 0, none⟩) := hd 9 (by decide)
    rw [d19, d20]
    have ho2 := ho.keep hS
    have o3 := ho2.set_ 0 b0
    have cl := ho2.cell (k := 0) (by omega)
    have fr := ho2.free 0
    have cl3 := o3.cell (k := 31) (by rw [List.length_set]; omega)
    have fr3 := o3.free 31
    have o4 := o3.set_ 31 b1
    rw [hs1] at cl3
    rw [hset] at o4
    have b3 : Below w.heap.size w _ := (hc.trans (hS.mono hs)).setCell (p := ⟨g, 0, none⟩) ho2.ge (.int .u8 (b0.toNat : Int))
    have b4 : Below w.heap.size w _ := b3.setCell (p := ⟨g, 31, none⟩) ho2.ge (.int .u8 (b1.toNat : Int))
    simp only [List.drop_succ_cons, List.drop_zero]
    go_wp2_with fail
    refine bodyPost_ret (v := .tuple #[.slice (some ⟨g, 0, none⟩) bs.length c1, .int .i64 0]) (by simp [results, Tryz.results47, go_sem, h32]) rfl ⟨_, _, rfl, o4, b4⟩
theorem rclamp_any {A : Option Addr} {B c : Nat} {bs : List UInt8} (h32 : bs.length = 32) (w : World) (hr : Rd w B A c bs) (hB : B ≤ w.heap.size) :
    Calls Tryz.prog 47 #[.slice A 32 c] w fun e w' => ∃ A' c', e = .returned (.tuple #[.slice A' 32 c', .int .i64 0]) ∧ Own w' w.heap.size 5 A' c' (gen (bf (clam (vb bs))) 32) ∧ Below w.heap.size w w' := by
  have h := rclamp_gen h32 w hr hB
  rwa [h32] at h
/-- A secret's i-th bit. -/
def sbit (x i : Nat) : Nat := x / 2 ^ i % 2
end Go.Proofs.YtkbkalhcdbklkaaGreatDoor
namespace Go.Proofs.YtkbkalhcdbklkaaGreatDoor
open Go Go.RowKit
theorem andNot7 : ∀ x : Fin 256, bits .andNot .u8 (x.val : Int) 7 = ((x.val - x.val % 8 : Nat) : Int) := by decide +kernel
theorem and63 : ∀ x : Fin 256, bits .and .u8 (x.val : Int) 63 = ((x.val % 64 : Nat) : Int) := by decide +kernel
theorem or64 : ∀ x : Fin 64, bits .or .u8 (x.val : Int) 64 = ((x.val + 64 : Nat) : Int) := by decide +kernel
set_option maxRecDepth 20000
theorem clone_any {A : Option Addr} {B c : Nat} {bs : List UInt8} (h0 : 0 < bs.length) (hl : bs.length ≤ 140737488355328) (w : World) (hr : Rd w B A c bs) (hB : B ≤ w.heap.size) :
    Calls Tryz.prog 87 #[.slice A bs.length c] w fun e w' => ∃ A' c', e = .returned (.slice A' bs.length c') ∧ Own w' w.heap.size 5 A' c' bs ∧ Below w.heap.size w w' := by
  obtain ⟨i0, hi, hz0, hz1, hz2⟩ := info_parts infoByte
  obtain ⟨b0, o0, rfl, _, _⟩ := hr.at_ h0
  have h2 : Rd (w.alloc (.cells #[] 5)) B (some ⟨b0, o0, none⟩) c bs := hr.keep ((Below.refl B w).alloc hB _)
  have h3 : Own (w.alloc (.cells #[] 5)) w.heap.size 5 (some ⟨w.heap.size, 0, none⟩) 0 [] := World.ownsRow_made w #[] 0 (Nat.le_refl _) (by decide) (by decide)
  have h4 : Below w.heap.size w (w.alloc (.cells #[] 5)) := (Below.refl _ w).alloc (Nat.le_refl _) _
  have he : ∀ w : World, (binOp .eql 22 (.slice (some ⟨b0, o0, none⟩) bs.length c) (.slice none 0 0)).run Tryz.prog w = .ok (.bool false) w := fun _ => rfl
  go_enter Tryz.func87, Tryz.ntmps87
  go_wp2_with (at_builtin; refine wpList_app _ rfl (.tmp 5) (.tmp 6) _ rfl w.heap.size 5 i0 _ Tryz.underlying22 hi hz0 hz1 hz2 rfl (xs := []) rfl h3 rfl h2 (by simpa using hl) (by simp) ?_; intro A1 c1 v1 ho hb)
  replace ho : Own v1 w.heap.size 5 A1 c1 bs := ho
  go_ret
  exact ⟨A1, c1, rfl, ho, h4.trans hb⟩
set_option maxHeartbeats 800000 in
theorem gclamp_gen {A : Option Addr} {B c : Nat} {bs : List UInt8} (h32 : bs.length = 32) (w : World) (hr : Rd w B A c bs) (hB : B ≤ w.heap.size) :
    Calls Tryz.prog 44 #[.slice A bs.length c] w fun e w' => ∃ A' c', e = .returned (.tuple #[.slice A' bs.length c', .int .i64 0]) ∧ Own w' w.heap.size 5 A' c' (gen (bf (clam (vb bs))) 32) ∧ Below w.heap.size w w' := by
  have KL := Lib.hid (clone_any (by omega) (by omega) w hr hB)
  obtain ⟨z, hz⟩ : ∃ z, z = clam (vb bs) := ⟨_, rfl⟩
  have l0 := nth_lt bs 0
  have l31 := nth_lt bs 31
  have hset := @clam_set bs h32 (UInt8.ofNat (nth bs 0 - nth bs 0 % 8)) (UInt8.ofNat (nth bs 31 % 64 + 64)) (by simp; omega) (by simp; omega)
  have hs1 : nth (bs.set 0 (UInt8.ofNat (nth bs 0 - nth bs 0 % 8))) 31 = nth bs 31 := by rw [nth_set _ _ _ _ (by omega), if_neg (by decide)]
  have hb0 : (UInt8.ofNat (nth bs 0 - nth bs 0 % 8)).toNat = nth bs 0 - nth bs 0 % 8 := by simp; omega
  have hb1 : (UInt8.ofNat (nth bs 31 % 64 + 64)).toNat = nth bs 31 % 64 + 64 := by simp; omega
  generalize UInt8.ofNat (nth bs 0 - nth bs 0 % 8) = b0 at hset hs1 hb0
  generalize UInt8.ofNat (nth bs 31 % 64 + 64) = b1 at hset hb1
  rw [← hz] at hset ⊢
  clear hz
  have u1 : bits .andNot .u8 (nth bs 0 : Int) 7 = (b0.toNat : Int) := by rw [hb0]; exact andNot7 ⟨nth bs 0, l0⟩
  have u2 : bits .and .u8 (nth bs 31 : Int) 63 = ((nth bs 31 % 64 : Nat) : Int) := and63 ⟨nth bs 31, l31⟩
  have u3 : bits .or .u8 ((nth bs 31 % 64 : Nat) : Int) 64 = (b1.toNat : Int) := by rw [hb1]; exact or64 ⟨nth bs 31 % 64, Nat.mod_lt _ (by decide)⟩
  generalize hy1 : nth bs 31 % 64 = m1 at *
  have g1 : ((bs.length : Int) == 32) = true := by simp; omega
  have g2 : ((bs.length : Int) != 32) = false := by simp; omega
  have hp : 0 < bs.length := by omega
  have gl0 : (0 : Int) < (bs.length : Int) := by omega
  have gl31 : (31 : Int) < (bs.length : Int) := by omega
  have H32 := Lib.hid h32
  clear hb0 hb1 hy1 h32
  go_enter Tryz.func44, Tryz.ntmps44
  go_wp2_with fail
  go_at_call 87
  refine KL.out.mono ?_
  rintro e v1 ⟨A1, c1, rfl, ho, hc⟩
  clear KL
  obtain ⟨g, rfl⟩ := ho.at0 hp
  have o3 := ho.set_ 0 b0
  have cl := ho.cell (k := 0) hp
  have fr := ho.free 0
  have cl3 := o3.cell (k := 31) (by rw [List.length_set, H32.out]; decide)
  have fr3 := o3.free 31
  have o4 := o3.set_ 31 b1
  rw [hs1] at cl3
  rw [hset] at o4
  have b3 : Below w.heap.size w _ := hc.setCell (p := ⟨g, 0, none⟩) ho.ge (.int .u8 (b0.toNat : Int))
  have b4 : Below w.heap.size w _ := b3.setCell (p := ⟨g, 31, none⟩) ho.ge (.int .u8 (b1.toNat : Int))
  go_wp2_with fail
  refine bodyPost_ret (v := .tuple #[.slice (some ⟨g, 0, none⟩) bs.length c1, .int .i64 0]) (by simp [results, Tryz.results44, go_sem, H32.out]) rfl ⟨_, _, rfl, o4, b4⟩
theorem gclamp_any {A : Option Addr} {B c : Nat} {bs : List UInt8} (h32 : bs.length = 32) (w : World) (hr : Rd w B A c bs) (hB : B ≤ w.heap.size) :
    Calls Tryz.prog 44 #[.slice A 32 c] w fun e w' => ∃ A' c', e = .returned (.tuple #[.slice A' 32 c', .int .i64 0]) ∧ Own w' w.heap.size 5 A' c' (gen (bf (clam (vb bs))) 32) ∧ Below w.heap.size w w' := by
  have h := gclamp_gen h32 w hr hB
  rwa [h32] at h
end Go.Proofs.YtkbkalhcdbklkaaGreatDoor
