import Derived.Test.YtecphnhdcphgbaaDoorMU
import Derived.Test.YtecphnhdcphgbaaDoorMT
import Derived.Test.YtecphnhdcphgbaaDoorRootN
namespace Go.Proofs.YtecphnhdcphgbaaDoor
open Go Go.RowKit
theorem part_int (xs : Array Value) (i : Nat) (v : Value) (h : xs[i]? = some v) (w : World) : (part 3 xs (i * Tryd.prog.cellsOf 3)).run Tryd.prog w = .ok v w := by
  have e : Tryd.prog.cellsOf 3 = 1 := by kernel_rfl
  rw [e, Nat.mul_one]
  simp [part, go_sem, h]
theorem items_int (xs ys : Array Value) (a b : Nat → Int) (w : World) : ∀ is : List Nat, (∀ i ∈ is, xs[i]? = some (.int .i64 (a i)) ∧ ys[i]? = some (.int .i64 (b i))) →
    (Op.eqItems 9999 3 (Tryd.prog.cellsOf 3) xs ys is).run Tryd.prog w = .ok (is.all fun i => a i == b i) w
  | [], _ => rfl
  | i :: is, h => by
    have h0 := h i (by simp)
    have ih := items_int xs ys a b w is (fun j hj => h j (by simp [hj]))
    simp only [Op.eqItems, Sem.run_bind, part_int _ _ _ h0.1, part_int _ _ _ h0.2, Result.andThen_ok, run_equalIn_int w 9998 3 .i64 .i64 (a i) (b i) Tryd.underlying3, List.all_cons]
    cases he : (a i == b i)
    · simp
    · simpa using ih
theorem eqd (x y : Nat) (hx : x < W4) (hy : y < W4) : ((List.range 16).all fun i => ((d16 x i : Nat) : Int) == ((d16 y i : Nat) : Int)) = decide (x = y) := by
  by_cases h : x = y
  · subst h; simp
  · rw [decide_eq_false h]
    cases hb : (List.range 16).all fun i => ((d16 x i : Nat) : Int) == ((d16 y i : Nat) : Int)
    · rfl
    · refine absurd (dgt_ext (b := 65536) (n := 16) (by rw [← W4_d16]; exact hx) (by rw [← W4_d16]; exact hy) fun i hi => ?_) h
      have := List.all_eq_true.1 hb i (by simpa using hi)
      have : ((d16 x i : Nat) : Int) = ((d16 y i : Nat) : Int) := by simpa using this
      exact Int.ofNat.inj this
theorem eqF (x y : Nat) (hx : x < W4) (hy : y < W4) (w : World) : (Op.equalIn 10000 26 (fv x) (fv y)).run Tryd.prog w = .ok (decide (x = y)) w := by
  obtain ⟨i0, hi⟩ : ∃ i, Tryd.prog.info? 3 = some i := by
    have := infoInt
    cases h : Tryd.prog.info? 3 with
    | none => rw [h] at this; simp at this
    | some i => exact ⟨i, rfl⟩
  rw [run_equalIn_array (P := Tryd.prog) (w := w) 9999 _ _ Tryd.underlying26 hi, items_int _ _ (fun i => (d16 x i : Int)) (fun i => (d16 y i : Int)) w (List.range 16), eqd x y hx hy]
  intro i hi
  have hi' : i < 16 := by simpa using hi
  exact ⟨by rw [List.getElem?_toArray, fl_get hi']; rfl, by rw [List.getElem?_toArray, fl_get hi']; rfl⟩
theorem guardF (s1 s2 : Operand) (xs ys : Array Value) (w : World) : (eqGuard .eql 26 s1 s2 (.agg xs) (.agg ys)).run Tryd.prog w = .ok () w := by
  unfold eqGuard; simp [go_sem]
theorem run_eqF {a : Act} {o : Oper} {s1 s2 : Operand} {ty : TypeId} {x y : Nat} {r : Bool} (ho : o.op = .binOp .eql 26 s1 s2 ty) (h1 : a.eval s1 = fv x) (h2 : a.eval s2 = fv y) (hx : x < W4) (hy : y < W4) (hr : decide (x = y) = r) (w : World) :
    (execOp a.eval o).run Tryd.prog w = .ok (.value (.bool r)) w := by
  subst hr
  unfold execOp
  simp only [ho, h1, h2, Sem.run_bind, guardF, Result.andThen_ok, run_eql_struct, eqF x y hx hy, Sem.run_pure]
attribute [local irreducible] wd by8 d16 set16w fl
set_option maxRecDepth 20000
set_option maxHeartbeats 800000 in
theorem rsquare_one {x p h : Nat} {b2 : Bool} (_hbx : x < W4) (hbp : p < W4) (hb1 : decide (p = 1) = true) (_hb2 : decide (x = 0) = b2)
    (k1 : ∀ w, Calls Tryd.prog 40 #[.int .i64 1, .int .i64 2] w fun e w' => ∃ A c n, e = .returned (.slice A n c) ∧ DOwn w' w.heap.size A c n h ∧ Below w.heap.size w w')
    (k2 : ∀ (w : World) (A : Option Addr) (c n : Nat), Dig w w.heap.size A c n h → Can n h → Calls Tryd.prog 38 #[fv x, .slice A n c] w fun e w' => e = .returned (fv p) ∧ Below w.heap.size w w')
    (k3 : ∀ w, Calls Tryd.prog 39 #[.int .i64 1] w fun e w' => e = .returned (fv 1) ∧ Below w.heap.size w w') (k4 : ∀ w, Calls Tryd.prog 39 #[.int .i64 0] w fun e w' => e = .returned (fv 0) ∧ Below w.heap.size w w') (w : World) :
    Calls Tryd.prog 20 #[fv x] w fun e w' => e = .returned (.bool true) ∧ Below w.heap.size w w' := by
  have one_W4 : 1 < W4 := by decide +kernel
  have K1 := Lib.hid k1
  have K2 := Lib.hid k2
  have K3 := Lib.hid k3
  have K4 := Lib.hid k4
  clear k1 k2 k3 k4
  obtain ⟨v2, e2⟩ : ∃ v, v = w.alloc (A16 x) := ⟨_, rfl⟩
  have ox : O16 v2 w.heap.size w.heap.size x := by rw [e2]; exact O16.new (Nat.le_refl _) x
  have hc : Below w.heap.size w v2 := by rw [e2]; exact (Below.refl _ w).alloc (Nat.le_refl _) _
  have hs := hc.size
  go_enter Tryd.func20, Tryd.ntmps20
  go_upto_region 1 with fail
  rw [← e2]
  clear e2
  refine wp_region_box 5 [some 4, some 5, some 6, some 3, none] [.val (fv x), .dig h 2, .val (fv p), .box 26 16, .holds 3 26 16 (dv16 p)] v2.heap.size (fun wz => Below v2.heap.size v2 wz) (by kernel_rfl) (by kernel_rfl)
    (fun _ _ h _ hb => h.trans hb) ((Below.refl _ _).drew) (Nat.le_refl _) (fun u => by simp only [List.filterMap_cons, List.filterMap_nil, id, puts, List.foldl_cons, List.foldl_nil]; go_simp; exact rfl) ?_ ?_
  · simp only [List.take_succ_cons, List.take_zero]
    refine ObsB.cons (fun u w L hL hS hBw hd => ?_) ?_
    · exact GB.run 4 rfl (fv x) rfl (run_fload rfl rfl (ox.keep hS)) rfl rfl
    refine ObsB.cons (fun u w L hL hS hBw hd => ?_) ?_
    · refine GB.call 5 rfl 40 #[.int .i64 1, .int .i64 2] rfl (by go_simp) rfl ((K1.out w).mono ?_)
      rintro e w' ⟨A, c, n, rfl, D, hb⟩
      exact ⟨_, rfl, .inr ⟨A, c, n, rfl, D.dig, D.can⟩, hb⟩
    refine ObsB.cons (fun u w L hL hS hBw hd => ?_) ?_
    · have d4 : u 4 = fv x := depB hd 0 rfl
      rw [d4]
      obtain ⟨A5, c5, n5, d5, g5, k5⟩ : ∃ A c n, u 5 = .slice A n c ∧ Dig w w.heap.size A c n h ∧ Can n h := (show (Fact.dig h 2).ok v2.heap.size [some 4, some 5, some 6, some 3, none] 1 u w L from depB hd 1 rfl).resolve_left (by rw [show L 2 = false from hL]; exact fun h => nomatch h)
      rw [d5]
      refine GB.call 6 rfl 38 #[fv x, .slice A5 n5 c5] rfl (by go_simp) rfl ((K2.out w _ _ _ g5 k5).mono ?_)
      rintro e w' ⟨rfl, hb⟩
      exact ⟨_, rfl, rfl, hb⟩
    refine ObsB.cons (fun u w L hL hS hBw hd => ?_) ?_
    · exact GB.alloc 3 rfl rfl #[.int .i64 0, .int .i64 0, .int .i64 0, .int .i64 0, .int .i64 0, .int .i64 0, .int .i64 0, .int .i64 0, .int .i64 0, .int .i64 0, .int .i64 0, .int .i64 0, .int .i64 0, .int .i64 0, .int .i64 0, .int .i64 0] 26 16 (fun _ => .int .i64 0) rfl rfl (by go_simp) hBw (by decide) rfl
    refine ObsB.cons (fun u w L hL hS hBw hd => ?_) ?_
    · have d6 : u 6 = fv p := depB hd 2 rfl
      obtain ⟨g, fg, e3, o3⟩ : (Fact.box 26 16).ok v2.heap.size [some 4, some 5, some 6, some 3, none] 3 u w L := depB hd 3 rfl
      exact GB.store rfl 3 g 26 16 (dv16 p) rfl rfl rfl e3 (run_fstore rfl (by exact e3) (by exact d6) o3) (only16 w g p) (put16 o3 p)
    exact ObsB.nil
  · intro u1 v5 hS1 hd1
    obtain ⟨gp, ep, op⟩ : (Fact.holds 3 26 16 (dv16 p)).ok v2.heap.size [some 4, some 5, some 6, some 3, none] 4 u1 v5 (fun _ => true) := hd1 4 (by decide)
    replace ep : u1 3 = .pointer (some ⟨gp, 0, none⟩) := ep
    replace op : O16 v5 v2.heap.size gp p := op
    rw [ep]
    clear hd1 ep
    simp only [List.drop_succ_cons, List.drop_zero]
    replace ox := ox.keep hS1
    replace op : O16 v5 v2.heap.size gp p := op
    replace hc := hc.trans (hS1.mono hs)
    clear hs hS1
    have hs := hc.size
    go_upto_region 2 with fail
    refine wp_region_inv 8 [7, 8, 9, 10, 11, 12, 13, 14] [.val (fv p), .val (fv 1), .val (.bool true), .val (.bool true), .val (undef), .val (undef), .val (undef), .val (.bool true)] (fun wz => Below v5.heap.size v5 wz) (by kernel_rfl) (by kernel_rfl) (fun wz wz' hz hb => hz.trans (hb.mono hz.size)) ((Below.refl _ _).drew) (fun u => by simp only [puts, List.foldl_cons, List.foldl_nil]; go_simp; exact rfl) ?_ ?_
    · simp only [List.take_succ_cons, List.take_zero]
      refine Obs.cons (fun u w hS hd => ?_) ?_
      · exact Gv.run (fv p) rfl (run_fload rfl rfl (op.keep hS)) rfl
      refine Obs.cons (fun u w hS hd => ?_) ?_
      · refine Gv.call 39 #[.int .i64 1] rfl (by go_simp) ((K3.out w).mono ?_)
        rintro e w' ⟨rfl, hb⟩
        exact ⟨_, rfl, rfl, hb⟩
      refine Obs.cons (fun u w hS hd => ?_) ?_
      · have d7 : u 7 = fv p := dep hd 0 rfl
        rw [d7]
        have d8 : u 8 = fv 1 := dep hd 1 rfl
        rw [d8]
        exact Gv.run (.bool true) rfl (run_eqF rfl rfl rfl hbp one_W4 hb1 w) rfl
      refine Obs.cons (fun u w hS hd => ?_) ?_
      · have d9 : u 9 = .bool true := dep hd 2 rfl
        rw [d9]
        exact Gv.run (.bool true) rfl (by go_simp) rfl
      refine Obs.cons (fun u w hS hd => ?_) ?_
      · have d10 : u 10 = .bool true := dep hd 3 rfl
        rw [d10]
        exact Gv.skip (by rfl) rfl
      refine Obs.cons (fun u w hS hd => ?_) ?_
      · have d10 : u 10 = .bool true := dep hd 3 rfl
        rw [d10]
        exact Gv.skip (by rfl) rfl
      refine Obs.cons (fun u w hS hd => ?_) ?_
      · have d10 : u 10 = .bool true := dep hd 3 rfl
        rw [d10]
        exact Gv.skip (by rfl) rfl
      refine Obs.cons (fun u w hS hd => ?_) ?_
      · have d10 : u 10 = .bool true := dep hd 3 rfl
        rw [d10]
        have d13 : u 13 = undef := dep hd 6 rfl
        rw [d13]
        exact Gv.run (.bool true) rfl (by go_simp) rfl
      exact Obs.nil
    · intro u w hS hd
      have dl : u 14 = .bool true := hd 7 (by decide)
      rw [dl]
      simp only [List.drop_succ_cons, List.drop_zero]
      go_wp2_with fail
      go_ret
      exact ⟨rfl, hc.trans (hS.mono hs)⟩
set_option maxHeartbeats 800000 in
theorem rsquare_two {x p h : Nat} {b2 : Bool} (hbx : x < W4) (hbp : p < W4) (hb1 : decide (p = 1) = false) (hb2 : decide (x = 0) = b2)
    (k1 : ∀ w, Calls Tryd.prog 40 #[.int .i64 1, .int .i64 2] w fun e w' => ∃ A c n, e = .returned (.slice A n c) ∧ DOwn w' w.heap.size A c n h ∧ Below w.heap.size w w')
    (k2 : ∀ (w : World) (A : Option Addr) (c n : Nat), Dig w w.heap.size A c n h → Can n h → Calls Tryd.prog 38 #[fv x, .slice A n c] w fun e w' => e = .returned (fv p) ∧ Below w.heap.size w w')
    (k3 : ∀ w, Calls Tryd.prog 39 #[.int .i64 1] w fun e w' => e = .returned (fv 1) ∧ Below w.heap.size w w') (k4 : ∀ w, Calls Tryd.prog 39 #[.int .i64 0] w fun e w' => e = .returned (fv 0) ∧ Below w.heap.size w w') (w : World) :
    Calls Tryd.prog 20 #[fv x] w fun e w' => e = .returned (.bool b2) ∧ Below w.heap.size w w' := by
  have one_W4 : 1 < W4 := by decide +kernel
  have K1 := Lib.hid k1
  have K2 := Lib.hid k2
  have K3 := Lib.hid k3
  have K4 := Lib.hid k4
  clear k1 k2 k3 k4
  obtain ⟨v2, e2⟩ : ∃ v, v = w.alloc (A16 x) := ⟨_, rfl⟩
  have ox : O16 v2 w.heap.size w.heap.size x := by rw [e2]; exact O16.new (Nat.le_refl _) x
  have hc : Below w.heap.size w v2 := by rw [e2]; exact (Below.refl _ w).alloc (Nat.le_refl _) _
  have hs := hc.size
  go_enter Tryd.func20, Tryd.ntmps20
  go_upto_region 1 with fail
  rw [← e2]
  clear e2
  refine wp_region_box 5 [some 4, some 5, some 6, some 3, none] [.val (fv x), .dig h 2, .val (fv p), .box 26 16, .holds 3 26 16 (dv16 p)] v2.heap.size (fun wz => Below v2.heap.size v2 wz) (by kernel_rfl) (by kernel_rfl)
    (fun _ _ h _ hb => h.trans hb) ((Below.refl _ _).drew) (Nat.le_refl _) (fun u => by simp only [List.filterMap_cons, List.filterMap_nil, id, puts, List.foldl_cons, List.foldl_nil]; go_simp; exact rfl) ?_ ?_
  · simp only [List.take_succ_cons, List.take_zero]
    refine ObsB.cons (fun u w L hL hS hBw hd => ?_) ?_
    · exact GB.run 4 rfl (fv x) rfl (run_fload rfl rfl (ox.keep hS)) rfl rfl
    refine ObsB.cons (fun u w L hL hS hBw hd => ?_) ?_
    · refine GB.call 5 rfl 40 #[.int .i64 1, .int .i64 2] rfl (by go_simp) rfl ((K1.out w).mono ?_)
      rintro e w' ⟨A, c, n, rfl, D, hb⟩
      exact ⟨_, rfl, .inr ⟨A, c, n, rfl, D.dig, D.can⟩, hb⟩
    refine ObsB.cons (fun u w L hL hS hBw hd => ?_) ?_
    · have d4 : u 4 = fv x := depB hd 0 rfl
      rw [d4]
      obtain ⟨A5, c5, n5, d5, g5, k5⟩ : ∃ A c n, u 5 = .slice A n c ∧ Dig w w.heap.size A c n h ∧ Can n h := (show (Fact.dig h 2).ok v2.heap.size [some 4, some 5, some 6, some 3, none] 1 u w L from depB hd 1 rfl).resolve_left (by rw [show L 2 = false from hL]; exact fun h => nomatch h)
      rw [d5]
      refine GB.call 6 rfl 38 #[fv x, .slice A5 n5 c5] rfl (by go_simp) rfl ((K2.out w _ _ _ g5 k5).mono ?_)
      rintro e w' ⟨rfl, hb⟩
      exact ⟨_, rfl, rfl, hb⟩
    refine ObsB.cons (fun u w L hL hS hBw hd => ?_) ?_
    · exact GB.alloc 3 rfl rfl #[.int .i64 0, .int .i64 0, .int .i64 0, .int .i64 0, .int .i64 0, .int .i64 0, .int .i64 0, .int .i64 0, .int .i64 0, .int .i64 0, .int .i64 0, .int .i64 0, .int .i64 0, .int .i64 0, .int .i64 0, .int .i64 0] 26 16 (fun _ => .int .i64 0) rfl rfl (by go_simp) hBw (by decide) rfl
    refine ObsB.cons (fun u w L hL hS hBw hd => ?_) ?_
    · have d6 : u 6 = fv p := depB hd 2 rfl
      obtain ⟨g, fg, e3, o3⟩ : (Fact.box 26 16).ok v2.heap.size [some 4, some 5, some 6, some 3, none] 3 u w L := depB hd 3 rfl
      exact GB.store rfl 3 g 26 16 (dv16 p) rfl rfl rfl e3 (run_fstore rfl (by exact e3) (by exact d6) o3) (only16 w g p) (put16 o3 p)
    exact ObsB.nil
  · intro u1 v5 hS1 hd1
    obtain ⟨gp, ep, op⟩ : (Fact.holds 3 26 16 (dv16 p)).ok v2.heap.size [some 4, some 5, some 6, some 3, none] 4 u1 v5 (fun _ => true) := hd1 4 (by decide)
    replace ep : u1 3 = .pointer (some ⟨gp, 0, none⟩) := ep
    replace op : O16 v5 v2.heap.size gp p := op
    rw [ep]
    clear hd1 ep
    simp only [List.drop_succ_cons, List.drop_zero]
    replace ox := ox.keep hS1
    replace op : O16 v5 v2.heap.size gp p := op
    replace hc := hc.trans (hS1.mono hs)
    clear hs hS1
    have hs := hc.size
    go_upto_region 2 with fail
    refine wp_region_inv 8 [7, 8, 9, 10, 11, 12, 13, 14] [.val (fv p), .val (fv 1), .val (.bool false), .val (.bool false), .val (fv x), .val (fv 0), .val (.bool b2), .val (.bool b2)] (fun wz => Below v5.heap.size v5 wz) (by kernel_rfl) (by kernel_rfl) (fun wz wz' hz hb => hz.trans (hb.mono hz.size)) ((Below.refl _ _).drew) (fun u => by simp only [puts, List.foldl_cons, List.foldl_nil]; go_simp; exact rfl) ?_ ?_
    · simp only [List.take_succ_cons, List.take_zero]
      refine Obs.cons (fun u w hS hd => ?_) ?_
      · exact Gv.run (fv p) rfl (run_fload rfl rfl (op.keep hS)) rfl
      refine Obs.cons (fun u w hS hd => ?_) ?_
      · refine Gv.call 39 #[.int .i64 1] rfl (by go_simp) ((K3.out w).mono ?_)
        rintro e w' ⟨rfl, hb⟩
        exact ⟨_, rfl, rfl, hb⟩
      refine Obs.cons (fun u w hS hd => ?_) ?_
      · have d7 : u 7 = fv p := dep hd 0 rfl
        rw [d7]
        have d8 : u 8 = fv 1 := dep hd 1 rfl
        rw [d8]
        exact Gv.run (.bool false) rfl (run_eqF rfl rfl rfl hbp one_W4 hb1 w) rfl
      refine Obs.cons (fun u w hS hd => ?_) ?_
      · have d9 : u 9 = .bool false := dep hd 2 rfl
        rw [d9]
        exact Gv.run (.bool false) rfl (by go_simp) rfl
      refine Obs.cons (fun u w hS hd => ?_) ?_
      · have d10 : u 10 = .bool false := dep hd 3 rfl
        rw [d10]
        exact Gv.run (fv x) (by rfl) (run_fload rfl rfl (ox.keep hS)) rfl
      refine Obs.cons (fun u w hS hd => ?_) ?_
      · have d10 : u 10 = .bool false := dep hd 3 rfl
        rw [d10]
        refine Gv.call 39 #[.int .i64 0] rfl (by go_simp) ((K4.out w).mono ?_)
        rintro e w' ⟨rfl, hb⟩
        exact ⟨_, rfl, rfl, hb⟩
      refine Obs.cons (fun u w hS hd => ?_) ?_
      · have d10 : u 10 = .bool false := dep hd 3 rfl
        rw [d10]
        have d11 : u 11 = fv x := dep hd 4 rfl
        rw [d11]
        have d12 : u 12 = fv 0 := dep hd 5 rfl
        rw [d12]
        exact Gv.run (.bool b2) rfl (run_eqF rfl rfl rfl hbx W4_pos hb2 w) rfl
      refine Obs.cons (fun u w hS hd => ?_) ?_
      · have d10 : u 10 = .bool false := dep hd 3 rfl
        rw [d10]
        have d13 : u 13 = .bool b2 := dep hd 6 rfl
        rw [d13]
        exact Gv.run (.bool b2) rfl (by go_simp) rfl
      exact Obs.nil
    · intro u w hS hd
      have dl : u 14 = .bool b2 := hd 7 (by decide)
      rw [dl]
      simp only [List.drop_succ_cons, List.drop_zero]
      go_wp2_with fail
      go_ret
      exact ⟨rfl, hc.trans (hS.mono hs)⟩
set_option maxHeartbeats 800000 in
theorem reven_one {r a s d m : Nat} {b2 : Bool} (hba : a < W4) (hbs : s < W4) (hd0 : d16 r 0 = d) (hm1 : (d : Int).tmod 2 = (m : Int)) (hm2 : (d : Int) % 2 = (m : Int)) (hb1 : ((m : Int) == 0) = true) (hb2 : decide (s = a) = b2)
    (k1 : ∀ w, Calls Tryd.prog 41 #[fv r, fv r] w fun e w' => e = .returned (fv s) ∧ Below w.heap.size w w') (w0 : World) :
    Calls Tryd.prog 42 #[fv r, fv a] w0 fun e w' => e = .returned (.bool b2) ∧ Below w0.heap.size w0 w' := by
  have K1 := Lib.hid k1
  clear k1
  have s1 : (w0.alloc (A16 r)).heap.size = w0.heap.size + 1 := by simp
  have orr := (O16.new (w := w0) (Nat.le_refl _) r).alloc (A16 a)
  have oa := O16.new (w := w0.alloc (A16 r)) (B := w0.heap.size) (by omega) a
  rw [s1] at oa
  have hc := ((Below.refl _ w0).alloc (Nat.le_refl _) (A16 r)).alloc (by omega) (A16 a)
  clear s1
  go_enter Tryd.func42, Tryd.ntmps42
  go_upto_region 1 with fail
  obtain ⟨v2, e2⟩ : ∃ v, v = (w0.alloc (A16 r)).alloc (A16 a) := ⟨_, rfl⟩
  rw [← e2] at orr oa hc ⊢
  clear e2
  have hs := hc.size
  have HC : ∀ wz, Below v2.heap.size v2 wz → wz.cell? ⟨w0.heap.size, 0, none⟩ = some (.int .i64 (d : Int)) := fun wz hz => by
    have h := OwnF.cell (orr.keep hz) (k := 0) (by decide)
    rw [h]
    unfold dv16
    rw [hd0]
  have HS := Lib.hid HC
  clear HC
  refine wp_region_inv 11 [5, 6, 7, 8, 9, 10, 11, 12, 13, 14, 15] [.val (.pointer (some ⟨w0.heap.size, 0, none⟩)), .val (.int .i64 (d : Int)), .val (.int .i64 (m : Int)), .val (.bool true), .val (.bool true), .val (fv r), .val (fv r), .val (fv s), .val (fv a), .val (.bool b2), .val (.bool b2)] (fun wz => Below v2.heap.size v2 wz) (by kernel_rfl) (by kernel_rfl) (fun wz wz' hz hb => hz.trans (hb.mono hz.size)) ((Below.refl _ _).drew) (fun u => by simp only [puts, List.foldl_cons, List.foldl_nil]; go_simp; exact rfl) ?_ ?_
  · simp only [List.take_succ_cons, List.take_zero]
    refine Obs.cons (fun u w hS hd => ?_) ?_
    · exact Gv.run (.pointer (some ⟨w0.heap.size, 0, none⟩)) rfl (by go_simp) rfl
    refine Obs.cons (fun u w hS hd => ?_) ?_
    · have d5 : u 5 = .pointer (some ⟨w0.heap.size, 0, none⟩) := dep hd 0 rfl
      rw [d5]
      have s0 := HS.out w hS
      exact Gv.run (.int .i64 (d : Int)) rfl (by go_simp) rfl
    refine Obs.cons (fun u w hS hd => ?_) ?_
    · have d6 : u 6 = .int .i64 (d : Int) := dep hd 1 rfl
      rw [d6]
      have h1 := hm1
      have h2 := hm2
      exact Gv.run (.int .i64 (m : Int)) rfl (by go_simp) rfl
    refine Obs.cons (fun u w hS hd => ?_) ?_
    · have d7 : u 7 = .int .i64 (m : Int) := dep hd 2 rfl
      rw [d7]
      have h1 := hb1
      exact Gv.run (.bool true) rfl (by go_simp) rfl
    refine Obs.cons (fun u w hS hd => ?_) ?_
    · have d8 : u 8 = .bool true := dep hd 3 rfl
      rw [d8]
      exact Gv.run (.bool true) rfl (by go_simp) rfl
    refine Obs.cons (fun u w hS hd => ?_) ?_
    · have d9 : u 9 = .bool true := dep hd 4 rfl
      rw [d9]
      exact Gv.run (fv r) (by rfl) (run_fload rfl rfl (orr.keep hS)) rfl
    refine Obs.cons (fun u w hS hd => ?_) ?_
    · have d9 : u 9 = .bool true := dep hd 4 rfl
      rw [d9]
      exact Gv.run (fv r) (by rfl) (run_fload rfl rfl (orr.keep hS)) rfl
    refine Obs.cons (fun u w hS hd => ?_) ?_
    · have d9 : u 9 = .bool true := dep hd 4 rfl
      rw [d9]
      have d10 : u 10 = fv r := dep hd 5 rfl
      rw [d10]
      have d11 : u 11 = fv r := dep hd 6 rfl
      rw [d11]
      refine Gv.call 41 #[fv r, fv r] rfl (by go_simp) ((K1.out w).mono ?_)
      rintro e w' ⟨rfl, hb⟩
      exact ⟨_, rfl, rfl, hb⟩
    refine Obs.cons (fun u w hS hd => ?_) ?_
    · have d9 : u 9 = .bool true := dep hd 4 rfl
      rw [d9]
      exact Gv.run (fv a) (by rfl) (run_fload rfl rfl (oa.keep hS)) rfl
    refine Obs.cons (fun u w hS hd => ?_) ?_
    · have d9 : u 9 = .bool true := dep hd 4 rfl
      rw [d9]
      have d12 : u 12 = fv s := dep hd 7 rfl
      rw [d12]
      have d13 : u 13 = fv a := dep hd 8 rfl
      rw [d13]
      exact Gv.run (.bool b2) rfl (run_eqF rfl rfl rfl hbs hba hb2 w) rfl
    refine Obs.cons (fun u w hS hd => ?_) ?_
    · have d9 : u 9 = .bool true := dep hd 4 rfl
      rw [d9]
      have d14 : u 14 = .bool b2 := dep hd 9 rfl
      rw [d14]
      exact Gv.run (.bool b2) rfl (by go_simp) rfl
    exact Obs.nil
  · intro u w hS hd
    have dl : u 15 = .bool b2 := hd 10 (by decide)
    rw [dl]
    simp only [List.drop_succ_cons, List.drop_zero]
    go_wp2_with fail
    go_ret
    exact ⟨rfl, hc.trans (hS.mono hs)⟩
set_option maxHeartbeats 800000 in
theorem reven_two {r a s d m : Nat} {b2 : Bool} (_hba : a < W4) (_hbs : s < W4) (hd0 : d16 r 0 = d) (hm1 : (d : Int).tmod 2 = (m : Int)) (hm2 : (d : Int) % 2 = (m : Int)) (hb1 : ((m : Int) == 0) = false) (_hb2 : decide (s = a) = b2)
    (k1 : ∀ w, Calls Tryd.prog 41 #[fv r, fv r] w fun e w' => e = .returned (fv s) ∧ Below w.heap.size w w') (w0 : World) :
    Calls Tryd.prog 42 #[fv r, fv a] w0 fun e w' => e = .returned (.bool false) ∧ Below w0.heap.size w0 w' := by
  have K1 := Lib.hid k1
  clear k1
  have s1 : (w0.alloc (A16 r)).heap.size = w0.heap.size + 1 := by simp
  have orr := (O16.new (w := w0) (Nat.le_refl _) r).alloc (A16 a)
  have oa := O16.new (w := w0.alloc (A16 r)) (B := w0.heap.size) (by omega) a
  rw [s1] at oa
  have hc := ((Below.refl _ w0).alloc (Nat.le_refl _) (A16 r)).alloc (by omega) (A16 a)
  clear s1
  go_enter Tryd.func42, Tryd.ntmps42
  go_upto_region 1 with fail
  obtain ⟨v2, e2⟩ : ∃ v, v = (w0.alloc (A16 r)).alloc (A16 a) := ⟨_, rfl⟩
  rw [← e2] at orr oa hc ⊢
  clear e2
  have hs := hc.size
  have HC : ∀ wz, Below v2.heap.size v2 wz → wz.cell? ⟨w0.heap.size, 0, none⟩ = some (.int .i64 (d : Int)) := fun wz hz => by
    have h := OwnF.cell (orr.keep hz) (k := 0) (by decide)
    rw [h]
    unfold dv16
    rw [hd0]
  have HS := Lib.hid HC
  clear HC
  refine wp_region_inv 11 [5, 6, 7, 8, 9, 10, 11, 12, 13, 14, 15] [.val (.pointer (some ⟨w0.heap.size, 0, none⟩)), .val (.int .i64 (d : Int)), .val (.int .i64 (m : Int)), .val (.bool false), .val (.bool false), .val (undef), .val (undef), .val (undef), .val (undef), .val (undef), .val (.bool false)] (fun wz => Below v2.heap.size v2 wz) (by kernel_rfl) (by kernel_rfl) (fun wz wz' hz hb => hz.trans (hb.mono hz.size)) ((Below.refl _ _).drew) (fun u => by simp only [puts, List.foldl_cons, List.foldl_nil]; go_simp; exact rfl) ?_ ?_
  · simp only [List.take_succ_cons, List.take_zero]
    refine Obs.cons (fun u w hS hd => ?_) ?_
    · exact Gv.run (.pointer (some ⟨w0.heap.size, 0, none⟩)) rfl (by go_simp) rfl
    refine Obs.cons (fun u w hS hd => ?_) ?_
    · have d5 : u 5 = .pointer (some ⟨w0.heap.size, 0, none⟩) := dep hd 0 rfl
      rw [d5]
      have s0 := HS.out w hS
      exact Gv.run (.int .i64 (d : Int)) rfl (by go_simp) rfl
    refine Obs.cons (fun u w hS hd => ?_) ?_
    · have d6 : u 6 = .int .i64 (d : Int) := dep hd 1 rfl
      rw [d6]
      have h1 := hm1
      have h2 := hm2
      exact Gv.run (.int .i64 (m : Int)) rfl (by go_simp) rfl
    refine Obs.cons (fun u w hS hd => ?_) ?_
    · have d7 : u 7 = .int .i64 (m : Int) := dep hd 2 rfl
      rw [d7]
      have h1 := hb1
      exact Gv.run (.bool false) rfl (by go_simp) rfl
    refine Obs.cons (fun u w hS hd => ?_) ?_
    · have d8 : u 8 = .bool false := dep hd 3 rfl
      rw [d8]
      exact Gv.run (.bool false) rfl (by go_simp) rfl
    refine Obs.cons (fun u w hS hd => ?_) ?_
    · have d9 : u 9 = .bool false := dep hd 4 rfl
      rw [d9]
      exact Gv.skip (by rfl) rfl
    refine Obs.cons (fun u w hS hd => ?_) ?_
    · have d9 : u 9 = .bool false := dep hd 4 rfl
      rw [d9]
      exact Gv.skip (by rfl) rfl
    refine Obs.cons (fun u w hS hd => ?_) ?_
    · have d9 : u 9 = .bool false := dep hd 4 rfl
      rw [d9]
      exact Gv.skip (by rfl) rfl
    refine Obs.cons (fun u w hS hd => ?_) ?_
    · have d9 : u 9 = .bool false := dep hd 4 rfl
      rw [d9]
      exact Gv.skip (by rfl) rfl
    refine Obs.cons (fun u w hS hd => ?_) ?_
    · have d9 : u 9 = .bool false := dep hd 4 rfl
      rw [d9]
      exact Gv.skip (by rfl) rfl
    refine Obs.cons (fun u w hS hd => ?_) ?_
    · have d9 : u 9 = .bool false := dep hd 4 rfl
      rw [d9]
      have d14 : u 14 = undef := dep hd 9 rfl
      rw [d14]
      exact Gv.run (.bool false) rfl (by go_simp) rfl
    exact Obs.nil
  · intro u w hS hd
    have dl : u 15 = .bool false := hd 10 (by decide)
    rw [dl]
    simp only [List.drop_succ_cons, List.drop_zero]
    go_wp2_with fail
    go_ret
    exact ⟨rfl, hc.trans (hS.mono hs)⟩
theorem rsquare_any {x : Nat} (hx : x < P25) (w : World) :
    Calls Tryd.prog 20 #[fv x] w fun e w' => e = .returned (.bool (decide (rtq x = 1))) ∧ Below w.heap.size w w' := by
  have hb := Nat.lt_trans hx P25_W4
  have k1 : ∀ w, Calls Tryd.prog 40 #[.int .i64 1, .int .i64 2] w fun e w' => ∃ A c n, e = .returned (.slice A n c) ∧ DOwn w' w.heap.size A c n ((P25 - 1) / 2) ∧ Below w.heap.size w w' := fun w => rless_any (n := 1) (b := 2) (by decide) (by decide) (by decide) w
  have k2 : ∀ (w : World) (A : Option Addr) (c n : Nat), Dig w w.heap.size A c n ((P25 - 1) / 2) → Can n ((P25 - 1) / 2) → Calls Tryd.prog 38 #[fv x, .slice A n c] w fun e w' => e = .returned (fv (x ^ ((P25 - 1) / 2) % P25)) ∧ Below w.heap.size w w' := fun w A c n h hc => rpower_any hx (Nat.le_trans (hc 32 (by decide +kernel)) (by decide)) w h (Nat.le_refl _)
  have k3 : ∀ w, Calls Tryd.prog 39 #[.int .i64 1] w fun e w' => e = .returned (fv 1) ∧ Below w.heap.size w w' := fun w => int_any (n := 1) (by decide) w
  have k4 : ∀ w, Calls Tryd.prog 39 #[.int .i64 0] w fun e w' => e = .returned (fv 0) ∧ Below w.heap.size w w' := fun w => int_any (n := 0) (by decide) w
  rw [← euler hx]
  by_cases h : x ^ ((P25 - 1) / 2) % P25 = 1
  · rw [decide_eq_true h, Bool.true_or]
    exact rsquare_one hb (red_W4 _) (decide_eq_true h) rfl k1 k2 k3 k4 w
  · rw [decide_eq_false h, Bool.false_or]
    exact rsquare_two hb (red_W4 _) (decide_eq_false h) rfl k1 k2 k3 k4 w
theorem d16_par (r : Nat) : d16 r 0 % 2 = r % 2 := by unfold d16 dgt; rw [Nat.pow_zero, Nat.div_one]; omega
theorem reven_any {r a : Nat} (hr : r < W4) (ha : a < W4) (w : World) :
    Calls Tryd.prog 42 #[fv r, fv a] w fun e w' => e = .returned (.bool (decide (r % 2 = 0) && decide (r * r % P25 = a))) ∧ Below w.heap.size w w' := by
  have hp := d16_par r
  have h1 : ((d16 r 0 : Nat) : Int).tmod 2 = ((d16 r 0 % 2 : Nat) : Int) := by rw [Int.tmod_eq_emod_of_nonneg (by omega)]; omega
  have h2 : ((d16 r 0 : Nat) : Int) % 2 = ((d16 r 0 % 2 : Nat) : Int) := by omega
  by_cases h : r % 2 = 0
  · rw [decide_eq_true h, Bool.true_and]
    exact reven_one ha (red_W4 _) rfl h1 h2 (by rw [hp, h]; rfl) rfl (fun w => rmul_any hr hr w) w
  · rw [decide_eq_false h, Bool.false_and]
    exact reven_two ha (red_W4 _) rfl h1 h2 (by rw [hp]; simp; omega) (b2 := decide (r * r % P25 = a)) rfl (fun w => rmul_any hr hr w) w
end Go.Proofs.YtecphnhdcphgbaaDoor
