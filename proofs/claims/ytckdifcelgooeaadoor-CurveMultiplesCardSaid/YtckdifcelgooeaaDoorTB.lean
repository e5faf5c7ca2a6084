/-
  The document's Base (layer 8), over letters. Written by tools/gen_e10.py. By an AI agent. The document's with, Base (layer 8) in numbers. By an AI agent. '==' over points. By an AI agent. The document's Small, Digits (layer 8). By an AI agent. A point in bytes; the document's Encode (layer 8). By an AI agent.
-/
import Derived.Test.YtckdifcelgooeaaDoorE7
import Derived.Test.YtckdifcelgooeaaDoorE9
import Derived.Test.YtckdifcelgooeaaDoorTA
import Derived.Test.YtckdifcelgooeaaDoorTL
import Derived.Laws.StructEq
import Derived.Test.YtckdifcelgooeaaDoorE8
import Derived.Test.YtckdifcelgooeaaDoorTA
namespace Go.Proofs.YtckdifcelgooeaaDoor
open Go Go.RowKit
section
attribute [local irreducible] wd by8 d16 set16w fl rl setA t3f set8p set4w
set_option maxRecDepth 20000
set_option maxHeartbeats 6400000 in
theorem Base_gen {n4 n5 iv y : Nat} {p : Tr}
    (k1 : ∀ w, Calls Tryd.prog 47 #[.int .i64 4] w fun e w' => e = .returned (fv n4) ∧ Below w.heap.size w w')
    (k2 : ∀ w, Calls Tryd.prog 47 #[.int .i64 5] w fun e w' => e = .returned (fv n5) ∧ Below w.heap.size w w')
    (k3 : ∀ w, Calls Tryd.prog 49 #[fv n5] w fun e w' => e = .returned (fv iv) ∧ Below w.heap.size w w')
    (k4 : ∀ w, Calls Tryd.prog 43 #[fv n4, fv iv] w fun e w' => e = .returned (fv y) ∧ Below w.heap.size w w')
    (k5 : ∀ w, Calls Tryd.prog 51 #[fv y, .int .i64 0] w fun e w' => e = .returned (.tuple #[t3v p, .bool true]) ∧ Below w.heap.size w w')
    (w : World) : Calls Tryd.prog 18 #[] w fun e w' => e = .returned (t3v p) ∧ Below w.heap.size w w' := by
  have K1 := Lib.hid k1
  have K2 := Lib.hid k2
  have K3 := Lib.hid k3
  have K4 := Lib.hid k4
  have K5 := Lib.hid k5
  clear k1 k2 k3 k4 k5
  obtain ⟨v1, ev1⟩ : ∃ v, v = w.alloc (Z48) := ⟨_, rfl⟩
  have bv1 : Below w.heap.size w v1 := by rw [ev1]; exact (Below.refl _ _).alloc (Nat.le_refl _) _
  have sv1 : v1.heap.size = w.heap.size + 1 := by rw [ev1]; simp
  obtain ⟨g0, eg0⟩ : ∃ g, g = w.heap.size := ⟨_, rfl⟩
  have o0 : OwnF v1 w.heap.size 34 (some ⟨g0, 0, none⟩) 48 48 (fun _ => .int .i64 0) := by rw [eg0, ev1]; exact z48_new (Nat.le_refl _)
  have hc := bv1
  have hs1 := hc.size
  go_enter Tryd.func18, Tryd.ntmps18
  go_upto_region 1 with fail
  rw [← ev1]
  rw [show Value.pointer (some ⟨w.heap.size, 0, none⟩) = .pointer (some ⟨g0, 0, none⟩) by rw [eg0]]
  clear ev1 bv1 sv1 eg0 hs1
  go_wp2_with fail
  go_at_call 47
  refine (K1.out _).mono ?_
  rintro e y2 ⟨rfl, h0⟩
  replace o0 := OwnF.keep o0 h0
  replace hc := hc.trans (h0.mono hc.size)
  clear h0
  go_wp2_with fail
  go_at_call 47
  refine (K2.out _).mono ?_
  rintro e y3 ⟨rfl, h0⟩
  replace o0 := OwnF.keep o0 h0
  replace hc := hc.trans (h0.mono hc.size)
  clear h0
  go_wp2_with fail
  go_at_call 49
  refine (K3.out _).mono ?_
  rintro e y4 ⟨rfl, h0⟩
  replace o0 := OwnF.keep o0 h0
  replace hc := hc.trans (h0.mono hc.size)
  clear h0
  go_wp2_with fail
  go_at_call 43
  refine (K4.out _).mono ?_
  rintro e y5 ⟨rfl, h0⟩
  replace o0 := OwnF.keep o0 h0
  replace hc := hc.trans (h0.mono hc.size)
  clear h0
  have on0 : O16 (y5.alloc Z16) y5.heap.size y5.heap.size 0 := O16.zero (own_Z16 (Nat.le_refl _))
  have o1 := (on0.put y).mono hc.size
  have hbz := ((Below.refl _ y5).alloc (Nat.le_refl _) Z16).trans (on0.below y)
  replace o0 := OwnF.keep o0 hbz
  replace hc := hc.trans (hbz.mono hc.size)
  clear hbz
  go_upto_region 2 with ((with_reducible refine fl_store on0 y ?_ ?_ ?_); rfl; rfl)
  obtain ⟨y6, ev⟩ : ∃ v, v = set16w (y5.alloc Z16) y5.heap.size y := ⟨_, rfl⟩
  obtain ⟨g1, eg⟩ : ∃ g, g = y5.heap.size := ⟨_, rfl⟩
  rw [← ev] at o0 o1 hc ⊢
  rw [← eg] at o1 ⊢
  clear ev eg on0
  go_wp2_with (first | ((with_reducible refine fl_load o1 ?_ ?_); rfl))
  go_at_call 51
  refine (K5.out _).mono ?_
  rintro e y7 ⟨rfl, h0⟩
  replace o0 := OwnF.keep o0 h0
  replace o1 := O16.keep o1 h0
  replace hc := hc.trans (h0.mono hc.size)
  clear h0
  have on0 := z48_new (w := y7) (Nat.le_refl _)
  have o2 := (t3_put on0 (p)).mono hc.size
  have hbz := ((Below.refl _ y7).alloc (Nat.le_refl _) Z48).trans (t3_below on0 (p))
  replace o0 := OwnF.keep o0 hbz
  replace o1 := O16.keep o1 hbz
  replace hc := hc.trans (hbz.mono hc.size)
  clear hbz
  go_upto_region 3 with ((with_reducible refine t3_store on0 (p) ?_ ?_ ?_); rfl; rfl)
  obtain ⟨y8, ev⟩ : ∃ v, v = setA (y7.alloc Z48) y7.heap.size 0 48 (t3f (p)) := ⟨_, rfl⟩
  obtain ⟨g2, eg⟩ : ∃ g, g = y7.heap.size := ⟨_, rfl⟩
  rw [← ev] at o0 o1 o2 hc ⊢
  rw [← eg] at o2 ⊢
  clear ev eg on0
  have hfb := Lib.hid (hc.trans (t3_below o0 p))
  have HR := Lib.hid (t3_put o0 p)
  go_wp2_with (first | ((with_reducible refine t3_load o2 ?_ ?_); rfl) | ((with_reducible refine t3_store o0 p ?_ ?_ ?_); rfl; rfl))
  exact bodyPost_ret (t3_res Tryd.results18 _ HR.out rfl) rfl ⟨rfl, hfb.out⟩
end
end Go.Proofs.YtckdifcelgooeaaDoor
namespace Go.Proofs.YtckdifcelgooeaaDoor
open Go Go.RowKit
/-- What with tells. -/
def withN (y bit : Nat) : Tr := if wokN y bit = true then ⟨wxN y bit, y, 1⟩ else ⟨0, 0, 0⟩
theorem uN_is (y : Nat) : uN y = mlN (sbN (mlN y y) 1) (ivN (adN 1 (mlN ed (mlN y y)))) := rfl
section
attribute [local irreducible] wd by8 d16 set16w fl rl setA t3f ivN mlN adN sbN uN rtr rtq
theorem refwith_any {y bit : Nat} (hy : y < P25) (_hb : bit < 2) (w : World) : Calls Tryd.prog 51 #[fv y, .int .i64 (bit : Int)] w fun e w' => e = .returned (.tuple #[t3v (withN y bit), .bool (wokN y bit)]) ∧ Below w.heap.size w w' := by
  have k1 := fun w => lMul hy hy w
  have k2 : ∀ w, Calls Tryd.prog 47 #[.int .i64 1] w fun e w' => e = .returned (fv 1) ∧ Below w.heap.size w w' := fun w => int_any (n := 1) (by decide) w
  have k3 := fun w => lSub (mlN_lt y y) P25_one w
  have k5 := fun w => lMul ed_lt (mlN_lt y y) w
  have k6 := fun w => lAdd P25_one (mlN_lt ed (mlN y y)) w
  have k7 := fun w => lInv (adN_lt 1 (mlN ed (mlN y y))) w
  have k8 := fun w => lMul (sbN_lt (mlN y y) 1) (ivN_lt (adN 1 (mlN ed (mlN y y)))) w
  rw [← uN_is] at k8
  have k9 := fun w => rroot_any (uN_lt y) w
  have k10 : ∀ w, Calls Tryd.prog 47 #[.int .i64 0] w fun e w' => e = .returned (fv 0) ∧ Below w.heap.size w w' := fun w => int_any (n := 0) (by decide) w
  unfold withN
  by_cases hq : rtq (uN y) = 1
  · rw [decide_eq_true hq] at k9
    have hr : rtr (uN y) < P25 := by
      rw [rtr_sq ((rtq_iff _).1 hq)]
      exact rt2_lt _
    have k11 := fun w => lNeg hr w
    by_cases h0 : rtr (uN y) = 0
    · by_cases h1 : bit = 1
      · have e : wokN y bit = false := by unfold wokN; rw [decide_eq_true hq, decide_eq_true h0, decide_eq_true h1]; rfl
        rw [e, if_neg (by decide)]
        exact with_nought (lt_W hr) (lt_W P25_pos) h0 (by omega) k1 k2 k3 refD_any k5 k6 k7 k8 k9 k10 w
      · have e : wokN y bit = true := by unfold wokN; rw [decide_eq_true hq, decide_eq_true h0, decide_eq_false h1]; rfl
        have e2 : wxN y bit = rtr (uN y) := by unfold wxN; rw [if_neg h1]
        rw [e, if_pos rfl, e2]
        exact with_zero (lt_W hr) (lt_W P25_pos) h0 (by omega) k1 k2 k3 refD_any k5 k6 k7 k8 k9 k10 w
    · by_cases h1 : bit = 1
      · have e : wokN y bit = true := by unfold wokN; rw [decide_eq_true hq, decide_eq_false h0, decide_eq_true h1]; rfl
        have e2 : wxN y bit = (P25 - rtr (uN y)) % P25 := by unfold wxN; rw [if_pos h1]
        rw [e, if_pos rfl, e2]
        exact with_odd (lt_W hr) (lt_W P25_pos) h0 (by omega) k1 k2 k3 refD_any k5 k6 k7 k8 k9 k10 k11 w
      · have e : wokN y bit = true := by unfold wokN; rw [decide_eq_true hq, decide_eq_false h0, decide_eq_false h1]; rfl
        have e2 : wxN y bit = rtr (uN y) := by unfold wxN; rw [if_neg h1]
        rw [e, if_pos rfl, e2]
        exact with_even (lt_W hr) (lt_W P25_pos) h0 (by omega) k1 k2 k3 refD_any k5 k6 k7 k8 k9 k10 w
  · rw [decide_eq_false hq] at k9
    have e : wokN y bit = false := by unfold wokN; rw [decide_eq_false hq]; rfl
    rw [e, if_neg (by decide)]
    exact with_no k1 k2 k3 refD_any k5 k6 k7 k8 k9 w
theorem refBase_any (w : World) : Calls Tryd.prog 18 #[] w fun e w' => e = .returned (t3v ⟨bx, by_, 1⟩) ∧ Below w.heap.size w w' := by
  obtain ⟨n4, h4⟩ : ∃ n, n = 4 := ⟨_, rfl⟩
  obtain ⟨n5, h5⟩ : ∃ n, n = 5 := ⟨_, rfl⟩
  have l4 : n4 < P25 := by rw [h4]; decide +kernel
  have l5 : n5 < P25 := by rw [h5]; decide +kernel
  have e4 : mlN n4 (ivN n5) = by_ := by rw [h4, h5]; exact base_y
  have hw := fun w => refwith_any (y := by_) (bit := 0) by_lt (by decide) w
  have ew : withN by_ 0 = ⟨bx, by_, 1⟩ := by unfold withN; rw [if_pos base_wok.1, base_wok.2]
  rw [ew, base_wok.1] at hw
  have h := fun w => lMul l4 (ivN_lt n5) w
  rw [e4] at h
  exact Base_gen (n4 := n4) (n5 := n5) (fun w => by rw [h4]; exact int_any (n := 4) (by decide) w) (fun w => by rw [h5]; exact int_any (n := 5) (by decide) w) (fun w => lInv l5 w) h hw w
end
end Go.Proofs.YtckdifcelgooeaaDoor
namespace Go.Proofs.YtckdifcelgooeaaDoor
open Go Go.RowKit
theorem items_u64d (xs ys : Array Value) (a b : Nat → Int) (w : World) : ∀ is : List Nat, (∀ i ∈ is, xs[i]? = some (.int .u64 (a i)) ∧ ys[i]? = some (.int .u64 (b i))) →
    (Op.eqItems 9998 22 (Tryd.prog.cellsOf 22) xs ys is).run Tryd.prog w = .ok (is.all fun i => a i == b i) w
  | [], _ => rfl
  | i :: is, h => by
    have h0 := h i (by simp)
    have ih := items_u64d xs ys a b w is (fun j hj => h j (by simp [hj]))
    simp only [Op.eqItems, Sem.run_bind, part_u64 _ _ _ h0.1, part_u64 _ _ _ h0.2, Result.andThen_ok, run_equalIn_int w 9997 22 .u64 .u64 (a i) (b i) Tryd.underlying22, List.all_cons]
    cases he : (a i == b i)
    · simp
    · simpa using ih
theorem eq4d (x y : Nat) (hx : x < W4) (hy : y < W4) (w : World) : (Op.equalIn 9999 24 (nv x) (nv y)).run Tryd.prog w = .ok (decide (x = y)) w := by
  obtain ⟨i0, hi⟩ : ∃ i, Tryd.prog.info? 22 = some i := by
    have := infoU64
    cases h : Tryd.prog.info? 22 with
    | none => rw [h] at this; simp at this
    | some i => exact ⟨i, rfl⟩
  rw [run_equalIn_array (P := Tryd.prog) (w := w) 9998 _ _ Tryd.underlying24 hi, items_u64d _ _ (fun i => (wd x i : Int)) (fun i => (wd y i : Int)) w (List.range 4), eqw x y 4 hx hy]
  intro i hi
  have : i = 0 ∨ i = 1 ∨ i = 2 ∨ i = 3 := by have hi' : i < 4 := (by simpa using hi); omega
  rcases this with rfl | rfl | rfl | rfl <;> exact ⟨rfl, rfl⟩
theorem eqT (a b c d : Nat) (ha : a < W4) (hb : b < W4) (hc : c < W4) (hd : d < W4) (w : World) : (Op.equalIn 10000 26 (prv a b) (prv c d)).run Tryd.prog w = .ok (decide (a = c) && decide (b = d)) w := by
  have h1 := eq4d a c ha hc w
  have h2 := eq4d b d hb hd w
  rw [run_equalIn_agg (P := Tryd.prog) (w := w) 9999 26 _ _ (by kernel_rfl) (by kernel_rfl)]
  simp [go_sem, Op.eqFields, Program.fieldsOf, Tryd.underlying26, part, h1, h2]
  by_cases e1 : a = c <;> by_cases e2 : b = d <;> simp [e1, e2]
theorem guardT (s1 s2 : Operand) (xs ys : Array Value) (w : World) : (eqGuard .eql 26 s1 s2 (.agg xs) (.agg ys)).run Tryd.prog w = .ok () w := by
  unfold eqGuard; simp [go_sem]
theorem guardTn (s1 s2 : Operand) (xs ys : Array Value) (w : World) : (eqGuard .neq 26 s1 s2 (.agg xs) (.agg ys)).run Tryd.prog w = .ok () w := by
  unfold eqGuard; simp [go_sem]
section
variable {o : Oper} {a : Act} {s1 s2 : Operand} {ty : TypeId} {x y u v : Nat} {r : Bool}
theorem run_eqT (ho : o.op = .binOp .eql 26 s1 s2 ty) (h1 : a.eval s1 = prv x y) (h2 : a.eval s2 = prv u v) (hx : x < W4) (hy : y < W4) (hu : u < W4) (hv : v < W4) (hr : (decide (x = u) && decide (y = v)) = r) (w : World) :
    (execOp a.eval o).run Tryd.prog w = .ok (.value (.bool r)) w := by
  subst hr
  unfold execOp
  simp only [ho, h1, h2, Sem.run_bind, guardT, Result.andThen_ok, run_eql_struct, eqT x y u v hx hy hu hv, Sem.run_pure]
theorem run_neT (ho : o.op = .binOp .neq 26 s1 s2 ty) (h1 : a.eval s1 = prv x y) (h2 : a.eval s2 = prv u v) (hx : x < W4) (hy : y < W4) (hu : u < W4) (hv : v < W4) (hr : (!(decide (x = u) && decide (y = v))) = r) (w : World) :
    (execOp a.eval o).run Tryd.prog w = .ok (.value (.bool r)) w := by
  subst hr
  unfold execOp
  simp only [ho, h1, h2, Sem.run_bind, guardTn, Result.andThen_ok, run_neq_struct, eqT x y u v hx hy hu hv, Sem.run_pure]
end
end Go.Proofs.YtckdifcelgooeaaDoor
namespace Go.Proofs.YtckdifcelgooeaaDoor
open Go Go.RowKit
set_option maxRecDepth 20000
theorem nought_vals : mlN 0 (ivN 1) = 0 ∧ mlN 1 (ivN 1) = 1 := by
  have h := of_point (Tr.nought_of E25) (show 1 < P25 from P25_one)
  have e1 : (Pt.nought E25).x.val = 0 := rfl
  have e2 : (Pt.nought E25).y.val = 1 := Nat.mod_eq_of_lt P25_one
  rw [e1, e2] at h
  exact h
theorem val_W (x : Fp) : x.val < W4 := lt_W x.isLt
section
attribute [local irreducible] wd by8 d16 set16w fl rl setA t3f ivN mlN adN sbN
set_option maxHeartbeats 3200000 in
theorem refSmall_any {t : Tr} {p : Pt E25} (ht : t.ok) (hp : t.of p) (w : World) : Calls Tryd.prog 22 #[t3v t] w fun e w' => e = .returned (.bool (decide ((p.mul 8).x.val = 0) && decide ((p.mul 8).y.val = 1))) ∧ Below w.heap.size w w' := by
  have hxW := val_W (p.mul 8).x
  have hyW := val_W (p.mul 8).y
  obtain ⟨X, hX⟩ : ∃ X, X = (p.mul 8).x.val := ⟨_, rfl⟩
  obtain ⟨Y, hY⟩ : ∃ Y, Y = (p.mul 8).y.val := ⟨_, rfl⟩
  rw [← hX, ← hY]
  rw [← hX] at hxW
  rw [← hY] at hyW
  have HX := Lib.hid hxW
  have HY := Lib.hid hyW
  have EX := Lib.hid hX
  have EY := Lib.hid hY
  clear hX hY hxW hyW
  obtain ⟨v1, e1⟩ : ∃ v, v = w.alloc (AP t) := ⟨_, rfl⟩
  obtain ⟨g1, eg⟩ : ∃ g, g = w.heap.size := ⟨_, rfl⟩
  have o1 : O48 v1 w.heap.size g1 t := by rw [e1, eg]; exact O48.new (Nat.le_refl _) t
  have hc : Below w.heap.size w v1 := by rw [e1]; exact (Below.refl _ _).alloc (Nat.le_refl _) _
  obtain ⟨v2, e2⟩ : ∃ v, v = v1.alloc (.cells #[.int .i64 8] 3) := ⟨_, rfl⟩
  have b2 : Below v1.heap.size v1 v2 := by rw [e2]; exact (Below.refl _ _).alloc (Nat.le_refl _) _
  have p8 : Dig v2 v2.heap.size (some ⟨v1.heap.size, 0, none⟩) 1 1 8 := by rw [e2]; exact lit_dig (by decide)
  have o2 := o1.keep b2
  have KT := Lib.hid (refTimes_any (t := t) (p := p) (by decide) v2 p8 ht hp)
  have hc2 := hc.trans (b2.mono hc.size)
  have E2 := Lib.hid e2
  clear e2 b2 o1 hp p8
  go_enter Tryd.func22, Tryd.ntmps22
  go_upto_region 1 with fail
  rw [← e1]
  rw [show Value.pointer (some ⟨w.heap.size, 0, none⟩) = .pointer (some ⟨g1, 0, none⟩) by rw [eg]]
  clear e1 eg hc
  obtain ⟨o3⟩ : Nonempty (O48 (v1.alloc (.cells #[.int .i64 8] 3)) w.heap.size g1 t) := ⟨by rw [← E2.out]; exact o2⟩
  go_wp2_with ((with_reducible refine t3_load o3 ?_ ?_); rfl)
  rw [← E2.out]
  go_at_call 29
  refine KT.out.mono ?_
  rintro e v3 ⟨r, rfl, hr, hrp, h0⟩
  replace hc2 := hc2.trans (h0.mono hc2.size)
  have hv := of_point hrp hr.2.2
  have KP := Lib.hid (fun w => refPoint_any hr w)
  rw [hv.1, hv.2, ← EX.out, ← EY.out] at KP
  clear h0 KT o2 o3 hv hrp hr E2
  go_wp2_with fail
  go_at_call 19
  refine (KP.out _).mono ?_
  rintro e v4 ⟨rfl, h0⟩
  replace hc2 := hc2.trans (h0.mono hc2.size)
  clear h0 KP
  go_wp2_with fail
  go_at_call 55
  refine (refNought_any _).mono ?_
  rintro e v5 ⟨rfl, h0⟩
  replace hc2 := hc2.trans (h0.mono hc2.size)
  clear h0
  have hn := fun w => refPoint_any (t := ⟨0, 1, 1⟩) ⟨P25_pos, P25_one, P25_one⟩ w
  rw [nought_vals.1, nought_vals.2] at hn
  have KN := Lib.hid hn
  clear hn
  go_wp2_with fail
  go_at_call 19
  refine (KN.out _).mono ?_
  rintro e v6 ⟨rfl, h0⟩
  replace hc2 := hc2.trans (h0.mono hc2.size)
  clear h0 KN
  go_wp2_with (refine gate_list .eql 26 (wpList_eqlA _ _ _ _ rfl rfl rfl rfl (guardT _ _ _ _ _) (eqT X Y 0 1 HX.out HY.out W4_pos (lt_W P25_one) _) ?_))
  go_ret
  exact ⟨rfl, hc2⟩
theorem refDigits_any {a : Nat} (ha : a < W4) (w : World) : Calls Tryd.prog 30 #[nv a] w fun e w' => ∃ A c n, e = .returned (.slice A n c) ∧ DOwn w' w.heap.size A c n a ∧ Below w.heap.size w w' := by
  have hc := (Below.refl w.heap.size w).alloc (Nat.le_refl _) (A4 a)
  have KD := Lib.hid (digits_any ha (w.alloc (A4 a)))
  unfold nv
  go_enter Tryd.func30, Tryd.ntmps30
  go_wp2_with fail
  go_at_call 58
  refine KD.out.mono ?_
  rintro e v1 ⟨A, c, n, rfl, d, h0⟩
  have hfin := hc.trans (h0.mono hc.size)
  have d2 := d.mono hc.size
  clear KD
  go_wp2_with fail
  go_ret
  exact ⟨A, c, n, rfl, d2, hfin⟩
end
end Go.Proofs.YtckdifcelgooeaaDoor
namespace Go.Proofs.YtckdifcelgooeaaDoor
open Go Go.RowKit
set_option maxRecDepth 20000
theorem P25_half : P25 < 2 ^ 255 := by decide +kernel
theorem half_is : (2 : Nat) ^ 255 = 256 ^ 31 * 128 := by decide +kernel
theorem by8_31 {y : Nat} (hy : y < 2 ^ 255) : by8 y 31 < 128 ∧ by8 (y + 2 ^ 255) 31 = by8 y 31 + 128 := by
  rw [half_is] at hy ⊢
  unfold by8 dgt
  rw [Nat.add_mul_div_left _ _ (by decide : 0 < 256 ^ 31)]
  have h : y / 256 ^ 31 < 128 := Nat.div_lt_of_lt_mul hy
  generalize y / 256 ^ 31 = q at *
  omega
theorem by8_low (y : Nat) {k : Nat} (hk : k < 31) : by8 (y + 2 ^ 255) k = by8 y k := by
  rw [half_is]
  unfold by8 dgt
  have e : (256 : Nat) ^ 31 * 128 = 256 ^ k * (256 * (256 ^ (30 - k) * 128)) := by
    rw [← Nat.mul_assoc, ← Nat.mul_assoc, ← Nat.pow_succ, ← Nat.pow_add, show k + 1 + (30 - k) = 31 by omega]
  rw [e, Nat.add_mul_div_left _ _ (Nat.pow_pos (by decide)), Nat.add_mul_mod_self_left]
/-- The highest bit is set. -/
theorem high_set {y : Nat} (hy : y < 2 ^ 255) {b : UInt8} (h : b.toNat = by8 y 31 + 128) : (gen (bf y) 32).set 31 b = gen (bf (y + 2 ^ 255)) 32 := by
  refine nth_ext (by simp [gen_length]) fun k hk => ?_
  have hk' : k < 32 := by simpa [gen_length] using hk
  rw [nth_gen hk', bf_nat, nth_set _ _ _ _ (by rw [gen_length]; omega)]
  by_cases e : 31 = k
  · subst e; rw [if_pos rfl, h, (by8_31 hy).2]
  · rw [if_neg e, nth_gen hk', bf_nat, by8_low y (by omega)]
/-- A point in bytes: y, and x's lowest bit ahead of all. -/
def encN (x y : Nat) : List UInt8 := gen (bf (y + 2 ^ 255 * (x % 2))) 32
theorem encN_len (x y : Nat) : (encN x y).length = 32 := gen_length _ _
theorem wd_par8 (x : Nat) : wd x 0 % 2 = x % 2 := by
  unfold wd dgt
  rw [Nat.pow_zero, Nat.div_one]
  omega
section
attribute [local irreducible] wd by8 d16 set16w fl
set_option maxHeartbeats 3200000 in
theorem refEncode_any {x y : Nat} (hy : y < P25) (w : World) : Calls Tryd.prog 35 #[prv x y] w fun e w' => ∃ A c, e = .returned (.slice A 32 c) ∧ Own w' w.heap.size 5 A c (encN x y) ∧ Below w.heap.size w w' := by
  have hyW := lt_W hy
  have kO := fun w => lOf hyW w
  rw [Nat.mod_eq_of_lt hy] at kO
  have KO := Lib.hid kO
  have KE := Lib.hid (fun w => rencode_any hyW w)
  have hy5 := Nat.lt_trans hy P25_half
  obtain ⟨b, hb⟩ : ∃ b, b = x % 2 := ⟨_, rfl⟩
  have hp := wd_par8 x
  rw [← hb] at hp
  have f1 : (wd x 0 : Int) % 2 = (b : Int) := by omega
  have f2 : (wd x 0 : Int).tmod 2 = (b : Int) := by rw [Int.tmod_eq_emod_of_nonneg (by omega)]; omega
  have HB := Lib.hid hb
  have hb2 : b = 0 ∨ b = 1 := by omega
  have h31 := by8_31 hy5
  have HS := Lib.hid (fun b0 (h : UInt8.toNat b0 = by8 y 31 + 128) => high_set hy5 h)
  obtain ⟨v1, e1⟩ : ∃ v, v = w.alloc (A8p x y) := ⟨_, rfl⟩
  obtain ⟨g1, eg⟩ : ∃ g, g = w.heap.size := ⟨_, rfl⟩
  have o1 : O8 v1 w.heap.size g1 x y := by rw [e1, eg]; exact O8.new (Nat.le_refl _) x y
  have hc : Below w.heap.size w v1 := by rw [e1]; exact (Below.refl _ _).alloc (Nat.le_refl _) _
  clear kO hy hyW hb hp hy5
  go_enter Tryd.func35, Tryd.ntmps35
  go_upto_region 1 with fail
  rw [← e1]
  rw [show Value.pointer (some ⟨w.heap.size, 0, none⟩) = .pointer (some ⟨g1, 0, none⟩) by rw [eg]]
  clear e1 eg
  obtain ⟨c0, c1, c2, c3, c4, c5, c6, c7⟩ := o1.c8
  go_wp2_with fail
  clear c0 c1 c2 c3 c4 c5 c6 c7
  go_at_call 42
  refine (KO.out _).mono ?_
  rintro e v2 ⟨rfl, h0⟩
  replace o1 := o1.keep h0
  replace hc := hc.trans (h0.mono hc.size)
  clear h0 KO
  go_wp2_with fail
  go_at_call 66
  refine (KE.out _).mono ?_
  rintro e v3 ⟨A, c, rfl, ho, h0⟩
  replace o1 := o1.keep h0
  replace ho := ho.mono hc.size
  replace hc := hc.trans (h0.mono hc.size)
  clear h0 KE
  obtain ⟨c0, c1, c2, c3, c4, c5, c6, c7⟩ := o1.c8
  clear c1 c2 c3 c4 c5 c6 c7
  rcases hb2 with rfl | rfl
  · have HO := Lib.hid (show Own v3 w.heap.size 5 A c (encN x y) by unfold encN; rw [← HB.out, Nat.mul_zero, Nat.add_zero]; exact ho)
    clear ho HS h31 o1
    go_wp2_with fail
    go_ret
    exact ⟨A, c, rfl, HO.out, hc⟩
  · obtain ⟨g, rfl⟩ := ho.at0 (by rw [gen_length]; decide)
    obtain ⟨m0, hm0⟩ : ∃ m, m = by8 y 31 := ⟨_, rfl⟩
    have cl := ho.cell (k := 31) (by rw [gen_length]; decide)
    rw [nth_gen (by decide), bf_nat, ← hm0] at cl
    have fr := ho.free 31
    obtain ⟨b0, hb0⟩ : ∃ b : UInt8, b = UInt8.ofNat (m0 + 128) := ⟨_, rfl⟩
    have hm := h31.1
    rw [← hm0] at hm
    have hbn : b0.toNat = m0 + 128 := by rw [hb0, UInt8.toNat_ofNat']; omega
    have u0 : IntKind.u8.wrap ((m0 : Int) + 128) = (b0.toNat : Int) := by rw [IntKind.wrap_u8, hbn]; omega
    have o3 := ho.set_ 31 b0
    rw [HS.out b0 (by rw [hbn, hm0])] at o3
    have HO := Lib.hid (show Own (v3.setCell ⟨g, 31, none⟩ (.int .u8 (b0.toNat : Int))) w.heap.size 5 (some ⟨g, 0, none⟩) c (encN x y) by unfold encN; rw [← HB.out, Nat.mul_one]; exact o3)
    have HF := Lib.hid (hc.setCell (p := ⟨g, 31, none⟩) ho.ge (.int .u8 (b0.toNat : Int)))
    have gl31 : (31 : Int) < 32 := by decide
    generalize (b0.toNat : Int) = z0 at *
    clear ho HS h31 o1 o3 hb0 hbn hm hm0 hc
    go_wp2_with fail
    go_ret
    exact ⟨_, _, rfl, HO.out, HF.out⟩
end
end Go.Proofs.YtckdifcelgooeaaDoor
