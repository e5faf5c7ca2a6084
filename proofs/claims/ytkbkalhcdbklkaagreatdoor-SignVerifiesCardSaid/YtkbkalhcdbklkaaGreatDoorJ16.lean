/-
  '==' over points. By an AI agent. (and more)
-/
import Derived.Test.YtkbkalhcdbklkaaGreatDoorJ10
import Derived.Test.YtkbkalhcdbklkaaGreatDoorJ13
import Derived.Laws.StructEq
import Derived.Test.YtkbkalhcdbklkaaGreatDoorE8
import Derived.Test.YtkbkalhcdbklkaaGreatDoorJ15
import Derived.Test.YtkbkalhcdbklkaaGreatDoorJ07
namespace Go.Proofs.YtkbkalhcdbklkaaGreatDoor
section
open Go Go.RowKit
theorem items_u64d (xs ys : Array Value) (a b : Nat → Int) (w : World) : ∀ is : List Nat, (∀ i ∈ is, xs[i]? = some (.int .u64 (a i)) ∧ ys[i]? = some (.int .u64 (b i))) →
  (Op.eqItems 9998 33 (Tryz.prog.cellsOf 33) xs ys is).run Tryz.prog w = .ok (is.all fun i => a i == b i) w
 | [], _ => rfl
 | i :: is, h => by
  have h0 := h i (by simp)
  have ih := items_u64d xs ys a b w is (fun j hj => h j (by simp [hj]))
  simp only [Op.eqItems, Sem.run_bind, part_u64 _ _ _ h0.1, part_u64 _ _ _ h0.2, Result.andThen_ok, run_equalIn_int w 9997 33 .u64 .u64 (a i) (b i) Tryz.underlying33, List.all_cons]
  cases he : (a i == b i)
  ·simp
  ·simpa using ih
theorem eq4d (x y : Nat) (hx : x < W4) (hy : y < W4) (w : World) : (Op.equalIn 9999 35 (nv x) (nv y)).run Tryz.prog w = .ok (decide (x = y)) w := by
 obtain ⟨i0, hi⟩ : ∃ i, Tryz.prog.info? 33 = some i := by
  have := infoU64
  cases h : Tryz.prog.info? 33 with
  | none => rw [h] at this; simp at this
  | some i => exact ⟨i, rfl⟩
 rw [run_equalIn_array (P := Tryz.prog) (w := w) 9998 _ _ Tryz.underlying35 hi, items_u64d _ _ (fun i => (wd x i : Int)) (fun i => (wd y i : Int)) w (List.range 4), eqw x y 4 hx hy]
 intro i hi
 have : i = 0 ∨ i = 1 ∨ i = 2 ∨ i = 3 := by have hi' : i < 4 := (by simpa using hi); omega
 rcases this with rfl | rfl | rfl | rfl <;> exact ⟨rfl, rfl⟩
theorem eqT (a b c d : Nat) (ha : a < W4) (hb : b < W4) (hc : c < W4) (hd : d < W4) (w : World) : (Op.equalIn 10000 60 (prv a b) (prv c d)).run Tryz.prog w = .ok (decide (a = c) && decide (b = d)) w := by
 have h1 := eq4d a c ha hc w
 have h2 := eq4d b d hb hd w
 rw [run_equalIn_agg (P := Tryz.prog) (w := w) 9999 60 _ _ (by kernel_rfl) (by kernel_rfl)]
 simp [go_sem, Op.eqFields, Program.fieldsOf, Tryz.underlying60, part, h1, h2]
 by_cases e1 : a = c <;> by_cases e2 : b = d <;> simp [e1, e2]
theorem guardT (s1 s2 : Operand) (xs ys : Array Value) (w : World) : (eqGuard .eql 60 s1 s2 (.agg xs) (.agg ys)).run Tryz.prog w = .ok () w := by
 unfold eqGuard; simp [go_sem]
theorem guardTn (s1 s2 : Operand) (xs ys : Array Value) (w : World) : (eqGuard .neq 60 s1 s2 (.agg xs) (.agg ys)).run Tryz.prog w = .ok () w := by
 unfold eqGuard; simp [go_sem]
section
variable {o : Oper} {a : Act} {s1 s2 : Operand} {ty : TypeId} {x y u v : Nat} {r : Bool}
theorem run_eqT (ho : o.op = .binOp .eql 60 s1 s2 ty) (h1 : a.eval s1 = prv x y) (h2 : a.eval s2 = prv u v) (hx : x < W4) (hy : y < W4) (hu : u < W4) (hv : v < W4) (hr : (decide (x = u) && decide (y = v)) = r) (w : World) :
  (execOp a.eval o).run Tryz.prog w = .ok (.value (.bool r)) w := by
 subst hr
 unfold execOp
 simp only [ho, h1, h2, Sem.run_bind, guardT, Result.andThen_ok, run_eql_struct, eqT x y u v hx hy hu hv, Sem.run_pure]
theorem run_neT (ho : o.op = .binOp .neq 60 s1 s2 ty) (h1 : a.eval s1 = prv x y) (h2 : a.eval s2 = prv u v) (hx : x < W4) (hy : y < W4) (hu : u < W4) (hv : v < W4) (hr : (!(decide (x = u) && decide (y = v))) = r) (w : World) :
  (execOp a.eval o).run Tryz.prog w = .ok (.value (.bool r)) w := by
 subst hr
 unfold execOp
 simp only [ho, h1, h2, Sem.run_bind, guardTn, Result.andThen_ok, run_neq_struct, eqT x y u v hx hy hu hv, Sem.run_pure]
end
end
section
open Go Go.RowKit
set_option maxRecDepth 20000
theorem nought_vals : mlN 0 (ivN 1) = 0 ∧ mlN 1 (ivN 1) = 1 := by
 have h := of_point (Tr.nought_of E25) (show 1 < P25 from P25_one)
 have e1 : (Pt.nought E25).x.val = 0 := rfl
 have e2 : (Pt.nought E25).y.val = 1 := Nat.mod_eq_of_lt P25_one
 rw [e1, e2] at h
 exact h
theorem val_W (x : Fp) : x.val < W4 := lt_W x.isLt
section
attribute [local irreducible] wd by8 d16 set16w fl rl setA t3f ivN mlN adN sbN
set_option maxHeartbeats 3200000 in
theorem refSmall_any {t : Tr} {p : Pt E25} (ht : t.ok) (hp : t.of p) (w : World) : Calls Tryz.prog 38 #[t3v t] w fun e w' => e = .returned (.bool (decide ((p.mul 8).x.val = 0) && decide ((p.mul 8).y.val = 1))) ∧ Below w.heap.size w w' := by
 have hxW := val_W (p.mul 8).x
 have hyW := val_W (p.mul 8).y
 obtain ⟨X, hX⟩ : ∃ X, X = (p.mul 8).x.val := ⟨_, rfl⟩
 obtain ⟨Y, hY⟩ : ∃ Y, Y = (p.mul 8).y.val := ⟨_, rfl⟩
 rw [← hX, ← hY]
 rw [← hX] at hxW
 rw [← hY] at hyW
 have HX := Lib.hid hxW
 have HY := Lib.hid hyW
 have EX := Lib.hid hX
 have EY := Lib.hid hY
 clear hX hY hxW hyW
 obtain ⟨v1, e1⟩ : ∃ v, v = w.alloc (AP t) := ⟨_, rfl⟩
 obtain ⟨g1, eg⟩ : ∃ g, g = w.heap.size := ⟨_, rfl⟩
 have o1 : O48 v1 w.heap.size g1 t := by rw [e1, eg]; exact O48.new (Nat.le_refl _) t
 have hc := bnw e1
 obtain ⟨v2, e2⟩ : ∃ v, v = v1.alloc (.cells #[.int .i64 8] 3) := ⟨_, rfl⟩
 have b2 := bnw e2
 have p8 : Dig v2 v2.heap.size (some ⟨v1.heap.size, 0, none⟩) 1 1 8 := by rw [e2]; exact lit_dig (by decide)
 have o2 := o1.keep b2
 have KT := Lib.hid (refTimes_any (t := t) (p := p) (by decide) v2 p8 ht hp)
 have hc2 := bnx hc b2
 have E2 := Lib.hid e2
 clear e2 b2 o1 hp p8
 go_enter Tryz.func38, Tryz.ntmps38
 go_upto_region 1 with fail
 rw [← e1]
 rw [show Value.pointer (some ⟨w.heap.size, 0, none⟩) = .pointer (some ⟨g1, 0, none⟩) by rw [eg]]
 clear e1 eg hc
 obtain ⟨o3⟩ : Nonempty (O48 (v1.alloc (.cells #[.int .i64 8] 3)) w.heap.size g1 t) := ⟨by rw [← E2.out]; exact o2⟩
 go_wp2_with ((with_reducible refine t3_load o3 ?_ ?_); rfl)
 rw [← E2.out]
 go_at_call 39
 refine KT.out.mono ?_
 rintro e v3 ⟨r, rfl, hr, hrp, h0⟩
 replace hc2 := bnx hc2 h0
 have hv := of_point hrp hr.2.2
 have KP := Lib.hid (fun w => refPoint_any hr w)
 rw [hv.1, hv.2, ← EX.out, ← EY.out] at KP
 clear h0 KT o2 o3 hv hrp hr E2
 go_wp2_with fail
 go_at_call 42
 refine (KP.out _).mono ?_
 rintro e v4 ⟨rfl, h0⟩
 replace hc2 := bnx hc2 h0
 clear h0 KP
 go_wp2_with fail
 go_at_call 79
 refine (refNought_any _).mono ?_
 rintro e v5 ⟨rfl, h0⟩
 replace hc2 := bnx hc2 h0
 clear h0
 have hn := fun w => refPoint_any (t := ⟨0, 1, 1⟩) ⟨P25_pos, P25_one, P25_one⟩ w
 rw [nought_vals.1, nought_vals.2] at hn
 have KN := Lib.hid hn
 clear hn
 go_wp2_with fail
 go_at_call 42
 refine (KN.out _).mono ?_
 rintro e v6 ⟨rfl, h0⟩
 replace hc2 := bnx hc2 h0
 clear h0 KN
 go_wp2_with (refine gate_list .eql 60 (wpList_eqlA _ _ _ _ rfl rfl rfl rfl (guardT _ _ _ _ _) (eqT X Y 0 1 HX.out HY.out W4_pos (lt_W P25_one) _) ?_))
 go_ret
 exact ⟨rfl, hc2⟩
end
end
section
open Go Go.RowKit
set_option maxRecDepth 20000
theorem P25_half : P25 < 2 ^ 255 := by decide +kernel
theorem half_is : (2 : Nat) ^ 255 = 256 ^ 31 * 128 := by decide +kernel
def encN (x y : Nat) : List UInt8 := gen (bf (y + 2 ^ 255 * (x % 2))) 32
theorem encN_len (x y : Nat) : (encN x y).length = 32 := gen_length _ _
section
attribute [local irreducible] wd by8 d16 set16w fl
end
end
section
open Go Go.RowKit
set_option maxRecDepth 20000
section
attribute [local irreducible] wd by8 d16 set16w fl rl setA t3f set8p set4w
end
end
end Go.Proofs.YtkbkalhcdbklkaaGreatDoor
