/-
  The document's right, Of, Point (layer 8), over letters. Written by tools/gen_e4.py. By an AI agent. The document's D, Nought, plus, Plus, right, Of, Point, On (layer 8) in numbers. By an AI agent. '==' over points. By an AI agent. A point in bytes; the document's Encode (layer 8). By an AI agent. Layer 8's awake over contracts. By an AI agent.
-/
import Derived.Test.YtgaofocjnifjdaaDoorJ14
import Derived.Test.YtgaofocjnifjdaaDoorJ10
import Derived.Test.YtgaofocjnifjdaaDoorJ13
import Derived.Test.YtgaofocjnifjdaaDoorJ14
import Derived.Test.YtgaofocjnifjdaaDoorJ14
import Derived.Test.YtgaofocjnifjdaaDoorJ13
import Derived.Test.YtgaofocjnifjdaaDoorPt
import Derived.Laws.StructEq
import Derived.Test.YtgaofocjnifjdaaDoorJ14
namespace Go.Proofs.YtgaofocjnifjdaaDoor
open Go Go.RowKit
section
attribute [local irreducible] wd by8 d16 set16w fl rl setA t3f set8p set4w
set_option maxRecDepth 20000
end
end Go.Proofs.YtgaofocjnifjdaaDoor
namespace Go.Proofs.YtgaofocjnifjdaaDoor
open Go Go.RowKit
/-- Three numbers below the prime. -/
def Tr.ok (t : Tr) : Prop := t.x < P25 ∧ t.y < P25 ∧ t.z < P25
theorem ed_lt : ed < P25 := by decide +kernel
section
attribute [local irreducible] wd by8 d16 set16w fl rl setA t3f ivN mlN adN sbN
theorem plus_is (dd : Nat) (p q : Tr) : Tr.plus dd p q = ⟨mlN (mlN p.z q.z) (mlN (sbN (mlN (mlN p.z q.z) (mlN p.z q.z)) (mlN dd (mlN (mlN p.x q.x) (mlN p.y q.y)))) (adN (mlN p.x q.y) (mlN p.y q.x))),
    mlN (mlN p.z q.z) (mlN (adN (mlN (mlN p.z q.z) (mlN p.z q.z)) (mlN dd (mlN (mlN p.x q.x) (mlN p.y q.y)))) (adN (mlN p.y q.y) (mlN p.x q.x))),
    mlN (sbN (mlN (mlN p.z q.z) (mlN p.z q.z)) (mlN dd (mlN (mlN p.x q.x) (mlN p.y q.y)))) (adN (mlN (mlN p.z q.z) (mlN p.z q.z)) (mlN dd (mlN (mlN p.x q.x) (mlN p.y q.y))))⟩ := by with_unfolding_all rfl
theorem plus_ok (dd : Nat) (p q : Tr) : (Tr.plus dd p q).ok := by
  rw [plus_is]
  exact ⟨mlN_lt _ _, mlN_lt _ _, mlN_lt _ _⟩
/-- Is it a point of the curve? -/
def okN (x y : Nat) : Bool := decide (x < P25) && (decide (y < P25) && onN x y)
end
end Go.Proofs.YtgaofocjnifjdaaDoor
namespace Go.Proofs.YtgaofocjnifjdaaDoor
open Go Go.RowKit
theorem items_u64d (xs ys : Array Value) (a b : Nat → Int) (w : World) : ∀ is : List Nat, (∀ i ∈ is, xs[i]? = some (.int .u64 (a i)) ∧ ys[i]? = some (.int .u64 (b i))) →
    (Op.eqItems 9998 32 (Tryd.prog.cellsOf 32) xs ys is).run Tryd.prog w = .ok (is.all fun i => a i == b i) w
  | [], _ => rfl
  | i :: is, h => by
    have h0 := h i (by simp)
    have ih := items_u64d xs ys a b w is (fun j hj => h j (by simp [hj]))
    simp only [Op.eqItems, Sem.run_bind, part_u64 _ _ _ h0.1, part_u64 _ _ _ h0.2, Result.andThen_ok, run_equalIn_int w 9997 32 .u64 .u64 (a i) (b i) Tryd.underlying32, List.all_cons]
    cases he : (a i == b i)
    · simp
    · simpa using ih
theorem eq4d (x y : Nat) (hx : x < W4) (hy : y < W4) (w : World) : (Op.equalIn 9999 34 (nv x) (nv y)).run Tryd.prog w = .ok (decide (x = y)) w := by
  obtain ⟨i0, hi⟩ : ∃ i, Tryd.prog.info? 32 = some i := by
    have := infoU64
    cases h : Tryd.prog.info? 32 with
    | none => rw [h] at this; simp at this
    | some i => exact ⟨i, rfl⟩
  rw [run_equalIn_array (P := Tryd.prog) (w := w) 9998 _ _ Tryd.underlying34 hi, items_u64d _ _ (fun i => (wd x i : Int)) (fun i => (wd y i : Int)) w (List.range 4), eqw x y 4 hx hy]
  intro i hi
  have : i = 0 ∨ i = 1 ∨ i = 2 ∨ i = 3 := by have hi' : i < 4 := (by simpa using hi); omega
  rcases this with rfl | rfl | rfl | rfl <;> exact ⟨rfl, rfl⟩
theorem eqT (a b c d : Nat) (ha : a < W4) (hb : b < W4) (hc : c < W4) (hd : d < W4) (w : World) : (Op.equalIn 10000 50 (prv a b) (prv c d)).run Tryd.prog w = .ok (decide (a = c) && decide (b = d)) w := by
  have h1 := eq4d a c ha hc w
  have h2 := eq4d b d hb hd w
  rw [run_equalIn_agg (P := Tryd.prog) (w := w) 9999 50 _ _ (by kernel_rfl) (by kernel_rfl)]
  simp [go_sem, Op.eqFields, Program.fieldsOf, Tryd.underlying50, part, h1, h2]
  by_cases e1 : a = c <;> by_cases e2 : b = d <;> simp [e1, e2]
theorem guardT (s1 s2 : Operand) (xs ys : Array Value) (w : World) : (eqGuard .eql 50 s1 s2 (.agg xs) (.agg ys)).run Tryd.prog w = .ok () w := by
  unfold eqGuard; simp [go_sem]
theorem guardTn (s1 s2 : Operand) (xs ys : Array Value) (w : World) : (eqGuard .neq 50 s1 s2 (.agg xs) (.agg ys)).run Tryd.prog w = .ok () w := by
  unfold eqGuard; simp [go_sem]
section
variable {o : Oper} {a : Act} {s1 s2 : Operand} {ty : TypeId} {x y u v : Nat} {r : Bool}
theorem run_eqT (ho : o.op = .binOp .eql 50 s1 s2 ty) (h1 : a.eval s1 = prv x y) (h2 : a.eval s2 = prv u v) (hx : x < W4) (hy : y < W4) (hu : u < W4) (hv : v < W4) (hr : (decide (x = u) && decide (y = v)) = r) (w : World) :
    (execOp a.eval o).run Tryd.prog w = .ok (.value (.bool r)) w := by
  subst hr
  unfold execOp
  simp only [ho, h1, h2, Sem.run_bind, guardT, Result.andThen_ok, run_eql_struct, eqT x y u v hx hy hu hv, Sem.run_pure]
theorem run_neT (ho : o.op = .binOp .neq 50 s1 s2 ty) (h1 : a.eval s1 = prv x y) (h2 : a.eval s2 = prv u v) (hx : x < W4) (hy : y < W4) (hu : u < W4) (hv : v < W4) (hr : (!(decide (x = u) && decide (y = v))) = r) (w : World) :
    (execOp a.eval o).run Tryd.prog w = .ok (.value (.bool r)) w := by
  subst hr
  unfold execOp
  simp only [ho, h1, h2, Sem.run_bind, guardTn, Result.andThen_ok, run_neq_struct, eqT x y u v hx hy hu hv, Sem.run_pure]
end
end Go.Proofs.YtgaofocjnifjdaaDoor
namespace Go.Proofs.YtgaofocjnifjdaaDoor
open Go Go.RowKit
set_option maxRecDepth 20000
theorem P25_half : P25 < 2 ^ 255 := by decide +kernel
theorem half_is : (2 : Nat) ^ 255 = 256 ^ 31 * 128 := by decide +kernel
/-- A point in bytes: y, and x's lowest bit ahead of all. -/
def encN (x y : Nat) : List UInt8 := gen (bf (y + 2 ^ 255 * (x % 2))) 32
theorem encN_len (x y : Nat) : (encN x y).length = 32 := gen_length _ _
section
attribute [local irreducible] wd by8 d16 set16w fl
end
end Go.Proofs.YtgaofocjnifjdaaDoor
namespace Go.Proofs.YtgaofocjnifjdaaDoor
open Go Go.RowKit
set_option maxRecDepth 20000
section
attribute [local irreducible] wd by8 d16 set16w fl rl setA t3f set8p set4w
end
end Go.Proofs.YtgaofocjnifjdaaDoor
