import Derived.Test.YtojggpiolgcjeaaMG
import Derived.Test.YtojggpiolgcjeaaMB
namespace Go.Proofs.Ytojggpiolgcjeaa
open Go Go.RowKit
/-! '==' and '!=' over numbers, by a law (the walk's own steps over a great frame run the kernel out of memory). -/
section
variable {P : Program}
theorem wp_eqlA (t ty : TypeId) (s1 s2 : Operand) {w : World} {o : Oper} {a : Act} {K : Act → World → Prop} {Q : Exit → Act → World → Prop} (ho : o.op = .binOp .eql t s1 s2 ty)
    {xs ys : Array Value} (h1 : a.eval s1 = .agg xs) (h2 : a.eval s2 = .agg ys) (hg : (eqGuard .eql t s1 s2 (.agg xs) (.agg ys)).run P w = .ok () w) {r : Bool} (hq : (Op.equalIn 10000 t (.agg xs) (.agg ys)).run P w = .ok r w)
    (h : K (a.put o.dst (.bool r)) w) : o.wp P a w K Q := by
  unfold Oper.wp execOp
  simp only [ho, h1, h2, Sem.run_bind, hg, Result.andThen_ok, run_eql_struct, hq, Sem.run_pure]
  exact h
theorem wp_neqA (t ty : TypeId) (s1 s2 : Operand) {w : World} {o : Oper} {a : Act} {K : Act → World → Prop} {Q : Exit → Act → World → Prop} (ho : o.op = .binOp .neq t s1 s2 ty)
    {xs ys : Array Value} (h1 : a.eval s1 = .agg xs) (h2 : a.eval s2 = .agg ys) (hg : (eqGuard .neq t s1 s2 (.agg xs) (.agg ys)).run P w = .ok () w) {r : Bool} (hq : (Op.equalIn 10000 t (.agg xs) (.agg ys)).run P w = .ok r w)
    (h : K (a.put o.dst (.bool (!r))) w) : o.wp P a w K Q := by
  unfold Oper.wp execOp
  simp only [ho, h1, h2, Sem.run_bind, hg, Result.andThen_ok, run_neq_struct, hq, Sem.run_pure]
  exact h
theorem wpList_eqlA (t ty : TypeId) (s1 s2 : Operand) {w : World} {ops : Array Oper} {rest : List Oper} {o : Oper} {a : Act} {Q : Exit → Act → World → Prop} (hgd : o.guard = none) (ho : o.op = .binOp .eql t s1 s2 ty)
    {xs ys : Array Value} (h1 : a.eval s1 = .agg xs) (h2 : a.eval s2 = .agg ys) (hg : (eqGuard .eql t s1 s2 (.agg xs) (.agg ys)).run P w = .ok () w) {r : Bool} (hq : (Op.equalIn 10000 t (.agg xs) (.agg ys)).run P w = .ok r w)
    (h : wpList P ops Q rest (a.put o.dst (.bool r)) w) : wpList P ops Q (o :: rest) a w :=
  wpList_plain hgd fun _ hK => wp_eqlA t ty s1 s2 ho h1 h2 hg hq (hK _ _ h)
theorem wpList_neqA (t ty : TypeId) (s1 s2 : Operand) {w : World} {ops : Array Oper} {rest : List Oper} {o : Oper} {a : Act} {Q : Exit → Act → World → Prop} (hgd : o.guard = none) (ho : o.op = .binOp .neq t s1 s2 ty)
    {xs ys : Array Value} (h1 : a.eval s1 = .agg xs) (h2 : a.eval s2 = .agg ys) (hg : (eqGuard .neq t s1 s2 (.agg xs) (.agg ys)).run P w = .ok () w) {r : Bool} (hq : (Op.equalIn 10000 t (.agg xs) (.agg ys)).run P w = .ok r w)
    (h : wpList P ops Q rest (a.put o.dst (.bool (!r))) w) : wpList P ops Q (o :: rest) a w :=
  wpList_plain hgd fun _ hK => wp_neqA t ty s1 s2 ho h1 h2 hg hq (hK _ _ h)
theorem wpList_eqlG (t ty : TypeId) (s1 s2 : Operand) {w : World} {ops : Array Oper} {rest : List Oper} {o : Oper} {a : Act} {Q : Exit → Act → World → Prop} (hw : Region.wanted o (yielded ops a.tmps) = true) (ho : o.op = .binOp .eql t s1 s2 ty)
    {xs ys : Array Value} (h1 : a.eval s1 = .agg xs) (h2 : a.eval s2 = .agg ys) (hg : (eqGuard .eql t s1 s2 (.agg xs) (.agg ys)).run P w = .ok () w) {r : Bool} (hq : (Op.equalIn 10000 t (.agg xs) (.agg ys)).run P w = .ok r w)
    (h : wpList P ops Q rest (a.put o.dst (.bool r)) w) : wpList P ops Q (o :: rest) a w :=
  wpList_step fun _ hK => by
    rw [if_pos hw]
    exact wp_eqlA t ty s1 s2 ho h1 h2 hg hq (hK _ _ h)
theorem wpList_neqG (t ty : TypeId) (s1 s2 : Operand) {w : World} {ops : Array Oper} {rest : List Oper} {o : Oper} {a : Act} {Q : Exit → Act → World → Prop} (hw : Region.wanted o (yielded ops a.tmps) = true) (ho : o.op = .binOp .neq t s1 s2 ty)
    {xs ys : Array Value} (h1 : a.eval s1 = .agg xs) (h2 : a.eval s2 = .agg ys) (hg : (eqGuard .neq t s1 s2 (.agg xs) (.agg ys)).run P w = .ok () w) {r : Bool} (hq : (Op.equalIn 10000 t (.agg xs) (.agg ys)).run P w = .ok r w)
    (h : wpList P ops Q rest (a.put o.dst (.bool (!r))) w) : wpList P ops Q (o :: rest) a w :=
  wpList_step fun _ hK => by
    rw [if_pos hw]
    exact wp_neqA t ty s1 s2 ho h1 h2 hg hq (hK _ _ h)
/-- Gates: the next operation is this one (tried at reducible transparency, so that a miss costs nothing). -/
theorem gate_wp (b : BinOp) (t : TypeId) {ty tp : TypeId} {s1 s2 : Operand} {dst : Option Nat} {ps : String} {af : Array Edge} {gd : Option (Nat × Bool)} {w : World} {a : Act} {K : Act → World → Prop} {Q : Exit → Act → World → Prop}
    (h : Oper.wp P ⟨dst, .binOp b t s1 s2 ty, tp, ps, af, gd⟩ a w K Q) : Oper.wp P ⟨dst, .binOp b t s1 s2 ty, tp, ps, af, gd⟩ a w K Q := h
theorem gate_list (b : BinOp) (t : TypeId) {ty tp : TypeId} {s1 s2 : Operand} {dst : Option Nat} {ps : String} {af : Array Edge} {w : World} {ops : Array Oper} {rest : List Oper} {a : Act} {Q : Exit → Act → World → Prop}
    (h : wpList P ops Q (⟨dst, .binOp b t s1 s2 ty, tp, ps, af, none⟩ :: rest) a w) : wpList P ops Q (⟨dst, .binOp b t s1 s2 ty, tp, ps, af, none⟩ :: rest) a w := h
theorem gate_listG (b : BinOp) (t : TypeId) {ty tp : TypeId} {s1 s2 : Operand} {dst : Option Nat} {ps : String} {af : Array Edge} {gd : Nat × Bool} {w : World} {ops : Array Oper} {rest : List Oper} {a : Act} {Q : Exit → Act → World → Prop}
    (h : wpList P ops Q (⟨dst, .binOp b t s1 s2 ty, tp, ps, af, some gd⟩ :: rest) a w) : wpList P ops Q (⟨dst, .binOp b t s1 s2 ty, tp, ps, af, some gd⟩ :: rest) a w := h
end
theorem guard4 (s1 s2 : Operand) (xs ys : Array Value) (w : World) : (eqGuard .eql 36 s1 s2 (.agg xs) (.agg ys)).run Try.prog w = .ok () w := by
  unfold eqGuard; simp [go_sem]
theorem guard8 (s1 s2 : Operand) (xs ys : Array Value) (w : World) : (eqGuard .eql 71 s1 s2 (.agg xs) (.agg ys)).run Try.prog w = .ok () w := by
  unfold eqGuard; simp [go_sem]
theorem guard4n (s1 s2 : Operand) (xs ys : Array Value) (w : World) : (eqGuard .neq 36 s1 s2 (.agg xs) (.agg ys)).run Try.prog w = .ok () w := by
  unfold eqGuard; simp [go_sem]
theorem guard8n (s1 s2 : Operand) (xs ys : Array Value) (w : World) : (eqGuard .neq 71 s1 s2 (.agg xs) (.agg ys)).run Try.prog w = .ok () w := by
  unfold eqGuard; simp [go_sem]
theorem eq4_self (x : Nat) (w : World) : (Op.equalIn 10000 36 (nv x) (nv x)).run Try.prog w = .ok true w := by
  rw [← nv_mod]
  have h := eq4 (x % W4) (x % W4) (Nat.mod_lt _ W4_pos) (Nat.mod_lt _ W4_pos) w
  rw [decide_eq_true rfl] at h
  exact h
theorem eq8_self {x : Nat} (hx : x < W8) (w : World) : (Op.equalIn 10000 71 (dv x) (dv x)).run Try.prog w = .ok true w := by
  have h := eq8 x x hx hx w
  rw [decide_eq_true rfl] at h
  exact h
end Go.Proofs.Ytojggpiolgcjeaa
namespace Go.Proofs.Ytojggpiolgcjeaa
open Go Go.RowKit
section
variable {ops : Array Oper} {S : World → Prop} {Lq : Act → Prop} {a : Act} {o : Oper} {l : List Oper}
/-- '==' and '!=' over numbers, as one operation of a region that draws its order. -/
theorem run_eq4 {s1 s2 : Operand} {ty : TypeId} {x y : Nat} {r : Bool} (ho : o.op = .binOp .eql 36 s1 s2 ty) (h1 : a.eval s1 = nv x) (h2 : a.eval s2 = nv y) (hx : x < W4) (hy : y < W4) (hr : decide (x = y) = r) (w : World) :
    (execOp a.eval o).run Try.prog w = .ok (.value (.bool r)) w := by
  subst hr
  unfold execOp
  simp only [ho, h1, h2, Sem.run_bind, guard4, Result.andThen_ok, run_eql_struct, eq4 x y hx hy, Sem.run_pure]
theorem run_ne4 {s1 s2 : Operand} {ty : TypeId} {x y : Nat} {r : Bool} (ho : o.op = .binOp .neq 36 s1 s2 ty) (h1 : a.eval s1 = nv x) (h2 : a.eval s2 = nv y) (hx : x < W4) (hy : y < W4) (hr : (!decide (x = y)) = r) (w : World) :
    (execOp a.eval o).run Try.prog w = .ok (.value (.bool r)) w := by
  subst hr
  unfold execOp
  simp only [ho, h1, h2, Sem.run_bind, guard4n, Result.andThen_ok, run_neq_struct, eq4 x y hx hy, Sem.run_pure]
theorem Seq.runG {P : Program} (v : Value) (hg : Region.wanted o (yielded ops a.tmps) = true) (hv : ∀ w, S w → (execOp a.eval o).run P w = .ok (.value v) w) (h : Seq P ops S Lq l (a.put o.dst v)) : Seq P ops S Lq (o :: l) a :=
  ⟨v, .inl ⟨hg, fun w hS => .inl (hv w hS)⟩, h⟩
theorem Seq.callG {P : Program} (v : Value) (f : FuncId) (args : Array Value) (hg : Region.wanted o (yielded ops a.tmps) = true) (hv : ∀ w, S w → (execOp a.eval o).run P w = .ok (.enter f args) w) (hc : ∀ w, S w → Calls P f args w fun e w' => e = .returned v ∧ S w')
    (h : Seq P ops S Lq l (a.put o.dst v)) : Seq P ops S Lq (o :: l) a :=
  ⟨v, .inl ⟨hg, fun w hS => .inr ⟨f, args, hv w hS, hc w hS⟩⟩, h⟩
theorem Seq.skip {P : Program} (hg : Region.wanted o (yielded ops a.tmps) = false) (h : Seq P ops S Lq l (a.put o.dst undef)) : Seq P ops S Lq (o :: l) a :=
  ⟨undef, .inr ⟨hg, rfl⟩, h⟩
end
end Go.Proofs.Ytojggpiolgcjeaa
