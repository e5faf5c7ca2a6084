/-
  append of bytes, by whatever name their numbers go. Of no program. By an AI agent.
-/
import Derived.Test.YthamhpgjjbiplaaDoorMA
namespace Go.Proofs.YthamhpgjjbiplaaDoor
open Go Go.RowKit
/-- append of bytes, by whatever name their numbers go. -/
theorem wpList_appN {P : Program} (w : World) {ops : Array Oper} {rest : List Oper} {o : Oper} {a : Act} {Q : Exit → Act → World → Prop} (hgd : o.guard = none) (s x : Operand) (t : TypeId)
    (ho : o.op = .call { callee := .builtin .append, args := #[s, x], argTypes := #[t, t] })
    (base : Nat) (e : TypeId) (i : TypeInfo) (z : Value) (ht : P.underlying t = some (.slice e)) (hi : P.info? e = some i) (hz : i.zero = some z)
    (hsize : i.size = 1) (hby : i.bytes = 1) (hzs : z.cells.size = 1) {As : Option Addr} {cs n m l : Nat} {xs : List UInt8} (hs : a.eval s = .slice As n cs) (hn : xs.length = n) (hown : Own w base e As cs xs)
    {B c : Nat} {A : Option Addr} {bs : List UInt8} (hx : a.eval x = .slice A m c) (hm : bs.length = m) (hr : Rd w B A c bs) (hl : n + m = l) (hbytes : l ≤ 140737488355328) (hbase : base ≤ w.heap.size)
    (h : ∀ A' c' w', Own w' base e A' c' (xs ++ bs) → Below base w w' → wpList P ops Q rest (a.put o.dst (.slice A' l c')) w') : wpList P ops Q (o :: rest) a w := by
  subst hn hm hl
  refine wpList_app w hgd s x t ho base e i z ht hi hz hsize hby hzs hs hown hx hr hbytes hbase fun A' c' w' h1 h2 => ?_
  rw [List.length_append]
  exact h A' c' w' h1 h2
/-- The same as an arm: the operation by its pattern, what its operands hold asked last ('rfl' each). -/
theorem app_arm {ops : Array Oper} {rest : List Oper} {a : Act} {w : World} {Q : Exit → Act → World → Prop} {s x : Operand} {dst : Option Nat} {tp : TypeId} {ps : String} {af : Array Edge}
    {i : TypeInfo} (hi : Tryd.prog.info? 5 = some i) (hz : i.zero = some (.int .u8 0)) (hsize : i.size = 1) (hby : i.bytes = 1) {base : Nat} {As : Option Addr} {cs n m l : Nat} {xs : List UInt8} (hn : xs.length = n) (hown : Own w base 5 As cs xs)
    {B c : Nat} {A : Option Addr} {bs : List UInt8} (hm : bs.length = m) (hr : Rd w B A c bs) (hl : n + m = l) (hbytes : l ≤ 140737488355328) (hbase : base ≤ w.heap.size)
    (hs : a.eval s = .slice As n cs) (hx : a.eval x = .slice A m c) (h : ∀ A' c' w', Own w' base 5 A' c' (xs ++ bs) → Below base w w' → wpList Tryd.prog ops Q rest (a.put dst (.slice A' l c')) w') :
    wpList Tryd.prog ops Q (⟨dst, .call { callee := .builtin .append, args := #[s, x], argTypes := #[27, 27] }, tp, ps, af, none⟩ :: rest) a w :=
  wpList_appN w rfl s x 27 rfl base 5 i _ Tryd.underlying27 hi hz hsize hby rfl hs hn hown hx hm hr hl hbytes hbase h
end Go.Proofs.YthamhpgjjbiplaaDoor
