/-
  string(b) in a walk. Of no program. By an AI agent.
-/
import Derived.Test.YthamhpgjjbiplaaDoorMA
namespace Go.Proofs.YthamhpgjjbiplaaDoor
open Go Go.RowKit
theorem cv_arm {ops : Array Oper} {rest : List Oper} {a : Act} {w : World} {Q : Exit → Act → World → Prop} {dst : Option Nat} {tp : TypeId} {ps : String} {af : Array Edge} {x : Operand} {A : Option Addr} {c B : Nat} {bs : List UInt8} (hr : Rd w B A c bs) (hB : B ≤ w.heap.size) (e1 : a.eval x = .slice A bs.length c)
    (h : wpList Tryd.prog ops Q rest (a.put dst (.string ⟨bs.toArray⟩)) w) : wpList Tryd.prog ops Q (⟨dst, .convert 27 9 x, tp, ps, af, none⟩ :: rest) a w :=
  wpList_plain rfl fun _ hK => by
    have h2 := run_str (P := Tryd.prog) w 27 5 Tryd.underlying27 Tryd.underlying5 (dst := 9) Tryd.underlying9 (hr.mono hB)
    unfold Oper.wp execOp
    simp only [e1, Sem.run_bind, h2, Result.andThen_ok, Sem.run_pure]
    exact hK _ _ h
theorem cv_len {ops : Array Oper} {rest : List Oper} {a : Act} {w : World} {Q : Exit → Act → World → Prop} {dst : Option Nat} {tp : TypeId} {ps : String} {af : Array Edge} {x : Operand} {A : Option Addr} {c B n : Nat} {bs : List UInt8} (hr : Rd w B A c bs) (hB : B ≤ w.heap.size) (hn : bs.length = n) (e1 : a.eval x = .slice A n c)
    (h : wpList Tryd.prog ops Q rest (a.put dst (.string ⟨bs.toArray⟩)) w) : wpList Tryd.prog ops Q (⟨dst, .convert 27 9 x, tp, ps, af, none⟩ :: rest) a w := by
  subst hn
  exact cv_arm hr hB e1 h
end Go.Proofs.YthamhpgjjbiplaaDoor
