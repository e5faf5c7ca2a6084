/-
  The document's Expand (layer 7). By an AI agent.
-/
import Derived.Test.YtbofehdihflkiaaDoorH4
import Derived.Test.YtbofehdihflkiaaDoorMut
namespace Go.Proofs.YtbofehdihflkiaaDoor
open Go Go.RowKit
set_option maxRecDepth 20000
/-- What is known of the operations of Expand's round. -/
def DX (K : Kd) (A Al Ai : Option Addr) (nk c cl ci B0 i : Nat) (last info key : List UInt8) (ib : UInt8) : Nat → Bool → Value → World → Prop
  | 0, _, v, _ => v = kv K
  | 1, _, v, _ => v = .slice A nk c
  | 2, _, v, _ => v = .slice Al last.length cl
  | 3, _, v, _ => v = .slice Ai info.length ci
  | 4, b, v, w => b = true ∨ ∃ A c, v = .slice A (last ++ info).length c ∧ Own w B0 5 A c (last ++ info)
  | 5, _, v, _ => v = .int .i64 (i : Int)
  | 6, _, v, _ => v = .int .u8 (ib.toNat : Int)
  | 7, b, v, w => b = true ∨ ∃ A, v = .slice A 1 1 ∧ Rd w w.heap.size A 1 [ib]
  | 8, _, v, w => ∃ A c, v = .slice A (last ++ info ++ [ib]).length c ∧ Rd w w.heap.size A c (last ++ info ++ [ib])
  | 9, b, v, w => b = true ∧ ∃ A c, v = .slice A 32 c ∧ Rd w w.heap.size A c (macN key (last ++ info ++ [ib]))
  | _, _, _, _ => True
theorem DX_keep {K : Kd} {A Al Ai : Option Addr} {nk c cl ci B0 i : Nat} {last info key : List UInt8} {ib : UInt8} (k : Nat) (b : Bool) (v : Value) (w w' : World) (h : DX K A Al Ai nk c cl ci B0 i last info key ib k b v w) (hb : Below w.heap.size w w') : DX K A Al Ai nk c cl ci B0 i last info key ib k b v w' := by
  match k, h with
  | 0, h => exact h
  | 1, h => exact h
  | 2, h => exact h
  | 3, h => exact h
  | 4, h => exact h.imp id fun ⟨A, c, e, o⟩ => ⟨A, c, e, o.keep hb⟩
  | 5, h => exact h
  | 6, h => exact h
  | 7, h => exact h.imp id fun ⟨A, e, r⟩ => ⟨A, e, (r.keep hb).mono hb.size⟩
  | 8, h => obtain ⟨A, c, e, r⟩ := h; exact ⟨A, c, e, (r.keep hb).mono hb.size⟩
  | 9, h => obtain ⟨h0, A, c, e, r⟩ := h; exact ⟨h0, A, c, e, (r.keep hb).mono hb.size⟩
  | k + 10, _ => trivial
theorem DX_turn {K : Kd} {A Al Ai : Option Addr} {nk c cl ci B0 i : Nat} {last info key : List UInt8} {ib : UInt8} (w w' : World) (j : Nat) (hj : j ≠ 8) (x : Value) (h : DX K A Al Ai nk c cl ci B0 i last info key ib j false x w) : DX K A Al Ai nk c cl ci B0 i last info key ib j true x w' := by
  match j, h with
  | 0, h => exact h
  | 1, h => exact h
  | 2, h => exact h
  | 3, h => exact h
  | 4, _ => exact .inl rfl
  | 5, h => exact h
  | 6, h => exact h
  | 7, _ => exact .inl rfl
  | 8, _ => exact absurd rfl hj
  | 9, h => exact absurd h.1 (by decide)
  | j + 10, _ => trivial
/-- append as an operation of such a region. -/
theorem run_app_op {o : Oper} {a : Act} {w : World} {s x : Operand} (ho : o.op = .call { callee := .builtin .append, args := #[s, x], argTypes := #[22, 22] })
    {B0 c c1 B : Nat} {A A1 : Option Addr} {xs bs : List UInt8} (hs : a.eval s = .slice A xs.length c) (hown : Own w B0 5 A c xs) (hx : a.eval x = .slice A1 bs.length c1) (hr : Rd w B A1 c1 bs) (hl : xs.length + bs.length ≤ 140737488355328) (hB : B0 ≤ w.heap.size) :
    ∃ A' c' w', (execOp a.eval o).run Tryd.prog w = .ok (.value (.slice A' (xs ++ bs).length c')) w' ∧ Own w' B0 5 A' c' (xs ++ bs) ∧ Below B0 w w' := by
  obtain ⟨i0, hi, hz0, hz1, hz2⟩ := info_parts infoB6
  obtain ⟨v', w', hrun, h2, h3⟩ := run_app (P := Tryd.prog) w B0 22 o.type 5 i0 _ Tryd.underlying22 hi hz0 hz1 hz2 rfl hown hr hl hB
  rw [← List.map_append, ← List.length_append] at h2
  obtain ⟨A', c', rfl, h4⟩ := owned_shape h2
  refine ⟨A', c', w', ?_, h4, (Below.refl _ _).grown h3 hB fun k hk => (World.ownsRow.lt hown k hk).1⟩
  unfold execOp
  simp only [ho, resolve, invoke, builtin, Sem.run_bind, Sem.run_pure, Result.andThen_ok, List.map_toArray, List.map_cons, List.map_nil, hs, hx, hrun]
theorem mut_app {ops : Array Oper} {o : Oper} {a : Act} {w : World} {s x : Operand} {B0 c c1 B : Nat} {A A1 : Option Addr} {xs bs : List UInt8} {p : Value → World → Prop} (hw : Region.wanted o (yielded ops a.tmps) = true) (ho : o.op = .call { callee := .builtin .append, args := #[s, x], argTypes := #[22, 22] })
    (hs : a.eval s = .slice A xs.length c) (hown : Own w B0 5 A c xs) (hx : a.eval x = .slice A1 bs.length c1) (hr : Rd w B A1 c1 bs) (hl : xs.length + bs.length ≤ 140737488355328) (hB : B0 ≤ w.heap.size)
    (hp : ∀ A' c' w', Own w' B0 5 A' c' (xs ++ bs) → Below B0 w w' → p (.slice A' (xs ++ bs).length c') w') :
    Region.wanted o (yielded ops a.tmps) = true ∧ ∃ v w', (execOp a.eval o).run Tryd.prog w = .ok (.value v) w' ∧ p v w' := by
  obtain ⟨A', c', w', h1, h2, h3⟩ := run_app_op ho hs hown hx hr hl hB
  exact ⟨hw, _, w', h1, hp A' c' w' h2 h3⟩
end Go.Proofs.YtbofehdihflkiaaDoor
