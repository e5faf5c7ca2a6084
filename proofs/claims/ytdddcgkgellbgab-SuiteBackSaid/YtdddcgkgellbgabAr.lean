/-
  append of elements as a run. Of no program. By an AI agent.
-/
import Derived.Test.YtdddcgkgellbgabRw
import Derived.Test.YtdddcgkgellbgabPar
namespace Go.Proofs.Ytdddcgkgellbgab
open Go Go.RowKit
set_option maxRecDepth 20000
section
variable {P : Program} {α : Type} {E : Enc α}
theorem appR_run (w : World) {o : Oper} {a : Go.Act} (s x : Operand) (t : TypeId)
    (ho : o.op = .call { callee := .builtin .append, args := #[s, x], argTypes := #[t, t] })
    (base : Nat) (e : TypeId) (i : TypeInfo) (z : Value) (ht : P.underlying t = some (.slice e)) (hi : P.info? e = some i) (hz : i.zero = some z)
    (hsize : i.size = E.size) {by_ : Nat} (hby : i.bytes = by_) (hzs : z.cells.size = E.size) {As : Option Addr} {cs n : Nat} {L : List α} (hn : L.length = n) (hs : a.eval s = .slice As n cs) (hown : OwnR E w base e As cs L)
    {B c m : Nat} {A : Option Addr} {M : List α} (hm : M.length = m) (hx : a.eval x = .slice A m c) (hr : RdR E w B A c M) (hlen : n + m ≤ 140737488355328) (hbytes : (n + m) * by_ ≤ 140737488355328) (hbase : base ≤ w.heap.size) :
    ∃ A' c' w', (execOp a.eval o).run P w = .ok (.value (.slice A' (n + m) c')) w' ∧ OwnR E w' base e A' c' (L ++ M) ∧ Below base w w' ∧ Grew w w' As A' := by
  subst hn hm
  have hrun : ∃ v' w', (Builtin.append_ #[t, t] o.type #[.slice As L.length cs, .slice A M.length c]).run P w = .ok v' w' ∧ w'.ownsRow base e E.size v' (L.length + M.length) (E.all L ++ E.all M) ∧ w.grownBy w' (Value.slice As L.length cs).ownBlock ∧
      (v'.ownBlock = (Value.slice As L.length cs).ownBlock ∨ v'.ownBlock = some w.heap.size) := by
    rcases A with _ | ad
    · obtain ⟨rfl, rfl⟩ := hr.nil rfl
      exact ⟨_, w, run_append_owned_none (P := P) w base t o.type e i E.size ht hi _ _ _ hown, by simp only [List.length_nil, Nat.add_zero, Enc.all, List.flatMap_nil, List.append_nil]; exact hown, World.grownBy.refl w _, .inl rfl⟩
    · obtain ⟨v', w', hrun, h2, h3, _, h5⟩ := run_append_own_at (P := P) w base t o.type e i z E.size by_ ht hi hz hsize hby hzs E.pos _ _ _ hown ad M.length c (E.all M) (E.all_len M)
        (hr.cells rfl) (E.all_one M) (by simp only [maxLen]; omega) hbytes hbase
      exact ⟨v', w', hrun, h2, h3, h5⟩
  obtain ⟨v', w', hrun, h2, h3, h5⟩ := hrun
  rw [← E.all_app] at h2
  obtain ⟨A', c', rfl, h4⟩ := owned_shapeR h2 List.length_append
  refine ⟨A', c', w', ?_, h4, (Below.refl _ _).grown h3 hbase fun k hk => (World.ownsRow.lt hown k hk).1, ⟨fun c n => by cases As <;> exact h3, ?_⟩⟩
  · unfold execOp
    simp only [ho, resolve, invoke, builtin, Sem.run_bind, Sem.run_pure, Result.andThen_ok, List.map_toArray, List.map_cons, List.map_nil, hs, hx, hrun]
  · intro ad' e'
    subst e'
    rcases h5 with h5 | h5
    · cases As with
      | none => simp [Value.ownBlock] at h5
      | some a1 =>
        simp only [Value.ownBlock, Option.some.injEq] at h5
        exact .inl ⟨a1, rfl, h5.symm⟩
    · simp only [Value.ownBlock, Option.some.injEq] at h5
      exact .inr h5
theorem StepC.appR {ops : Array Oper} {F : Value → World → Prop} (w : World) {o : Oper} {a : Go.Act} (hg : Region.wanted o (yielded ops a.tmps) = true) (s x : Operand) (t : TypeId)
    (ho : o.op = .call { callee := .builtin .append, args := #[s, x], argTypes := #[t, t] })
    (base : Nat) (e : TypeId) (i : TypeInfo) (z : Value) (ht : P.underlying t = some (.slice e)) (hi : P.info? e = some i) (hz : i.zero = some z)
    (hsize : i.size = E.size) {by_ : Nat} (hby : i.bytes = by_) (hzs : z.cells.size = E.size) {As : Option Addr} {cs n : Nat} {L : List α} (hn : L.length = n) (hs : a.eval s = .slice As n cs) (hown : OwnR E w base e As cs L)
    {B c m : Nat} {A : Option Addr} {M : List α} (hm : M.length = m) (hx : a.eval x = .slice A m c) (hr : RdR E w B A c M) (hlen : n + m ≤ 140737488355328) (hbytes : (n + m) * by_ ≤ 140737488355328) (hbase : base ≤ w.heap.size)
    (h : ∀ A' c' w', OwnR E w' base e A' c' (L ++ M) → Below base w w' → Grew w w' As A' → F (.slice A' (n + m) c') w') : StepC P ops F o a w := by
  obtain ⟨A', c', w', h1, h2, h3, h4⟩ := appR_run w s x t ho base e i z ht hi hz hsize hby hzs hn hs hown hm hx hr hlen hbytes hbase
  exact StepC.run _ w' hg h1 (h A' c' w' h2 h3 h4)
end
end Go.Proofs.Ytdddcgkgellbgab
