/-
  append of one byte to a row of one's own, with another such row beside it. Of no program. By an AI agent.
-/
import Derived.Test.YtbofehdihflkiaaDoorMA
import Derived.Maps.AppendAt
namespace Go.Proofs.YtbofehdihflkiaaDoor
open Go Go.RowKit
/-- No block is both ones'. -/
def Apart (A A2 : Option Addr) : Prop := ∀ ad ad2, A = some ad → A2 = some ad2 → ad.block ≠ ad2.block
theorem Apart.symm {A A2 : Option Addr} (h : Apart A A2) : Apart A2 A := fun a b ha hb e => h b a hb ha e.symm
theorem Own.grown2 {w w' : World} {B n c c3 : Nat} {e : TypeId} {A A2 : Option Addr} {ys : List UInt8} (h : Own w B e A2 c3 ys) (hg : w.grownBy w' (Value.slice A n c).ownBlock) (ha : Apart A A2) : Own w' B e A2 c3 ys := by
  obtain ⟨hl, h2⟩ := h
  refine ⟨hl, ?_⟩
  rcases h2 with h | ⟨g1, cap, cur, hv, hB, hb, r⟩
  · exact .inl h
  · have hlt : g1 < w.heap.size := (Array.getElem?_eq_some_iff.1 hb).1
    have hA2 : A2 = some ⟨g1, 0, none⟩ := by simp only [Value.slice.injEq] at hv; exact hv.1
    refine .inr ⟨g1, cap, cur, hv, hB, (hg.block g1 hlt fun h => ?_).trans hb, r⟩
    cases A with
    | none => simp [Value.ownBlock] at h
    | some a =>
      simp only [Value.ownBlock, Option.some.injEq] at h
      exact ha a _ rfl hA2 h.symm
section
variable {P : Program}
theorem wpList_app1x (w0 : World) {ops : Array Oper} {rest : List Oper} {o : Oper} {a : Act} {Q : Exit → Act → World → Prop} (hgd : o.guard = none) (s x : Operand) (t : TypeId)
    (ho : o.op = .call { callee := .builtin .append, args := #[s, x], argTypes := #[t, t] })
    (base : Nat) (e : TypeId) (i : TypeInfo) (z : Value) (ht : P.underlying t = some (.slice e)) (hi : P.info? e = some i) (hz : i.zero = some z)
    (hsize : i.size = 1) (hby : i.bytes = 1) (hzs : z.cells.size = 1) {As : Option Addr} {cs n : Nat} {xs : List UInt8} (hs : a.eval s = .slice As n cs) (hn : n = xs.length) (hown : Own w0 base e As cs xs)
    {v : Int} (hx : a.eval x = .slice (some ⟨w0.heap.size, 0, none⟩) 1 1) (b : UInt8) (hv : v = (b.toNat : Int)) (hbytes : n + 1 ≤ 140737488355328) (hbase : base ≤ w0.heap.size)
    {A2 : Option Addr} {c2 : Nat} {ys : List UInt8} (hown2 : Own w0 base e A2 c2 ys) (hap : Apart As A2)
    (h : ∀ A' c' w', Own w' base e A' c' (xs ++ [b]) → Own w' base e A2 c2 ys → Apart A' A2 → Below base w0 w' → wpList P ops Q rest (a.put o.dst (.slice A' (n + 1) c')) w') : wpList P ops Q (o :: rest) a (w0.alloc (.cells #[.int .u8 v] e)) := by
  subst hv
  subst hn
  have hb := (Below.refl w0.heap.size w0).alloc (Nat.le_refl _) (.cells #[.int .u8 (b.toNat : Int)] e)
  have hl := (Own.lit (w := w0) e (Nat.le_refl _) #[.int .u8 (b.toNat : Int)] [b] (by simp [maxLen]) rfl).rd
  have ho1 := hown.keep hb
  have ho2 := hown2.keep hb
  obtain ⟨v', w', hrun, h2, h3, _, h5⟩ := run_append_own_at (P := P) (w0.alloc (.cells #[.int .u8 (b.toNat : Int)] e)) base t o.type e i z 1 1 ht hi hz hsize hby hzs (by decide) (.slice As xs.length cs) xs.length (xs.map bv) ho1 ⟨w0.heap.size, 0, none⟩ 1 1 [bv b] (by simp)
    (hl.cells rfl) (ones [b]) (by simp only [maxLen]; omega) (by omega) (by simp; omega)
  have h2' : w'.ownsRow base e 1 v' (xs ++ [b]).length ((xs ++ [b]).map bv) := by
    rw [List.map_append, List.length_append]
    exact h2
  obtain ⟨A', c', rfl, h4⟩ := owned_shape h2'
  have hap' : Apart A' A2 := by
    intro ad ad2 e1 e2 he
    subst e1
    rcases h5 with h5 | h5
    · cases As with
      | none => simp [Value.ownBlock] at h5
      | some a1 =>
        simp only [Value.ownBlock, Option.some.injEq] at h5
        exact hap a1 ad2 rfl e2 (h5.symm.trans he)
    · simp only [Value.ownBlock, Option.some.injEq] at h5
      obtain ⟨_, h6⟩ := hown2
      rcases h6 with ⟨hv, _⟩ | ⟨g1, cap, cur, hv, hB, hbk, _⟩
      · simp only [Value.slice.injEq] at hv
        rw [hv.1] at e2
        cases e2
      · simp only [Value.slice.injEq] at hv
        have hlt : g1 < w0.heap.size := (Array.getElem?_eq_some_iff.1 hbk).1
        rw [hv.1, Option.some.injEq] at e2
        subst e2
        simp at h5 he
        omega
  refine wpList_plain hgd fun K hK => ?_
  unfold Oper.wp execOp
  simp only [ho, resolve, invoke, builtin, Sem.run_bind, Sem.run_pure, Result.andThen_ok, List.map_toArray, List.map_cons, List.map_nil, hs, hx, hrun]
  have h9 := hK _ _ (h A' c' w' h4 (Own.grown2 (n := xs.length) ho2 h3 hap) hap' ((hb.mono hbase).trans ((Below.refl _ _).grown h3 (by simp; omega) fun k hk => (World.ownsRow.lt ho1 k hk).1)))
  rwa [show (xs ++ [b]).length = xs.length + 1 by simp]
end
end Go.Proofs.YtbofehdihflkiaaDoor
