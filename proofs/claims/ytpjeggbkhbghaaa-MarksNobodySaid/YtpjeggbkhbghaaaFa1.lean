/-
  append of elements as a run; boxes of names and texts. By an AI agent.
-/
import Derived.Test.YtpjeggbkhbghaaaFd4
import Derived.Test.YtpjeggbkhbghaaaPar
namespace Go.Proofs.Ytpjeggbkhbghaaa
open Go Go.RowKit
set_option maxRecDepth 20000
section
variable {P : Program} {α : Type} {E : Enc α}
theorem appR_run (w : World) {o : Oper} {a : Go.Act} (s x : Operand) (t : TypeId)
    (ho : o.op = .call { callee := .builtin .append, args := #[s, x], argTypes := #[t, t] })
    (base : Nat) (e : TypeId) (i : TypeInfo) (z : Value) (ht : P.underlying t = some (.slice e)) (hi : P.info? e = some i) (hz : i.zero = some z)
    (hsize : i.size = E.size) {by_ : Nat} (hby : i.bytes = by_) (hzs : z.cells.size = E.size) {As : Option Addr} {cs n : Nat} {L : List α} (hn : L.length = n) (hs : a.eval s = .slice As n cs) (hown : OwnR E w base e As cs L)
    {B c m : Nat} {A : Option Addr} {M : List α} (hm : M.length = m) (hx : a.eval x = .slice A m c) (hr : RdR E w B A c M) (hlen : n + m ≤ 140737488355328) (hbytes : (n + m) * by_ ≤ 140737488355328) (hbase : base ≤ w.heap.size) :
    ∃ A' c' w', (execOp a.eval o).run P w = .ok (.value (.slice A' (n + m) c')) w' ∧ OwnR E w' base e A' c' (L ++ M) ∧ Below base w w' ∧ Grew w w' As A' := by
  subst hn hm
  have hrun : ∃ v' w', (Builtin.append_ #[t, t] o.type #[.slice As L.length cs, .slice A M.length c]).run P w = .ok v' w' ∧ w'.ownsRow base e E.size v' (L.length + M.length) (E.all L ++ E.all M) ∧ w.grownBy w' (Value.slice As L.length cs).ownBlock ∧
      (v'.ownBlock = (Value.slice As L.length cs).ownBlock ∨ v'.ownBlock = some w.heap.size) := by
    rcases A with _ | ad
    · obtain ⟨rfl, rfl⟩ := hr.nil rfl
      exact ⟨_, w, run_append_owned_none (P := P) w base t o.type e i E.size ht hi _ _ _ hown, by simp only [List.length_nil, Nat.add_zero, Enc.all, List.flatMap_nil, List.append_nil]; exact hown, World.grownBy.refl w _, .inl rfl⟩
    · obtain ⟨v', w', hrun, h2, h3, _, h5⟩ := run_append_own_at (P := P) w base t o.type e i z E.size by_ ht hi hz hsize hby hzs E.pos _ _ _ hown ad M.length c (E.all M) (E.all_len M)
        (hr.cells rfl) (E.all_one M) (by simp only [maxLen]; omega) hbytes hbase
      exact ⟨v', w', hrun, h2, h3, h5⟩
  obtain ⟨v', w', hrun, h2, h3, h5⟩ := hrun
  rw [← E.all_app] at h2
  obtain ⟨A', c', rfl, h4⟩ := owned_shapeR h2 List.length_append
  refine ⟨A', c', w', ?_, h4, (Below.refl _ _).grown h3 hbase fun k hk => (World.ownsRow.lt hown k hk).1, ⟨fun c n => by cases As <;> exact h3, ?_⟩⟩
  · unfold execOp
    simp only [ho, resolve, invoke, builtin, Sem.run_bind, Sem.run_pure, Result.andThen_ok, List.map_toArray, List.map_cons, List.map_nil, hs, hx, hrun]
  · intro ad' e'
    subst e'
    rcases h5 with h5 | h5
    · cases As with
      | none => simp [Value.ownBlock] at h5
      | some a1 =>
        simp only [Value.ownBlock, Option.some.injEq] at h5
        exact .inl ⟨a1, rfl, h5.symm⟩
    · simp only [Value.ownBlock, Option.some.injEq] at h5
      exact .inr h5
theorem StepC.appR {ops : Array Oper} {F : Value → World → Prop} (w : World) {o : Oper} {a : Go.Act} (hg : Region.wanted o (yielded ops a.tmps) = true) (s x : Operand) (t : TypeId)
    (ho : o.op = .call { callee := .builtin .append, args := #[s, x], argTypes := #[t, t] })
    (base : Nat) (e : TypeId) (i : TypeInfo) (z : Value) (ht : P.underlying t = some (.slice e)) (hi : P.info? e = some i) (hz : i.zero = some z)
    (hsize : i.size = E.size) {by_ : Nat} (hby : i.bytes = by_) (hzs : z.cells.size = E.size) {As : Option Addr} {cs n : Nat} {L : List α} (hn : L.length = n) (hs : a.eval s = .slice As n cs) (hown : OwnR E w base e As cs L)
    {B c m : Nat} {A : Option Addr} {M : List α} (hm : M.length = m) (hx : a.eval x = .slice A m c) (hr : RdR E w B A c M) (hlen : n + m ≤ 140737488355328) (hbytes : (n + m) * by_ ≤ 140737488355328) (hbase : base ≤ w.heap.size)
    (h : ∀ A' c' w', OwnR E w' base e A' c' (L ++ M) → Below base w w' → Grew w w' As A' → F (.slice A' (n + m) c') w') : StepC P ops F o a w := by
  obtain ⟨A', c', w', h1, h2, h3, h4⟩ := appR_run w s x t ho base e i z ht hi hz hsize hby hzs hn hs hown hm hx hr hlen hbytes hbase
  exact StepC.run _ w' hg h1 (h A' c' w' h2 h3 h4)
end
theorem OwnF.same_ {w w' : World} {B : Nat} {e : TypeId} {c n g : Nat} {f : Nat → Value} (h : OwnF w B e (some ⟨g, 0, none⟩) c n f) (hs : w'.heap[g]? = w.heap[g]?) : OwnF w' B e (some ⟨g, 0, none⟩) c n f := by
  obtain ⟨hl, h2⟩ := h
  refine ⟨hl, ?_⟩
  rcases h2 with h | ⟨g1, cap, cur, hv, hB, hh, r⟩
  · exact .inl h
  · have e1 : g = g1 := by simp only [Value.slice.injEq, Option.some.injEq, Addr.mk.injEq] at hv; exact hv.1.1
    subst e1
    exact .inr ⟨g, cap, cur, hv, hB, hs.trans hh, r⟩
/-- A box of two cells. -/
def twoF (a b : Value) (k : Nat) : Value := if k = 0 then a else b
abbrev O2 (w : World) (B : Nat) (t : TypeId) (g : Nat) (a b : Value) : Prop := OwnF w B t (some ⟨g, 0, none⟩) 2 2 (twoF a b)
section
variable {w w' : World} {B g : Nat} {t : TypeId} {a b : Value}
theorem O2.newz (hB : B ≤ w.heap.size) (t : TypeId) (a b : Value) : O2 (w.alloc (.cells #[a, b] t)) B t w.heap.size a b := OwnF.lit _ hB _ 2 (twoF a b) (by decide) rfl
theorem O2.c0 (h : O2 w B t g a b) : w.cell? ⟨g, 0, none⟩ = some a := OwnF.cell h (k := 0) (by decide)
theorem O2.c1 (h : O2 w B t g a b) : w.cell? ⟨g, 1, none⟩ = some b := OwnF.cell h (k := 1) (by decide)
theorem O2.f0 (h : O2 w B t g a b) : w.frozen? ⟨g, 0, none⟩ = false := OwnF.free h 0
theorem O2.f1 (h : O2 w B t g a b) : w.frozen? ⟨g, 1, none⟩ = false := OwnF.free h 1
def set2 (w : World) (g : Nat) (a b : Value) : World := (w.setCell ⟨g, 0, none⟩ a).setCell ⟨g, 1, none⟩ b
theorem set2_only (w : World) (g : Nat) (a b : Value) : ∀ k, k ≠ g → (set2 w g a b).heap[k]? = w.heap[k]? := fun k hk => by
  unfold set2
  rw [Below.heap_setCell _ ⟨g, 1, none⟩ b k hk, Below.heap_setCell _ ⟨g, 0, none⟩ a k hk]
theorem O2.set_ (h : O2 w B t g a b) (a2 b2 : Value) : O2 (set2 w g a2 b2) B t g a2 b2 := by
  refine OwnF.congr ((OwnF.set_ h 0 a2).set_ 1 b2) fun k hk => ?_
  have : k = 0 ∨ k = 1 := by omega
  rcases this with rfl | rfl <;> rfl
theorem O2.below (h : O2 w B t g a b) (a2 b2 : Value) : Below B w (set2 w g a2 b2) := by
  have hg := OwnF.ge h
  unfold set2
  exact ((Below.refl B w).setCell hg a2).setCell hg b2
end
theorem id_res2 {fn : Func} {p q : Tmp} (h : fn.results = #[.cell p 27, .tmp q]) (tmps : Array Value) {w : World} {B g : Nat} {a b : Value} (o : O2 w B 27 g a b) (hp : tmps.getD p undef = .pointer (some ⟨g, 0, none⟩)) {v : Value} (hv : tmps.getD q undef = v) :
    (results fn tmps).run Try.prog w = .ok (.tuple #[.agg #[a, b], v]) w := by
  subst hv
  have hp' : tmps[p]?.getD undef = .pointer (some ⟨g, 0, none⟩) := by simpa using hp
  have c0 := o.c0
  have c1 := o.c1
  simp only [results, h]
  simp [Result.andThen, hp', asAddr, go_sem, c0, c1]
theorem id_res3 {fn : Func} {p q r : Tmp} (h : fn.results = #[.cell p 27, .tmp q, .tmp r]) (tmps : Array Value) {w : World} {B g : Nat} {a b : Value} (o : O2 w B 27 g a b) (hp : tmps.getD p undef = .pointer (some ⟨g, 0, none⟩)) {v v' : Value} (hv : tmps.getD q undef = v) (hv' : tmps.getD r undef = v') :
    (results fn tmps).run Try.prog w = .ok (.tuple #[.agg #[a, b], v, v']) w := by
  subst hv
  subst hv'
  have hp' : tmps[p]?.getD undef = .pointer (some ⟨g, 0, none⟩) := by simpa using hp
  have c0 := o.c0
  have c1 := o.c1
  simp only [results, h]
  simp [Result.andThen, hp', asAddr, go_sem, c0, c1]
theorem tree_res2 {fn : Func} {p q : Tmp} (h : fn.results = #[.cell p 91, .tmp q]) (tmps : Array Value) {w : World} {B g : Nat} {a b : Value} (o : O2 w B 91 g a b) (hp : tmps.getD p undef = .pointer (some ⟨g, 0, none⟩)) {v : Value} (hv : tmps.getD q undef = v) :
    (results fn tmps).run Try.prog w = .ok (.tuple #[.agg #[a, b], v]) w := by
  subst hv
  have hp' : tmps[p]?.getD undef = .pointer (some ⟨g, 0, none⟩) := by simpa using hp
  have c0 := o.c0
  have c1 := o.c1
  simp only [results, h]
  simp [Result.andThen, hp', asAddr, go_sem, c0, c1]
end Go.Proofs.Ytpjeggbkhbghaaa
