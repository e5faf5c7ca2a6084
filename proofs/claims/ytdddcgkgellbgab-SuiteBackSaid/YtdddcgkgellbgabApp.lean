/-
  append to a row of one's own, with what it leaves alone beside it. Of no program. By an AI agent.
-/
import Derived.Test.YtdddcgkgellbgabMA
import Derived.Maps.AppendAt
namespace Go.Proofs.Ytdddcgkgellbgab
open Go Go.RowKit
/-- No block is both ones'. -/
def Offs (A A2 : Option Addr) : Prop := ∀ ad ad2, A = some ad → A2 = some ad2 → ad.block ≠ ad2.block
theorem Offs.none1 (A2 : Option Addr) : Offs none A2 := fun _ _ h => nomatch h
theorem Offs.lt {A : Option Addr} {ad2 : Addr} {B : Nat} (h : ∀ ad, A = some ad → ad.block < B) (h2 : B ≤ ad2.block) : Offs A (some ad2) := fun a b e e2 => by
  have := h a e
  cases e2
  omega
theorem OwnF.blk {w : World} {B : Nat} {e : TypeId} {A : Option Addr} {c n : Nat} {f : Nat → Value} (h : OwnF w B e A c n f) : ∀ ad, A = some ad → B ≤ ad.block ∧ ad.block < w.heap.size := by
  intro ad e1
  obtain ⟨_, h2⟩ := h
  rcases h2 with ⟨hv, _⟩ | ⟨g, cap, cur, hv, hB, hb, _⟩
  · simp only [Value.slice.injEq] at hv
    rw [hv.1] at e1; cases e1
  · simp only [Value.slice.injEq] at hv
    rw [hv.1, Option.some.injEq] at e1
    subst e1
    exact ⟨hB, (Array.getElem?_eq_some_iff.1 hb).1⟩
theorem Own.blk {w : World} {B : Nat} {e : TypeId} {A : Option Addr} {c : Nat} {bs : List UInt8} (h : Own w B e A c bs) : ∀ ad, A = some ad → B ≤ ad.block ∧ ad.block < w.heap.size := by
  intro ad e1
  obtain ⟨_, h2⟩ := h
  rcases h2 with ⟨hv, _⟩ | ⟨g, cap, cur, hv, hB, hb, _⟩
  · simp only [Value.slice.injEq] at hv
    rw [hv.1] at e1; cases e1
  · simp only [Value.slice.injEq] at hv
    rw [hv.1, Option.some.injEq] at e1
    subst e1
    exact ⟨hB, (Array.getElem?_eq_some_iff.1 hb).1⟩
theorem cell_grown {w w' : World} {A : Option Addr} {c n : Nat} (hg : w.grownBy w' (Value.slice A n c).ownBlock) {p : Addr} {v : Value} (h : w.cell? p = some v) (ha : ∀ ad, A = some ad → ad.block ≠ p.block) : w'.cell? p = some v :=
  hg.cell h fun e => by
    cases A with
    | none => simp [Value.ownBlock] at e
    | some a =>
      simp only [Value.ownBlock, Option.some.injEq] at e
      exact ha a rfl e.symm
theorem Rd.grown {w w' : World} {A A2 : Option Addr} {B c n c2 : Nat} {bs : List UInt8} (h : Rd w B A2 c2 bs) (hg : w.grownBy w' (Value.slice A n c).ownBlock) (ha : Offs A A2) : Rd w' B A2 c2 bs :=
  ⟨h.cap, h.nil, fun hn => by
    obtain ⟨b, o, e, hlt, hc⟩ := h.some_ hn
    exact ⟨b, o, e, hlt, fun k hk => cell_grown hg (hc k hk) fun ad ea => (ha ad ⟨b, o, none⟩ ea e : ad.block ≠ b)⟩⟩
theorem RdF.grown {w w' : World} {A A2 : Option Addr} {B c n c2 m : Nat} {f : Nat → Value} (h : RdF w B A2 c2 m f) (hg : w.grownBy w' (Value.slice A n c).ownBlock) (ha : Offs A A2) : RdF w' B A2 c2 m f :=
  ⟨h.cap, h.nil, fun hn => by
    obtain ⟨b, o, e, hlt, hc⟩ := h.some_ hn
    exact ⟨b, o, e, hlt, fun k hk => cell_grown hg (hc k hk) fun ad ea => (ha ad ⟨b, o, none⟩ ea e : ad.block ≠ b)⟩⟩
/-- The block of what append tells: the one that was there, or a new one. -/
def Grew (w w' : World) (A A' : Option Addr) : Prop := (∀ c n, w.grownBy w' (Value.slice A n c).ownBlock) ∧ ∀ ad', A' = some ad' → (∃ ad, A = some ad ∧ ad.block = ad'.block) ∨ ad'.block = w.heap.size
theorem Grew.off {w w' : World} {A A' : Option Addr} (h : Grew w w' A A') {A2 : Option Addr} (ha : Offs A A2) (hl : ∀ ad2, A2 = some ad2 → ad2.block < w.heap.size) : Offs A' A2 := by
  intro ad ad2 e1 e2 he
  rcases h.2 ad e1 with ⟨ad0, e0, h0⟩ | h0
  · exact ha ad0 ad2 e0 e2 (h0.trans he)
  · have := hl ad2 e2
    omega
section
variable {P : Program}
theorem wpList_appG (w : World) {ops : Array Oper} {rest : List Oper} {o : Oper} {a : Act} {Q : Exit → Act → World → Prop} (hgd : o.guard = none) (s x : Operand) (t : TypeId)
    (ho : o.op = .call { callee := .builtin .append, args := #[s, x], argTypes := #[t, t] })
    (base : Nat) (e : TypeId) (i : TypeInfo) (z : Value) (ht : P.underlying t = some (.slice e)) (hi : P.info? e = some i) (hz : i.zero = some z)
    (hsize : i.size = 1) {by_ : Nat} (hby : i.bytes = by_) (hzs : z.cells.size = 1) {As : Option Addr} {cs n : Nat} {f : Nat → Value} (hs : a.eval s = .slice As n cs) (hown : OwnF w base e As cs n f)
    {B c m : Nat} {A : Option Addr} {g : Nat → Value} (hx : a.eval x = .slice A m c) (hr : RdF w B A c m g) (hg : ∀ k, k < m → (g k).oneCell' = true) (hlen : n + m ≤ 140737488355328) (hbytes : (n + m) * by_ ≤ 140737488355328) (hbase : base ≤ w.heap.size)
    (h : ∀ A' c' w', OwnF w' base e A' c' (n + m) (fun k => if k < n then f k else g (k - n)) → Below base w w' → Grew w w' As A' → wpList P ops Q rest (a.put o.dst (.slice A' (n + m) c')) w') : wpList P ops Q (o :: rest) a w := by
  have happ : (List.range n).map f ++ (List.range m).map g = (List.range (n + m)).map (fun k => if k < n then f k else g (k - n)) := by
    refine List.ext_getElem (by simp) fun i h1 h2 => ?_
    rw [List.getElem_append]
    simp only [List.length_map, List.length_range, List.getElem_map, List.getElem_range]
    by_cases hi : i < n
    · rw [dif_pos hi, if_pos hi]
    · rw [dif_neg hi, if_neg hi]
  have hrun : ∃ v' w', (Builtin.append_ #[t, t] o.type #[.slice As n cs, .slice A m c]).run P w = .ok v' w' ∧ w'.ownsRow base e 1 v' (n + m) ((List.range n).map f ++ (List.range m).map g) ∧ w.grownBy w' (Value.slice As n cs).ownBlock ∧
      (v'.ownBlock = (Value.slice As n cs).ownBlock ∨ v'.ownBlock = some w.heap.size) := by
    rcases A with _ | ad
    · obtain ⟨rfl, rfl⟩ := hr.nil rfl
      exact ⟨_, w, run_append_owned_none (P := P) w base t o.type e i 1 ht hi _ n _ hown, by simp only [Nat.add_zero, List.range_zero, List.map_nil, List.append_nil]; exact hown, World.grownBy.refl w _, .inl rfl⟩
    · obtain ⟨v', w', hrun, h2, h3, _, h5⟩ := run_append_own_at (P := P) w base t o.type e i z 1 by_ ht hi hz hsize hby hzs (by decide) _ n _ hown ad m c ((List.range m).map g) (by simp)
        (hr.cells rfl) (by intro u hu; obtain ⟨k, hk, rfl⟩ := List.mem_map.1 hu; exact hg k (by simpa using hk)) (by simp only [maxLen]; omega) (by omega) hbase
      exact ⟨v', w', hrun, h2, h3, h5⟩
  obtain ⟨v', w', hrun, h2, h3, h5⟩ := hrun
  obtain ⟨A', c', rfl, h4⟩ := owned_shapeF h2 happ
  refine wpList_plain hgd fun K hK => ?_
  unfold Oper.wp execOp
  simp only [ho, resolve, invoke, builtin, Sem.run_bind, Sem.run_pure, Result.andThen_ok, List.map_toArray, List.map_cons, List.map_nil, hs, hx, hrun]
  refine hK _ _ (h A' c' w' h4 ((Below.refl _ _).grown h3 hbase ?_) ⟨fun c n => ?_, ?_⟩)
  · intro k hk
    exact (World.ownsRow.lt hown k hk).1
  · cases As <;> exact h3
  · intro ad' e'
    subst e'
    rcases h5 with h5 | h5
    · cases As with
      | none => simp [Value.ownBlock] at h5
      | some a1 =>
        simp only [Value.ownBlock, Option.some.injEq] at h5
        exact .inl ⟨a1, rfl, h5.symm⟩
    · simp only [Value.ownBlock, Option.some.injEq] at h5
      exact .inr h5
end
end Go.Proofs.Ytdddcgkgellbgab
