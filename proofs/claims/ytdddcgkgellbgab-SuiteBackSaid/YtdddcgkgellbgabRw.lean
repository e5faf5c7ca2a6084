/-
  Rows of structs in memory: lists of elements, each of so many one-cell values. Of no program. By an AI agent.
-/
import Derived.Test.YtdddcgkgellbgabApp
namespace Go.Proofs.Ytdddcgkgellbgab
open Go Go.RowKit
/-- How an element lies in memory: so many one-cell values. -/
structure Enc (α : Type) where
  enc : α → List Value
  size : Nat
  len : ∀ x, (enc x).length = size
  one : ∀ x, ∀ v ∈ enc x, v.oneCell' = true
  pos : 0 < size
section
variable {α : Type} (E : Enc α)
def Enc.all (L : List α) : List Value := L.flatMap E.enc
theorem Enc.all_len : ∀ L : List α, (E.all L).length = L.length * E.size
  | [] => by simp [Enc.all]
  | x :: r => by
    have h := Enc.all_len r
    unfold Enc.all at h ⊢
    rw [List.flatMap_cons, List.length_append, E.len, h, List.length_cons, Nat.succ_mul, Nat.add_comm]
theorem Enc.all_app (L M : List α) : E.all (L ++ M) = E.all L ++ E.all M := List.flatMap_append
theorem Enc.all_get : ∀ {L : List α} {k j : Nat} {x : α}, L[k]? = some x → j < E.size → (E.all L)[k * E.size + j]? = (E.enc x)[j]?
  | [], k, j, x, h, _ => by simp at h
  | y :: r, 0, j, x, h, hj => by
    simp at h
    subst h
    unfold Enc.all
    rw [List.flatMap_cons, Nat.zero_mul, Nat.zero_add, List.getElem?_append_left (by rw [E.len]; exact hj)]
  | y :: r, k + 1, j, x, h, hj => by
    have h' := Enc.all_get (L := r) (k := k) (j := j) (x := x) (by simpa using h) hj
    unfold Enc.all at h' ⊢
    rw [List.flatMap_cons, List.getElem?_append_right (by rw [E.len, Nat.succ_mul]; omega), E.len, show (k + 1) * E.size + j - E.size = k * E.size + j by rw [Nat.succ_mul]; omega, h']
theorem Enc.all_one (L : List α) : ∀ u ∈ E.all L, u.oneCell' = true := by
  intro u hu
  obtain ⟨x, _, hx⟩ := List.mem_flatMap.1 hu
  exact E.one x u hx
/-- The slice at 'A' reads as these elements, in a block below 'B'. -/
structure RdR (w : World) (B : Nat) (A : Option Addr) (c : Nat) (L : List α) : Prop where
  cap : L.length ≤ c
  nil : A = none → L = [] ∧ c = 0
  some_ : L ≠ [] → ∃ b o, A = some ⟨b, o, none⟩ ∧ b < B ∧ ∀ k v, (E.all L)[k]? = some v → w.cell? ⟨b, o + k, none⟩ = some v
/-- The row is the call's own (a block from 'B' on). -/
def OwnR (w : World) (B : Nat) (e : TypeId) (A : Option Addr) (c : Nat) (L : List α) : Prop := w.ownsRow B e E.size (.slice A L.length c) L.length (E.all L)
end
section
variable {α : Type} {E : Enc α} {w w' : World} {B B' c : Nat} {A : Option Addr} {L : List α} {e : TypeId}
theorem RdR.keep (h : RdR E w B A c L) (hb : Below B w w') : RdR E w' B A c L :=
  ⟨h.cap, h.nil, fun hn => by
    obtain ⟨b, o, e, hlt, hc⟩ := h.some_ hn
    exact ⟨b, o, e, hlt, fun k v hk => (hb.cell (p := ⟨b, o + k, none⟩) hlt).trans (hc k v hk)⟩⟩
theorem RdR.mono (h : RdR E w B A c L) (hb : B ≤ B') : RdR E w B' A c L :=
  ⟨h.cap, h.nil, fun hn => by
    obtain ⟨b, o, e, hlt, hc⟩ := h.some_ hn
    exact ⟨b, o, e, by omega, hc⟩⟩
theorem RdR.next (h : RdR E w w.heap.size A c L) (hb : Below w.heap.size w w') : RdR E w' w'.heap.size A c L := (h.keep hb).mono hb.size
theorem RdR.drewN (h : RdR E w B A c L) (m : Nat) : RdR E (w.drewN m) B A c L := ⟨h.cap, h.nil, h.some_⟩
theorem RdR.nothing (E : Enc α) (w : World) (B : Nat) : RdR E w B none 0 [] := ⟨Nat.le_refl _, fun _ => ⟨rfl, rfl⟩, fun h => absurd rfl h⟩
/-- The k-th element's cells. -/
theorem RdR.at_ (h : RdR E w B A c L) {k : Nat} {x : α} (hk : L[k]? = some x) : ∃ b o, A = some ⟨b, o, none⟩ ∧ b < B ∧ ∀ j v, (E.enc x)[j]? = some v → w.cell? ⟨b, o + k * E.size + j, none⟩ = some v := by
  obtain ⟨b, o, e, hlt, hc⟩ := h.some_ (by rintro rfl; simp at hk)
  refine ⟨b, o, e, hlt, fun j v hj => ?_⟩
  have hjs : j < E.size := by rw [← E.len x]; exact (List.getElem?_eq_some_iff.1 hj).1
  rw [Nat.add_assoc]
  exact hc _ v (by rw [E.all_get hk hjs]; exact hj)
theorem RdR.cells (h : RdR E w B A c L) {ad : Addr} (hA : A = some ad) : ∀ j u, (E.all L)[j]? = some u → w.cell? (ad.add j) = some u := by
  intro j u hu
  have hn : L ≠ [] := by rintro rfl; simp [Enc.all] at hu
  obtain ⟨b, o, e, _, hc⟩ := h.some_ hn
  rw [hA] at e
  obtain rfl := Option.some.inj e
  rw [Addr.add_lit]
  exact hc j u hu
theorem OwnR.rd (h : OwnR E w B e A c L) : RdR E w w.heap.size A c L := by
  obtain ⟨hl, h2⟩ := h
  rcases h2 with ⟨h, h0⟩ | ⟨g, cap, cur, hv, hB, hh, hn, hm, hs, ht⟩
  · have e0 : L = [] := List.eq_nil_of_length_eq_zero h0
    subst e0
    simp only [Value.slice.injEq] at h
    obtain ⟨rfl, _, rfl⟩ := h
    exact RdR.nothing E w _
  · simp only [Value.slice.injEq, true_and] at hv
    obtain ⟨rfl, rfl⟩ := hv
    refine ⟨hn, (fun h => nomatch h), fun _ => ⟨g, 0, rfl, (Array.getElem?_eq_some_iff.1 hh).1, fun k v hk => ?_⟩⟩
    have hkl : k < L.length * E.size := by rw [← E.all_len]; exact (List.getElem?_eq_some_iff.1 hk).1
    rw [Nat.zero_add, cell_of_row w g k cur e (0, 0) hh]
    rw [← ht, List.getElem?_take, if_pos (by omega)] at hk
    simpa using hk
theorem OwnR.keep (h : OwnR E w B e A c L) (hb : Below w.heap.size w w') : OwnR E w' B e A c L := by
  obtain ⟨hl, h2⟩ := h
  refine ⟨hl, ?_⟩
  rcases h2 with h | ⟨g, cap, cur, hv, hB, hh, r⟩
  · exact .inl h
  · exact .inr ⟨g, cap, cur, hv, hB, (hb.block g (Array.getElem?_eq_some_iff.1 hh).1).trans hh, r⟩
/-- Its own block is as it was: that is enough. -/
theorem OwnR.keep0 (h : OwnR E w B e A c L) (hs : ∀ ad, A = some ad → w'.heap[ad.block]? = w.heap[ad.block]?) : OwnR E w' B e A c L := by
  obtain ⟨hl, h2⟩ := h
  refine ⟨hl, ?_⟩
  rcases h2 with h | ⟨g, cap, cur, hv, hB, hh, r⟩
  · exact .inl h
  · have e1 : A = some ⟨g, 0, none⟩ := by simp only [Value.slice.injEq] at hv; exact hv.1
    exact .inr ⟨g, cap, cur, hv, hB, (hs _ e1).trans hh, r⟩
theorem OwnR.mono (h : OwnR E w B e A c L) (hb : B' ≤ B) : OwnR E w B' e A c L := by
  obtain ⟨hl, h2⟩ := h
  refine ⟨hl, ?_⟩
  rcases h2 with h | ⟨g, cap, cur, hv, hB, r⟩
  · exact .inl h
  · exact .inr ⟨g, cap, cur, hv, by omega, r⟩
theorem OwnR.drewN (h : OwnR E w B e A c L) (m : Nat) : OwnR E (w.drewN m) B e A c L := h
theorem OwnR.nothing (E : Enc α) (w : World) (B : Nat) (e : TypeId) : OwnR E w B e none 0 [] := World.ownsRow_nil _ _ _ _
theorem OwnR.lit {w : World} {B : Nat} (e : TypeId) (hB : B ≤ w.heap.size) (cs : Array Value) (L : List α) (hm : L.length ≤ maxLen) (h : cs.toList = E.all L) : OwnR E (w.alloc (.cells cs e)) B e (some ⟨w.heap.size, 0, none⟩) L.length L := by
  have hs : cs.size = L.length * E.size := by rw [← Array.length_toList, h, E.all_len]
  have := World.ownsRow_lit (e := e) (size := E.size) w cs L.length hB hm hs
  unfold OwnR
  rw [← h]
  exact this
theorem OwnR.blk (h : OwnR E w B e A c L) : ∀ ad, A = some ad → B ≤ ad.block ∧ ad.block < w.heap.size := by
  intro ad e1
  obtain ⟨_, h2⟩ := h
  rcases h2 with ⟨hv, _⟩ | ⟨g, cap, cur, hv, hB, hb, _⟩
  · simp only [Value.slice.injEq] at hv
    rw [hv.1] at e1; cases e1
  · simp only [Value.slice.injEq] at hv
    rw [hv.1, Option.some.injEq] at e1
    subst e1
    exact ⟨hB, (Array.getElem?_eq_some_iff.1 hb).1⟩
theorem RdR.grown {w w' : World} {A A2 : Option Addr} {B c n c2 : Nat} {L : List α} (h : RdR E w B A2 c2 L) (hg : w.grownBy w' (Value.slice A n c).ownBlock) (ha : Offs A A2) : RdR E w' B A2 c2 L :=
  ⟨h.cap, h.nil, fun hn => by
    obtain ⟨b, o, e, hlt, hc⟩ := h.some_ hn
    exact ⟨b, o, e, hlt, fun k v hk => cell_grown hg (hc k v hk) fun ad ea => (ha ad ⟨b, o, none⟩ ea e : ad.block ≠ b)⟩⟩
theorem OwnR.grown {w w' : World} {A A2 : Option Addr} {B c n c2 : Nat} {L : List α} (h : OwnR E w B e A2 c2 L) (hg : w.grownBy w' (Value.slice A n c).ownBlock) (ha : Offs A A2) : OwnR E w' B e A2 c2 L := by
  refine World.ownsRow.kept h hg ?_
  cases A2 with
  | none => exact .inl rfl
  | some a2 =>
    refine .inr ?_
    cases A with
    | none => simp [Value.ownBlock]
    | some a => simp only [Value.ownBlock, ne_eq, Option.some.injEq]; exact fun he => ha a a2 rfl rfl he.symm
theorem owned_shapeR {v : Value} {n : Nat} (h : w.ownsRow B e E.size v n (E.all L)) (hx : L.length = n) : ∃ A c, v = .slice A n c ∧ OwnR E w B e A c L := by
  subst hx
  rcases h.2 with ⟨rfl, h0⟩ | ⟨g, cap, cur, rfl, _⟩
  · exact ⟨Option.none, 0, by rw [h0], by unfold OwnR; rw [h0] at h ⊢; exact h⟩
  · exact ⟨_, _, rfl, h⟩
end
section
variable {P : Program} {α : Type} {E : Enc α}
/-- append of elements onto a row of the call's own. -/
theorem wpList_appR (w : World) {ops : Array Oper} {rest : List Oper} {o : Oper} {a : Act} {Q : Exit → Act → World → Prop} (hgd : o.guard = none) (s x : Operand) (t : TypeId)
    (ho : o.op = .call { callee := .builtin .append, args := #[s, x], argTypes := #[t, t] })
    (base : Nat) (e : TypeId) (i : TypeInfo) (z : Value) (ht : P.underlying t = some (.slice e)) (hi : P.info? e = some i) (hz : i.zero = some z)
    (hsize : i.size = E.size) {by_ : Nat} (hby : i.bytes = by_) (hzs : z.cells.size = E.size) {As : Option Addr} {cs n : Nat} {L : List α} (hn : L.length = n) (hs : a.eval s = .slice As n cs) (hown : OwnR E w base e As cs L)
    {B c m : Nat} {A : Option Addr} {M : List α} (hm : M.length = m) (hx : a.eval x = .slice A m c) (hr : RdR E w B A c M) (hlen : n + m ≤ 140737488355328) (hbytes : (n + m) * by_ ≤ 140737488355328) (hbase : base ≤ w.heap.size)
    (h : ∀ A' c' w', OwnR E w' base e A' c' (L ++ M) → Below base w w' → Grew w w' As A' → wpList P ops Q rest (a.put o.dst (.slice A' (n + m) c')) w') : wpList P ops Q (o :: rest) a w := by
  subst hn hm
  have hrun : ∃ v' w', (Builtin.append_ #[t, t] o.type #[.slice As L.length cs, .slice A M.length c]).run P w = .ok v' w' ∧ w'.ownsRow base e E.size v' (L.length + M.length) (E.all L ++ E.all M) ∧ w.grownBy w' (Value.slice As L.length cs).ownBlock ∧
      (v'.ownBlock = (Value.slice As L.length cs).ownBlock ∨ v'.ownBlock = some w.heap.size) := by
    rcases A with _ | ad
    · obtain ⟨rfl, rfl⟩ := hr.nil rfl
      exact ⟨_, w, run_append_owned_none (P := P) w base t o.type e i E.size ht hi _ _ _ hown, by simp only [List.length_nil, Nat.add_zero, Enc.all, List.flatMap_nil, List.append_nil]; exact hown, World.grownBy.refl w _, .inl rfl⟩
    · obtain ⟨v', w', hrun, h2, h3, _, h5⟩ := run_append_own_at (P := P) w base t o.type e i z E.size by_ ht hi hz hsize hby hzs E.pos _ _ _ hown ad M.length c (E.all M) (E.all_len M)
        (hr.cells rfl) (E.all_one M) (by simp only [maxLen]; omega) hbytes hbase
      exact ⟨v', w', hrun, h2, h3, h5⟩
  obtain ⟨v', w', hrun, h2, h3, h5⟩ := hrun
  rw [← E.all_app] at h2
  obtain ⟨A', c', rfl, h4⟩ := owned_shapeR h2 List.length_append
  refine wpList_plain hgd fun K hK => ?_
  unfold Oper.wp execOp
  simp only [ho, resolve, invoke, builtin, Sem.run_bind, Sem.run_pure, Result.andThen_ok, List.map_toArray, List.map_cons, List.map_nil, hs, hx, hrun]
  refine hK _ _ (h A' c' w' h4 ((Below.refl _ _).grown h3 hbase ?_) ⟨fun c n => ?_, ?_⟩)
  · intro k hk
    exact (World.ownsRow.lt hown k hk).1
  · cases As <;> exact h3
  · intro ad' e'
    subst e'
    rcases h5 with h5 | h5
    · cases As with
      | none => simp [Value.ownBlock] at h5
      | some a1 =>
        simp only [Value.ownBlock, Option.some.injEq] at h5
        exact .inl ⟨a1, rfl, h5.symm⟩
    · simp only [Value.ownBlock, Option.some.injEq] at h5
      exact .inr h5
/-- What grew from a fresh block on, seen from the world ahead of it. -/
theorem Grew.after {w0 w w' : World} {A A' : Option Addr} (h : Grew w w' A A') (hb : Below w0.heap.size w0 w) : (∀ c n, w0.grownBy w' (Value.slice A n c).ownBlock) ∧ ∀ ad', A' = some ad' → (∃ ad, A = some ad ∧ ad.block = ad'.block) ∨ w0.heap.size ≤ ad'.block :=
  ⟨fun c n => by
    have hg := h.1 c n
    exact ⟨hg.os.trans hb.os, hg.tape.trans hb.tape, hg.output.trans hb.output, Nat.le_trans hb.size hg.size, fun i hi hne => (hg.block i (Nat.lt_of_lt_of_le hi hb.size) hne).trans (hb.block i hi)⟩,
   fun ad' e => (h.2 ad' e).imp id fun h' => by rw [h']; exact hb.size⟩
/-- As Grew, but what is new need not be the very next block. -/
def GrewS (w w' : World) (A A' : Option Addr) : Prop := (∀ c n, w.grownBy w' (Value.slice A n c).ownBlock) ∧ ∀ ad', A' = some ad' → (∃ ad, A = some ad ∧ ad.block = ad'.block) ∨ w.heap.size ≤ ad'.block
theorem GrewS.off {w w' : World} {A A' : Option Addr} (h : GrewS w w' A A') {A2 : Option Addr} (ha : Offs A A2) (hl : ∀ ad2, A2 = some ad2 → ad2.block < w.heap.size) : Offs A' A2 := by
  intro ad ad2 e1 e2 he
  rcases h.2 ad e1 with ⟨ad0, e0, h0⟩ | h0
  · exact ha ad0 ad2 e0 e2 (h0.trans he)
  · have := hl ad2 e2
    omega
/-- append of one element that was just laid. -/
theorem wpList_appR1 (w0 : World) {ops : Array Oper} {rest : List Oper} {o : Oper} {a : Act} {Q : Exit → Act → World → Prop} (hgd : o.guard = none) (s x : Operand) (t : TypeId)
    (ho : o.op = .call { callee := .builtin .append, args := #[s, x], argTypes := #[t, t] })
    (base : Nat) (e : TypeId) (i : TypeInfo) (z : Value) (ht : P.underlying t = some (.slice e)) (hi : P.info? e = some i) (hz : i.zero = some z)
    (hsize : i.size = E.size) {by_ : Nat} (hby : i.bytes = by_) (hzs : z.cells.size = E.size) {As : Option Addr} {cs n : Nat} {L : List α} (hn : L.length = n) (hs : a.eval s = .slice As n cs) (hown : OwnR E w0 base e As cs L)
    {y : α} {cells : Array Value} (hy : cells.toList = E.enc y) (hx : a.eval x = .slice (some ⟨w0.heap.size, 0, none⟩) 1 1) (hlen : n + 1 ≤ 140737488355328) (hbytes : (n + 1) * by_ ≤ 140737488355328) (hbase : base ≤ w0.heap.size)
    (h : ∀ A' c' w', OwnR E w' base e A' c' (L ++ [y]) → Below base w0 w' → GrewS w0 w' As A' → wpList P ops Q rest (a.put o.dst (.slice A' (n + 1) c')) w') : wpList P ops Q (o :: rest) a (w0.alloc (.cells cells e)) := by
  have hb := (Below.refl w0.heap.size w0).alloc (Nat.le_refl _) (.cells cells e)
  have hl := (OwnR.lit (E := E) (w := w0) e (Nat.le_refl _) cells [y] (by simp [maxLen]) (by rw [hy]; simp [Enc.all])).rd
  exact wpList_appR _ hgd s x t ho base e i z ht hi hz hsize hby hzs hn hs (hown.keep hb) (M := [y]) rfl hx hl hlen hbytes (by simp; omega) fun A' c' w' h1 h2 h3 => h A' c' w' h1 ((hb.mono hbase).trans h2) (h3.after hb)
end
end Go.Proofs.Ytdddcgkgellbgab
