/-
  Rows of one-cell values in memory, of whatever type: of no program. By an AI agent.
-/
import Derived.Test.YtecphnhdcphgbaaBase
import Derived.Test.YtecphnhdcphgbaaNum
namespace Go.Proofs.Ytecphnhdcphgbaa
open Go Go.RowKit

/-- The slice at 'A', of 'n' elements, reads as the values 'f 0', 'f 1' .., in a block below 'B'. -/
structure RdF (w : World) (B : Nat) (A : Option Addr) (c n : Nat) (f : Nat → Value) : Prop where
  cap : n ≤ c
  nil : A = none → n = 0 ∧ c = 0
  some_ : 0 < n → ∃ b o, A = some ⟨b, o, none⟩ ∧ b < B ∧ ∀ k, k < n → w.cell? ⟨b, o + k, none⟩ = some (f k)
section
variable {w w' : World} {B B' c n : Nat} {A : Option Addr} {f : Nat → Value}
theorem RdF.keep (h : RdF w B A c n f) (hb : Below B w w') : RdF w' B A c n f :=
  ⟨h.cap, h.nil, fun hn => by
    obtain ⟨b, o, e, hlt, hc⟩ := h.some_ hn
    exact ⟨b, o, e, hlt, fun k hk => (hb.cell (p := ⟨b, o + k, none⟩) hlt).trans (hc k hk)⟩⟩
theorem RdF.mono (h : RdF w B A c n f) (hb : B ≤ B') : RdF w B' A c n f :=
  ⟨h.cap, h.nil, fun hn => by
    obtain ⟨b, o, e, hlt, hc⟩ := h.some_ hn
    exact ⟨b, o, e, by omega, hc⟩⟩
theorem RdF.at_ {k : Nat} (h : RdF w B A c n f) (hk : k < n) : ∃ b o, A = some ⟨b, o, none⟩ ∧ b < B ∧ w.cell? ⟨b, o + k, none⟩ = some (f k) := by
  obtain ⟨b, o, e, hlt, hc⟩ := h.some_ (by omega)
  exact ⟨b, o, e, hlt, hc k hk⟩
theorem RdF.next (h : RdF w w.heap.size A c n f) (hb : Below w.heap.size w w') : RdF w' w'.heap.size A c n f := (h.keep hb).mono hb.size
/-- 'a[:m]'. -/
theorem RdF.take {m : Nat} (h : RdF w B A c n f) (hm : m ≤ n) : RdF w B A c m f :=
  ⟨Nat.le_trans hm h.cap, fun e => by have := h.nil e; omega, fun hn => by
    obtain ⟨b, o, e, hlt, hc⟩ := h.some_ (by omega)
    exact ⟨b, o, e, hlt, fun k hk => hc k (by omega)⟩⟩
theorem RdF.congr {g : Nat → Value} (h : RdF w B A c n f) (he : ∀ k, k < n → f k = g k) : RdF w B A c n g :=
  ⟨h.cap, h.nil, fun hn => by
    obtain ⟨b, o, e, hlt, hc⟩ := h.some_ hn
    exact ⟨b, o, e, hlt, fun k hk => by rw [← he k hk]; exact hc k hk⟩⟩
theorem RdF.cells (h : RdF w B A c n f) {ad : Addr} (hA : A = some ad) : ∀ j u, ((List.range n).map f)[j]? = some u → w.cell? (ad.add j) = some u := by
  intro j u hu
  have hj : j < n := by have := (List.getElem?_eq_some_iff.1 hu).1; simpa using this
  obtain ⟨b, o, e, _, hc⟩ := h.at_ hj
  rw [hA] at e
  obtain rfl := Option.some.inj e
  rw [Addr.add_lit, hc]
  simp [hj] at hu
  rw [hu]

/-- The row is the call's own (a block from 'B' on), its first 'n' cells are 'f 0', 'f 1' ..; 'e' is the elements' type. -/
def OwnF (w : World) (B : Nat) (e : TypeId) (A : Option Addr) (c n : Nat) (f : Nat → Value) : Prop :=
  w.ownsRow B e 1 (.slice A n c) n ((List.range n).map f)
variable {e : TypeId}
theorem range_map_get {k : Nat} (h : k < n) : ((List.range n).map f)[k]? = some (f k) := by simp [h]
theorem OwnF.congr {g : Nat → Value} (h : OwnF w B e A c n f) (he : ∀ k, k < n → f k = g k) : OwnF w B e A c n g := by
  unfold OwnF at h ⊢
  rw [show (List.range n).map g = (List.range n).map f from List.map_congr_left fun k hk => (he k (by simpa using hk)).symm]
  exact h
theorem OwnF.rd (h : OwnF w B e A c n f) : RdF w w.heap.size A c n f := by
  obtain ⟨hl, h2⟩ := h
  rcases h2 with ⟨h, h0⟩ | ⟨g, cap, cur, hv, hB, hh, hn, hm, hs, ht⟩
  · subst h0
    simp only [Value.slice.injEq] at h
    obtain ⟨rfl, _, rfl⟩ := h
    exact ⟨by simp, fun _ => ⟨rfl, rfl⟩, fun h => absurd h (by omega)⟩
  · simp only [Value.slice.injEq, true_and] at hv
    obtain ⟨rfl, rfl⟩ := hv
    refine ⟨hn, (fun h => nomatch h), fun _ => ⟨g, 0, rfl, (Array.getElem?_eq_some_iff.1 hh).1, fun k hk => ?_⟩⟩
    rw [Nat.zero_add, cell_of_row w g k cur e (0, 0) hh, ← range_map_get hk, ← ht, List.getElem?_take, if_pos (by omega)]
    simp
/-- The row reads whatever the bound: a block of the call's own. -/
theorem OwnF.rd' (h : OwnF w B e A c n f) (hb : w.heap.size ≤ B') : RdF w B' A c n f := h.rd.mono hb
theorem OwnF.keep (h : OwnF w B e A c n f) (hb : Below w.heap.size w w') : OwnF w' B e A c n f := by
  obtain ⟨hl, h2⟩ := h
  refine ⟨hl, ?_⟩
  rcases h2 with h | ⟨g, cap, cur, hv, hB, hh, r⟩
  · exact .inl h
  · exact .inr ⟨g, cap, cur, hv, hB, (hb.block g (Array.getElem?_eq_some_iff.1 hh).1).trans hh, r⟩
theorem OwnF.mono (h : OwnF w B e A c n f) (hb : B' ≤ B) : OwnF w B' e A c n f := by
  obtain ⟨hl, h2⟩ := h
  refine ⟨hl, ?_⟩
  rcases h2 with h | ⟨g, cap, cur, hv, hB, r⟩
  · exact .inl h
  · exact .inr ⟨g, cap, cur, hv, by omega, r⟩
theorem OwnF.nothing (w : World) (B : Nat) (e : TypeId) (f : Nat → Value) : OwnF w B e none 0 0 f := World.ownsRow_nil _ _ _ _
variable {g : Nat}
theorem OwnF.lit {w : World} {B : Nat} (e : TypeId) (hB : B ≤ w.heap.size) (cs : Array Value) (n : Nat) (f : Nat → Value) (hm : n ≤ maxLen) (h : cs.toList = (List.range n).map f) : OwnF (w.alloc (.cells cs e)) B e (some ⟨w.heap.size, 0, none⟩) n n f := by
  have hs : cs.size = n * 1 := by rw [← Array.length_toList, h]; simp
  have := World.ownsRow_lit (e := e) (size := 1) w cs n hB hm hs
  unfold OwnF
  rw [← h]
  exact this
theorem OwnF.cell (h : OwnF w B e (some ⟨g, 0, none⟩) c n f) {k : Nat} (hk : k < n) : w.cell? ⟨g, k, none⟩ = some (f k) := by
  rw [World.ownsRow.cellAt h k (by omega), range_map_get hk]
theorem OwnF.set_ (h : OwnF w B e (some ⟨g, 0, none⟩) c n f) (k : Nat) (x : Value) : OwnF (w.setCell ⟨g, k, none⟩ x) B e (some ⟨g, 0, none⟩) c n (fun j => if j = k then x else f j) := by
  have := (World.ownsRow.stored h k x).1
  unfold OwnF
  have e : ((List.range n).map f).set k x = (List.range n).map (fun j => if j = k then x else f j) := by
    refine List.ext_getElem (by simp) fun i h1 h2 => ?_
    rw [List.getElem_set]
    simp only [List.getElem_map, List.getElem_range]
    by_cases h : k = i
    · rw [if_pos h, if_pos h.symm]
    · rw [if_neg h, if_neg (Ne.symm h)]
  rw [← e]
  exact this
theorem RdF.cell0 (h : RdF w B (some ⟨g, 0, none⟩) c n f) {k : Nat} (hk : k < n) : w.cell? ⟨g, k, none⟩ = some (f k) := by
  obtain ⟨b, o, e, _, hc⟩ := h.at_ hk
  simp only [Option.some.injEq, Addr.mk.injEq] at e
  obtain ⟨rfl, rfl, _⟩ := e
  simpa using hc
theorem OwnF.keepAt (h : OwnF w B e (some ⟨g, 0, none⟩) c n f) (hb : Below (g + 1) w w') : OwnF w' B e (some ⟨g, 0, none⟩) c n f := by
  obtain ⟨hl, h2⟩ := h
  refine ⟨hl, ?_⟩
  rcases h2 with h | ⟨g', cap, cur, hv, hB, hh, r⟩
  · exact .inl h
  · have hg : g = g' := by simp only [Value.slice.injEq, Option.some.injEq, Addr.mk.injEq] at hv; exact hv.1.1
    subst hg
    exact .inr ⟨g, cap, cur, hv, hB, (hb.block g (by omega)).trans hh, r⟩
theorem OwnF.other (h : OwnF w B e (some ⟨g, 0, none⟩) c n f) {p : Addr} (hp : p.block ≠ g) (v : Value) : OwnF (w.setCell p v) B e (some ⟨g, 0, none⟩) c n f := by
  obtain ⟨hl, h2⟩ := h
  refine ⟨hl, ?_⟩
  rcases h2 with h | ⟨g', cap, cur, hv, hB, hh, r⟩
  · exact .inl h
  · have hg : g = g' := by simp only [Value.slice.injEq, Option.some.injEq, Addr.mk.injEq] at hv; exact hv.1.1
    subst hg
    exact .inr ⟨g, cap, cur, hv, hB, (Below.heap_setCell w p v g (Ne.symm hp)).trans hh, r⟩
theorem OwnF.ge (h : OwnF w B e (some ⟨g, 0, none⟩) c n f) : B ≤ g := (World.ownsRow.lt h g rfl).1
theorem OwnF.lt (h : OwnF w B e (some ⟨g, 0, none⟩) c n f) : g < w.heap.size := (World.ownsRow.lt h g rfl).2
theorem OwnF.free (h : OwnF w B e (some ⟨g, 0, none⟩) c n f) (k : Nat) : w.frozen? ⟨g, k, none⟩ = false := World.ownsRow.frozenAt h k
theorem OwnF.drew (h : OwnF w B e A c n f) : OwnF w.drew B e A c n f := h
theorem OwnF.drewN (h : OwnF w B e A c n f) (m : Nat) : OwnF (w.drewN m) B e A c n f := h
theorem RdF.drew (h : RdF w B A c n f) : RdF w.drew B A c n f := ⟨h.cap, h.nil, h.some_⟩
theorem RdF.drewN (h : RdF w B A c n f) (m : Nat) : RdF (w.drewN m) B A c n f := ⟨h.cap, h.nil, h.some_⟩
/-- How long. -/
theorem OwnF.bound (h : OwnF w B e A c n f) : n ≤ maxLen := by
  rcases h.2 with ⟨_, h0⟩ | ⟨g, cap, cur, hv, hB, hh, hn, hm, hs, ht⟩
  · omega
  · exact Nat.le_trans hn hm

theorem owned_shapeF {v : Value} {xs : List Value} {n : Nat} (h : w.ownsRow B e 1 v n xs) (hx : xs = (List.range n).map f) : ∃ A c, v = .slice A n c ∧ OwnF w B e A c n f := by
  subst hx
  rcases h.2 with ⟨rfl, h0⟩ | ⟨g, cap, cur, rfl, _⟩
  · exact ⟨Option.none, 0, by rw [h0], by unfold OwnF; rw [h0] at h ⊢; exact h⟩
  · exact ⟨_, _, rfl, h⟩
end

section
variable {P : Program}
/-- append of a slice that reads as one-cell values, nil or not, onto a row of the call's own. -/
theorem wp_appF (w : World) {o : Oper} {a : Act} {K : Act → World → Prop} {Q : Exit → Act → World → Prop} (s x : Operand) (t : TypeId)
    (ho : o.op = .call { callee := .builtin .append, args := #[s, x], argTypes := #[t, t] })
    (base : Nat) (e : TypeId) (i : TypeInfo) (z : Value) (ht : P.underlying t = some (.slice e)) (hi : P.info? e = some i) (hz : i.zero = some z)
    (hsize : i.size = 1) {by_ : Nat} (hby : i.bytes = by_) (_hby0 : 0 < by_) (hzs : z.cells.size = 1) {As : Option Addr} {cs n : Nat} {f : Nat → Value} (hs : a.eval s = .slice As n cs) (hown : OwnF w base e As cs n f)
    {B c m : Nat} {A : Option Addr} {g : Nat → Value} (hx : a.eval x = .slice A m c) (hr : RdF w B A c m g) (hg : ∀ k, k < m → (g k).oneCell' = true) (hlen : n + m ≤ 140737488355328) (hbytes : (n + m) * by_ ≤ 140737488355328) (hbase : base ≤ w.heap.size)
    (h : ∀ A' c' w', OwnF w' base e A' c' (n + m) (fun k => if k < n then f k else g (k - n)) → Below base w w' → K (a.put o.dst (.slice A' (n + m) c')) w') : o.wp P a w K Q := by
  have happ : (List.range n).map f ++ (List.range m).map g = (List.range (n + m)).map (fun k => if k < n then f k else g (k - n)) := by
    refine List.ext_getElem (by simp) fun i h1 h2 => ?_
    rw [List.getElem_append]
    simp only [List.length_map, List.length_range, List.getElem_map, List.getElem_range]
    by_cases hi : i < n
    · rw [dif_pos hi, if_pos hi]
    · rw [dif_neg hi, if_neg hi]
  have hrun : ∃ v' w', (Builtin.append_ #[t, t] o.type #[.slice As n cs, .slice A m c]).run P w = .ok v' w' ∧ w'.ownsRow base e 1 v' (n + m) ((List.range n).map f ++ (List.range m).map g) ∧ w.grownBy w' (Value.slice As n cs).ownBlock := by
    rcases A with _ | ad
    · obtain ⟨rfl, rfl⟩ := hr.nil rfl
      exact ⟨_, w, run_append_owned_none (P := P) w base t o.type e i 1 ht hi _ n _ hown, by simp only [Nat.add_zero, List.range_zero, List.map_nil, List.append_nil]; exact hown, World.grownBy.refl w _⟩
    · obtain ⟨v', w', hrun, h2, h3, _⟩ := run_append_own (P := P) w base t o.type e i z 1 by_ ht hi hz hsize hby hzs (by decide) _ n _ hown ad m c ((List.range m).map g) (by simp)
        (hr.cells rfl) (by intro u hu; obtain ⟨k, hk, rfl⟩ := List.mem_map.1 hu; exact hg k (by simpa using hk)) (by simp only [maxLen]; omega) (by omega) hbase
      exact ⟨v', w', hrun, h2, h3⟩
  obtain ⟨v', w', hrun, h2, h3⟩ := hrun
  obtain ⟨A', c', rfl, h4⟩ := owned_shapeF h2 happ
  unfold Oper.wp execOp
  simp only [ho, resolve, invoke, builtin, Sem.run_bind, Sem.run_pure, Result.andThen_ok, List.map_toArray, List.map_cons, List.map_nil, hs, hx, hrun]
  refine h A' c' w' h4 ((Below.refl _ _).grown h3 hbase ?_)
  intro k hk
  exact (World.ownsRow.lt hown k hk).1
/-- append of one value. -/
theorem wp_appF1 (w0 : World) {o : Oper} {a : Act} {K : Act → World → Prop} {Q : Exit → Act → World → Prop} (s x : Operand) (t : TypeId)
    (ho : o.op = .call { callee := .builtin .append, args := #[s, x], argTypes := #[t, t] })
    (base : Nat) (e : TypeId) (i : TypeInfo) (z : Value) (ht : P.underlying t = some (.slice e)) (hi : P.info? e = some i) (hz : i.zero = some z)
    (hsize : i.size = 1) {by_ : Nat} (hby : i.bytes = by_) (hby0 : 0 < by_) (hzs : z.cells.size = 1) {As : Option Addr} {cs n : Nat} {f : Nat → Value} (hs : a.eval s = .slice As n cs) (hown : OwnF w0 base e As cs n f)
    {v : Value} (hv : v = f n) (hx : a.eval x = .slice (some ⟨w0.heap.size, 0, none⟩) 1 1) (hone : (f n).oneCell' = true) (hlen : n + 1 ≤ 140737488355328) (hbytes : (n + 1) * by_ ≤ 140737488355328) (hbase : base ≤ w0.heap.size)
    (h : ∀ A' c' w', OwnF w' base e A' c' (n + 1) f → Below base w0 w' → K (a.put o.dst (.slice A' (n + 1) c')) w') : o.wp P a (w0.alloc (.cells #[v] e)) K Q := by
  subst hv
  have hb := (Below.refl w0.heap.size w0).alloc (Nat.le_refl _) (.cells #[f n] e)
  have hl := (OwnF.lit (w := w0) e (Nat.le_refl _) #[f n] 1 (fun _ => f n) (by simp [maxLen]) rfl).rd
  refine wp_appF _ s x t ho base e i z ht hi hz hsize hby hby0 hzs hs (hown.keep hb) hx hl (fun _ _ => hone) hlen hbytes (by simp; omega) ?_
  intro A' c' w' h1 h2
  refine h A' c' w' (h1.congr fun k hk => ?_) ((hb.mono hbase).trans h2)
  by_cases hk' : k < n
  · rw [if_pos hk']
  · rw [if_neg hk', show k = n by omega]
theorem wpList_appF1 (w0 : World) {ops : Array Oper} {rest : List Oper} {o : Oper} {a : Act} {Q : Exit → Act → World → Prop} (hgd : o.guard = none) (s x : Operand) (t : TypeId)
    (ho : o.op = .call { callee := .builtin .append, args := #[s, x], argTypes := #[t, t] })
    (base : Nat) (e : TypeId) (i : TypeInfo) (z : Value) (ht : P.underlying t = some (.slice e)) (hi : P.info? e = some i) (hz : i.zero = some z)
    (hsize : i.size = 1) {by_ : Nat} (hby : i.bytes = by_) (hby0 : 0 < by_) (hzs : z.cells.size = 1) {As : Option Addr} {cs n : Nat} {f : Nat → Value} (hs : a.eval s = .slice As n cs) (hown : OwnF w0 base e As cs n f)
    {v : Value} (hv : v = f n) (hx : a.eval x = .slice (some ⟨w0.heap.size, 0, none⟩) 1 1) (hone : (f n).oneCell' = true) (hlen : n + 1 ≤ 140737488355328) (hbytes : (n + 1) * by_ ≤ 140737488355328) (hbase : base ≤ w0.heap.size)
    (h : ∀ A' c' w', OwnF w' base e A' c' (n + 1) f → Below base w0 w' → wpList P ops Q rest (a.put o.dst (.slice A' (n + 1) c')) w') : wpList P ops Q (o :: rest) a (w0.alloc (.cells #[v] e)) :=
  wpList_plain hgd fun _ hK => wp_appF1 w0 s x t ho base e i z ht hi hz hsize hby hby0 hzs hs hown hv hx hone hlen hbytes hbase fun A' c' w' h1 h2 => hK _ _ (h A' c' w' h1 h2)
theorem step_appF1 (w0 : World) {ops : Array Oper} {o : Oper} {a : Act} {K : Act → World → Prop} {Q : Exit → Act → World → Prop} {E : Prop} (hgd : o.guard = none) (s x : Operand) (t : TypeId)
    (ho : o.op = .call { callee := .builtin .append, args := #[s, x], argTypes := #[t, t] })
    (base : Nat) (e : TypeId) (i : TypeInfo) (z : Value) (ht : P.underlying t = some (.slice e)) (hi : P.info? e = some i) (hz : i.zero = some z)
    (hsize : i.size = 1) {by_ : Nat} (hby : i.bytes = by_) (hby0 : 0 < by_) (hzs : z.cells.size = 1) {As : Option Addr} {cs n : Nat} {f : Nat → Value} (hs : a.eval s = .slice As n cs) (hown : OwnF w0 base e As cs n f)
    {v : Value} (hv : v = f n) (hx : a.eval x = .slice (some ⟨w0.heap.size, 0, none⟩) 1 1) (hone : (f n).oneCell' = true) (hlen : n + 1 ≤ 140737488355328) (hbytes : (n + 1) * by_ ≤ 140737488355328) (hbase : base ≤ w0.heap.size)
    (h : ∀ A' c' w', OwnF w' base e A' c' (n + 1) f → Below base w0 w' → K (a.put o.dst (.slice A' (n + 1) c')) w') :
    if Region.wanted o (yielded ops a.tmps) = true then Oper.wp P o a (w0.alloc (.cells #[v] e)) K Q else E := by
  have hw : Region.wanted o (yielded ops a.tmps) = true := by simp [Region.wanted, hgd]
  rw [if_pos hw]
  exact wp_appF1 w0 s x t ho base e i z ht hi hz hsize hby hby0 hzs hs hown hv hx hone hlen hbytes hbase h

/-- 'make([]T, n)', T of one cell, its zero 'z'. -/
theorem run_mkF (t e : TypeId) (i : TypeInfo) {z : Value} (ht : P.underlying t = some (.slice e)) (hi : P.info? e = some i) (hz : i.zero = some z) (hzc : z.cells = #[z])
    (hsize : i.size = 1) {by_ : Nat} (hby : i.bytes = by_) {l : Int} {n : Nat} (hl : l = (n : Int)) (hn : n * by_ ≤ 281474976710656) (hn' : n ≤ 281474976710656) (w : World) :
    (Instr.makeSlice t (.int .i64 l) (.int .i64 l)).run P w = .ok (.slice (some ⟨w.heap.size, 0, none⟩) n n) (w.alloc (.cells (madeCells #[z] n) e)) := by
  subst hl
  have h := run_make (P := P) w t e i z ht hi hz .i64 .i64 n n (by omega) (Int.le_refl _) (by rw [hby, ← Int.natCast_mul, Nat.mul_comm]; omega) (by omega)
  simpa [hsize, hzc] using h
theorem OwnF.made {w : World} {B : Nat} (e : TypeId) (z : Value) {n : Nat} (hB : B ≤ w.heap.size) (hn : n ≤ maxLen) : OwnF (w.alloc (.cells (madeCells #[z] n) e)) B e (some ⟨w.heap.size, 0, none⟩) n n (fun _ => z) := by
  refine OwnF.lit e hB _ n _ hn ?_
  refine List.ext_getElem (by simp [madeCells]) fun i h1 h2 => ?_
  simp [madeCells, Nat.mod_one]
end
end Go.Proofs.Ytecphnhdcphgbaa
