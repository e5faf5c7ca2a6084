/-
  Layer 15, the landed code: a tree in memory; its beginning, how many are kept, which of two names is less, what may be. By an AI agent.
-/
import Derived.Test.YtljciakgdpihdaaFu1
import Derived.Test.YtljciakgdpihdaaFg8
namespace Go.Proofs.Ytljciakgdpihdaa
open Go Go.RowKit
set_option maxRecDepth 20000
abbrev pB (b : Nat) : Value := .pointer (some ⟨b, 0, none⟩)
def ptO (ad : IDt → Nat) : Option Ins → Value
  | none => .pointer none
  | some y => pB (ad y.id)
/-- An element's block. -/
abbrev elC (i : IDt) (r : Int) (g : Bool) (pa : Value) (rt : Bool) (nx lf rg : Value) : Obj := .cells #[.int .i64 i.1, .int .i64 i.2, .int .i32 r, .bool g, pa, .bool rt, nx, lf, rg] 71
section
variable {w : World} {b : Nat} {i : IDt} {r : Int} {g : Bool} {pa nx lf rg : Value} {rt : Bool}
theorem el_cells (h : w.heap[b]? = some (elC i r g pa rt nx lf rg)) : w.cell? ⟨b, 0, none⟩ = some (.int .i64 i.1) ∧ w.cell? ⟨b, 1, none⟩ = some (.int .i64 i.2) ∧ w.cell? ⟨b, 2, none⟩ = some (.int .i32 r) ∧ w.cell? ⟨b, 3, none⟩ = some (.bool g) ∧ w.cell? ⟨b, 4, none⟩ = some pa ∧ w.cell? ⟨b, 5, none⟩ = some (.bool rt) ∧ w.cell? ⟨b, 6, none⟩ = some nx ∧ w.cell? ⟨b, 7, none⟩ = some lf ∧ w.cell? ⟨b, 8, none⟩ = some rg := by
  simp [World.cell?, h]
theorem cells_free {cs : Array Value} {e : TypeId} (h : w.heap[b]? = some (.cells cs e)) (k : Nat) : w.frozen? ⟨b, k, none⟩ = false := by
  simp [World.frozen?, h]
theorem set_block {cs : Array Value} {e : TypeId} (h : w.heap[b]? = some (.cells cs e)) (k : Nat) (v : Value) : (w.setCell ⟨b, k, none⟩ v).heap[b]? = some (.cells (cs.setIfInBounds k v) e) := by
  obtain ⟨hlt, hb⟩ := Array.getElem?_eq_some_iff.1 h
  unfold World.setCell
  rw [Array.getElem?_modify]
  simp [h]
end
theorem set_other (w : World) {b k j : Nat} (v : Value) (h : j ≠ b) : (w.setCell ⟨b, k, none⟩ v).heap[j]? = w.heap[j]? := Below.heap_setCell w ⟨b, k, none⟩ v j h
theorem set_size (w : World) (a : Addr) (v : Value) : (w.setCell a v).heap.size = w.heap.size := by
  unfold World.setCell
  simp
/-- A tree at T, its map at M, its elements at 'ad'. -/
structure TreeH (w : World) (T M : Nat) (ad : IDt → Nat) (L : List Ins) (G : List IDt) : Prop where
  ok : Ok L
  tree : w.heap[T]? = some (.cells #[.map (some M), .int .i64 ((liveL G L).length : Int)] 74)
  map : ∃ ps clk, MapIs w M ad ps clk ∧ (∀ i, i ∈ ps.map Prod.fst ↔ i = (0, 0) ∨ hasL L i) ∧ ps.length = L.length + 1
  root : w.heap[ad (0, 0)]? = some (elC (0, 0) 0 false (.pointer none) false (.pointer none) (ptO ad (kidsL L (0, 0) false).head?) (ptO ad (kidsL L (0, 0) true).head?))
  el : ∀ x ∈ L, w.heap[ad x.id]? = some (elC x.id x.rune (goneB G x.id) (pB (ad x.par)) x.right (ptO ad (nextIn (kidsL L x.par x.right) x.id)) (ptO ad (kidsL L x.id false).head?) (ptO ad (kidsL L x.id true).head?))
  gone : ∀ i ∈ G, hasL L i
  once : G.Nodup
/-- The blocks of a tree. -/
def inT (T M : Nat) (ad : IDt → Nat) (L : List Ins) (k : Nat) : Prop := k = T ∨ k = M ∨ k = ad (0, 0) ∨ ∃ x ∈ L, k = ad x.id
def RT : TreeP := fun w F p L G => ∃ T M ad, p = pB T ∧ TreeH w T M ad L G ∧ ∀ k, F k ↔ inT T M ad L k
section
variable {w w' : World} {T M : Nat} {ad : IDt → Nat} {L : List Ins} {G : List IDt}
theorem TreeH.keep (h : TreeH w T M ad L G) (hk : ∀ k, inT T M ad L k → w'.heap[k]? = w.heap[k]?) : TreeH w' T M ad L G := by
  obtain ⟨ps, clk, hm, hp, hl⟩ := h.map
  exact ⟨h.ok, (hk T (.inl rfl)).trans h.tree, ⟨ps, clk, hm.keep (hk M (.inr (.inl rfl))), hp, hl⟩, (hk _ (.inr (.inr (.inl rfl)))).trans h.root, fun x hx => (hk _ (.inr (.inr (.inr ⟨x, hx, rfl⟩)))).trans (h.el x hx), h.gone, h.once⟩
theorem lt_of_heap {b : Nat} {o : Obj} (h : w.heap[b]? = some o) : b < w.heap.size := (Array.getElem?_eq_some_iff.1 h).1
theorem TreeH.lt (h : TreeH w T M ad L G) {k : Nat} (hk : inT T M ad L k) : k < w.heap.size := by
  rcases hk with rfl | rfl | rfl | ⟨x, hx, rfl⟩
  · exact lt_of_heap h.tree
  · obtain ⟨ps, clk, hm, _⟩ := h.map
    exact hm.lt
  · exact lt_of_heap h.root
  · exact lt_of_heap (h.el x hx)
theorem TreeH.below (h : TreeH w T M ad L G) (hb : Below w.heap.size w w') : TreeH w' T M ad L G := h.keep fun k hk => hb.block k (h.lt hk)
/-- Unlike names stand at unlike places. -/
theorem TreeH.inj (h : TreeH w T M ad L G) {x y : Ins} (hx : x ∈ L) (hy : y ∈ L) (e : ad x.id = ad y.id) : x = y := by
  have h1 := h.el x hx
  have h2 := h.el y hy
  rw [e, h2] at h1
  simp only [Option.some.injEq, Obj.cells.injEq, Array.mk.injEq, List.cons.injEq, Value.int.injEq, true_and] at h1
  exact h.ok.distinct.eq hx hy (Prod.ext h1.1.1.symm h1.1.2.1.symm)
theorem TreeH.inj0 (h : TreeH w T M ad L G) {x : Ins} (hx : x ∈ L) : ad x.id ≠ ad (0, 0) := by
  intro e
  have h1 := h.el x hx
  rw [e, h.root] at h1
  simp only [Option.some.injEq, Obj.cells.injEq, Array.mk.injEq, List.cons.injEq, Value.int.injEq, true_and] at h1
  exact h.ok.nz x hx (Prod.ext h1.1.1.symm h1.1.2.1.symm)
theorem TreeH.apart (h : TreeH w T M ad L G) : T ≠ M ∧ T ≠ ad (0, 0) ∧ M ≠ ad (0, 0) ∧ ∀ x ∈ L, ad x.id ≠ T ∧ ad x.id ≠ M := by
  obtain ⟨ps, clk, hm, _⟩ := h.map
  have h1 := h.tree
  have h2 := hm.here
  have h3 := h.root
  refine ⟨fun e => ?_, fun e => ?_, fun e => ?_, fun x hx => ⟨fun e => ?_, fun e => ?_⟩⟩
  · rw [e, h2] at h1; cases h1
  · rw [e, h3] at h1; simp at h1
  · rw [e, h3] at h2; cases h2
  · have h4 := h.el x hx
    rw [e, h1] at h4
    simp at h4
  · have h4 := h.el x hx
    rw [e, h2] at h4
    cases h4
theorem TreeH.cells (h : TreeH w T M ad L G) : w.cell? ⟨T, 0, none⟩ = some (.map (some M)) ∧ w.cell? ⟨T, 1, none⟩ = some (.int .i64 ((liveL G L).length : Int)) := by
  have := h.tree
  simp [World.cell?, this]
/-- What a look-up tells. -/
def ptL (ad : IDt → Nat) (L : List Ins) (i : IDt) : Value := if i = (0, 0) ∨ hasB L i = true then pB (ad i) else .pointer none
theorem TreeH.look (h : TreeH w T M ad L G) (i : IDt) : (Instr.lookup 72 (.map (some M)) (idV i) false).run Try.prog w = .ok (ptL ad L i) w := by
  obtain ⟨ps, clk, hm, hp, _⟩ := h.map
  rw [look_run hm i]
  unfold ptK ptL
  by_cases hi : i ∈ ps.map Prod.fst
  · have h2 := (hp i).1 hi
    rw [if_pos hi, if_pos (h2.imp id (fun h => hasB_iff.2 h))]
  · rw [if_neg hi, if_neg (fun h2 => hi ((hp i).2 (h2.imp id (fun h => hasB_iff.1 h))))]
end
theorem liveL_perm {G : List IDt} {L : List Ins} (h : Ok L) : (liveL G (nodesL L)).length = (liveL G L).length := by
  have hp : (nodesL L).Perm L := by
    have n1 : (nodesL L).Nodup := List.Pairwise.imp (fun {a b} hab e => hab (by rw [e])) (nodes_distinct h)
    have n2 : L.Nodup := List.Pairwise.imp (fun {a b} hab e => hab (by rw [e])) h.distinct
    exact (List.perm_ext_iff_of_nodup n1 n2).2 fun y => nodes_mem h
  exact (hp.filter _).length_eq
theorem beginning_nil (w : World) : Calls Try.prog 42 #[.pointer none] w fun e w' => e = .returned (.pointer none) ∧ w' = w := by
  go_enter Try.func42, Try.ntmps42
  go_wp2_with fail
  go_ret
  exact ⟨rfl, rfl⟩
section
variable {w : World} {T M : Nat} {ad : IDt → Nat} {L : List Ins} {G : List IDt}
theorem beginning_any (h : TreeH w T M ad L G) : Calls Try.prog 42 #[pB T] w fun e w' => e = .returned (pB (ad (0, 0))) ∧ w' = w := by
  obtain ⟨c0, _⟩ := h.cells
  have hl := h.look (0, 0)
  unfold ptL at hl
  rw [if_pos (.inl rfl)] at hl
  go_enter Try.func42, Try.ntmps42
  go_wp2_with fail
  go_ret
  exact ⟨rfl, rfl⟩
theorem len_nil (w : World) : Calls Try.prog 19 #[.pointer none] w fun e w' => e = .returned (.int .i64 0) ∧ w' = w := by
  go_enter Try.func19, Try.ntmps19
  go_wp2_with fail
  go_ret
  exact ⟨rfl, rfl⟩
theorem len_any (h : TreeH w T M ad L G) : Calls Try.prog 19 #[pB T] w fun e w' => e = .returned (.int .i64 ((liveL G (nodesL L)).length : Int)) ∧ w' = w := by
  obtain ⟨_, c1⟩ := h.cells
  rw [liveL_perm h.ok]
  obtain ⟨n, en⟩ : ∃ n, n = (liveL G L).length := ⟨_, rfl⟩
  rw [← en] at c1 ⊢
  clear en
  go_enter Try.func19, Try.ntmps19
  go_wp2_with fail
  go_ret
  exact ⟨rfl, rfl⟩
end
end Go.Proofs.Ytljciakgdpihdaa
