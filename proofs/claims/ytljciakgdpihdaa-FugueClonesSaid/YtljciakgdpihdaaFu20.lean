/-
  Layer 15, the landed code: elements as records. By an AI agent.
-/
import Derived.Test.YtljciakgdpihdaaFu9
namespace Go.Proofs.Ytljciakgdpihdaa
open Go Go.RowKit
structure Rec where
  rune : Int
  gone : Bool
  par : Option IDt
  right : Bool
  next : Option IDt
  left : Option IDt
  rights : Option IDt
def ptI (ad : IDt → Nat) : Option IDt → Value
  | some i => pB (ad i)
  | none => .pointer none
def recC (ad : IDt → Nat) (i : IDt) (D : Rec) : Obj := elC i D.rune D.gone (ptI ad D.par) D.right (ptI ad D.next) (ptI ad D.left) (ptI ad D.rights)
def recX (L : List Ins) (G : List IDt) (x : Ins) : Rec := ⟨x.rune, goneB G x.id, some x.par, x.right, (nextIn (kidsL L x.par x.right) x.id).map Ins.id, (kidsL L x.id false).head?.map Ins.id, (kidsL L x.id true).head?.map Ins.id⟩
def rec0 (L : List Ins) : Rec := ⟨0, false, none, false, none, (kidsL L (0, 0) false).head?.map Ins.id, (kidsL L (0, 0) true).head?.map Ins.id⟩
def recT (L : List Ins) (G : List IDt) (i : IDt) : Rec := match L.find? (fun x => decide (x.id = i)) with
  | some x => recX L G x
  | none => rec0 L
def keyT (L : List Ins) (i : IDt) : Prop := i = (0, 0) ∨ hasL L i
theorem ptI_map (ad : IDt → Nat) (o : Option Ins) : ptI ad (o.map Ins.id) = ptO ad o := by cases o <;> rfl
theorem recT_of {L : List Ins} {G : List IDt} (hok : Ok L) {x : Ins} (hx : x ∈ L) : recT L G x.id = recX L G x := by
  unfold recT
  cases hf : L.find? (fun y => decide (y.id = x.id)) with
  | none =>
    rw [List.find?_eq_none] at hf
    exact absurd (decide_eq_true rfl) (hf x hx)
  | some y =>
    have h1 := List.mem_of_find?_eq_some hf
    have h2 := List.find?_some hf
    rw [Distinct.eq hok.distinct h1 hx (of_decide_eq_true h2)]
theorem recT_zero {L : List Ins} {G : List IDt} (hok : Ok L) : recT L G (0, 0) = rec0 L := by
  unfold recT
  cases hf : L.find? (fun y => decide (y.id = (0, 0))) with
  | none => rfl
  | some y =>
    have h2 := List.find?_some hf
    exact absurd (of_decide_eq_true h2) (hok.nz y (List.mem_of_find?_eq_some hf))
theorem next_mem {z : Ins} : ∀ {l : List Ins} {i : IDt}, nextIn l i = some z → z ∈ l
  | [], _, h => by simp [nextIn] at h
  | y :: r, i, h => by
    unfold nextIn at h
    split at h
    · exact List.mem_cons.2 (.inr (List.mem_of_mem_head? h))
    · exact List.mem_cons.2 (.inr (next_mem h))
theorem kid_in {L : List Ins} {p : IDt} {s : Bool} {z : Ins} (h : z ∈ kidsL L p s) : z ∈ L := by
  obtain ⟨A, B, e⟩ := List.append_of_mem h
  exact (kid_mem e).1
section
variable {w : World} {T M : Nat} {ad : IDt → Nat} {L : List Ins} {G : List IDt}
theorem TreeH.recs (h : TreeH w T M ad L G) {i : IDt} (hi : keyT L i) : w.heap[ad i]? = some (recC ad i (recT L G i)) := by
  rcases hi with rfl | ⟨x, hx, rfl⟩
  · rw [recT_zero h.ok, h.root]
    unfold recC rec0
    rw [ptI_map, ptI_map]
    rfl
  · rw [recT_of h.ok hx, h.el x hx]
    unfold recC recX
    rw [ptI_map, ptI_map, ptI_map]
    rfl
theorem recs_key (hok : Ok L) {i j : IDt} (hi : keyT L i) (h : (recT L G i).par = some j ∨ (recT L G i).next = some j ∨ (recT L G i).left = some j ∨ (recT L G i).rights = some j) : keyT L j := by
  have hm : ∀ {o : Option Ins}, (∀ z, o = some z → z ∈ L) → o.map Ins.id = some j → keyT L j := fun {o} ho e => by
    cases o with
    | none => cases e
    | some z => exact .inr ⟨z, ho z rfl, Option.some.inj e⟩
  rcases hi with rfl | ⟨x, hx, rfl⟩
  · rw [recT_zero hok] at h
    rcases h with h | h | h | h
    · cases h
    · cases h
    · exact hm (fun z e => kid_in (List.mem_of_mem_head? e)) h
    · exact hm (fun z e => kid_in (List.mem_of_mem_head? e)) h
  · rw [recT_of hok hx] at h
    rcases h with h | h | h | h
    · rw [← Option.some.inj h]
      exact hok.par x hx
    · exact hm (fun z e => kid_in (next_mem e)) h
    · exact hm (fun z e => kid_in (List.mem_of_mem_head? e)) h
    · exact hm (fun z e => kid_in (List.mem_of_mem_head? e)) h
theorem TreeH.of_recs (hok : Ok L) (ht : w.heap[T]? = some (.cells #[.map (some M), .int .i64 ((liveL G L).length : Int)] 74))
    (hm : ∃ ps clk, MapIs w M ad ps clk ∧ (∀ i, i ∈ ps.map Prod.fst ↔ i = (0, 0) ∨ hasL L i) ∧ ps.length = L.length + 1) (hr : ∀ i, keyT L i → w.heap[ad i]? = some (recC ad i (recT L G i))) (hg : ∀ i ∈ G, hasL L i) (ho : G.Nodup) : TreeH w T M ad L G := by
  refine ⟨hok, ht, hm, ?_, fun x hx => ?_, hg, ho⟩
  · have h := hr (0, 0) (.inl rfl)
    rw [recT_zero hok] at h
    unfold recC rec0 at h
    rw [ptI_map, ptI_map] at h
    exact h
  · have h := hr x.id (.inr ⟨x, hx, rfl⟩)
    rw [recT_of hok hx] at h
    unfold recC recX at h
    rw [ptI_map, ptI_map, ptI_map] at h
    exact h
end
end Go.Proofs.Ytljciakgdpihdaa
