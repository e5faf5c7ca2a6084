/-
  Layer 15, the landed code: New. By an AI agent.
-/
import Derived.Test.YtljciakgdpihdaaFu6
namespace Go.Proofs.Ytljciakgdpihdaa
open Go Go.RowKit
set_option maxRecDepth 20000
theorem new_any (w : World) : Calls Try.prog 12 #[] w fun e w' => ∃ T, e = .returned (pB T) ∧ ∃ M ad, TreeH w' T M ad [] [] ∧ (∀ k, inT T M ad [] k → w.heap.size ≤ k) ∧ Below w.heap.size w w' := by
  obtain ⟨v1, ev1⟩ : ∃ v, v = w.alloc (.map #[] 0) := ⟨_, rfl⟩
  obtain ⟨v2, ev2⟩ : ∃ v, v = v1.alloc (elC (0, 0) 0 false (.pointer none) false (.pointer none) (.pointer none) (.pointer none)) := ⟨_, rfl⟩
  obtain ⟨g, eg⟩ : ∃ g, g = w.heap.size := ⟨_, rfl⟩
  have s1 : v1.heap.size = g + 1 := by rw [ev1, eg]; simp
  have s2 : v2.heap.size = g + 2 := by rw [ev2]; simp; omega
  have hm1 : MapIs v1 g (fun _ => 0) [] 0 := ⟨by rw [ev1, eg]; exact (MapKept.heap_alloc w _).1, by simp, by simp, fun p hp => nomatch hp⟩
  have hb1 : Below w.heap.size w v1 := by rw [ev1]; exact (Below.refl _ _).alloc (Nat.le_refl _) _
  have hb2 : Below v1.heap.size v1 v2 := by rw [ev2]; exact (Below.refl _ _).alloc (Nat.le_refl _) _
  have hm2 : MapIs v2 g (fun _ => 0) [] 0 := hm1.keep (hb2.block g (by omega))
  have hst := store_run hm2 (i := (0, 0)) (by simp) (g + 1)
  obtain ⟨v3, ev3⟩ : ∃ v, v = putB v2 g (.map ((([] ++ [((0, 0), 0)] : List (IDt × Nat))).map (entE (adSet (fun _ => 0) (0, 0) (g + 1)))).toArray (0 + 1)) := ⟨_, rfl⟩
  rw [← ev3] at hst
  have hmake := @run_makeMap Try.prog 72 w
  rw [← ev1, ← eg] at hmake
  have HV := Lib.hid (And.intro ev1 (And.intro ev2 (And.intro eg (And.intro s1 s2))))
  have H3 := Lib.hid (And.intro hm2 (And.intro ev3 (And.intro hb1 hb2)))
  have e2 : v1.alloc (.cells #[.int .i64 0, .int .i64 0, .int .i32 0, .bool false, .pointer none, .bool false, .pointer none, .pointer none, .pointer none] 71) = v2 := ev2.symm
  replace hst : (Instr.mapUpdate 72 (.map (some g)) (.agg #[.int .i64 0, .int .i64 0]) (.pointer (some ⟨g + 1, 0, none⟩))).run Try.prog v2 = .ok () v3 := hst
  clear ev1 ev2 ev3 hm1 hm2 hb1 hb2 eg
  go_enter Try.func12, Try.ntmps12
  go_wp2_with fail
  have h3 := H3.out
  have hv := HV.out
  have hs3 : v3.heap.size = g + 2 := by rw [h3.2.1, putB_size]; exact s2
  have hM := h3.1.store (i := (0, 0)) (by simp) (g + 1) (w' := v3) (by rw [h3.2.1]; exact putB_same (by omega))
  have hE : v3.heap[g + 1]? = some (elC (0, 0) 0 false (.pointer none) false (.pointer none) (.pointer none) (.pointer none)) := by
    rw [h3.2.1, putB_other (by omega), hv.2.1, ← s1]
    exact (MapKept.heap_alloc v1 _).1
  obtain ⟨v4, ev4⟩ : ∃ v, v = v3.alloc (.cells #[.map (some g), .int .i64 0] 74) := ⟨_, rfl⟩
  have hb4 : Below v3.heap.size v3 v4 := by rw [ev4]; exact (Below.refl _ _).alloc (Nat.le_refl _) _
  have hT : v4.heap[v3.heap.size]? = some (.cells #[.map (some g), .int .i64 0] 74) := by rw [ev4]; exact (MapKept.heap_alloc v3 _).1
  rw [← ev4]
  go_ret
  refine ⟨v3.heap.size, rfl, g, adSet (fun _ => 0) (0, 0) (g + 1), ⟨.nil, hT, ⟨[] ++ [((0, 0), 0)], 0 + 1, hM.keep (hb4.block g (by omega)), fun i => ?_, rfl⟩, ?_, (fun x hx => nomatch hx), (fun i hi => nomatch hi), List.Pairwise.nil⟩, fun k hk => ?_, ?_⟩
  · rw [show (([] ++ [((0, 0), 0)] : List (IDt × Nat)).map Prod.fst) = [(0, 0)] from rfl, List.mem_singleton]
    exact ⟨.inl, fun h => h.elim id (fun ⟨y, hy, _⟩ => nomatch hy)⟩
  · rw [adSet_same, hb4.block (g + 1) (by omega), hE]
    rfl
  · rw [← hv.2.2.1]
    rcases hk with e | e | e | ⟨x, hx, _⟩
    · omega
    · omega
    · rw [adSet_same] at e
      omega
    · cases hx
  · have hb3 : Below w.heap.size v2 v3 := by
      refine ⟨by rw [h3.2.1]; rfl, by rw [h3.2.1]; rfl, by rw [h3.2.1]; rfl, by omega, fun k hk => ?_⟩
      rw [h3.2.1]
      exact putB_other (by omega)
    have hz := hv.2.2.1
    exact ((h3.2.2.1.trans (h3.2.2.2.mono h3.2.2.1.size)).trans hb3).trans (hb4.mono (by omega))
end Go.Proofs.Ytljciakgdpihdaa
