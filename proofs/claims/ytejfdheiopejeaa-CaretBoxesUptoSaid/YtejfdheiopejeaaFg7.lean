/-
  What is done later moves none and brings none back; found one by one (layer 15; lists, of no program). By an AI agent.
-/
import Derived.Test.YtejfdheiopejeaaFg6
namespace Go.Proofs.Ytejfdheiopejeaa
theorem doT_ok {ok : Ins → Bool} (hf : Fair ok) {t : Txt} (h : Ok t.L) (b : Act) : Ok (doT ok t b).L ∧ (nodesL t.L).Sublist (nodesL (doT ok t b).L) ∧ ∀ i ∈ t.G, i ∈ (doT ok t b).G := by
  cases b with
  | add x =>
    by_cases hm : mayAdd ok t x
    · have e : doT ok t (.add x) = ⟨t.L ++ [x], t.G⟩ := by unfold doT; dsimp only; rw [if_pos hm]
      rw [e]
      obtain ⟨h1, h2, h3, _⟩ := hm
      obtain ⟨f1, f2⟩ := hf x h1
      have hok : Ok (t.L ++ [x]) := .snoc h (fun y hy e2 => h2 ⟨y, hy, e2⟩) f1 (by
        rcases h3 with h3 | h3
        · exact .inl ⟨h3, f2 h3⟩
        · exact .inr h3)
      exact ⟨hok, nodes_sub hok, fun _ hi => hi⟩
    · have e : doT ok t (.add x) = t := by unfold doT; dsimp only; rw [if_neg hm]
      rw [e]; exact ⟨h, List.Sublist.refl _, fun _ hi => hi⟩
  | drop i =>
    by_cases hm : mayDrop t i
    · have e : doT ok t (.drop i) = ⟨t.L, t.G ++ [i]⟩ := by unfold doT; dsimp only; rw [if_pos hm]
      rw [e]; exact ⟨h, List.Sublist.refl _, fun j hj => List.mem_append.2 (.inl hj)⟩
    · have e : doT ok t (.drop i) = t := by unfold doT; dsimp only; rw [if_neg hm]
      rw [e]; exact ⟨h, List.Sublist.refl _, fun _ hi => hi⟩
theorem fold_ok {ok : Ins → Bool} (hf : Fair ok) : ∀ (m : List Act) {t : Txt}, Ok t.L → Ok (m.foldl (doT ok) t).L ∧ (nodesL t.L).Sublist (nodesL (m.foldl (doT ok) t).L) ∧ ∀ i ∈ t.G, i ∈ (m.foldl (doT ok) t).G
  | [], _, h => ⟨h, List.Sublist.refl _, fun _ hi => hi⟩
  | b :: m, _, h => by
    obtain ⟨h1, h2, h3⟩ := doT_ok hf h b
    obtain ⟨g1, g2, g3⟩ := fold_ok hf m h1
    exact ⟨g1, h2.trans g2, fun i hi => g3 i (h3 i hi)⟩
/-- One by one: those of the first list are looked for in the second one. -/
def foundL (G K : List IDt) : List Ins → List Ins → Bool
  | w, [] => w.isEmpty
  | [], _ :: r => foundL G K [] r
  | a :: w, n :: r => if n.id = a.id then (if n.rune ≠ a.rune ∨ a.id ∈ G ∧ n.id ∉ K then false else foundL G K w r) else foundL G K (a :: w) r
theorem found_none (G K : List IDt) : ∀ r : List Ins, foundL G K [] r = true
  | [] => rfl
  | _ :: r => found_none G K r
theorem found_sub {G K : List IDt} (hg : ∀ i ∈ G, i ∈ K) {w n : List Ins} (h : w.Sublist n) : Distinct n → foundL G K w n = true := by
  induction h with
  | slnil => intro _; rfl
  | @cons w n a hs ih =>
    intro hd
    obtain ⟨h1, h2⟩ := List.pairwise_cons.1 hd
    cases w with
    | nil => exact found_none G K _
    | cons b w =>
      unfold foundL
      rw [if_neg (h1 b (hs.subset (List.mem_cons.2 (.inl rfl))))]
      exact ih h2
  | @cons_cons w n a hs ih =>
    intro hd
    unfold foundL
    rw [if_pos rfl, if_neg (by rintro (h | ⟨h, h2⟩); exact h rfl; exact h2 (hg _ h))]
    exact ih (List.pairwise_cons.1 hd).2
/-- What is done later moves none past another one, and brings none back. -/
theorem stays {ok : Ins → Bool} (hf : Fair ok) (m : List Act) {t : Txt} (h : Ok t.L) : foundL t.G (m.foldl (doT ok) t).G (nodesL t.L) (nodesL (m.foldl (doT ok) t).L) = true := by
  obtain ⟨h1, h2, h3⟩ := fold_ok hf m h
  exact found_sub h3 h2 (nodes_distinct h1)
end Go.Proofs.Ytejfdheiopejeaa
