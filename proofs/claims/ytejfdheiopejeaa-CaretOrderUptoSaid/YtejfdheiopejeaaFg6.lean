/-
  The order of a text: where the plan asks for, and what is not dropped (layer 15; lists, of no program). By an AI agent.
-/
import Derived.Test.YtejfdheiopejeaaFg5
namespace Go.Proofs.Ytejfdheiopejeaa
/-- Those that are not dropped. -/
def liveL (G : List IDt) (N : List Ins) : List Ins := N.filter fun y => decide (y.id ∉ G)
theorem live_app (G : List IDt) (a b : List Ins) : liveL G (a ++ b) = liveL G a ++ liveL G b := List.filter_append a b
theorem live_on {G : List IDt} {y : Ins} (h : y.id ∉ G) (l : List Ins) : liveL G (y :: l) = y :: liveL G l := List.filter_cons_of_pos (decide_eq_true h)
theorem live_off {G : List IDt} {y : Ins} (h : y.id ∈ G) (l : List Ins) : liveL G (y :: l) = liveL G l := List.filter_cons_of_neg (by simpa using h)
theorem live_at {G : List IDt} : ∀ {N : List Ins} {i : Nat} {a : Ins}, (liveL G N)[i]? = some a → ∃ pre post, N = pre ++ a :: post ∧ (liveL G pre).length = i ∧ a.id ∉ G
  | [], i, a, h => by simp [liveL] at h
  | y :: N, i, a, h => by
    by_cases hy : y.id ∈ G
    · rw [live_off hy] at h
      obtain ⟨pre, post, e1, e2, e3⟩ := live_at h
      exact ⟨y :: pre, post, by rw [e1]; rfl, by rw [live_off hy]; exact e2, e3⟩
    · rw [live_on hy] at h
      cases i with
      | zero =>
        have : y = a := by simpa using h
        subst this
        exact ⟨[], N, rfl, rfl, hy⟩
      | succ i =>
        obtain ⟨pre, post, e1, e2, e3⟩ := live_at (N := N) (i := i) (a := a) (by simpa using h)
        exact ⟨y :: pre, post, by rw [e1]; rfl, by rw [live_on hy, List.length_cons, e2], e3⟩
/-- Behind which place one stands (the last such; 0: none). -/
def atL (a : IDt) : List Ins → Nat → Nat → Nat
  | [], _, t => t
  | y :: r, k, t => atL a r (k + 1) (if y.id = a then k + 1 else t)
theorem at_none {a : IDt} : ∀ {N : List Ins} {k t : Nat}, (∀ y ∈ N, y.id ≠ a) → atL a N k t = t
  | [], _, _, _ => rfl
  | y :: r, k, t, h => by
    unfold atL
    rw [if_neg (h y (List.mem_cons.2 (.inl rfl)))]
    exact at_none fun z hz => h z (List.mem_cons.2 (.inr hz))
theorem at_some {a : IDt} {y : Ins} (hy : y.id = a) : ∀ {pre post : List Ins} {k t : Nat}, (∀ z ∈ post, z.id ≠ a) → atL a (pre ++ y :: post) k t = k + pre.length + 1
  | [], post, k, t, h => by
    rw [List.nil_append]
    unfold atL
    rw [if_pos hy, at_none h]
    rfl
  | z :: pre, post, k, t, h => by
    rw [List.cons_append]
    unfold atL
    rw [at_some hy h, List.length_cons]
    omega
/-- The one ahead of the i-th; the plan. -/
def aheadL (L : List Ins) (G : List IDt) (i : Nat) : IDt := if i = 0 then (0, 0) else (((liveL G (nodesL L))[i - 1]?).map Ins.id).getD (0, 0)
def planL (L : List Ins) (G : List IDt) (i : Nat) : IDt × Bool :=
  if kidsL L (aheadL L G i) true = [] then (aheadL L G i, true)
  else ((((nodesL L)[atL (aheadL L G i) (nodesL L) 0 0]?).map Ins.id).getD (0, 0), false)
/-- What is planned ahead of the i-th: between which it comes. -/
theorem plan_where {L : List Ins} {G : List IDt} {i : Nat} {x : Ins} (h : Ok (L ++ [x])) (hi : i ≤ (liveL G (nodesL L)).length) (hp : planL L G i = (x.par, x.right)) :
    ∃ pre post, nodesL (L ++ [x]) = pre ++ x :: post ∧ liveL G pre = (liveL G (nodesL L)).take i ∧ liveL G post = (liveL G (nodesL L)).drop i := by
  have hL := h.init.1
  have hdis := nodes_distinct hL
  unfold planL at hp
  cases i with
  | zero =>
    have ha : aheadL L G 0 = (0, 0) := by unfold aheadL; rw [if_pos rfl]
    rw [ha] at hp
    rw [List.take_zero, List.drop_zero]
    have hz : ∀ y ∈ nodesL L, y.id ≠ (0, 0) := fun y hy => hL.nz y ((nodes_mem hL).1 hy)
    cases hn : nodesL L with
    | nil =>
      have hl : L = [] := by
        cases L with
        | nil => rfl
        | cons y r => exact absurd ((nodes_mem hL).2 (List.mem_cons.2 (.inl rfl))) (by rw [hn]; exact fun h => nomatch h)
      subst hl
      have h1 : nodesL ([] ++ [x]) = [x] := plan_only h
      exact ⟨[], [], h1, rfl, rfl⟩
    | cons b post =>
      by_cases hk : kidsL L (0, 0) true = []
      · have : nodesL L = [] := by unfold nodesL; exact bel_nokids hk _
        rw [hn] at this; cases this
      · rw [if_neg hk, at_none hz, hn] at hp
        injection hp with h1 h2
        exact ⟨[], b :: post, plan_first h hn h1.symm h2.symm, rfl, rfl⟩
  | succ i =>
    obtain ⟨a, ea⟩ : ∃ a, (liveL G (nodesL L))[i]? = some a := ⟨_, List.getElem?_eq_getElem hi⟩
    have ha : aheadL L G (i + 1) = a.id := by
      unfold aheadL
      rw [if_neg (by omega), show i + 1 - 1 = i by omega, ea]
      rfl
    rw [ha] at hp
    obtain ⟨pre, post, e1, e2, e3⟩ := live_at ea
    have elive : liveL G (nodesL L) = liveL G pre ++ a :: liveL G post := by rw [e1, live_app, live_on e3]
    have etake : (liveL G (nodesL L)).take (i + 1) = liveL G pre ++ [a] := by
      rw [elive, ← e2, show liveL G pre ++ a :: liveL G post = (liveL G pre ++ [a]) ++ liveL G post by simp, show (liveL G pre).length + 1 = (liveL G pre ++ [a]).length by simp, List.take_left]
    have edrop : (liveL G (nodesL L)).drop (i + 1) = liveL G post := by
      rw [elive, ← e2, show liveL G pre ++ a :: liveL G post = (liveL G pre ++ [a]) ++ liveL G post by simp, show (liveL G pre).length + 1 = (liveL G pre ++ [a]).length by simp, List.drop_left]
    rw [etake, edrop]
    have fin : nodesL (L ++ [x]) = pre ++ a :: x :: post → ∃ p q, nodesL (L ++ [x]) = p ++ x :: q ∧ liveL G p = liveL G pre ++ [a] ∧ liveL G q = liveL G post := fun e =>
      ⟨pre ++ [a], post, by rw [e]; simp, by rw [live_app, live_on e3]; rfl, rfl⟩
    refine fin ?_
    by_cases hk : kidsL L a.id true = []
    · rw [if_pos hk] at hp
      injection hp with h1 h2
      exact plan_right h e1 hk h1.symm h2.symm
    · rw [if_neg hk] at hp
      obtain ⟨b, r, eb, _⟩ := nodes_next hL e1 hk
      subst eb
      rw [e1] at hdis
      have hat : atL a.id (nodesL L) 0 0 = pre.length + 1 := by
        rw [e1, at_some rfl (distinct_mid hdis).2]; omega
      have hb : (nodesL L)[pre.length + 1]? = some b := by
        rw [e1, show pre ++ a :: b :: r = (pre ++ [a]) ++ b :: r by simp, show pre.length + 1 = (pre ++ [a]).length by simp, List.getElem?_append_right (Nat.le_refl _)]
        simp
      rw [hat, hb] at hp
      injection hp with h1 h2
      exact plan_left h e1 hk h1.symm h2.symm
/-- What is planned ahead of the i-th stands there; all others stand as they stood. -/
theorem plan_live {L : List Ins} {G : List IDt} {i : Nat} {x : Ins} (h : Ok (L ++ [x])) (hi : i ≤ (liveL G (nodesL L)).length) (hp : planL L G i = (x.par, x.right)) (hx : x.id ∉ G) :
    liveL G (nodesL (L ++ [x])) = (liveL G (nodesL L)).take i ++ x :: (liveL G (nodesL L)).drop i := by
  obtain ⟨pre, post, e1, e2, e3⟩ := plan_where h hi hp
  rw [e1, live_app, live_on hx, e2, e3]
theorem Ok.front {A : List Ins} : ∀ {n : Nat} {B : List Ins}, B.length = n → Ok (A ++ B) → Ok A
  | 0, B, hn, h => by
    rw [List.length_eq_zero_iff.1 hn, List.append_nil] at h
    exact h
  | n + 1, B, hn, h => by
    have hb : B ≠ [] := fun e => by rw [e] at hn; cases hn
    rw [← List.dropLast_concat_getLast hb, ← List.append_assoc] at h
    exact Ok.front (B := B.dropLast) (by rw [List.length_dropLast, hn, Nat.add_sub_cancel]) h.init.1
/-- Each below the one ahead of it, right. -/
def chained : IDt → List Ins → Prop
  | _, [] => True
  | a, x :: r => x.par = a ∧ x.right = true ∧ chained x.id r
/-- What is typed stands in a row. -/
theorem chain_row : ∀ {xs L : List Ins} {a : Ins} {pre post : List Ins}, Ok (L ++ [a] ++ xs) → nodesL (L ++ [a]) = pre ++ a :: post → chained a.id xs → nodesL (L ++ [a] ++ xs) = pre ++ a :: xs ++ post
  | [], L, a, pre, post, _, e, _ => by rw [List.append_nil, e]; simp
  | x :: r, L, a, pre, post, h, e, hc => by
    obtain ⟨h1, h2, h3⟩ := hc
    have h' : Ok (L ++ [a] ++ [x] ++ r) := by rw [List.append_assoc]; exact h
    have hx : Ok (L ++ [a] ++ [x]) := Ok.front rfl h'
    have e2 : nodesL (L ++ [a] ++ [x]) = (pre ++ [a]) ++ x :: post := by
      rw [plan_right hx e (kids_none hx.init.1.leaf true) h1 h2]; simp
    have := chain_row h' e2 h3
    rw [List.append_assoc] at this
    rw [show L ++ [a] ++ x :: r = L ++ [a] ++ ([x] ++ r) from rfl, this]
    simp
theorem typed_live {L : List Ins} {G : List IDt} {i : Nat} {x : Ins} {xs : List Ins} (h : Ok (L ++ [x] ++ xs)) (hi : i ≤ (liveL G (nodesL L)).length) (hp : planL L G i = (x.par, x.right)) (hc : chained x.id xs) (hx : ∀ y ∈ x :: xs, y.id ∉ G) :
    liveL G (nodesL (L ++ [x] ++ xs)) = (liveL G (nodesL L)).take i ++ (x :: xs) ++ (liveL G (nodesL L)).drop i := by
  obtain ⟨pre, post, e1, e2, e3⟩ := plan_where (Ok.front rfl h) hi hp
  have e4 : liveL G (x :: xs) = x :: xs := List.filter_eq_self.2 fun y hy => decide_eq_true (hx y hy)
  rw [chain_row h e1 hc, live_app, live_app, e2, e3, e4]
end Go.Proofs.Ytejfdheiopejeaa
