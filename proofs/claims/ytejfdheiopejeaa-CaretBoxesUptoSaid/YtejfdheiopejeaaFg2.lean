/-
  The order of a text: an element that is added moves none (layer 15; lists, of no program). By an AI agent.
-/
import Derived.Test.YtejfdheiopejeaaFg1
namespace Go.Proofs.Ytejfdheiopejeaa
/-- A list of elements as it comes by adding: names unlike, none the beginning's, each behind its parent. -/
inductive Ok : List Ins → Prop where
  | nil : Ok []
  | snoc {L : List Ins} {x : Ins} : Ok L → (∀ y ∈ L, y.id ≠ x.id) → x.id ≠ (0, 0) → (x.par = (0, 0) ∧ x.right = true ∨ ∃ y ∈ L, y.id = x.par) → Ok (L ++ [x])
theorem Ok.distinct {L : List Ins} (h : Ok L) : Distinct L := by
  induction h with
  | nil => exact List.Pairwise.nil
  | snoc _ hn _ _ ih =>
    exact List.pairwise_append.2 ⟨ih, List.pairwise_singleton _ _, fun a ha b hb => by rw [List.mem_singleton.1 hb]; exact hn a ha⟩
theorem Ok.nz {L : List Ins} (h : Ok L) : ∀ y ∈ L, y.id ≠ (0, 0) := by
  induction h with
  | nil => intro y hy; cases hy
  | snoc _ _ h0 _ ih =>
    intro y hy
    rcases List.mem_append.1 hy with h | h
    · exact ih y h
    · rw [List.mem_singleton.1 h]; exact h0
theorem Ok.par {L : List Ins} (h : Ok L) : ∀ y ∈ L, y.par = (0, 0) ∨ ∃ z ∈ L, z.id = y.par := by
  induction h with
  | nil => intro y hy; cases hy
  | snoc _ _ _ hp ih =>
    intro y hy
    rcases List.mem_append.1 hy with h | h
    · rcases ih y h with h1 | ⟨z, hz, e⟩
      · exact .inl h1
      · exact .inr ⟨z, List.mem_append.2 (.inl hz), e⟩
    · rw [List.mem_singleton.1 h]
      rcases hp with ⟨h1, _⟩ | ⟨z, hz, e⟩
      · exact .inl h1
      · exact .inr ⟨z, List.mem_append.2 (.inl hz), e⟩
/-- Nothing hangs below one that is new. -/
theorem Ok.leaf {L : List Ins} {x : Ins} (h : Ok (L ++ [x])) : ∀ y ∈ L ++ [x], y.par ≠ x.id := by
  generalize hM : L ++ [x] = M at h
  cases h with
  | nil => intro y hy; cases hy
  | @snoc L' x' h' hn h0 hp =>
    obtain ⟨rfl, e⟩ := List.append_inj' hM rfl
    have ex : x = x' := by simpa using e
    subst ex
    intro y hy he
    have hx : x.id ≠ (0, 0) := h0
    rcases List.mem_append.1 hy with h | h
    · rcases h'.par y h with h1 | ⟨z, hz, e1⟩
      · exact hx (by rw [← he, h1])
      · exact hn z hz (e1.trans he)
    · rw [List.mem_singleton.1 h] at he
      rcases hp with ⟨h1, _⟩ | ⟨z, hz, e1⟩
      · exact hx (by rw [← he, h1])
      · exact hn z hz (e1.trans he)
theorem Ok.init {L : List Ins} {x : Ins} (h : Ok (L ++ [x])) : Ok L ∧ (∀ y ∈ L, y.id ≠ x.id) ∧ x.id ≠ (0, 0) ∧ (x.par = (0, 0) ∧ x.right = true ∨ ∃ y ∈ L, y.id = x.par) := by
  generalize hM : L ++ [x] = M at h
  cases h with
  | nil => simp at hM
  | @snoc L' x' h' hn h0 hp =>
    obtain ⟨rfl, e⟩ := List.append_inj' hM rfl
    have ex : x = x' := by simpa using e
    subst ex
    exact ⟨h', hn, h0, hp⟩
theorem hangs_iff {p : IDt} {s : Bool} {x : Ins} : hangs p s x = true ↔ x.par = p ∧ x.right = s := by unfold hangs; simp
theorem kids_none {L : List Ins} {p : IDt} (h : ∀ y ∈ L, y.par ≠ p) (s : Bool) : kidsL L p s = [] := by
  cases hk : kidsL L p s with
  | nil => rfl
  | cons y r =>
    have := (mem_kids p s (L := L) (y := y)).1 (by rw [hk]; exact List.mem_cons.2 (.inl rfl))
    exact absurd (hangs_iff.1 this.2).1 (h y this.1)
theorem bel_none {L : List Ins} {p : IDt} (h : ∀ y ∈ L, y.par ≠ p) (n : Nat) (s : Bool) : belL n L p s = [] := by
  cases n with
  | zero => rfl
  | succ n => unfold belL; rw [kids_none h]; rfl
/-- Is it another one? -/
def unlike (x y : Ins) : Bool := decide (y.id ≠ x.id)
theorem filter_self {x : Ins} {l : List Ins} (h : ∀ y ∈ l, y.id ≠ x.id) : l.filter (unlike x) = l := List.filter_eq_self.2 fun y hy => by unfold unlike; simpa using h y hy
theorem insK_filter {x : Ins} {l : List Ins} (h : Sorted l) (hn : ∀ y ∈ l, y.id ≠ x.id) : (insK x l).filter (unlike x) = l := by
  have h1 : Sorted ((insK x l).filter (unlike x)) := (h.ins hn).sublist List.filter_sublist
  refine sorted_ext h1 h fun y => ?_
  rw [List.mem_filter, mem_insK]
  constructor
  · rintro ⟨h2 | h2, h3⟩
    · subst h2
      unfold unlike at h3
      simp at h3
    · exact h2
  · intro hy
    refine ⟨.inr hy, ?_⟩
    unfold unlike
    simpa using hn y hy
theorem kids_filter {L : List Ins} {x : Ins} (h : Ok (L ++ [x])) (p : IDt) (s : Bool) : (kidsL (L ++ [x]) p s).filter (unlike x) = kidsL L p s := by
  obtain ⟨h1, hn, _, _⟩ := h.init
  rw [kidsL_snoc]
  have hk : ∀ y ∈ kidsL L p s, y.id ≠ x.id := fun y hy => hn y ((mem_kids p s).1 hy).1
  split
  · exact insK_filter (kids_sorted p s h1.distinct) hk
  · exact filter_self hk
theorem flatMap_filter' {α : Type} (q : α → Bool) (f g : α → List α) : ∀ (l : List α), (∀ a ∈ l, q a = false → (f a).filter q = []) → (∀ a ∈ l, q a = true → (f a).filter q = g a) → (l.flatMap f).filter q = (l.filter q).flatMap g
  | [], _, _ => rfl
  | a :: l, h0, h1 => by
    rw [List.flatMap_cons, List.filter_append, flatMap_filter' q f g l (fun b hb => h0 b (List.mem_cons.2 (.inr hb))) (fun b hb => h1 b (List.mem_cons.2 (.inr hb)))]
    cases hq : q a with
    | true => rw [List.filter_cons_of_pos hq, List.flatMap_cons, h1 a (List.mem_cons.2 (.inl rfl)) hq]
    | false => rw [List.filter_cons_of_neg (by rw [hq]; decide), h0 a (List.mem_cons.2 (.inl rfl)) hq, List.nil_append]
/-- An element that is added moves none. -/
theorem bel_filter {L : List Ins} {x : Ins} (h : Ok (L ++ [x])) : ∀ (n : Nat) (p : IDt) (s : Bool), (belL n (L ++ [x]) p s).filter (unlike x) = belL n L p s
  | 0, _, _ => rfl
  | n + 1, p, s => by
    unfold belL
    rw [← kids_filter h p s]
    refine flatMap_filter' (unlike x) _ _ _ (fun y hy hq => ?_) (fun y hy hq => ?_)
    · have e : y.id = x.id := by unfold unlike at hq; simpa using hq
      rw [e, bel_none h.leaf, bel_none h.leaf, List.nil_append, List.filter_cons_of_neg (by rw [hq]; decide)]
      rfl
    · rw [List.filter_append, List.filter_cons_of_pos hq, bel_filter h n, bel_filter h n]
/-- All elements in the order; a number of rounds that is enough. -/
def nodesL (L : List Ins) : List Ins := belL (L.length + 1) L (0, 0) true
/-- Below one of which so long chains hang more rounds change nothing. -/
inductive Deep (L : List Ins) : Nat → IDt → Prop where
  | zero {p : IDt} : (∀ y ∈ L, y.par ≠ p) → Deep L 0 p
  | succ {n : Nat} {p : IDt} : (∀ y ∈ L, y.par = p → Deep L n y.id) → Deep L (n + 1) p
theorem Deep.more {L : List Ins} {n : Nat} {p : IDt} (h : Deep L n p) : Deep L (n + 1) p := by
  induction h with
  | zero h0 => exact .succ fun y hy e => absurd e (h0 y hy)
  | succ _ ih => exact .succ fun y hy e => ih y hy e
theorem Deep.le {L : List Ins} {n m : Nat} {p : IDt} (h : Deep L n p) (hm : n ≤ m) : Deep L m p := by
  obtain ⟨k, rfl⟩ : ∃ k, m = n + k := ⟨m - n, by omega⟩
  clear hm
  induction k with
  | zero => exact h
  | succ k ih => exact ih.more
theorem flatMap_same {α β : Type} {f g : α → List β} : ∀ {l : List α}, (∀ a ∈ l, f a = g a) → l.flatMap f = l.flatMap g
  | [], _ => rfl
  | a :: l, h => by rw [List.flatMap_cons, List.flatMap_cons, h a (List.mem_cons.2 (.inl rfl)), flatMap_same fun b hb => h b (List.mem_cons.2 (.inr hb))]
theorem bel_fuel {L : List Ins} : ∀ (n : Nat) {p : IDt} (s : Bool), Deep L n p → ∀ k, belL (n + 1 + k) L p s = belL (n + 1) L p s
  | 0, p, s, h, k => by
    cases h with
    | zero h0 => rw [bel_none h0, bel_none h0]
  | n + 1, p, s, h, k => by
    cases h with
    | succ h1 =>
      rw [show n + 1 + 1 + k = (n + 1 + k) + 1 by omega, belL, belL]
      have : ∀ y ∈ kidsL L p s, belL (n + 1 + k) L y.id false ++ y :: belL (n + 1 + k) L y.id true = belL (n + 1) L y.id false ++ y :: belL (n + 1) L y.id true := fun y hy => by
        have hm := (mem_kids p s).1 hy
        have hd := h1 y hm.1 (hangs_iff.1 hm.2).1
        rw [bel_fuel n false hd k, bel_fuel n true hd k]
      exact flatMap_same this
theorem Deep.snoc {L : List Ins} {x : Ins} (h : Ok (L ++ [x])) {n : Nat} {p : IDt} (hd : Deep L n p) : Deep (L ++ [x]) (n + 1) p := by
  induction hd with
  | zero h0 =>
    refine .succ fun y hy e => ?_
    rcases List.mem_append.1 hy with h1 | h1
    · exact absurd e (h0 y h1)
    · rw [List.mem_singleton.1 h1]
      exact .zero h.leaf
  | @succ n p _ ih =>
    refine .succ fun y hy e => ?_
    rcases List.mem_append.1 hy with h1 | h1
    · exact ih y h1 e
    · rw [List.mem_singleton.1 h1]
      exact (Deep.zero h.leaf).le (Nat.zero_le _)
theorem Ok.deep {L : List Ins} (h : Ok L) : ∀ p, Deep L L.length p := by
  induction h with
  | nil => exact fun p => .zero fun y hy => nomatch hy
  | @snoc L x h hn h0 hp ih =>
    intro p
    rw [List.length_append, List.length_singleton]
    exact (ih p).snoc (.snoc h hn h0 hp)
/-- What was there stands as it stood, when one is added. -/
theorem nodes_filter {L : List Ins} {x : Ins} (h : Ok (L ++ [x])) : (nodesL (L ++ [x])).filter (unlike x) = nodesL L := by
  unfold nodesL
  rw [bel_filter h, List.length_append, List.length_singleton]
  exact bel_fuel L.length true (h.init.1.deep _) 1
theorem nodes_sub {L : List Ins} {x : Ins} (h : Ok (L ++ [x])) : (nodesL L).Sublist (nodesL (L ++ [x])) := by
  rw [← nodes_filter h]
  exact List.filter_sublist
theorem nodes_set {L M : List Ins} (hL : Ok L) (hM : Ok M) (hl : L.length = M.length) (h : ∀ y, y ∈ L ↔ y ∈ M) : nodesL L = nodesL M := by
  unfold nodesL
  rw [hl]
  exact bel_set hL.distinct hM.distinct h _ _ _
end Go.Proofs.Ytejfdheiopejeaa
