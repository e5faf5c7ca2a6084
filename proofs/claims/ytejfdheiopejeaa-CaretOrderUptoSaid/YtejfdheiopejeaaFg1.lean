/-
  The order of a text: elements hung below one another; it hangs on the set of the elements alone (layer 15; lists, of no program). By an AI agent.
-/
namespace Go.Proofs.Ytejfdheiopejeaa
/-- An element's name: its author, a count. -/
abbrev IDt := Int × Int
def idLt (a b : IDt) : Bool := if a.1 ≠ b.1 then decide (a.1 < b.1) else decide (a.2 < b.2)
theorem idLt_irr (a : IDt) : idLt a a = false := by unfold idLt; simp
theorem idLt_trans {a b c : IDt} (h : idLt a b = true) (k : idLt b c = true) : idLt a c = true := by
  unfold idLt at *
  by_cases h1 : a.1 = b.1 <;> by_cases h2 : b.1 = c.1 <;> by_cases h3 : a.1 = c.1 <;> simp_all <;> omega
theorem idLt_tot {a b : IDt} (h : idLt a b = false) (hn : a ≠ b) : idLt b a = true := by
  unfold idLt at *
  by_cases h1 : a.1 = b.1
  · have h2 : a.2 ≠ b.2 := fun h2 => hn (Prod.ext h1 h2)
    simp_all
    omega
  · have h2 : b.1 ≠ a.1 := fun h2 => h1 h2.symm
    simp_all
    omega
theorem idLt_asym {a b : IDt} (h : idLt a b = true) : idLt b a = false := by
  cases hk : idLt b a with
  | false => rfl
  | true =>
    have := idLt_trans h hk
    rw [idLt_irr] at this
    cases this
/-- An element that is to be. -/
structure Ins where
  id : IDt
  par : IDt
  right : Bool
  rune : Int
/-- Put among those that stand in order. -/
def insK (x : Ins) (l : List Ins) : List Ins := l.filter (fun y => idLt y.id x.id) ++ x :: l.filter (fun y => !idLt y.id x.id)
def hangs (p : IDt) (s : Bool) (x : Ins) : Bool := decide (x.par = p) && x.right == s
/-- What hangs below one on a side, by rising names. -/
def kidsL (L : List Ins) (p : IDt) (s : Bool) : List Ins := L.foldl (fun out x => if hangs p s x then insK x out else out) []
theorem kidsL_snoc (L : List Ins) (x : Ins) (p : IDt) (s : Bool) : kidsL (L ++ [x]) p s = if hangs p s x then insK x (kidsL L p s) else kidsL L p s := by
  unfold kidsL
  rw [List.foldl_append]
  rfl
theorem mem_insK {x y : Ins} {l : List Ins} : y ∈ insK x l ↔ y = x ∨ y ∈ l := by
  unfold insK
  rw [List.mem_append, List.mem_cons, List.mem_filter, List.mem_filter]
  constructor
  · rintro (h | h | h)
    · exact .inr h.1
    · exact .inl h
    · exact .inr h.1
  · rintro (h | h)
    · exact .inr (.inl h)
    · cases hk : idLt y.id x.id with
      | true => exact .inl ⟨h, rfl⟩
      | false => exact .inr (.inr ⟨h, rfl⟩)
theorem mem_kids (p : IDt) (s : Bool) {y : Ins} : ∀ {L : List Ins}, y ∈ kidsL L p s ↔ y ∈ L ∧ hangs p s y = true := by
  intro L
  induction h : L.length generalizing L with
  | zero =>
    have : L = [] := List.length_eq_zero_iff.1 h
    subst this
    simp [kidsL]
  | succ n ih =>
    obtain ⟨L', x, rfl⟩ : ∃ L' x, L = L' ++ [x] := ⟨L.dropLast, L.getLast (by intro e; rw [e] at h; simp at h), (List.dropLast_concat_getLast _).symm⟩
    have ih' := ih (L := L') (by simp at h; exact h)
    rw [kidsL_snoc]
    by_cases hx : hangs p s x = true
    · rw [if_pos hx, mem_insK, ih', List.mem_append, List.mem_singleton]
      constructor
      · rintro (rfl | h)
        · exact ⟨.inr rfl, hx⟩
        · exact ⟨.inl h.1, h.2⟩
      · rintro ⟨h | h, h2⟩
        · exact .inr ⟨h, h2⟩
        · exact .inl h
    · rw [if_neg hx, ih', List.mem_append, List.mem_singleton]
      constructor
      · rintro ⟨h1, h2⟩
        exact ⟨.inl h1, h2⟩
      · rintro ⟨h1 | h1, h2⟩
        · exact ⟨h1, h2⟩
        · rw [h1] at h2
          exact absurd h2 hx
/-- No two have one name. -/
def Distinct (L : List Ins) : Prop := L.Pairwise fun a b => a.id ≠ b.id
theorem Distinct.eq {L : List Ins} (h : Distinct L) {a b : Ins} (ha : a ∈ L) (hb : b ∈ L) (he : a.id = b.id) : a = b := by
  induction L with
  | nil => cases ha
  | cons x r ih =>
    obtain ⟨h1, h2⟩ := List.pairwise_cons.1 h
    rcases List.mem_cons.1 ha with ea | ha'
    · rcases List.mem_cons.1 hb with eb | hb'
      · rw [ea, eb]
      · exact absurd (by rw [← ea]; exact he) (h1 b hb')
    · rcases List.mem_cons.1 hb with eb | hb'
      · exact absurd (by rw [← eb]; exact he.symm) (h1 a ha')
      · exact ih h2 ha' hb'
def Sorted (l : List Ins) : Prop := l.Pairwise fun a b => idLt a.id b.id = true
theorem Sorted.ins {x : Ins} {l : List Ins} (h : Sorted l) (hn : ∀ y ∈ l, y.id ≠ x.id) : Sorted (insK x l) := by
  unfold insK Sorted
  rw [List.pairwise_append, List.pairwise_cons]
  refine ⟨h.sublist List.filter_sublist, ⟨fun y hy => ?_, h.sublist List.filter_sublist⟩, fun a ha b hb => ?_⟩
  · obtain ⟨h1, h2⟩ := List.mem_filter.1 hy
    have h3 : idLt y.id x.id = false := by simpa using h2
    exact idLt_tot h3 (hn y h1)
  · obtain ⟨h1, h2⟩ := List.mem_filter.1 ha
    rcases List.mem_cons.1 hb with rfl | hb
    · exact h2
    · obtain ⟨h3, h4⟩ := List.mem_filter.1 hb
      have h5 : idLt b.id x.id = false := by simpa using h4
      exact idLt_trans h2 (idLt_tot h5 (hn b h3))
theorem Distinct.snoc {L : List Ins} {x : Ins} (h : Distinct (L ++ [x])) : Distinct L ∧ ∀ y ∈ L, y.id ≠ x.id := by
  obtain ⟨h1, _, h3⟩ := List.pairwise_append.1 h
  exact ⟨h1, fun y hy => h3 y hy x (List.mem_singleton.2 rfl)⟩
theorem kids_sorted (p : IDt) (s : Bool) : ∀ {L : List Ins}, Distinct L → Sorted (kidsL L p s) := by
  intro L
  induction h : L.length generalizing L with
  | zero =>
    intro _
    have : L = [] := List.length_eq_zero_iff.1 h
    subst this
    exact List.Pairwise.nil
  | succ n ih =>
    intro hd
    obtain ⟨L', x, rfl⟩ : ∃ L' x, L = L' ++ [x] := ⟨L.dropLast, L.getLast (by intro e; rw [e] at h; simp at h), (List.dropLast_concat_getLast _).symm⟩
    obtain ⟨h1, h2⟩ := hd.snoc
    have ih' := ih (L := L') (by simp at h; exact h) h1
    rw [kidsL_snoc]
    split
    · exact ih'.ins fun y hy => h2 y ((mem_kids p s).1 hy).1
    · exact ih'
/-- Two that stand in order and have the same members are one. -/
theorem sorted_ext : ∀ {l m : List Ins}, Sorted l → Sorted m → (∀ y, y ∈ l ↔ y ∈ m) → l = m
  | [], [], _, _, _ => rfl
  | [], b :: m, _, _, h => absurd ((h b).2 (List.mem_cons.2 (.inl rfl))) (by simp)
  | a :: l, [], _, _, h => absurd ((h a).1 (List.mem_cons.2 (.inl rfl))) (by simp)
  | a :: l, b :: m, hl, hm, h => by
    obtain ⟨l1, l2⟩ := List.pairwise_cons.1 hl
    obtain ⟨m1, m2⟩ := List.pairwise_cons.1 hm
    have hab : a = b := by
      rcases List.mem_cons.1 ((h a).1 (List.mem_cons.2 (.inl rfl))) with h1 | h1
      · exact h1
      · rcases List.mem_cons.1 ((h b).2 (List.mem_cons.2 (.inl rfl))) with h2 | h2
        · exact h2.symm
        · have := idLt_trans (l1 b h2) (m1 a h1)
          rw [idLt_irr] at this
          cases this
    subst hab
    congr 1
    refine sorted_ext l2 m2 fun y => ?_
    constructor
    · intro hy
      rcases List.mem_cons.1 ((h y).1 (List.mem_cons.2 (.inr hy))) with h1 | h1
      · subst h1
        have := l1 y hy
        rw [idLt_irr] at this
        cases this
      · exact h1
    · intro hy
      rcases List.mem_cons.1 ((h y).2 (List.mem_cons.2 (.inr hy))) with h1 | h1
      · subst h1
        have := m1 y hy
        rw [idLt_irr] at this
        cases this
      · exact h1
theorem kids_set {L M : List Ins} (hL : Distinct L) (hM : Distinct M) (h : ∀ y, y ∈ L ↔ y ∈ M) (p : IDt) (s : Bool) : kidsL L p s = kidsL M p s :=
  sorted_ext (kids_sorted p s hL) (kids_sorted p s hM) fun y => by rw [mem_kids, mem_kids, h]
/-- All that hangs below one on a side, in the order. -/
def belL : Nat → List Ins → IDt → Bool → List Ins
  | 0, _, _, _ => []
  | n + 1, L, p, s => (kidsL L p s).flatMap fun x => belL n L x.id false ++ x :: belL n L x.id true
theorem bel_set {L M : List Ins} (hL : Distinct L) (hM : Distinct M) (h : ∀ y, y ∈ L ↔ y ∈ M) : ∀ n p s, belL n L p s = belL n M p s
  | 0, _, _ => rfl
  | n + 1, p, s => by
    unfold belL
    rw [kids_set hL hM h]
    congr 1
    funext x
    rw [bel_set hL hM h n, bel_set hL hM h n]
end Go.Proofs.Ytejfdheiopejeaa
