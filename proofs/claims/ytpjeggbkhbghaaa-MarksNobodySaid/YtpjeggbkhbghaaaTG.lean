/-
  The order of a text: elements hung below one another; it hangs on the set of the elements alone (layer 15; lists, of no program). By an AI agent. The order of a text: an element that is added moves none (layer 15; lists, of no program). By an AI agent. The order of a text: each element stands there once; what is planned stands where it was planned (layer 15; lists, of no program). By an AI agent. The order of a text: what is planned stands where it was planned (layer 15; lists, of no program). By an AI agent. Adding and dropping again and again till nothing more can be done: what is there then hangs on what was to be done alone (layer 15; lists, of no program). By an AI agent. The order of a text: where the plan asks for, and what is not dropped (layer 15; lists, of no program). By an AI agent. What is done later moves none and brings none back; found one by one (layer 15; lists, of no program). By an AI agent.
-/
namespace Go.Proofs.Ytpjeggbkhbghaaa
/-- An element's name: its author, a count. -/
abbrev IDt := Int × Int
def idLt (a b : IDt) : Bool := if a.1 ≠ b.1 then decide (a.1 < b.1) else decide (a.2 < b.2)
theorem idLt_irr (a : IDt) : idLt a a = false := by unfold idLt; simp
theorem idLt_trans {a b c : IDt} (h : idLt a b = true) (k : idLt b c = true) : idLt a c = true := by
  unfold idLt at *
  by_cases h1 : a.1 = b.1 <;> by_cases h2 : b.1 = c.1 <;> by_cases h3 : a.1 = c.1 <;> simp_all <;> omega
theorem idLt_tot {a b : IDt} (h : idLt a b = false) (hn : a ≠ b) : idLt b a = true := by
  unfold idLt at *
  by_cases h1 : a.1 = b.1
  · have h2 : a.2 ≠ b.2 := fun h2 => hn (Prod.ext h1 h2)
    simp_all
    omega
  · have h2 : b.1 ≠ a.1 := fun h2 => h1 h2.symm
    simp_all
    omega
theorem idLt_asym {a b : IDt} (h : idLt a b = true) : idLt b a = false := by
  cases hk : idLt b a with
  | false => rfl
  | true =>
    have := idLt_trans h hk
    rw [idLt_irr] at this
    cases this
/-- An element that is to be. -/
structure Ins where
  id : IDt
  par : IDt
  right : Bool
  rune : Int
/-- Put among those that stand in order. -/
def insK (x : Ins) (l : List Ins) : List Ins := l.filter (fun y => idLt y.id x.id) ++ x :: l.filter (fun y => !idLt y.id x.id)
def hangs (p : IDt) (s : Bool) (x : Ins) : Bool := decide (x.par = p) && x.right == s
/-- What hangs below one on a side, by rising names. -/
def kidsL (L : List Ins) (p : IDt) (s : Bool) : List Ins := L.foldl (fun out x => if hangs p s x then insK x out else out) []
theorem kidsL_snoc (L : List Ins) (x : Ins) (p : IDt) (s : Bool) : kidsL (L ++ [x]) p s = if hangs p s x then insK x (kidsL L p s) else kidsL L p s := by
  unfold kidsL
  rw [List.foldl_append]
  rfl
theorem mem_insK {x y : Ins} {l : List Ins} : y ∈ insK x l ↔ y = x ∨ y ∈ l := by
  unfold insK
  rw [List.mem_append, List.mem_cons, List.mem_filter, List.mem_filter]
  constructor
  · rintro (h | h | h)
    · exact .inr h.1
    · exact .inl h
    · exact .inr h.1
  · rintro (h | h)
    · exact .inr (.inl h)
    · cases hk : idLt y.id x.id with
      | true => exact .inl ⟨h, rfl⟩
      | false => exact .inr (.inr ⟨h, rfl⟩)
theorem mem_kids (p : IDt) (s : Bool) {y : Ins} : ∀ {L : List Ins}, y ∈ kidsL L p s ↔ y ∈ L ∧ hangs p s y = true := by
  intro L
  induction h : L.length generalizing L with
  | zero =>
    have : L = [] := List.length_eq_zero_iff.1 h
    subst this
    simp [kidsL]
  | succ n ih =>
    obtain ⟨L', x, rfl⟩ : ∃ L' x, L = L' ++ [x] := ⟨L.dropLast, L.getLast (by intro e; rw [e] at h; simp at h), (List.dropLast_concat_getLast _).symm⟩
    have ih' := ih (L := L') (by simp at h; exact h)
    rw [kidsL_snoc]
    by_cases hx : hangs p s x = true
    · rw [if_pos hx, mem_insK, ih', List.mem_append, List.mem_singleton]
      constructor
      · rintro (rfl | h)
        · exact ⟨.inr rfl, hx⟩
        · exact ⟨.inl h.1, h.2⟩
      · rintro ⟨h | h, h2⟩
        · exact .inr ⟨h, h2⟩
        · exact .inl h
    · rw [if_neg hx, ih', List.mem_append, List.mem_singleton]
      constructor
      · rintro ⟨h1, h2⟩
        exact ⟨.inl h1, h2⟩
      · rintro ⟨h1 | h1, h2⟩
        · exact ⟨h1, h2⟩
        · rw [h1] at h2
          exact absurd h2 hx
/-- No two have one name. -/
def Distinct (L : List Ins) : Prop := L.Pairwise fun a b => a.id ≠ b.id
theorem Distinct.eq {L : List Ins} (h : Distinct L) {a b : Ins} (ha : a ∈ L) (hb : b ∈ L) (he : a.id = b.id) : a = b := by
  induction L with
  | nil => cases ha
  | cons x r ih =>
    obtain ⟨h1, h2⟩ := List.pairwise_cons.1 h
    rcases List.mem_cons.1 ha with ea | ha'
    · rcases List.mem_cons.1 hb with eb | hb'
      · rw [ea, eb]
      · exact absurd (by rw [← ea]; exact he) (h1 b hb')
    · rcases List.mem_cons.1 hb with eb | hb'
      · exact absurd (by rw [← eb]; exact he.symm) (h1 a ha')
      · exact ih h2 ha' hb'
def Sorted (l : List Ins) : Prop := l.Pairwise fun a b => idLt a.id b.id = true
theorem Sorted.ins {x : Ins} {l : List Ins} (h : Sorted l) (hn : ∀ y ∈ l, y.id ≠ x.id) : Sorted (insK x l) := by
  unfold insK Sorted
  rw [List.pairwise_append, List.pairwise_cons]
  refine ⟨h.sublist List.filter_sublist, ⟨fun y hy => ?_, h.sublist List.filter_sublist⟩, fun a ha b hb => ?_⟩
  · obtain ⟨h1, h2⟩ := List.mem_filter.1 hy
    have h3 : idLt y.id x.id = false := by simpa using h2
    exact idLt_tot h3 (hn y h1)
  · obtain ⟨h1, h2⟩ := List.mem_filter.1 ha
    rcases List.mem_cons.1 hb with rfl | hb
    · exact h2
    · obtain ⟨h3, h4⟩ := List.mem_filter.1 hb
      have h5 : idLt b.id x.id = false := by simpa using h4
      exact idLt_trans h2 (idLt_tot h5 (hn b h3))
theorem Distinct.snoc {L : List Ins} {x : Ins} (h : Distinct (L ++ [x])) : Distinct L ∧ ∀ y ∈ L, y.id ≠ x.id := by
  obtain ⟨h1, _, h3⟩ := List.pairwise_append.1 h
  exact ⟨h1, fun y hy => h3 y hy x (List.mem_singleton.2 rfl)⟩
theorem kids_sorted (p : IDt) (s : Bool) : ∀ {L : List Ins}, Distinct L → Sorted (kidsL L p s) := by
  intro L
  induction h : L.length generalizing L with
  | zero =>
    intro _
    have : L = [] := List.length_eq_zero_iff.1 h
    subst this
    exact List.Pairwise.nil
  | succ n ih =>
    intro hd
    obtain ⟨L', x, rfl⟩ : ∃ L' x, L = L' ++ [x] := ⟨L.dropLast, L.getLast (by intro e; rw [e] at h; simp at h), (List.dropLast_concat_getLast _).symm⟩
    obtain ⟨h1, h2⟩ := hd.snoc
    have ih' := ih (L := L') (by simp at h; exact h) h1
    rw [kidsL_snoc]
    split
    · exact ih'.ins fun y hy => h2 y ((mem_kids p s).1 hy).1
    · exact ih'
/-- Two that stand in order and have the same members are one. -/
theorem sorted_ext : ∀ {l m : List Ins}, Sorted l → Sorted m → (∀ y, y ∈ l ↔ y ∈ m) → l = m
  | [], [], _, _, _ => rfl
  | [], b :: m, _, _, h => absurd ((h b).2 (List.mem_cons.2 (.inl rfl))) (by simp)
  | a :: l, [], _, _, h => absurd ((h a).1 (List.mem_cons.2 (.inl rfl))) (by simp)
  | a :: l, b :: m, hl, hm, h => by
    obtain ⟨l1, l2⟩ := List.pairwise_cons.1 hl
    obtain ⟨m1, m2⟩ := List.pairwise_cons.1 hm
    have hab : a = b := by
      rcases List.mem_cons.1 ((h a).1 (List.mem_cons.2 (.inl rfl))) with h1 | h1
      · exact h1
      · rcases List.mem_cons.1 ((h b).2 (List.mem_cons.2 (.inl rfl))) with h2 | h2
        · exact h2.symm
        · have := idLt_trans (l1 b h2) (m1 a h1)
          rw [idLt_irr] at this
          cases this
    subst hab
    congr 1
    refine sorted_ext l2 m2 fun y => ?_
    constructor
    · intro hy
      rcases List.mem_cons.1 ((h y).1 (List.mem_cons.2 (.inr hy))) with h1 | h1
      · subst h1
        have := l1 y hy
        rw [idLt_irr] at this
        cases this
      · exact h1
    · intro hy
      rcases List.mem_cons.1 ((h y).2 (List.mem_cons.2 (.inr hy))) with h1 | h1
      · subst h1
        have := m1 y hy
        rw [idLt_irr] at this
        cases this
      · exact h1
theorem kids_set {L M : List Ins} (hL : Distinct L) (hM : Distinct M) (h : ∀ y, y ∈ L ↔ y ∈ M) (p : IDt) (s : Bool) : kidsL L p s = kidsL M p s :=
  sorted_ext (kids_sorted p s hL) (kids_sorted p s hM) fun y => by rw [mem_kids, mem_kids, h]
/-- All that hangs below one on a side, in the order. -/
def belL : Nat → List Ins → IDt → Bool → List Ins
  | 0, _, _, _ => []
  | n + 1, L, p, s => (kidsL L p s).flatMap fun x => belL n L x.id false ++ x :: belL n L x.id true
theorem bel_set {L M : List Ins} (hL : Distinct L) (hM : Distinct M) (h : ∀ y, y ∈ L ↔ y ∈ M) : ∀ n p s, belL n L p s = belL n M p s
  | 0, _, _ => rfl
  | n + 1, p, s => by
    unfold belL
    rw [kids_set hL hM h]
    congr 1
    funext x
    rw [bel_set hL hM h n, bel_set hL hM h n]
end Go.Proofs.Ytpjeggbkhbghaaa
namespace Go.Proofs.Ytpjeggbkhbghaaa
/-- A list of elements as it comes by adding: names unlike, none the beginning's, each behind its parent. -/
inductive Ok : List Ins → Prop where
  | nil : Ok []
  | snoc {L : List Ins} {x : Ins} : Ok L → (∀ y ∈ L, y.id ≠ x.id) → x.id ≠ (0, 0) → (x.par = (0, 0) ∧ x.right = true ∨ ∃ y ∈ L, y.id = x.par) → Ok (L ++ [x])
theorem Ok.distinct {L : List Ins} (h : Ok L) : Distinct L := by
  induction h with
  | nil => exact List.Pairwise.nil
  | snoc _ hn _ _ ih =>
    exact List.pairwise_append.2 ⟨ih, List.pairwise_singleton _ _, fun a ha b hb => by rw [List.mem_singleton.1 hb]; exact hn a ha⟩
theorem Ok.nz {L : List Ins} (h : Ok L) : ∀ y ∈ L, y.id ≠ (0, 0) := by
  induction h with
  | nil => intro y hy; cases hy
  | snoc _ _ h0 _ ih =>
    intro y hy
    rcases List.mem_append.1 hy with h | h
    · exact ih y h
    · rw [List.mem_singleton.1 h]; exact h0
theorem Ok.par {L : List Ins} (h : Ok L) : ∀ y ∈ L, y.par = (0, 0) ∨ ∃ z ∈ L, z.id = y.par := by
  induction h with
  | nil => intro y hy; cases hy
  | snoc _ _ _ hp ih =>
    intro y hy
    rcases List.mem_append.1 hy with h | h
    · rcases ih y h with h1 | ⟨z, hz, e⟩
      · exact .inl h1
      · exact .inr ⟨z, List.mem_append.2 (.inl hz), e⟩
    · rw [List.mem_singleton.1 h]
      rcases hp with ⟨h1, _⟩ | ⟨z, hz, e⟩
      · exact .inl h1
      · exact .inr ⟨z, List.mem_append.2 (.inl hz), e⟩
/-- Nothing hangs below one that is new. -/
theorem Ok.leaf {L : List Ins} {x : Ins} (h : Ok (L ++ [x])) : ∀ y ∈ L ++ [x], y.par ≠ x.id := by
  generalize hM : L ++ [x] = M at h
  cases h with
  | nil => intro y hy; cases hy
  | @snoc L' x' h' hn h0 hp =>
    obtain ⟨rfl, e⟩ := List.append_inj' hM rfl
    have ex : x = x' := by simpa using e
    subst ex
    intro y hy he
    have hx : x.id ≠ (0, 0) := h0
    rcases List.mem_append.1 hy with h | h
    · rcases h'.par y h with h1 | ⟨z, hz, e1⟩
      · exact hx (by rw [← he, h1])
      · exact hn z hz (e1.trans he)
    · rw [List.mem_singleton.1 h] at he
      rcases hp with ⟨h1, _⟩ | ⟨z, hz, e1⟩
      · exact hx (by rw [← he, h1])
      · exact hn z hz (e1.trans he)
theorem Ok.init {L : List Ins} {x : Ins} (h : Ok (L ++ [x])) : Ok L ∧ (∀ y ∈ L, y.id ≠ x.id) ∧ x.id ≠ (0, 0) ∧ (x.par = (0, 0) ∧ x.right = true ∨ ∃ y ∈ L, y.id = x.par) := by
  generalize hM : L ++ [x] = M at h
  cases h with
  | nil => simp at hM
  | @snoc L' x' h' hn h0 hp =>
    obtain ⟨rfl, e⟩ := List.append_inj' hM rfl
    have ex : x = x' := by simpa using e
    subst ex
    exact ⟨h', hn, h0, hp⟩
theorem hangs_iff {p : IDt} {s : Bool} {x : Ins} : hangs p s x = true ↔ x.par = p ∧ x.right = s := by unfold hangs; simp
theorem kids_none {L : List Ins} {p : IDt} (h : ∀ y ∈ L, y.par ≠ p) (s : Bool) : kidsL L p s = [] := by
  cases hk : kidsL L p s with
  | nil => rfl
  | cons y r =>
    have := (mem_kids p s (L := L) (y := y)).1 (by rw [hk]; exact List.mem_cons.2 (.inl rfl))
    exact absurd (hangs_iff.1 this.2).1 (h y this.1)
theorem bel_none {L : List Ins} {p : IDt} (h : ∀ y ∈ L, y.par ≠ p) (n : Nat) (s : Bool) : belL n L p s = [] := by
  cases n with
  | zero => rfl
  | succ n => unfold belL; rw [kids_none h]; rfl
/-- Is it another one? -/
def unlike (x y : Ins) : Bool := decide (y.id ≠ x.id)
theorem filter_self {x : Ins} {l : List Ins} (h : ∀ y ∈ l, y.id ≠ x.id) : l.filter (unlike x) = l := List.filter_eq_self.2 fun y hy => by unfold unlike; simpa using h y hy
theorem insK_filter {x : Ins} {l : List Ins} (h : Sorted l) (hn : ∀ y ∈ l, y.id ≠ x.id) : (insK x l).filter (unlike x) = l := by
  have h1 : Sorted ((insK x l).filter (unlike x)) := (h.ins hn).sublist List.filter_sublist
  refine sorted_ext h1 h fun y => ?_
  rw [List.mem_filter, mem_insK]
  constructor
  · rintro ⟨h2 | h2, h3⟩
    · subst h2
      unfold unlike at h3
      simp at h3
    · exact h2
  · intro hy
    refine ⟨.inr hy, ?_⟩
    unfold unlike
    simpa using hn y hy
theorem kids_filter {L : List Ins} {x : Ins} (h : Ok (L ++ [x])) (p : IDt) (s : Bool) : (kidsL (L ++ [x]) p s).filter (unlike x) = kidsL L p s := by
  obtain ⟨h1, hn, _, _⟩ := h.init
  rw [kidsL_snoc]
  have hk : ∀ y ∈ kidsL L p s, y.id ≠ x.id := fun y hy => hn y ((mem_kids p s).1 hy).1
  split
  · exact insK_filter (kids_sorted p s h1.distinct) hk
  · exact filter_self hk
theorem flatMap_filter' {α : Type} (q : α → Bool) (f g : α → List α) : ∀ (l : List α), (∀ a ∈ l, q a = false → (f a).filter q = []) → (∀ a ∈ l, q a = true → (f a).filter q = g a) → (l.flatMap f).filter q = (l.filter q).flatMap g
  | [], _, _ => rfl
  | a :: l, h0, h1 => by
    rw [List.flatMap_cons, List.filter_append, flatMap_filter' q f g l (fun b hb => h0 b (List.mem_cons.2 (.inr hb))) (fun b hb => h1 b (List.mem_cons.2 (.inr hb)))]
    cases hq : q a with
    | true => rw [List.filter_cons_of_pos hq, List.flatMap_cons, h1 a (List.mem_cons.2 (.inl rfl)) hq]
    | false => rw [List.filter_cons_of_neg (by rw [hq]; decide), h0 a (List.mem_cons.2 (.inl rfl)) hq, List.nil_append]
/-- An element that is added moves none. -/
theorem bel_filter {L : List Ins} {x : Ins} (h : Ok (L ++ [x])) : ∀ (n : Nat) (p : IDt) (s : Bool), (belL n (L ++ [x]) p s).filter (unlike x) = belL n L p s
  | 0, _, _ => rfl
  | n + 1, p, s => by
    unfold belL
    rw [← kids_filter h p s]
    refine flatMap_filter' (unlike x) _ _ _ (fun y hy hq => ?_) (fun y hy hq => ?_)
    · have e : y.id = x.id := by unfold unlike at hq; simpa using hq
      rw [e, bel_none h.leaf, bel_none h.leaf, List.nil_append, List.filter_cons_of_neg (by rw [hq]; decide)]
      rfl
    · rw [List.filter_append, List.filter_cons_of_pos hq, bel_filter h n, bel_filter h n]
/-- All elements in the order; a number of rounds that is enough. -/
def nodesL (L : List Ins) : List Ins := belL (L.length + 1) L (0, 0) true
/-- Below one of which so long chains hang more rounds change nothing. -/
inductive Deep (L : List Ins) : Nat → IDt → Prop where
  | zero {p : IDt} : (∀ y ∈ L, y.par ≠ p) → Deep L 0 p
  | succ {n : Nat} {p : IDt} : (∀ y ∈ L, y.par = p → Deep L n y.id) → Deep L (n + 1) p
theorem Deep.more {L : List Ins} {n : Nat} {p : IDt} (h : Deep L n p) : Deep L (n + 1) p := by
  induction h with
  | zero h0 => exact .succ fun y hy e => absurd e (h0 y hy)
  | succ _ ih => exact .succ fun y hy e => ih y hy e
theorem Deep.le {L : List Ins} {n m : Nat} {p : IDt} (h : Deep L n p) (hm : n ≤ m) : Deep L m p := by
  obtain ⟨k, rfl⟩ : ∃ k, m = n + k := ⟨m - n, by omega⟩
  clear hm
  induction k with
  | zero => exact h
  | succ k ih => exact ih.more
theorem flatMap_same {α β : Type} {f g : α → List β} : ∀ {l : List α}, (∀ a ∈ l, f a = g a) → l.flatMap f = l.flatMap g
  | [], _ => rfl
  | a :: l, h => by rw [List.flatMap_cons, List.flatMap_cons, h a (List.mem_cons.2 (.inl rfl)), flatMap_same fun b hb => h b (List.mem_cons.2 (.inr hb))]
theorem bel_fuel {L : List Ins} : ∀ (n : Nat) {p : IDt} (s : Bool), Deep L n p → ∀ k, belL (n + 1 + k) L p s = belL (n + 1) L p s
  | 0, p, s, h, k => by
    cases h with
    | zero h0 => rw [bel_none h0, bel_none h0]
  | n + 1, p, s, h, k => by
    cases h with
    | succ h1 =>
      rw [show n + 1 + 1 + k = (n + 1 + k) + 1 by omega, belL, belL]
      have : ∀ y ∈ kidsL L p s, belL (n + 1 + k) L y.id false ++ y :: belL (n + 1 + k) L y.id true = belL (n + 1) L y.id false ++ y :: belL (n + 1) L y.id true := fun y hy => by
        have hm := (mem_kids p s).1 hy
        have hd := h1 y hm.1 (hangs_iff.1 hm.2).1
        rw [bel_fuel n false hd k, bel_fuel n true hd k]
      exact flatMap_same this
theorem Deep.snoc {L : List Ins} {x : Ins} (h : Ok (L ++ [x])) {n : Nat} {p : IDt} (hd : Deep L n p) : Deep (L ++ [x]) (n + 1) p := by
  induction hd with
  | zero h0 =>
    refine .succ fun y hy e => ?_
    rcases List.mem_append.1 hy with h1 | h1
    · exact absurd e (h0 y h1)
    · rw [List.mem_singleton.1 h1]
      exact .zero h.leaf
  | @succ n p _ ih =>
    refine .succ fun y hy e => ?_
    rcases List.mem_append.1 hy with h1 | h1
    · exact ih y h1 e
    · rw [List.mem_singleton.1 h1]
      exact (Deep.zero h.leaf).le (Nat.zero_le _)
theorem Ok.deep {L : List Ins} (h : Ok L) : ∀ p, Deep L L.length p := by
  induction h with
  | nil => exact fun p => .zero fun y hy => nomatch hy
  | @snoc L x h hn h0 hp ih =>
    intro p
    rw [List.length_append, List.length_singleton]
    exact (ih p).snoc (.snoc h hn h0 hp)
/-- What was there stands as it stood, when one is added. -/
theorem nodes_filter {L : List Ins} {x : Ins} (h : Ok (L ++ [x])) : (nodesL (L ++ [x])).filter (unlike x) = nodesL L := by
  unfold nodesL
  rw [bel_filter h, List.length_append, List.length_singleton]
  exact bel_fuel L.length true (h.init.1.deep _) 1
theorem nodes_sub {L : List Ins} {x : Ins} (h : Ok (L ++ [x])) : (nodesL L).Sublist (nodesL (L ++ [x])) := by
  rw [← nodes_filter h]
  exact List.filter_sublist
theorem nodes_set {L M : List Ins} (hL : Ok L) (hM : Ok M) (hl : L.length = M.length) (h : ∀ y, y ∈ L ↔ y ∈ M) : nodesL L = nodesL M := by
  unfold nodesL
  rw [hl]
  exact bel_set hL.distinct hM.distinct h _ _ _
end Go.Proofs.Ytpjeggbkhbghaaa
namespace Go.Proofs.Ytpjeggbkhbghaaa
theorem bel_mem {L : List Ins} : ∀ (n : Nat) {p : IDt} {s : Bool} {y : Ins}, y ∈ belL n L p s → y ∈ L
  | 0, _, _, _, h => by cases h
  | n + 1, p, s, y, h => by
    unfold belL at h
    obtain ⟨k, hk, hy⟩ := List.mem_flatMap.1 h
    rcases List.mem_append.1 hy with h1 | h1
    · exact bel_mem n h1
    · rcases List.mem_cons.1 h1 with h2 | h2
      · rw [h2]; exact ((mem_kids p s).1 hk).1
      · exact bel_mem n h2
/-- Where one stands, all that hangs below it stands beside it. -/
theorem bel_split {L : List Ins} : ∀ (n : Nat) {p : IDt} {s : Bool} {z : Ins}, Deep L n p → z ∈ belL (n + 1) L p s → ∃ m pre post, Deep L m z.id ∧ belL (n + 1) L p s = pre ++ (belL (m + 1) L z.id false ++ z :: belL (m + 1) L z.id true) ++ post
  | 0, p, s, z, hd, hz => by
    cases hd with
    | zero h0 => rw [bel_none h0] at hz; cases hz
  | n + 1, p, s, z, hd, hz => by
    cases hd with
    | succ hd =>
      have e : belL (n + 1 + 1) L p s = (kidsL L p s).flatMap fun x => belL (n + 1) L x.id false ++ x :: belL (n + 1) L x.id true := rfl
      rw [e] at hz ⊢
      obtain ⟨k, hk, hy⟩ := List.mem_flatMap.1 hz
      obtain ⟨l1, l2, e2⟩ := List.append_of_mem hk
      obtain ⟨P1, hP1⟩ : ∃ P, P = l1.flatMap fun x => belL (n + 1) L x.id false ++ x :: belL (n + 1) L x.id true := ⟨_, rfl⟩
      obtain ⟨P2, hP2⟩ : ∃ P, P = l2.flatMap fun x => belL (n + 1) L x.id false ++ x :: belL (n + 1) L x.id true := ⟨_, rfl⟩
      have hm := (mem_kids p s).1 hk
      rw [e2, List.flatMap_append, List.flatMap_cons, ← hP1, ← hP2]
      have hdk := hd k hm.1 (hangs_iff.1 hm.2).1
      rcases List.mem_append.1 hy with h1 | h1
      · obtain ⟨m, pre, post, hdm, e3⟩ := bel_split n hdk h1
        refine ⟨m, P1 ++ pre, post ++ k :: belL (n + 1) L k.id true ++ P2, hdm, ?_⟩
        rw [e3]
        simp only [List.append_assoc, List.cons_append]
      · rcases List.mem_cons.1 h1 with h2 | h2
        · subst h2
          exact ⟨n, P1, P2, hdk, by simp only [List.append_assoc]⟩
        · obtain ⟨m, pre, post, hdm, e3⟩ := bel_split n hdk h2
          refine ⟨m, P1 ++ belL (n + 1) L k.id false ++ k :: pre, post ++ P2, hdm, ?_⟩
          rw [e3]
          simp only [List.append_assoc, List.cons_append]
theorem nodes_mem {L : List Ins} (h : Ok L) {y : Ins} : y ∈ nodesL L ↔ y ∈ L := by
  refine ⟨fun hy => bel_mem _ hy, ?_⟩
  revert y
  induction h with
  | nil => intro y hy; cases hy
  | @snoc L x h hn h0 hp ih =>
    intro y hy
    have hok : Ok (L ++ [x]) := .snoc h hn h0 hp
    rcases List.mem_append.1 hy with h1 | h1
    · exact (nodes_sub hok).subset (ih h1)
    · rw [List.mem_singleton.1 h1]
      have hkid : ∀ p s, hangs p s x = true → x ∈ kidsL (L ++ [x]) p s := fun p s hh => (mem_kids p s).2 ⟨List.mem_append.2 (.inr (List.mem_singleton.2 rfl)), hh⟩
      have hbel : ∀ m p s, hangs p s x = true → x ∈ belL (m + 1) (L ++ [x]) p s := fun m p s hh => by
        unfold belL
        exact List.mem_flatMap.2 ⟨x, hkid p s hh, List.mem_append.2 (.inr (List.mem_cons.2 (.inl rfl)))⟩
      rcases hp with ⟨h2, h3⟩ | ⟨z, hz, e⟩
      · exact hbel _ _ _ (hangs_iff.2 ⟨h2, h3⟩)
      · have hz' : z ∈ nodesL (L ++ [x]) := (nodes_sub hok).subset (ih hz)
        obtain ⟨m, pre, post, _, e2⟩ := bel_split _ (hok.deep (0, 0)) hz'
        unfold nodesL
        rw [e2]
        have hx := hbel m z.id x.right (hangs_iff.2 ⟨e.symm, rfl⟩)
        refine List.mem_append.2 (.inl (List.mem_append.2 (.inr ?_)))
        cases hr : x.right with
        | false => rw [hr] at hx; exact List.mem_append.2 (.inl hx)
        | true => rw [hr] at hx; exact List.mem_append.2 (.inr (List.mem_cons.2 (.inr hx)))
/-- How often a name stands in a list. -/
def cntI (i : IDt) (l : List Ins) : Nat := (l.filter fun y => decide (y.id = i)).length
theorem cntI_nil (i : IDt) : cntI i [] = 0 := rfl
theorem cntI_app (i : IDt) (l m : List Ins) : cntI i (l ++ m) = cntI i l + cntI i m := by unfold cntI; rw [List.filter_append, List.length_append]
theorem cntI_cons (i : IDt) (x : Ins) (l : List Ins) : cntI i (x :: l) = (if x.id = i then 1 else 0) + cntI i l := by
  unfold cntI
  by_cases h : x.id = i
  · rw [List.filter_cons_of_pos (by simp [h]), List.length_cons, if_pos h]; omega
  · rw [List.filter_cons_of_neg (by simp [h]), if_neg h]; omega
theorem cntI_zero {i : IDt} {l : List Ins} (h : ∀ y ∈ l, y.id ≠ i) : cntI i l = 0 := by
  unfold cntI
  rw [List.filter_eq_nil_iff.2 fun y hy => by simpa using h y hy]
  rfl
theorem cntI_distinct {i : IDt} : ∀ {l : List Ins}, Distinct l → cntI i l ≤ 1
  | [], _ => by rw [cntI_nil]; omega
  | x :: l, h => by
    obtain ⟨h1, h2⟩ := List.pairwise_cons.1 h
    rw [cntI_cons]
    by_cases he : x.id = i
    · rw [if_pos he, cntI_zero fun y hy e => h1 y hy (he.trans e.symm)]; omega
    · rw [if_neg he]; have := cntI_distinct (i := i) h2; omega
theorem distinct_cnt : ∀ {l : List Ins}, (∀ i, cntI i l ≤ 1) → Distinct l
  | [], _ => List.Pairwise.nil
  | x :: l, h => by
    refine List.pairwise_cons.2 ⟨fun y hy e => ?_, distinct_cnt fun i => by have := h i; rw [cntI_cons] at this; omega⟩
    have h1 := h x.id
    rw [cntI_cons, if_pos rfl] at h1
    have h2 : cntI x.id l = 0 := by omega
    have h3 : y ∈ l.filter fun y => decide (y.id = x.id) := List.mem_filter.2 ⟨hy, by simp [e.symm]⟩
    unfold cntI at h2
    rw [List.length_eq_zero_iff.1 h2] at h3
    cases h3
theorem sorted_distinct {l : List Ins} (h : Sorted l) : Distinct l := List.Pairwise.imp (fun {a b} hab e => by rw [e, idLt_irr] at hab; cases hab) h
theorem cnt_bel {L : List Ins} {x : Ins} (h : Ok (L ++ [x])) : ∀ (n : Nat) (p : IDt) (s : Bool), cntI x.id (belL n (L ++ [x]) p s) ≤ (if hangs p s x then 1 else 0) + cntI x.par (belL n (L ++ [x]) p s)
  | 0, _, _ => by unfold belL; rw [cntI_nil]; omega
  | n + 1, p, s => by
    have hpart : ∀ l : List Ins, cntI x.id (l.flatMap fun k => belL n (L ++ [x]) k.id false ++ k :: belL n (L ++ [x]) k.id true) ≤ cntI x.id l + cntI x.par (l.flatMap fun k => belL n (L ++ [x]) k.id false ++ k :: belL n (L ++ [x]) k.id true) := by
      intro l
      induction l with
      | nil => simp [cntI_nil]
      | cons k r ih =>
        rw [List.flatMap_cons, cntI_app, cntI_app, cntI_app, cntI_app, cntI_cons, cntI_cons, cntI_cons]
        have i1 := cnt_bel h n k.id false
        have i2 := cnt_bel h n k.id true
        by_cases hk : k.id = x.par
        · rw [if_pos hk]
          have h2 : (if hangs k.id false x = true then 1 else 0) + (if hangs k.id true x = true then 1 else 0) ≤ 1 := by
            unfold hangs
            cases x.right <;> simp <;> split <;> omega
          omega
        · rw [if_neg hk]
          have h3 : ∀ s', hangs k.id s' x = false := fun s' => by
            cases hh : hangs k.id s' x with
            | false => rfl
            | true => exact absurd (hangs_iff.1 hh).1.symm hk
          rw [h3] at i1 i2
          simp only [Bool.false_eq_true, if_false] at i1 i2
          omega
    have hk : cntI x.id (kidsL (L ++ [x]) p s) ≤ if hangs p s x then 1 else 0 := by
      by_cases hh : hangs p s x = true
      · rw [if_pos hh]
        exact cntI_distinct (sorted_distinct (kids_sorted p s h.distinct))
      · rw [if_neg hh, cntI_zero]
        · exact Nat.le_refl _
        · intro y hy e
          have hm := (mem_kids p s).1 hy
          have : y = x := h.distinct.eq hm.1 (List.mem_append.2 (.inr (List.mem_singleton.2 rfl))) e
          rw [this] at hm
          exact hh hm.2
    have := hpart (kidsL (L ++ [x]) p s)
    unfold belL
    omega
theorem cntI_filter {x : Ins} {i : IDt} (h : i ≠ x.id) (l : List Ins) : cntI i (l.filter (unlike x)) = cntI i l := by
  unfold cntI
  rw [List.filter_filter]
  congr 1
  refine List.filter_congr fun y _ => ?_
  unfold unlike
  by_cases e : y.id = i
  · simp [e, h]
  · simp [e]
/-- Each element stands there once. -/
theorem nodes_distinct {L : List Ins} (h : Ok L) : Distinct (nodesL L) := by
  induction h with
  | nil => exact List.Pairwise.nil
  | @snoc L x h hn h0 hp ih =>
    have hok : Ok (L ++ [x]) := .snoc h hn h0 hp
    have hold : ∀ i, i ≠ x.id → cntI i (nodesL (L ++ [x])) ≤ 1 := fun i hi => by
      rw [← cntI_filter hi, nodes_filter hok]
      exact cntI_distinct ih
    refine distinct_cnt fun i => ?_
    by_cases hi : i = x.id
    · subst hi
      have h1 := cnt_bel hok ((L ++ [x]).length + 1) (0, 0) true
      have hpx : x.par ≠ x.id := hok.leaf x (List.mem_append.2 (.inr (List.mem_singleton.2 rfl)))
      by_cases hz : x.par = (0, 0)
      · have h2 : cntI x.par (nodesL (L ++ [x])) = 0 := cntI_zero fun y hy e => hok.nz y (bel_mem _ hy) (e.trans hz)
        unfold nodesL at h2 ⊢
        split at h1 <;> omega
      · have h2 := hold x.par hpx
        have h3 : hangs (0, 0) true x = false := by
          cases hh : hangs (0, 0) true x with
          | false => rfl
          | true => exact absurd (hangs_iff.1 hh).1 hz
        rw [h3] at h1
        simp only [Bool.false_eq_true, if_false] at h1
        unfold nodesL at h2 ⊢
        omega
    · exact hold i hi
end Go.Proofs.Ytpjeggbkhbghaaa
namespace Go.Proofs.Ytpjeggbkhbghaaa
/-- Beside whom the new one stands. -/
def besideL (x y : Ins) : List Ins := if y.id = x.par then (if x.right then [y, x] else [x, y]) else [y]
theorem bel_nokids {L : List Ins} {p : IDt} {s : Bool} (h : kidsL L p s = []) (n : Nat) : belL n L p s = [] := by
  cases n with
  | zero => rfl
  | succ n => unfold belL; rw [h]; rfl
theorem Deep.init {L : List Ins} {x : Ins} {n : Nat} {p : IDt} (h : Deep (L ++ [x]) n p) : Deep L n p := by
  induction h with
  | zero h0 => exact .zero fun y hy => h0 y (List.mem_append.2 (.inl hy))
  | succ _ ih => exact .succ fun y hy e => ih y (List.mem_append.2 (.inl hy)) e
/-- Where none hung, one that is hung there stands beside its parent. -/
theorem bel_beside {L : List Ins} {x : Ins} (h : Ok (L ++ [x])) (hk : kidsL L x.par x.right = []) : ∀ (n : Nat) {p : IDt} {s : Bool}, Deep (L ++ [x]) n p → hangs p s x = false → belL (n + 1) (L ++ [x]) p s = (belL (n + 1) L p s).flatMap (besideL x)
  | 0, p, s, hd, hh => by
    cases hd with
    | zero h0 => rw [bel_none h0, bel_none fun y hy => h0 y (List.mem_append.2 (.inl hy))]; rfl
  | n + 1, p, s, hd, hh => by
    cases hd with
    | succ hd =>
      have e1 : ∀ M : List Ins, belL (n + 1 + 1) M p s = (kidsL M p s).flatMap fun k => belL (n + 1) M k.id false ++ k :: belL (n + 1) M k.id true := fun _ => rfl
      have ek : kidsL (L ++ [x]) p s = kidsL L p s := by rw [kidsL_snoc, hh]; rfl
      rw [e1, e1, ek, List.flatMap_assoc]
      refine flatMap_same fun k hkm => ?_
      have hm := (mem_kids p s).1 hkm
      have hdk := hd k (List.mem_append.2 (.inl hm.1)) (hangs_iff.1 hm.2).1
      rw [List.flatMap_append, List.flatMap_cons]
      by_cases he : k.id = x.par
      · have eb : besideL x k = if x.right then [k, x] else [x, k] := by unfold besideL; rw [if_pos he]
        have hnew : ∀ s, x.right = s → belL (n + 1) (L ++ [x]) k.id s = [x] ∧ belL (n + 1) L k.id s = [] := fun s hs => by
          subst hs
          refine ⟨?_, by rw [he]; exact bel_nokids hk _⟩
          have hx : hangs k.id x.right x = true := hangs_iff.2 ⟨he.symm, rfl⟩
          have e2 : kidsL (L ++ [x]) k.id x.right = [x] := by rw [kidsL_snoc, if_pos hx, he, hk]; rfl
          unfold belL
          rw [e2]
          simp only [List.flatMap_cons, List.flatMap_nil, List.append_nil]
          rw [bel_none h.leaf, bel_none h.leaf]
          rfl
        have hold : ∀ s, x.right ≠ s → belL (n + 1) (L ++ [x]) k.id s = (belL (n + 1) L k.id s).flatMap (besideL x) := fun s hs => bel_beside h hk n hdk (by
          cases hg : hangs k.id s x with
          | false => rfl
          | true => exact absurd (hangs_iff.1 hg).2 hs)
        rw [eb]
        cases hr : x.right with
        | true =>
          obtain ⟨a1, a2⟩ := hnew true hr
          rw [a1, a2, hold false (by rw [hr]; decide)]
          simp
        | false =>
          obtain ⟨a1, a2⟩ := hnew false hr
          rw [a1, a2, hold true (by rw [hr]; decide)]
          simp
      · have eb : besideL x k = [k] := by unfold besideL; rw [if_neg he]
        have hg : ∀ s, hangs k.id s x = false := fun s => by
          cases hg : hangs k.id s x with
          | false => rfl
          | true => exact absurd (hangs_iff.1 hg).1.symm he
        rw [eb, bel_beside h hk n hdk (hg false), bel_beside h hk n hdk (hg true)]
        simp
theorem nodes_fuel {L : List Ins} (h : Ok L) (k : Nat) : belL (L.length + 1 + k) L (0, 0) true = nodesL L := bel_fuel L.length true (h.deep _) k
theorem nodes_beside {L : List Ins} {x : Ins} (h : Ok (L ++ [x])) (hk : kidsL L x.par x.right = []) (hp : x.par ≠ (0, 0)) : nodesL (L ++ [x]) = (nodesL L).flatMap (besideL x) := by
  rw [← nodes_fuel h.init.1 1]
  unfold nodesL
  have hl : (L ++ [x]).length = L.length + 1 := by rw [List.length_append, List.length_singleton]
  have hd := h.deep (0, 0)
  rw [hl] at hd ⊢
  refine bel_beside h hk _ hd ?_
  cases hg : hangs (0, 0) true x with
  | false => rfl
  | true => exact absurd (hangs_iff.1 hg).1 hp
theorem beside_off {x : Ins} : ∀ {l : List Ins}, (∀ y ∈ l, y.id ≠ x.par) → l.flatMap (besideL x) = l
  | [], _ => rfl
  | y :: l, h => by
    rw [List.flatMap_cons, beside_off fun z hz => h z (List.mem_cons.2 (.inr hz))]
    unfold besideL
    rw [if_neg (h y (List.mem_cons.2 (.inl rfl)))]
    rfl
theorem distinct_mid {pre post : List Ins} {a : Ins} (h : Distinct (pre ++ a :: post)) : (∀ y ∈ pre, y.id ≠ a.id) ∧ ∀ y ∈ post, y.id ≠ a.id := by
  obtain ⟨_, h2, h3⟩ := List.pairwise_append.1 h
  exact ⟨fun y hy => h3 y hy a (List.mem_cons.2 (.inl rfl)), fun y hy e => (List.pairwise_cons.1 h2).1 y hy e.symm⟩
/-- One that is hung where none hung stands right beside its parent, and nothing else has moved. -/
theorem nodes_at {L : List Ins} {x a : Ins} {pre post : List Ins} (h : Ok (L ++ [x])) (hk : kidsL L x.par x.right = []) (e : nodesL L = pre ++ a :: post) (ha : a.id = x.par) :
    nodesL (L ++ [x]) = pre ++ (if x.right then [a, x] else [x, a]) ++ post := by
  have hL := h.init.1
  have hd := nodes_distinct hL
  rw [e] at hd
  obtain ⟨h1, h2⟩ := distinct_mid hd
  have hm : a ∈ L := (nodes_mem hL).1 (by rw [e]; simp)
  have hz : x.par ≠ (0, 0) := fun e2 => hL.nz a hm (ha.trans e2)
  rw [nodes_beside h hk hz, e, List.flatMap_append, List.flatMap_cons, beside_off (fun y hy => ha ▸ h1 y hy), beside_off (fun y hy => ha ▸ h2 y hy), List.append_assoc]
  have eb : besideL x a = if x.right then [a, x] else [x, a] := by unfold besideL; rw [if_pos ha]
  rw [eb]
/-- Where anything hangs, the first of it has none on its left. -/
theorem bel_head {L : List Ins} : ∀ (n : Nat) {p : IDt} {s : Bool} {c : Ins} {r : List Ins}, Deep L n p → belL (n + 1) L p s = c :: r → kidsL L c.id false = []
  | 0, p, s, c, r, hd, e => by
    cases hd with
    | zero h0 => rw [bel_none h0] at e; cases e
  | n + 1, p, s, c, r, hd, e => by
    cases hd with
    | succ hd =>
      have e1 : belL (n + 1 + 1) L p s = (kidsL L p s).flatMap fun k => belL (n + 1) L k.id false ++ k :: belL (n + 1) L k.id true := rfl
      rw [e1] at e
      cases hk : kidsL L p s with
      | nil => rw [hk] at e; cases e
      | cons k ks =>
        have hm := (mem_kids p s (L := L) (y := k)).1 (by rw [hk]; exact List.mem_cons.2 (.inl rfl))
        have hdk := hd k hm.1 (hangs_iff.1 hm.2).1
        rw [hk, List.flatMap_cons] at e
        cases hb : belL (n + 1) L k.id false with
        | cons c2 r2 =>
          rw [hb] at e
          have : c2 = c := by injection e
          rw [← this]
          exact bel_head n hdk hb
        | nil =>
          rw [hb] at e
          have : k = c := by injection e
          rw [← this]
          cases hk2 : kidsL L k.id false with
          | nil => rfl
          | cons k3 r3 =>
            unfold belL at hb
            rw [hk2, List.flatMap_cons] at hb
            have := congrArg List.length hb
            simp at this
theorem bel_some {L : List Ins} {p : IDt} {s : Bool} (n : Nat) (h : kidsL L p s ≠ []) : belL (n + 1) L p s ≠ [] := by
  intro e
  cases hk : kidsL L p s with
  | nil => exact h hk
  | cons k r =>
    unfold belL at e
    rw [hk, List.flatMap_cons] at e
    have := congrArg List.length e
    simp at this
theorem distinct_unique {a : Ins} : ∀ {p1 p2 r1 r2 : List Ins}, Distinct (p1 ++ a :: r1) → p1 ++ a :: r1 = p2 ++ a :: r2 → r1 = r2
  | [], [], _, _, _, e => by simpa using e
  | [], y :: p2, r1, r2, h, e => by
    injection e with e1 e2
    have h1 := (List.pairwise_cons.1 h).1 a (by rw [e2]; simp)
    exact absurd rfl h1
  | y :: p1, [], r1, r2, h, e => by
    injection e with e1 e2
    have h1 := (List.pairwise_cons.1 h).1 a (by simp)
    exact absurd (by rw [e1]) h1
  | y :: p1, z :: p2, r1, r2, h, e => by
    injection e with e1 e2
    exact distinct_unique (List.pairwise_cons.1 h).2 e2
/-- Behind one that has any on its right stands one that has none on its left. -/
theorem nodes_next {L : List Ins} {a : Ins} {pre post : List Ins} (h : Ok L) (e : nodesL L = pre ++ a :: post) (hk : kidsL L a.id true ≠ []) : ∃ b r, post = b :: r ∧ kidsL L b.id false = [] := by
  have ha : a ∈ nodesL L := by rw [e]; simp
  obtain ⟨m, p2, r2, hdm, e2⟩ := bel_split L.length (h.deep (0, 0)) ha
  have hd := nodes_distinct h
  have e3 : nodesL L = (p2 ++ belL (m + 1) L a.id false) ++ a :: (belL (m + 1) L a.id true ++ r2) := by
    unfold nodesL; rw [e2]; simp only [List.append_assoc, List.cons_append]
  rw [e] at hd
  have e4 := distinct_unique hd (e.symm.trans e3)
  cases hb : belL (m + 1) L a.id true with
  | nil => exact absurd hb (bel_some m hk)
  | cons b r =>
    rw [hb] at e4
    exact ⟨b, r ++ r2, e4, bel_head m hdm hb⟩
/-- Planned behind one that has none on its right: it stands right behind. -/
theorem plan_right {L : List Ins} {x a : Ins} {pre post : List Ins} (h : Ok (L ++ [x])) (e : nodesL L = pre ++ a :: post) (hk : kidsL L a.id true = []) (hp : x.par = a.id) (hr : x.right = true) :
    nodesL (L ++ [x]) = pre ++ a :: x :: post := by
  rw [nodes_at h (by rw [hp, hr]; exact hk) e hp.symm, hr]
  simp
/-- Planned behind another one: it stands right behind, too. -/
theorem plan_left {L : List Ins} {x a b : Ins} {pre post : List Ins} (h : Ok (L ++ [x])) (e : nodesL L = pre ++ a :: b :: post) (hk : kidsL L a.id true ≠ []) (hp : x.par = b.id) (hr : x.right = false) :
    nodesL (L ++ [x]) = pre ++ a :: x :: b :: post := by
  obtain ⟨b2, r2, e2, hb⟩ := nodes_next h.init.1 e hk
  have : b = b2 := by injection e2
  subst this
  have e3 : nodesL L = (pre ++ [a]) ++ b :: post := by rw [e]; simp
  rw [nodes_at h (by rw [hp, hr]; exact hb) e3 hp.symm, hr]
  simp
/-- Planned ahead of all. -/
theorem plan_first {L : List Ins} {x b : Ins} {post : List Ins} (h : Ok (L ++ [x])) (e : nodesL L = b :: post) (hp : x.par = b.id) (hr : x.right = false) : nodesL (L ++ [x]) = x :: b :: post := by
  have hb : kidsL L b.id false = [] := bel_head L.length (h.init.1.deep (0, 0)) (by unfold nodesL at e; exact e)
  rw [nodes_at (pre := []) h (by rw [hp, hr]; exact hb) e hp.symm, hr]
  rfl
theorem plan_only {x : Ins} (h : Ok [x]) : nodesL [x] = [x] := by
  have h1 : Ok ([] ++ [x]) := h
  have := nodes_distinct h
  have hm : x ∈ nodesL [x] := (nodes_mem h).2 (List.mem_singleton.2 rfl)
  have hall : ∀ y ∈ nodesL [x], y = x := fun y hy => List.mem_singleton.1 ((nodes_mem h).1 hy)
  cases hn : nodesL [x] with
  | nil => rw [hn] at hm; cases hm
  | cons y r =>
    rw [hn] at this hall
    have hy := hall y (List.mem_cons.2 (.inl rfl))
    cases r with
    | nil => rw [hy]
    | cons z r =>
      have hz := hall z (by simp)
      exact absurd (by rw [hy, hz]) ((List.pairwise_cons.1 this).1 z (by simp))
end Go.Proofs.Ytpjeggbkhbghaaa
namespace Go.Proofs.Ytpjeggbkhbghaaa
/-- What is to be done. -/
inductive Act where
  | add (x : Ins)
  | drop (i : IDt)
/-- Elements, and what was dropped. -/
structure Txt where
  L : List Ins
  G : List IDt
def hasL (L : List Ins) (i : IDt) : Prop := ∃ y ∈ L, y.id = i
instance (L : List Ins) (i : IDt) : Decidable (hasL L i) := by unfold hasL; exact inferInstance
def mayAdd (ok : Ins → Bool) (t : Txt) (x : Ins) : Prop := ok x = true ∧ ¬ hasL t.L x.id ∧ (x.par = (0, 0) ∨ hasL t.L x.par) ∧ t.L.length < 4096
instance (ok : Ins → Bool) (t : Txt) (x : Ins) : Decidable (mayAdd ok t x) := by unfold mayAdd; exact inferInstance
def mayDrop (t : Txt) (i : IDt) : Prop := hasL t.L i ∧ i ∉ t.G
instance (t : Txt) (i : IDt) : Decidable (mayDrop t i) := by unfold mayDrop; exact inferInstance
def doT (ok : Ins → Bool) (t : Txt) : Act → Txt
  | .add x => if mayAdd ok t x then ⟨t.L ++ [x], t.G⟩ else t
  | .drop i => if mayDrop t i then ⟨t.L, t.G ++ [i]⟩ else t
def roundT (ok : Ins → Bool) (l : List Act) (t : Txt) : Txt := l.foldl (doT ok) t
def roundsT (ok : Ins → Bool) (l : List Act) : Nat → Txt → Txt
  | 0, t => t
  | n + 1, t => roundsT ok l n (roundT ok l t)
def done (t : Txt) : Act → Bool
  | .add x => decide (hasL t.L x.id)
  | .drop i => decide (i ∈ t.G)
/-- How much is not done. -/
def undone (l : List Act) (t : Txt) : Nat := (l.filter fun a => !done t a).length
theorem done_step (ok : Ins → Bool) (t : Txt) (b a : Act) (h : done t a = true) : done (doT ok t b) a = true := by
  cases b with
  | add x =>
    unfold doT
    dsimp only
    split
    · cases a with
      | add y =>
        unfold done at h ⊢
        obtain ⟨z, hz, e⟩ := of_decide_eq_true h
        exact decide_eq_true ⟨z, List.mem_append.2 (.inl hz), e⟩
      | drop i => exact h
    · exact h
  | drop j =>
    unfold doT
    dsimp only
    split
    · cases a with
      | add y => exact h
      | drop i =>
        unfold done at h ⊢
        exact decide_eq_true (List.mem_append.2 (.inl (of_decide_eq_true h)))
    · exact h
theorem filter_less {α : Type} {p q : α → Bool} : ∀ {l : List α}, (∀ a ∈ l, q a = true → p a = true) → (l.filter q).length ≤ (l.filter p).length
  | [], _ => Nat.le_refl _
  | a :: l, h => by
    have ih := filter_less (l := l) fun b hb => h b (List.mem_cons.2 (.inr hb))
    have ha := h a (List.mem_cons.2 (.inl rfl))
    cases hq : q a with
    | true => rw [List.filter_cons_of_pos hq, List.filter_cons_of_pos (ha hq), List.length_cons, List.length_cons]; omega
    | false =>
      rw [List.filter_cons_of_neg (by rw [hq]; decide)]
      cases hp : p a with
      | true => rw [List.filter_cons_of_pos hp, List.length_cons]; omega
      | false => rw [List.filter_cons_of_neg (by rw [hp]; decide)]; exact ih
theorem filter_fewer {α : Type} {p q : α → Bool} {c : α} : ∀ {l : List α}, (∀ a ∈ l, q a = true → p a = true) → c ∈ l → p c = true → q c = false → (l.filter q).length < (l.filter p).length
  | a :: l, h, hc, h1, h2 => by
    have hl := filter_less (l := l) fun b hb => h b (List.mem_cons.2 (.inr hb))
    have ha := h a (List.mem_cons.2 (.inl rfl))
    by_cases hin : c ∈ l
    · have ih := filter_fewer (l := l) (fun b hb => h b (List.mem_cons.2 (.inr hb))) hin h1 h2
      cases hq : q a with
      | true => rw [List.filter_cons_of_pos hq, List.filter_cons_of_pos (ha hq), List.length_cons, List.length_cons]; omega
      | false =>
        rw [List.filter_cons_of_neg (by rw [hq]; decide)]
        cases hp : p a with
        | true => rw [List.filter_cons_of_pos hp, List.length_cons]; omega
        | false => rw [List.filter_cons_of_neg (by rw [hp]; decide)]; exact ih
    · have e : c = a := (List.mem_cons.1 hc).resolve_right hin
      subst e
      rw [List.filter_cons_of_neg (by rw [h2]; decide), List.filter_cons_of_pos h1, List.length_cons]
      omega
theorem undone_step (ok : Ins → Bool) (l : List Act) (t : Txt) (b : Act) : undone l (doT ok t b) ≤ undone l t := by
  refine filter_less fun a _ ha => ?_
  cases hd : done t a with
  | false => rfl
  | true => rw [done_step ok t b a hd] at ha; exact absurd ha (by decide)
/-- A step that does something: it was not done, and is now. -/
theorem step_does (ok : Ins → Bool) (t : Txt) (b : Act) : doT ok t b = t ∨ done t b = false ∧ done (doT ok t b) b = true ∧ (doT ok t b).L.length ≤ t.L.length + 1 := by
  cases b with
  | add x =>
    by_cases h : mayAdd ok t x
    · right
      unfold doT
      dsimp only
      rw [if_pos h]
      unfold done
      refine ⟨decide_eq_false h.2.1, decide_eq_true ⟨x, List.mem_append.2 (.inr (List.mem_singleton.2 rfl)), rfl⟩, ?_⟩
      dsimp only
      rw [List.length_append, List.length_singleton]
      omega
    · left
      unfold doT
      dsimp only
      rw [if_neg h]
  | drop i =>
    by_cases h : mayDrop t i
    · right
      unfold doT
      dsimp only
      rw [if_pos h]
      unfold done
      exact ⟨decide_eq_false h.2, decide_eq_true (List.mem_append.2 (.inr (List.mem_singleton.2 rfl))), Nat.le_succ _⟩
    · left
      unfold doT
      dsimp only
      rw [if_neg h]
theorem undone_does {ok : Ins → Bool} {l : List Act} {t : Txt} {b : Act} (hb : b ∈ l) : doT ok t b = t ∨ undone l (doT ok t b) < undone l t ∧ (doT ok t b).L.length ≤ t.L.length + 1 := by
  rcases step_does ok t b with h | ⟨h1, h2, h3⟩
  · exact .inl h
  · refine .inr ⟨filter_fewer (c := b) (fun a _ ha => ?_) hb (by rw [h1]; rfl) (by rw [h2]; rfl), h3⟩
    cases hd : done t a with
    | false => rfl
    | true => rw [done_step ok t b a hd] at ha; exact absurd ha (by decide)
/-- Nothing more can be done. -/
def Still (ok : Ins → Bool) (l : List Act) (t : Txt) : Prop := ∀ a ∈ l, doT ok t a = t
theorem still_fold {ok : Ins → Bool} : ∀ {l : List Act} {t : Txt}, Still ok l t → l.foldl (doT ok) t = t
  | [], _, _ => rfl
  | a :: l, t, h => by
    rw [List.foldl_cons, h a (List.mem_cons.2 (.inl rfl))]
    exact still_fold fun b hb => h b (List.mem_cons.2 (.inr hb))
theorem undone_fold (ok : Ins → Bool) (l : List Act) : ∀ (m : List Act) (t : Txt), undone l (m.foldl (doT ok) t) ≤ undone l t
  | [], _ => Nat.le_refl _
  | b :: m, t => Nat.le_trans (undone_fold ok l m _) (undone_step ok l t b)
theorem fold_does {ok : Ins → Bool} {l : List Act} : ∀ {m : List Act} {t : Txt}, (∀ a ∈ m, a ∈ l) → Still ok m t ∨ undone l (m.foldl (doT ok) t) < undone l t
  | [], _, _ => .inl fun _ h => nomatch h
  | b :: m, t, h => by
    rw [List.foldl_cons]
    rcases undone_does (ok := ok) (t := t) (h b (List.mem_cons.2 (.inl rfl))) with h1 | ⟨h1, _⟩
    · rw [h1]
      rcases fold_does (m := m) (t := t) (fun a ha => h a (List.mem_cons.2 (.inr ha))) with h2 | h2
      · left
        intro a ha
        rcases List.mem_cons.1 ha with h3 | h3
        · rw [h3]; exact h1
        · exact h2 a h3
      · exact .inr h2
    · exact .inr (Nat.lt_of_le_of_lt (undone_fold ok l m _) h1)
theorem rounds_still {ok : Ins → Bool} {l : List Act} {t : Txt} (h : Still ok l t) : ∀ n, roundsT ok l n t = t
  | 0 => rfl
  | n + 1 => by unfold roundsT; rw [show roundT ok l t = t from still_fold h]; exact rounds_still h n
theorem still_rounds {ok : Ins → Bool} {l : List Act} : ∀ (n : Nat) {t : Txt}, undone l t < n → Still ok l (roundsT ok l n t)
  | n + 1, t, h => by
    rcases fold_does (ok := ok) (l := l) (m := l) (t := t) (fun _ ha => ha) with h1 | h1
    · rw [rounds_still h1]; exact h1
    · unfold roundsT
      refine still_rounds n ?_
      have : undone l (roundT ok l t) < undone l t := h1
      omega
def settledT (ok : Ins → Bool) (l : List Act) : Txt := roundsT ok l (l.length + 1) ⟨[], []⟩
theorem settled_still (ok : Ins → Bool) (l : List Act) : Still ok l (settledT ok l) := still_rounds _ (Nat.lt_succ_of_le (List.length_filter_le _ _))
/-- What may come of it at all. -/
structure Came (ok : Ins → Bool) (l : List Act) (t : Txt) : Prop where
  fine : Ok t.L
  from_ : ∀ x ∈ t.L, Act.add x ∈ l ∧ ok x = true
  gone : ∀ i ∈ t.G, Act.drop i ∈ l ∧ hasL t.L i
  size : t.L.length + undone l t ≤ l.length
def Fair (ok : Ins → Bool) : Prop := ∀ x, ok x = true → x.id ≠ (0, 0) ∧ (x.par = (0, 0) → x.right = true)
theorem Came.step {ok : Ins → Bool} (hf : Fair ok) {l : List Act} {t : Txt} (h : Came ok l t) {b : Act} (hb : b ∈ l) : Came ok l (doT ok t b) := by
  have hs : (doT ok t b).L.length + undone l (doT ok t b) ≤ l.length := by
    have := h.size
    rcases undone_does (ok := ok) (t := t) hb with h1 | h1
    · rw [h1]; exact this
    · omega
  cases b with
  | add x =>
    by_cases hm : mayAdd ok t x
    · have e : doT ok t (.add x) = ⟨t.L ++ [x], t.G⟩ := by unfold doT; dsimp only; rw [if_pos hm]
      rw [e] at hs ⊢
      obtain ⟨h1, h2, h3, _⟩ := hm
      obtain ⟨f1, f2⟩ := hf x h1
      refine ⟨.snoc h.fine (fun y hy e2 => h2 ⟨y, hy, e2⟩) f1 ?_, fun y hy => ?_, fun i hi => ?_, hs⟩
      · rcases h3 with h3 | h3
        · exact .inl ⟨h3, f2 h3⟩
        · exact .inr h3
      · rcases List.mem_append.1 hy with h4 | h4
        · exact h.from_ y h4
        · rw [List.mem_singleton.1 h4]; exact ⟨hb, h1⟩
      · obtain ⟨g1, z, hz, g2⟩ := h.gone i hi
        exact ⟨g1, z, List.mem_append.2 (.inl hz), g2⟩
    · have e : doT ok t (.add x) = t := by unfold doT; dsimp only; rw [if_neg hm]
      rw [e]; exact h
  | drop i =>
    by_cases hm : mayDrop t i
    · have e : doT ok t (.drop i) = ⟨t.L, t.G ++ [i]⟩ := by unfold doT; dsimp only; rw [if_pos hm]
      rw [e] at hs ⊢
      refine ⟨h.fine, h.from_, fun j hj => ?_, hs⟩
      rcases List.mem_append.1 hj with h4 | h4
      · exact h.gone j h4
      · rw [List.mem_singleton.1 h4]; exact ⟨hb, hm.1⟩
    · have e : doT ok t (.drop i) = t := by unfold doT; dsimp only; rw [if_neg hm]
      rw [e]; exact h
theorem Came.fold {ok : Ins → Bool} (hf : Fair ok) {l : List Act} : ∀ {m : List Act} {t : Txt}, (∀ a ∈ m, a ∈ l) → Came ok l t → Came ok l (m.foldl (doT ok) t)
  | [], _, _, h => h
  | b :: m, _, hs, h => by
    have hm : ∀ a ∈ m, a ∈ l := fun a ha => hs a (List.mem_cons.2 (.inr ha))
    rw [List.foldl_cons]
    exact Came.fold hf hm (h.step hf (hs b (List.mem_cons.2 (.inl rfl))))
theorem Came.rounds {ok : Ins → Bool} (hf : Fair ok) {l : List Act} : ∀ (n : Nat) {t : Txt}, Came ok l t → Came ok l (roundsT ok l n t)
  | 0, _, h => h
  | n + 1, _, h => Came.rounds hf n (Came.fold hf (fun _ ha => ha) h)
theorem settled_came {ok : Ins → Bool} (hf : Fair ok) (l : List Act) : Came ok l (settledT ok l) :=
  Came.rounds hf _ ⟨.nil, (fun _ h => nomatch h), (fun _ h => nomatch h), by rw [List.length_nil, Nat.zero_add]; exact List.length_filter_le _ _⟩
/-- Adds of one name are one. -/
def Unlike (l : List Act) : Prop := ∀ x y, Act.add x ∈ l → Act.add y ∈ l → x.id = y.id → x = y
theorem still_has {ok : Ins → Bool} {l : List Act} {t : Txt} (hc : Came ok l t) (hs : Still ok l t) (hu : Unlike l) (hl : l.length ≤ 4096) {x : Ins} (hx : Act.add x ∈ l) (hr : ok x = true) (hp : x.par = (0, 0) ∨ hasL t.L x.par) : x ∈ t.L := by
  have hs := hs _ hx
  by_cases hh : hasL t.L x.id
  · obtain ⟨y, hy, e⟩ := hh
    have := hu y x (hc.from_ y hy).1 hx e
    rw [← this]; exact hy
  · exfalso
    have h1 : 0 < undone l t := by
      unfold undone
      refine List.length_pos_of_mem (a := Act.add x) (List.mem_filter.2 ⟨hx, ?_⟩)
      show (!decide (hasL t.L x.id)) = true
      rw [decide_eq_false hh]; rfl
    have h2 := hc.size
    have hm : mayAdd ok t x := ⟨hr, hh, hp, by omega⟩
    unfold doT at hs
    dsimp only at hs
    rw [if_pos hm] at hs
    have := congrArg (fun t => t.L.length) hs
    simp at this
/-- What came of some is there where nothing more of these can be done. -/
theorem sub_of_still {ok : Ins → Bool} {l m : List Act} {t u : Txt} (ht : Came ok l t) (hc : Came ok m u) (hs : Still ok m u) (hsub : ∀ x, Act.add x ∈ l → Act.add x ∈ m) (hu : Unlike m) (hm : m.length ≤ 4096) : ∀ x ∈ t.L, x ∈ u.L := by
  have hall := ht.from_
  have hok := ht.fine
  generalize t.L = K at hall hok
  revert hall
  induction hok with
  | nil => intro _ x hx; cases hx
  | @snoc L x h hn h0 hp ih =>
    intro hall y hy
    have hold := ih fun z hz => hall z (List.mem_append.2 (.inl hz))
    rcases List.mem_append.1 hy with h1 | h1
    · exact hold y h1
    · rw [List.mem_singleton.1 h1]
      obtain ⟨g1, g2⟩ := hall x (List.mem_append.2 (.inr (List.mem_singleton.2 rfl)))
      refine still_has hc hs hu hm (hsub _ g1) g2 ?_
      rcases hp with h2 | ⟨z, hz, e⟩
      · exact .inl h2.1
      · exact .inr ⟨z, hold z hz, e⟩
theorem gone_of_still {ok : Ins → Bool} {l m : List Act} {t u : Txt} (ht : Came ok l t) (hc : Came ok m u) (hs : Still ok m u) (hsub : ∀ a ∈ l, a ∈ m) (hu : Unlike m) (hm : m.length ≤ 4096) : ∀ i ∈ t.G, i ∈ u.G := by
  intro i hi
  obtain ⟨g1, z, hz, e⟩ := ht.gone i hi
  have hz2 := sub_of_still ht hc hs (fun x hx => hsub _ hx) hu hm z hz
  have hs := hs _ (hsub _ g1)
  by_cases hh : i ∈ u.G
  · exact hh
  · exfalso
    have hmd : mayDrop u i := ⟨⟨z, hz2, e⟩, hh⟩
    unfold doT at hs
    dsimp only at hs
    rw [if_pos hmd] at hs
    have := congrArg (fun t => t.G.length) hs
    simp at this
theorem sub_of_settled {ok : Ins → Bool} (hf : Fair ok) {l m : List Act} (hsub : ∀ a ∈ l, a ∈ m) (hu : Unlike m) (hm : m.length ≤ 4096) : ∀ x ∈ (settledT ok l).L, x ∈ (settledT ok m).L :=
  sub_of_still (settled_came hf l) (settled_came hf m) (settled_still ok m) (fun _ hx => hsub _ hx) hu hm
theorem gone_of_settled {ok : Ins → Bool} (hf : Fair ok) {l m : List Act} (hsub : ∀ a ∈ l, a ∈ m) (hu : Unlike m) (hm : m.length ≤ 4096) : ∀ i ∈ (settledT ok l).G, i ∈ (settledT ok m).G :=
  gone_of_still (settled_came hf l) (settled_came hf m) (settled_still ok m) hsub hu hm
theorem nodes_same {L M : List Ins} (hL : Ok L) (hM : Ok M) (h : ∀ y, y ∈ L ↔ y ∈ M) : nodesL L = nodesL M := by
  rw [← nodes_fuel hL M.length, ← nodes_fuel hM L.length, show L.length + 1 + M.length = M.length + 1 + L.length by omega]
  exact bel_set hL.distinct hM.distinct h _ _ _
/-- In whatever order: the elements in their order, and what is dropped, are the same. -/
theorem settled_one {ok : Ins → Bool} (hf : Fair ok) {l m : List Act} (he : ∀ a, a ∈ l ↔ a ∈ m) (hu : Unlike l) (hl : l.length ≤ 4096) (hm : m.length ≤ 4096) :
    nodesL (settledT ok l).L = nodesL (settledT ok m).L ∧ ∀ i, i ∈ (settledT ok l).G ↔ i ∈ (settledT ok m).G := by
  have hu2 : Unlike m := fun x y hx hy => hu x y ((he _).2 hx) ((he _).2 hy)
  have h1 : ∀ a ∈ l, a ∈ m := fun a => (he a).1
  have h2 : ∀ a ∈ m, a ∈ l := fun a => (he a).2
  exact ⟨nodes_same (settled_came hf l).fine (settled_came hf m).fine fun y => ⟨sub_of_settled hf h1 hu2 hm y, sub_of_settled hf h2 hu hl y⟩, fun i => ⟨gone_of_settled hf h1 hu2 hm i, gone_of_settled hf h2 hu hl i⟩⟩
end Go.Proofs.Ytpjeggbkhbghaaa
namespace Go.Proofs.Ytpjeggbkhbghaaa
/-- Those that are not dropped. -/
def liveL (G : List IDt) (N : List Ins) : List Ins := N.filter fun y => decide (y.id ∉ G)
theorem live_app (G : List IDt) (a b : List Ins) : liveL G (a ++ b) = liveL G a ++ liveL G b := List.filter_append a b
theorem live_on {G : List IDt} {y : Ins} (h : y.id ∉ G) (l : List Ins) : liveL G (y :: l) = y :: liveL G l := List.filter_cons_of_pos (decide_eq_true h)
theorem live_off {G : List IDt} {y : Ins} (h : y.id ∈ G) (l : List Ins) : liveL G (y :: l) = liveL G l := List.filter_cons_of_neg (by simpa using h)
theorem live_at {G : List IDt} : ∀ {N : List Ins} {i : Nat} {a : Ins}, (liveL G N)[i]? = some a → ∃ pre post, N = pre ++ a :: post ∧ (liveL G pre).length = i ∧ a.id ∉ G
  | [], i, a, h => by simp [liveL] at h
  | y :: N, i, a, h => by
    by_cases hy : y.id ∈ G
    · rw [live_off hy] at h
      obtain ⟨pre, post, e1, e2, e3⟩ := live_at h
      exact ⟨y :: pre, post, by rw [e1]; rfl, by rw [live_off hy]; exact e2, e3⟩
    · rw [live_on hy] at h
      cases i with
      | zero =>
        have : y = a := by simpa using h
        subst this
        exact ⟨[], N, rfl, rfl, hy⟩
      | succ i =>
        obtain ⟨pre, post, e1, e2, e3⟩ := live_at (N := N) (i := i) (a := a) (by simpa using h)
        exact ⟨y :: pre, post, by rw [e1]; rfl, by rw [live_on hy, List.length_cons, e2], e3⟩
/-- Behind which place one stands (the last such; 0: none). -/
def atL (a : IDt) : List Ins → Nat → Nat → Nat
  | [], _, t => t
  | y :: r, k, t => atL a r (k + 1) (if y.id = a then k + 1 else t)
theorem at_none {a : IDt} : ∀ {N : List Ins} {k t : Nat}, (∀ y ∈ N, y.id ≠ a) → atL a N k t = t
  | [], _, _, _ => rfl
  | y :: r, k, t, h => by
    unfold atL
    rw [if_neg (h y (List.mem_cons.2 (.inl rfl)))]
    exact at_none fun z hz => h z (List.mem_cons.2 (.inr hz))
theorem at_some {a : IDt} {y : Ins} (hy : y.id = a) : ∀ {pre post : List Ins} {k t : Nat}, (∀ z ∈ post, z.id ≠ a) → atL a (pre ++ y :: post) k t = k + pre.length + 1
  | [], post, k, t, h => by
    rw [List.nil_append]
    unfold atL
    rw [if_pos hy, at_none h]
    rfl
  | z :: pre, post, k, t, h => by
    rw [List.cons_append]
    unfold atL
    rw [at_some hy h, List.length_cons]
    omega
/-- The one ahead of the i-th; the plan. -/
def aheadL (L : List Ins) (G : List IDt) (i : Nat) : IDt := if i = 0 then (0, 0) else (((liveL G (nodesL L))[i - 1]?).map Ins.id).getD (0, 0)
def planL (L : List Ins) (G : List IDt) (i : Nat) : IDt × Bool :=
  if kidsL L (aheadL L G i) true = [] then (aheadL L G i, true)
  else ((((nodesL L)[atL (aheadL L G i) (nodesL L) 0 0]?).map Ins.id).getD (0, 0), false)
/-- What is planned ahead of the i-th: between which it comes. -/
theorem plan_where {L : List Ins} {G : List IDt} {i : Nat} {x : Ins} (h : Ok (L ++ [x])) (hi : i ≤ (liveL G (nodesL L)).length) (hp : planL L G i = (x.par, x.right)) :
    ∃ pre post, nodesL (L ++ [x]) = pre ++ x :: post ∧ liveL G pre = (liveL G (nodesL L)).take i ∧ liveL G post = (liveL G (nodesL L)).drop i := by
  have hL := h.init.1
  have hdis := nodes_distinct hL
  unfold planL at hp
  cases i with
  | zero =>
    have ha : aheadL L G 0 = (0, 0) := by unfold aheadL; rw [if_pos rfl]
    rw [ha] at hp
    rw [List.take_zero, List.drop_zero]
    have hz : ∀ y ∈ nodesL L, y.id ≠ (0, 0) := fun y hy => hL.nz y ((nodes_mem hL).1 hy)
    cases hn : nodesL L with
    | nil =>
      have hl : L = [] := by
        cases L with
        | nil => rfl
        | cons y r => exact absurd ((nodes_mem hL).2 (List.mem_cons.2 (.inl rfl))) (by rw [hn]; exact fun h => nomatch h)
      subst hl
      have h1 : nodesL ([] ++ [x]) = [x] := plan_only h
      exact ⟨[], [], h1, rfl, rfl⟩
    | cons b post =>
      by_cases hk : kidsL L (0, 0) true = []
      · have : nodesL L = [] := by unfold nodesL; exact bel_nokids hk _
        rw [hn] at this; cases this
      · rw [if_neg hk, at_none hz, hn] at hp
        injection hp with h1 h2
        exact ⟨[], b :: post, plan_first h hn h1.symm h2.symm, rfl, rfl⟩
  | succ i =>
    obtain ⟨a, ea⟩ : ∃ a, (liveL G (nodesL L))[i]? = some a := ⟨_, List.getElem?_eq_getElem hi⟩
    have ha : aheadL L G (i + 1) = a.id := by
      unfold aheadL
      rw [if_neg (by omega), show i + 1 - 1 = i by omega, ea]
      rfl
    rw [ha] at hp
    obtain ⟨pre, post, e1, e2, e3⟩ := live_at ea
    have elive : liveL G (nodesL L) = liveL G pre ++ a :: liveL G post := by rw [e1, live_app, live_on e3]
    have etake : (liveL G (nodesL L)).take (i + 1) = liveL G pre ++ [a] := by
      rw [elive, ← e2, show liveL G pre ++ a :: liveL G post = (liveL G pre ++ [a]) ++ liveL G post by simp, show (liveL G pre).length + 1 = (liveL G pre ++ [a]).length by simp, List.take_left]
    have edrop : (liveL G (nodesL L)).drop (i + 1) = liveL G post := by
      rw [elive, ← e2, show liveL G pre ++ a :: liveL G post = (liveL G pre ++ [a]) ++ liveL G post by simp, show (liveL G pre).length + 1 = (liveL G pre ++ [a]).length by simp, List.drop_left]
    rw [etake, edrop]
    have fin : nodesL (L ++ [x]) = pre ++ a :: x :: post → ∃ p q, nodesL (L ++ [x]) = p ++ x :: q ∧ liveL G p = liveL G pre ++ [a] ∧ liveL G q = liveL G post := fun e =>
      ⟨pre ++ [a], post, by rw [e]; simp, by rw [live_app, live_on e3]; rfl, rfl⟩
    refine fin ?_
    by_cases hk : kidsL L a.id true = []
    · rw [if_pos hk] at hp
      injection hp with h1 h2
      exact plan_right h e1 hk h1.symm h2.symm
    · rw [if_neg hk] at hp
      obtain ⟨b, r, eb, _⟩ := nodes_next hL e1 hk
      subst eb
      rw [e1] at hdis
      have hat : atL a.id (nodesL L) 0 0 = pre.length + 1 := by
        rw [e1, at_some rfl (distinct_mid hdis).2]; omega
      have hb : (nodesL L)[pre.length + 1]? = some b := by
        rw [e1, show pre ++ a :: b :: r = (pre ++ [a]) ++ b :: r by simp, show pre.length + 1 = (pre ++ [a]).length by simp, List.getElem?_append_right (Nat.le_refl _)]
        simp
      rw [hat, hb] at hp
      injection hp with h1 h2
      exact plan_left h e1 hk h1.symm h2.symm
/-- What is planned ahead of the i-th stands there; all others stand as they stood. -/
theorem plan_live {L : List Ins} {G : List IDt} {i : Nat} {x : Ins} (h : Ok (L ++ [x])) (hi : i ≤ (liveL G (nodesL L)).length) (hp : planL L G i = (x.par, x.right)) (hx : x.id ∉ G) :
    liveL G (nodesL (L ++ [x])) = (liveL G (nodesL L)).take i ++ x :: (liveL G (nodesL L)).drop i := by
  obtain ⟨pre, post, e1, e2, e3⟩ := plan_where h hi hp
  rw [e1, live_app, live_on hx, e2, e3]
theorem Ok.front {A : List Ins} : ∀ {n : Nat} {B : List Ins}, B.length = n → Ok (A ++ B) → Ok A
  | 0, B, hn, h => by
    rw [List.length_eq_zero_iff.1 hn, List.append_nil] at h
    exact h
  | n + 1, B, hn, h => by
    have hb : B ≠ [] := fun e => by rw [e] at hn; cases hn
    rw [← List.dropLast_concat_getLast hb, ← List.append_assoc] at h
    exact Ok.front (B := B.dropLast) (by rw [List.length_dropLast, hn, Nat.add_sub_cancel]) h.init.1
/-- Each below the one ahead of it, right. -/
def chained : IDt → List Ins → Prop
  | _, [] => True
  | a, x :: r => x.par = a ∧ x.right = true ∧ chained x.id r
/-- What is typed stands in a row. -/
theorem chain_row : ∀ {xs L : List Ins} {a : Ins} {pre post : List Ins}, Ok (L ++ [a] ++ xs) → nodesL (L ++ [a]) = pre ++ a :: post → chained a.id xs → nodesL (L ++ [a] ++ xs) = pre ++ a :: xs ++ post
  | [], L, a, pre, post, _, e, _ => by rw [List.append_nil, e]; simp
  | x :: r, L, a, pre, post, h, e, hc => by
    obtain ⟨h1, h2, h3⟩ := hc
    have h' : Ok (L ++ [a] ++ [x] ++ r) := by rw [List.append_assoc]; exact h
    have hx : Ok (L ++ [a] ++ [x]) := Ok.front rfl h'
    have e2 : nodesL (L ++ [a] ++ [x]) = (pre ++ [a]) ++ x :: post := by
      rw [plan_right hx e (kids_none hx.init.1.leaf true) h1 h2]; simp
    have := chain_row h' e2 h3
    rw [List.append_assoc] at this
    rw [show L ++ [a] ++ x :: r = L ++ [a] ++ ([x] ++ r) from rfl, this]
    simp
theorem typed_live {L : List Ins} {G : List IDt} {i : Nat} {x : Ins} {xs : List Ins} (h : Ok (L ++ [x] ++ xs)) (hi : i ≤ (liveL G (nodesL L)).length) (hp : planL L G i = (x.par, x.right)) (hc : chained x.id xs) (hx : ∀ y ∈ x :: xs, y.id ∉ G) :
    liveL G (nodesL (L ++ [x] ++ xs)) = (liveL G (nodesL L)).take i ++ (x :: xs) ++ (liveL G (nodesL L)).drop i := by
  obtain ⟨pre, post, e1, e2, e3⟩ := plan_where (Ok.front rfl h) hi hp
  have e4 : liveL G (x :: xs) = x :: xs := List.filter_eq_self.2 fun y hy => decide_eq_true (hx y hy)
  rw [chain_row h e1 hc, live_app, live_app, e2, e3, e4]
end Go.Proofs.Ytpjeggbkhbghaaa
namespace Go.Proofs.Ytpjeggbkhbghaaa
theorem doT_ok {ok : Ins → Bool} (hf : Fair ok) {t : Txt} (h : Ok t.L) (b : Act) : Ok (doT ok t b).L ∧ (nodesL t.L).Sublist (nodesL (doT ok t b).L) ∧ ∀ i ∈ t.G, i ∈ (doT ok t b).G := by
  cases b with
  | add x =>
    by_cases hm : mayAdd ok t x
    · have e : doT ok t (.add x) = ⟨t.L ++ [x], t.G⟩ := by unfold doT; dsimp only; rw [if_pos hm]
      rw [e]
      obtain ⟨h1, h2, h3, _⟩ := hm
      obtain ⟨f1, f2⟩ := hf x h1
      have hok : Ok (t.L ++ [x]) := .snoc h (fun y hy e2 => h2 ⟨y, hy, e2⟩) f1 (by
        rcases h3 with h3 | h3
        · exact .inl ⟨h3, f2 h3⟩
        · exact .inr h3)
      exact ⟨hok, nodes_sub hok, fun _ hi => hi⟩
    · have e : doT ok t (.add x) = t := by unfold doT; dsimp only; rw [if_neg hm]
      rw [e]; exact ⟨h, List.Sublist.refl _, fun _ hi => hi⟩
  | drop i =>
    by_cases hm : mayDrop t i
    · have e : doT ok t (.drop i) = ⟨t.L, t.G ++ [i]⟩ := by unfold doT; dsimp only; rw [if_pos hm]
      rw [e]; exact ⟨h, List.Sublist.refl _, fun j hj => List.mem_append.2 (.inl hj)⟩
    · have e : doT ok t (.drop i) = t := by unfold doT; dsimp only; rw [if_neg hm]
      rw [e]; exact ⟨h, List.Sublist.refl _, fun _ hi => hi⟩
theorem fold_ok {ok : Ins → Bool} (hf : Fair ok) : ∀ (m : List Act) {t : Txt}, Ok t.L → Ok (m.foldl (doT ok) t).L ∧ (nodesL t.L).Sublist (nodesL (m.foldl (doT ok) t).L) ∧ ∀ i ∈ t.G, i ∈ (m.foldl (doT ok) t).G
  | [], _, h => ⟨h, List.Sublist.refl _, fun _ hi => hi⟩
  | b :: m, _, h => by
    obtain ⟨h1, h2, h3⟩ := doT_ok hf h b
    obtain ⟨g1, g2, g3⟩ := fold_ok hf m h1
    exact ⟨g1, h2.trans g2, fun i hi => g3 i (h3 i hi)⟩
/-- One by one: those of the first list are looked for in the second one. -/
def foundL (G K : List IDt) : List Ins → List Ins → Bool
  | w, [] => w.isEmpty
  | [], _ :: r => foundL G K [] r
  | a :: w, n :: r => if n.id = a.id then (if n.rune ≠ a.rune ∨ a.id ∈ G ∧ n.id ∉ K then false else foundL G K w r) else foundL G K (a :: w) r
theorem found_none (G K : List IDt) : ∀ r : List Ins, foundL G K [] r = true
  | [] => rfl
  | _ :: r => found_none G K r
theorem found_sub {G K : List IDt} (hg : ∀ i ∈ G, i ∈ K) {w n : List Ins} (h : w.Sublist n) : Distinct n → foundL G K w n = true := by
  induction h with
  | slnil => intro _; rfl
  | @cons w n a hs ih =>
    intro hd
    obtain ⟨h1, h2⟩ := List.pairwise_cons.1 hd
    cases w with
    | nil => exact found_none G K _
    | cons b w =>
      unfold foundL
      rw [if_neg (h1 b (hs.subset (List.mem_cons.2 (.inl rfl))))]
      exact ih h2
  | @cons_cons w n a hs ih =>
    intro hd
    unfold foundL
    rw [if_pos rfl, if_neg (by rintro (h | ⟨h, h2⟩); exact h rfl; exact h2 (hg _ h))]
    exact ih (List.pairwise_cons.1 hd).2
/-- What is done later moves none past another one, and brings none back. -/
theorem stays {ok : Ins → Bool} (hf : Fair ok) (m : List Act) {t : Txt} (h : Ok t.L) : foundL t.G (m.foldl (doT ok) t).G (nodesL t.L) (nodesL (m.foldl (doT ok) t).L) = true := by
  obtain ⟨h1, h2, h3⟩ := fold_ok hf m h
  exact found_sub h3 h2 (nodes_distinct h1)
end Go.Proofs.Ytpjeggbkhbghaaa
