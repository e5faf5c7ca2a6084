/-
  Adding and dropping again and again till nothing more can be done: what is there then hangs on what was to be done alone (layer 15; lists, of no program). By an AI agent.
-/
import Derived.Test.YtejfdheiopejeaaFg4
namespace Go.Proofs.Ytejfdheiopejeaa
/-- What is to be done. -/
inductive Act where
  | add (x : Ins)
  | drop (i : IDt)
/-- Elements, and what was dropped. -/
structure Txt where
  L : List Ins
  G : List IDt
def hasL (L : List Ins) (i : IDt) : Prop := ∃ y ∈ L, y.id = i
instance (L : List Ins) (i : IDt) : Decidable (hasL L i) := by unfold hasL; exact inferInstance
def mayAdd (ok : Ins → Bool) (t : Txt) (x : Ins) : Prop := ok x = true ∧ ¬ hasL t.L x.id ∧ (x.par = (0, 0) ∨ hasL t.L x.par) ∧ t.L.length < 4096
instance (ok : Ins → Bool) (t : Txt) (x : Ins) : Decidable (mayAdd ok t x) := by unfold mayAdd; exact inferInstance
def mayDrop (t : Txt) (i : IDt) : Prop := hasL t.L i ∧ i ∉ t.G
instance (t : Txt) (i : IDt) : Decidable (mayDrop t i) := by unfold mayDrop; exact inferInstance
def doT (ok : Ins → Bool) (t : Txt) : Act → Txt
  | .add x => if mayAdd ok t x then ⟨t.L ++ [x], t.G⟩ else t
  | .drop i => if mayDrop t i then ⟨t.L, t.G ++ [i]⟩ else t
def roundT (ok : Ins → Bool) (l : List Act) (t : Txt) : Txt := l.foldl (doT ok) t
def roundsT (ok : Ins → Bool) (l : List Act) : Nat → Txt → Txt
  | 0, t => t
  | n + 1, t => roundsT ok l n (roundT ok l t)
def done (t : Txt) : Act → Bool
  | .add x => decide (hasL t.L x.id)
  | .drop i => decide (i ∈ t.G)
/-- How much is not done. -/
def undone (l : List Act) (t : Txt) : Nat := (l.filter fun a => !done t a).length
theorem done_step (ok : Ins → Bool) (t : Txt) (b a : Act) (h : done t a = true) : done (doT ok t b) a = true := by
  cases b with
  | add x =>
    unfold doT
    dsimp only
    split
    · cases a with
      | add y =>
        unfold done at h ⊢
        obtain ⟨z, hz, e⟩ := of_decide_eq_true h
        exact decide_eq_true ⟨z, List.mem_append.2 (.inl hz), e⟩
      | drop i => exact h
    · exact h
  | drop j =>
    unfold doT
    dsimp only
    split
    · cases a with
      | add y => exact h
      | drop i =>
        unfold done at h ⊢
        exact decide_eq_true (List.mem_append.2 (.inl (of_decide_eq_true h)))
    · exact h
theorem filter_less {α : Type} {p q : α → Bool} : ∀ {l : List α}, (∀ a ∈ l, q a = true → p a = true) → (l.filter q).length ≤ (l.filter p).length
  | [], _ => Nat.le_refl _
  | a :: l, h => by
    have ih := filter_less (l := l) fun b hb => h b (List.mem_cons.2 (.inr hb))
    have ha := h a (List.mem_cons.2 (.inl rfl))
    cases hq : q a with
    | true => rw [List.filter_cons_of_pos hq, List.filter_cons_of_pos (ha hq), List.length_cons, List.length_cons]; omega
    | false =>
      rw [List.filter_cons_of_neg (by rw [hq]; decide)]
      cases hp : p a with
      | true => rw [List.filter_cons_of_pos hp, List.length_cons]; omega
      | false => rw [List.filter_cons_of_neg (by rw [hp]; decide)]; exact ih
theorem filter_fewer {α : Type} {p q : α → Bool} {c : α} : ∀ {l : List α}, (∀ a ∈ l, q a = true → p a = true) → c ∈ l → p c = true → q c = false → (l.filter q).length < (l.filter p).length
  | a :: l, h, hc, h1, h2 => by
    have hl := filter_less (l := l) fun b hb => h b (List.mem_cons.2 (.inr hb))
    have ha := h a (List.mem_cons.2 (.inl rfl))
    by_cases hin : c ∈ l
    · have ih := filter_fewer (l := l) (fun b hb => h b (List.mem_cons.2 (.inr hb))) hin h1 h2
      cases hq : q a with
      | true => rw [List.filter_cons_of_pos hq, List.filter_cons_of_pos (ha hq), List.length_cons, List.length_cons]; omega
      | false =>
        rw [List.filter_cons_of_neg (by rw [hq]; decide)]
        cases hp : p a with
        | true => rw [List.filter_cons_of_pos hp, List.length_cons]; omega
        | false => rw [List.filter_cons_of_neg (by rw [hp]; decide)]; exact ih
    · have e : c = a := (List.mem_cons.1 hc).resolve_right hin
      subst e
      rw [List.filter_cons_of_neg (by rw [h2]; decide), List.filter_cons_of_pos h1, List.length_cons]
      omega
theorem undone_step (ok : Ins → Bool) (l : List Act) (t : Txt) (b : Act) : undone l (doT ok t b) ≤ undone l t := by
  refine filter_less fun a _ ha => ?_
  cases hd : done t a with
  | false => rfl
  | true => rw [done_step ok t b a hd] at ha; exact absurd ha (by decide)
/-- A step that does something: it was not done, and is now. -/
theorem step_does (ok : Ins → Bool) (t : Txt) (b : Act) : doT ok t b = t ∨ done t b = false ∧ done (doT ok t b) b = true ∧ (doT ok t b).L.length ≤ t.L.length + 1 := by
  cases b with
  | add x =>
    by_cases h : mayAdd ok t x
    · right
      unfold doT
      dsimp only
      rw [if_pos h]
      unfold done
      refine ⟨decide_eq_false h.2.1, decide_eq_true ⟨x, List.mem_append.2 (.inr (List.mem_singleton.2 rfl)), rfl⟩, ?_⟩
      dsimp only
      rw [List.length_append, List.length_singleton]
      omega
    · left
      unfold doT
      dsimp only
      rw [if_neg h]
  | drop i =>
    by_cases h : mayDrop t i
    · right
      unfold doT
      dsimp only
      rw [if_pos h]
      unfold done
      exact ⟨decide_eq_false h.2, decide_eq_true (List.mem_append.2 (.inr (List.mem_singleton.2 rfl))), Nat.le_succ _⟩
    · left
      unfold doT
      dsimp only
      rw [if_neg h]
theorem undone_does {ok : Ins → Bool} {l : List Act} {t : Txt} {b : Act} (hb : b ∈ l) : doT ok t b = t ∨ undone l (doT ok t b) < undone l t ∧ (doT ok t b).L.length ≤ t.L.length + 1 := by
  rcases step_does ok t b with h | ⟨h1, h2, h3⟩
  · exact .inl h
  · refine .inr ⟨filter_fewer (c := b) (fun a _ ha => ?_) hb (by rw [h1]; rfl) (by rw [h2]; rfl), h3⟩
    cases hd : done t a with
    | false => rfl
    | true => rw [done_step ok t b a hd] at ha; exact absurd ha (by decide)
/-- Nothing more can be done. -/
def Still (ok : Ins → Bool) (l : List Act) (t : Txt) : Prop := ∀ a ∈ l, doT ok t a = t
theorem still_fold {ok : Ins → Bool} : ∀ {l : List Act} {t : Txt}, Still ok l t → l.foldl (doT ok) t = t
  | [], _, _ => rfl
  | a :: l, t, h => by
    rw [List.foldl_cons, h a (List.mem_cons.2 (.inl rfl))]
    exact still_fold fun b hb => h b (List.mem_cons.2 (.inr hb))
theorem undone_fold (ok : Ins → Bool) (l : List Act) : ∀ (m : List Act) (t : Txt), undone l (m.foldl (doT ok) t) ≤ undone l t
  | [], _ => Nat.le_refl _
  | b :: m, t => Nat.le_trans (undone_fold ok l m _) (undone_step ok l t b)
theorem fold_does {ok : Ins → Bool} {l : List Act} : ∀ {m : List Act} {t : Txt}, (∀ a ∈ m, a ∈ l) → Still ok m t ∨ undone l (m.foldl (doT ok) t) < undone l t
  | [], _, _ => .inl fun _ h => nomatch h
  | b :: m, t, h => by
    rw [List.foldl_cons]
    rcases undone_does (ok := ok) (t := t) (h b (List.mem_cons.2 (.inl rfl))) with h1 | ⟨h1, _⟩
    · rw [h1]
      rcases fold_does (m := m) (t := t) (fun a ha => h a (List.mem_cons.2 (.inr ha))) with h2 | h2
      · left
        intro a ha
        rcases List.mem_cons.1 ha with h3 | h3
        · rw [h3]; exact h1
        · exact h2 a h3
      · exact .inr h2
    · exact .inr (Nat.lt_of_le_of_lt (undone_fold ok l m _) h1)
theorem rounds_still {ok : Ins → Bool} {l : List Act} {t : Txt} (h : Still ok l t) : ∀ n, roundsT ok l n t = t
  | 0 => rfl
  | n + 1 => by unfold roundsT; rw [show roundT ok l t = t from still_fold h]; exact rounds_still h n
theorem still_rounds {ok : Ins → Bool} {l : List Act} : ∀ (n : Nat) {t : Txt}, undone l t < n → Still ok l (roundsT ok l n t)
  | n + 1, t, h => by
    rcases fold_does (ok := ok) (l := l) (m := l) (t := t) (fun _ ha => ha) with h1 | h1
    · rw [rounds_still h1]; exact h1
    · unfold roundsT
      refine still_rounds n ?_
      have : undone l (roundT ok l t) < undone l t := h1
      omega
def settledT (ok : Ins → Bool) (l : List Act) : Txt := roundsT ok l (l.length + 1) ⟨[], []⟩
theorem settled_still (ok : Ins → Bool) (l : List Act) : Still ok l (settledT ok l) := still_rounds _ (Nat.lt_succ_of_le (List.length_filter_le _ _))
/-- What may come of it at all. -/
structure Came (ok : Ins → Bool) (l : List Act) (t : Txt) : Prop where
  fine : Ok t.L
  from_ : ∀ x ∈ t.L, Act.add x ∈ l ∧ ok x = true
  gone : ∀ i ∈ t.G, Act.drop i ∈ l ∧ hasL t.L i
  size : t.L.length + undone l t ≤ l.length
def Fair (ok : Ins → Bool) : Prop := ∀ x, ok x = true → x.id ≠ (0, 0) ∧ (x.par = (0, 0) → x.right = true)
theorem Came.step {ok : Ins → Bool} (hf : Fair ok) {l : List Act} {t : Txt} (h : Came ok l t) {b : Act} (hb : b ∈ l) : Came ok l (doT ok t b) := by
  have hs : (doT ok t b).L.length + undone l (doT ok t b) ≤ l.length := by
    have := h.size
    rcases undone_does (ok := ok) (t := t) hb with h1 | h1
    · rw [h1]; exact this
    · omega
  cases b with
  | add x =>
    by_cases hm : mayAdd ok t x
    · have e : doT ok t (.add x) = ⟨t.L ++ [x], t.G⟩ := by unfold doT; dsimp only; rw [if_pos hm]
      rw [e] at hs ⊢
      obtain ⟨h1, h2, h3, _⟩ := hm
      obtain ⟨f1, f2⟩ := hf x h1
      refine ⟨.snoc h.fine (fun y hy e2 => h2 ⟨y, hy, e2⟩) f1 ?_, fun y hy => ?_, fun i hi => ?_, hs⟩
      · rcases h3 with h3 | h3
        · exact .inl ⟨h3, f2 h3⟩
        · exact .inr h3
      · rcases List.mem_append.1 hy with h4 | h4
        · exact h.from_ y h4
        · rw [List.mem_singleton.1 h4]; exact ⟨hb, h1⟩
      · obtain ⟨g1, z, hz, g2⟩ := h.gone i hi
        exact ⟨g1, z, List.mem_append.2 (.inl hz), g2⟩
    · have e : doT ok t (.add x) = t := by unfold doT; dsimp only; rw [if_neg hm]
      rw [e]; exact h
  | drop i =>
    by_cases hm : mayDrop t i
    · have e : doT ok t (.drop i) = ⟨t.L, t.G ++ [i]⟩ := by unfold doT; dsimp only; rw [if_pos hm]
      rw [e] at hs ⊢
      refine ⟨h.fine, h.from_, fun j hj => ?_, hs⟩
      rcases List.mem_append.1 hj with h4 | h4
      · exact h.gone j h4
      · rw [List.mem_singleton.1 h4]; exact ⟨hb, hm.1⟩
    · have e : doT ok t (.drop i) = t := by unfold doT; dsimp only; rw [if_neg hm]
      rw [e]; exact h
theorem Came.fold {ok : Ins → Bool} (hf : Fair ok) {l : List Act} : ∀ {m : List Act} {t : Txt}, (∀ a ∈ m, a ∈ l) → Came ok l t → Came ok l (m.foldl (doT ok) t)
  | [], _, _, h => h
  | b :: m, _, hs, h => by
    have hm : ∀ a ∈ m, a ∈ l := fun a ha => hs a (List.mem_cons.2 (.inr ha))
    rw [List.foldl_cons]
    exact Came.fold hf hm (h.step hf (hs b (List.mem_cons.2 (.inl rfl))))
theorem Came.rounds {ok : Ins → Bool} (hf : Fair ok) {l : List Act} : ∀ (n : Nat) {t : Txt}, Came ok l t → Came ok l (roundsT ok l n t)
  | 0, _, h => h
  | n + 1, _, h => Came.rounds hf n (Came.fold hf (fun _ ha => ha) h)
theorem settled_came {ok : Ins → Bool} (hf : Fair ok) (l : List Act) : Came ok l (settledT ok l) :=
  Came.rounds hf _ ⟨.nil, (fun _ h => nomatch h), (fun _ h => nomatch h), by rw [List.length_nil, Nat.zero_add]; exact List.length_filter_le _ _⟩
/-- Adds of one name are one. -/
def Unlike (l : List Act) : Prop := ∀ x y, Act.add x ∈ l → Act.add y ∈ l → x.id = y.id → x = y
theorem still_has {ok : Ins → Bool} {l : List Act} {t : Txt} (hc : Came ok l t) (hs : Still ok l t) (hu : Unlike l) (hl : l.length ≤ 4096) {x : Ins} (hx : Act.add x ∈ l) (hr : ok x = true) (hp : x.par = (0, 0) ∨ hasL t.L x.par) : x ∈ t.L := by
  have hs := hs _ hx
  by_cases hh : hasL t.L x.id
  · obtain ⟨y, hy, e⟩ := hh
    have := hu y x (hc.from_ y hy).1 hx e
    rw [← this]; exact hy
  · exfalso
    have h1 : 0 < undone l t := by
      unfold undone
      refine List.length_pos_of_mem (a := Act.add x) (List.mem_filter.2 ⟨hx, ?_⟩)
      show (!decide (hasL t.L x.id)) = true
      rw [decide_eq_false hh]; rfl
    have h2 := hc.size
    have hm : mayAdd ok t x := ⟨hr, hh, hp, by omega⟩
    unfold doT at hs
    dsimp only at hs
    rw [if_pos hm] at hs
    have := congrArg (fun t => t.L.length) hs
    simp at this
/-- What came of some is there where nothing more of these can be done. -/
theorem sub_of_still {ok : Ins → Bool} {l m : List Act} {t u : Txt} (ht : Came ok l t) (hc : Came ok m u) (hs : Still ok m u) (hsub : ∀ x, Act.add x ∈ l → Act.add x ∈ m) (hu : Unlike m) (hm : m.length ≤ 4096) : ∀ x ∈ t.L, x ∈ u.L := by
  have hall := ht.from_
  have hok := ht.fine
  generalize t.L = K at hall hok
  revert hall
  induction hok with
  | nil => intro _ x hx; cases hx
  | @snoc L x h hn h0 hp ih =>
    intro hall y hy
    have hold := ih fun z hz => hall z (List.mem_append.2 (.inl hz))
    rcases List.mem_append.1 hy with h1 | h1
    · exact hold y h1
    · rw [List.mem_singleton.1 h1]
      obtain ⟨g1, g2⟩ := hall x (List.mem_append.2 (.inr (List.mem_singleton.2 rfl)))
      refine still_has hc hs hu hm (hsub _ g1) g2 ?_
      rcases hp with h2 | ⟨z, hz, e⟩
      · exact .inl h2.1
      · exact .inr ⟨z, hold z hz, e⟩
theorem gone_of_still {ok : Ins → Bool} {l m : List Act} {t u : Txt} (ht : Came ok l t) (hc : Came ok m u) (hs : Still ok m u) (hsub : ∀ a ∈ l, a ∈ m) (hu : Unlike m) (hm : m.length ≤ 4096) : ∀ i ∈ t.G, i ∈ u.G := by
  intro i hi
  obtain ⟨g1, z, hz, e⟩ := ht.gone i hi
  have hz2 := sub_of_still ht hc hs (fun x hx => hsub _ hx) hu hm z hz
  have hs := hs _ (hsub _ g1)
  by_cases hh : i ∈ u.G
  · exact hh
  · exfalso
    have hmd : mayDrop u i := ⟨⟨z, hz2, e⟩, hh⟩
    unfold doT at hs
    dsimp only at hs
    rw [if_pos hmd] at hs
    have := congrArg (fun t => t.G.length) hs
    simp at this
theorem sub_of_settled {ok : Ins → Bool} (hf : Fair ok) {l m : List Act} (hsub : ∀ a ∈ l, a ∈ m) (hu : Unlike m) (hm : m.length ≤ 4096) : ∀ x ∈ (settledT ok l).L, x ∈ (settledT ok m).L :=
  sub_of_still (settled_came hf l) (settled_came hf m) (settled_still ok m) (fun _ hx => hsub _ hx) hu hm
theorem gone_of_settled {ok : Ins → Bool} (hf : Fair ok) {l m : List Act} (hsub : ∀ a ∈ l, a ∈ m) (hu : Unlike m) (hm : m.length ≤ 4096) : ∀ i ∈ (settledT ok l).G, i ∈ (settledT ok m).G :=
  gone_of_still (settled_came hf l) (settled_came hf m) (settled_still ok m) hsub hu hm
theorem nodes_same {L M : List Ins} (hL : Ok L) (hM : Ok M) (h : ∀ y, y ∈ L ↔ y ∈ M) : nodesL L = nodesL M := by
  rw [← nodes_fuel hL M.length, ← nodes_fuel hM L.length, show L.length + 1 + M.length = M.length + 1 + L.length by omega]
  exact bel_set hL.distinct hM.distinct h _ _ _
/-- In whatever order: the elements in their order, and what is dropped, are the same. -/
theorem settled_one {ok : Ins → Bool} (hf : Fair ok) {l m : List Act} (he : ∀ a, a ∈ l ↔ a ∈ m) (hu : Unlike l) (hl : l.length ≤ 4096) (hm : m.length ≤ 4096) :
    nodesL (settledT ok l).L = nodesL (settledT ok m).L ∧ ∀ i, i ∈ (settledT ok l).G ↔ i ∈ (settledT ok m).G := by
  have hu2 : Unlike m := fun x y hx hy => hu x y ((he _).2 hx) ((he _).2 hy)
  have h1 : ∀ a ∈ l, a ∈ m := fun a => (he a).1
  have h2 : ∀ a ∈ m, a ∈ l := fun a => (he a).2
  exact ⟨nodes_same (settled_came hf l).fine (settled_came hf m).fine fun y => ⟨sub_of_settled hf h1 hu2 hm y, sub_of_settled hf h2 hu hl y⟩, fun i => ⟨gone_of_settled hf h1 hu2 hm i, gone_of_settled hf h2 hu hl i⟩⟩
end Go.Proofs.Ytejfdheiopejeaa
