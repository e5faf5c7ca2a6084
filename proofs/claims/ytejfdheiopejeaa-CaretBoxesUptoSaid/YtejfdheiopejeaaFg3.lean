/-
  The order of a text: each element stands there once; what is planned stands where it was planned (layer 15; lists, of no program). By an AI agent.
-/
import Derived.Test.YtejfdheiopejeaaFg2
namespace Go.Proofs.Ytejfdheiopejeaa
theorem bel_mem {L : List Ins} : ∀ (n : Nat) {p : IDt} {s : Bool} {y : Ins}, y ∈ belL n L p s → y ∈ L
  | 0, _, _, _, h => by cases h
  | n + 1, p, s, y, h => by
    unfold belL at h
    obtain ⟨k, hk, hy⟩ := List.mem_flatMap.1 h
    rcases List.mem_append.1 hy with h1 | h1
    · exact bel_mem n h1
    · rcases List.mem_cons.1 h1 with h2 | h2
      · rw [h2]; exact ((mem_kids p s).1 hk).1
      · exact bel_mem n h2
/-- Where one stands, all that hangs below it stands beside it. -/
theorem bel_split {L : List Ins} : ∀ (n : Nat) {p : IDt} {s : Bool} {z : Ins}, Deep L n p → z ∈ belL (n + 1) L p s → ∃ m pre post, Deep L m z.id ∧ belL (n + 1) L p s = pre ++ (belL (m + 1) L z.id false ++ z :: belL (m + 1) L z.id true) ++ post
  | 0, p, s, z, hd, hz => by
    cases hd with
    | zero h0 => rw [bel_none h0] at hz; cases hz
  | n + 1, p, s, z, hd, hz => by
    cases hd with
    | succ hd =>
      have e : belL (n + 1 + 1) L p s = (kidsL L p s).flatMap fun x => belL (n + 1) L x.id false ++ x :: belL (n + 1) L x.id true := rfl
      rw [e] at hz ⊢
      obtain ⟨k, hk, hy⟩ := List.mem_flatMap.1 hz
      obtain ⟨l1, l2, e2⟩ := List.append_of_mem hk
      obtain ⟨P1, hP1⟩ : ∃ P, P = l1.flatMap fun x => belL (n + 1) L x.id false ++ x :: belL (n + 1) L x.id true := ⟨_, rfl⟩
      obtain ⟨P2, hP2⟩ : ∃ P, P = l2.flatMap fun x => belL (n + 1) L x.id false ++ x :: belL (n + 1) L x.id true := ⟨_, rfl⟩
      have hm := (mem_kids p s).1 hk
      rw [e2, List.flatMap_append, List.flatMap_cons, ← hP1, ← hP2]
      have hdk := hd k hm.1 (hangs_iff.1 hm.2).1
      rcases List.mem_append.1 hy with h1 | h1
      · obtain ⟨m, pre, post, hdm, e3⟩ := bel_split n hdk h1
        refine ⟨m, P1 ++ pre, post ++ k :: belL (n + 1) L k.id true ++ P2, hdm, ?_⟩
        rw [e3]
        simp only [List.append_assoc, List.cons_append]
      · rcases List.mem_cons.1 h1 with h2 | h2
        · subst h2
          exact ⟨n, P1, P2, hdk, by simp only [List.append_assoc]⟩
        · obtain ⟨m, pre, post, hdm, e3⟩ := bel_split n hdk h2
          refine ⟨m, P1 ++ belL (n + 1) L k.id false ++ k :: pre, post ++ P2, hdm, ?_⟩
          rw [e3]
          simp only [List.append_assoc, List.cons_append]
theorem nodes_mem {L : List Ins} (h : Ok L) {y : Ins} : y ∈ nodesL L ↔ y ∈ L := by
  refine ⟨fun hy => bel_mem _ hy, ?_⟩
  revert y
  induction h with
  | nil => intro y hy; cases hy
  | @snoc L x h hn h0 hp ih =>
    intro y hy
    have hok : Ok (L ++ [x]) := .snoc h hn h0 hp
    rcases List.mem_append.1 hy with h1 | h1
    · exact (nodes_sub hok).subset (ih h1)
    · rw [List.mem_singleton.1 h1]
      have hkid : ∀ p s, hangs p s x = true → x ∈ kidsL (L ++ [x]) p s := fun p s hh => (mem_kids p s).2 ⟨List.mem_append.2 (.inr (List.mem_singleton.2 rfl)), hh⟩
      have hbel : ∀ m p s, hangs p s x = true → x ∈ belL (m + 1) (L ++ [x]) p s := fun m p s hh => by
        unfold belL
        exact List.mem_flatMap.2 ⟨x, hkid p s hh, List.mem_append.2 (.inr (List.mem_cons.2 (.inl rfl)))⟩
      rcases hp with ⟨h2, h3⟩ | ⟨z, hz, e⟩
      · exact hbel _ _ _ (hangs_iff.2 ⟨h2, h3⟩)
      · have hz' : z ∈ nodesL (L ++ [x]) := (nodes_sub hok).subset (ih hz)
        obtain ⟨m, pre, post, _, e2⟩ := bel_split _ (hok.deep (0, 0)) hz'
        unfold nodesL
        rw [e2]
        have hx := hbel m z.id x.right (hangs_iff.2 ⟨e.symm, rfl⟩)
        refine List.mem_append.2 (.inl (List.mem_append.2 (.inr ?_)))
        cases hr : x.right with
        | false => rw [hr] at hx; exact List.mem_append.2 (.inl hx)
        | true => rw [hr] at hx; exact List.mem_append.2 (.inr (List.mem_cons.2 (.inr hx)))
/-- How often a name stands in a list. -/
def cntI (i : IDt) (l : List Ins) : Nat := (l.filter fun y => decide (y.id = i)).length
theorem cntI_nil (i : IDt) : cntI i [] = 0 := rfl
theorem cntI_app (i : IDt) (l m : List Ins) : cntI i (l ++ m) = cntI i l + cntI i m := by unfold cntI; rw [List.filter_append, List.length_append]
theorem cntI_cons (i : IDt) (x : Ins) (l : List Ins) : cntI i (x :: l) = (if x.id = i then 1 else 0) + cntI i l := by
  unfold cntI
  by_cases h : x.id = i
  · rw [List.filter_cons_of_pos (by simp [h]), List.length_cons, if_pos h]; omega
  · rw [List.filter_cons_of_neg (by simp [h]), if_neg h]; omega
theorem cntI_zero {i : IDt} {l : List Ins} (h : ∀ y ∈ l, y.id ≠ i) : cntI i l = 0 := by
  unfold cntI
  rw [List.filter_eq_nil_iff.2 fun y hy => by simpa using h y hy]
  rfl
theorem cntI_distinct {i : IDt} : ∀ {l : List Ins}, Distinct l → cntI i l ≤ 1
  | [], _ => by rw [cntI_nil]; omega
  | x :: l, h => by
    obtain ⟨h1, h2⟩ := List.pairwise_cons.1 h
    rw [cntI_cons]
    by_cases he : x.id = i
    · rw [if_pos he, cntI_zero fun y hy e => h1 y hy (he.trans e.symm)]; omega
    · rw [if_neg he]; have := cntI_distinct (i := i) h2; omega
theorem distinct_cnt : ∀ {l : List Ins}, (∀ i, cntI i l ≤ 1) → Distinct l
  | [], _ => List.Pairwise.nil
  | x :: l, h => by
    refine List.pairwise_cons.2 ⟨fun y hy e => ?_, distinct_cnt fun i => by have := h i; rw [cntI_cons] at this; omega⟩
    have h1 := h x.id
    rw [cntI_cons, if_pos rfl] at h1
    have h2 : cntI x.id l = 0 := by omega
    have h3 : y ∈ l.filter fun y => decide (y.id = x.id) := List.mem_filter.2 ⟨hy, by simp [e.symm]⟩
    unfold cntI at h2
    rw [List.length_eq_zero_iff.1 h2] at h3
    cases h3
theorem sorted_distinct {l : List Ins} (h : Sorted l) : Distinct l := List.Pairwise.imp (fun {a b} hab e => by rw [e, idLt_irr] at hab; cases hab) h
theorem cnt_bel {L : List Ins} {x : Ins} (h : Ok (L ++ [x])) : ∀ (n : Nat) (p : IDt) (s : Bool), cntI x.id (belL n (L ++ [x]) p s) ≤ (if hangs p s x then 1 else 0) + cntI x.par (belL n (L ++ [x]) p s)
  | 0, _, _ => by unfold belL; rw [cntI_nil]; omega
  | n + 1, p, s => by
    have hpart : ∀ l : List Ins, cntI x.id (l.flatMap fun k => belL n (L ++ [x]) k.id false ++ k :: belL n (L ++ [x]) k.id true) ≤ cntI x.id l + cntI x.par (l.flatMap fun k => belL n (L ++ [x]) k.id false ++ k :: belL n (L ++ [x]) k.id true) := by
      intro l
      induction l with
      | nil => simp [cntI_nil]
      | cons k r ih =>
        rw [List.flatMap_cons, cntI_app, cntI_app, cntI_app, cntI_app, cntI_cons, cntI_cons, cntI_cons]
        have i1 := cnt_bel h n k.id false
        have i2 := cnt_bel h n k.id true
        by_cases hk : k.id = x.par
        · rw [if_pos hk]
          have h2 : (if hangs k.id false x = true then 1 else 0) + (if hangs k.id true x = true then 1 else 0) ≤ 1 := by
            unfold hangs
            cases x.right <;> simp <;> split <;> omega
          omega
        · rw [if_neg hk]
          have h3 : ∀ s', hangs k.id s' x = false := fun s' => by
            cases hh : hangs k.id s' x with
            | false => rfl
            | true => exact absurd (hangs_iff.1 hh).1.symm hk
          rw [h3] at i1 i2
          simp only [Bool.false_eq_true, if_false] at i1 i2
          omega
    have hk : cntI x.id (kidsL (L ++ [x]) p s) ≤ if hangs p s x then 1 else 0 := by
      by_cases hh : hangs p s x = true
      · rw [if_pos hh]
        exact cntI_distinct (sorted_distinct (kids_sorted p s h.distinct))
      · rw [if_neg hh, cntI_zero]
        · exact Nat.le_refl _
        · intro y hy e
          have hm := (mem_kids p s).1 hy
          have : y = x := h.distinct.eq hm.1 (List.mem_append.2 (.inr (List.mem_singleton.2 rfl))) e
          rw [this] at hm
          exact hh hm.2
    have := hpart (kidsL (L ++ [x]) p s)
    unfold belL
    omega
theorem cntI_filter {x : Ins} {i : IDt} (h : i ≠ x.id) (l : List Ins) : cntI i (l.filter (unlike x)) = cntI i l := by
  unfold cntI
  rw [List.filter_filter]
  congr 1
  refine List.filter_congr fun y _ => ?_
  unfold unlike
  by_cases e : y.id = i
  · simp [e, h]
  · simp [e]
/-- Each element stands there once. -/
theorem nodes_distinct {L : List Ins} (h : Ok L) : Distinct (nodesL L) := by
  induction h with
  | nil => exact List.Pairwise.nil
  | @snoc L x h hn h0 hp ih =>
    have hok : Ok (L ++ [x]) := .snoc h hn h0 hp
    have hold : ∀ i, i ≠ x.id → cntI i (nodesL (L ++ [x])) ≤ 1 := fun i hi => by
      rw [← cntI_filter hi, nodes_filter hok]
      exact cntI_distinct ih
    refine distinct_cnt fun i => ?_
    by_cases hi : i = x.id
    · subst hi
      have h1 := cnt_bel hok ((L ++ [x]).length + 1) (0, 0) true
      have hpx : x.par ≠ x.id := hok.leaf x (List.mem_append.2 (.inr (List.mem_singleton.2 rfl)))
      by_cases hz : x.par = (0, 0)
      · have h2 : cntI x.par (nodesL (L ++ [x])) = 0 := cntI_zero fun y hy e => hok.nz y (bel_mem _ hy) (e.trans hz)
        unfold nodesL at h2 ⊢
        split at h1 <;> omega
      · have h2 := hold x.par hpx
        have h3 : hangs (0, 0) true x = false := by
          cases hh : hangs (0, 0) true x with
          | false => rfl
          | true => exact absurd (hangs_iff.1 hh).1 hz
        rw [h3] at h1
        simp only [Bool.false_eq_true, if_false] at h1
        unfold nodesL at h2 ⊢
        omega
    · exact hold i hi
end Go.Proofs.Ytejfdheiopejeaa
