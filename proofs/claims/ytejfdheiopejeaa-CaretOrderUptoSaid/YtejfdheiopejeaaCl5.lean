/-
  Layer 17: carets never stand twice at one place; so the caret at a caret's place is that one. By an AI agent.
-/
import Derived.Test.YtejfdheiopejeaaCl2
namespace Go.Proofs.Ytejfdheiopejeaa
open Go Go.RowKit
set_option maxRecDepth 20000
/-- Further down, or further right in one line. -/
def Lex (a b : IDt) : Prop := a.2 < b.2 ∨ (a.2 = b.2 ∧ a.1 < b.1)
def LexE (a b : IDt) : Prop := a.2 < b.2 ∨ (a.2 = b.2 ∧ a.1 ≤ b.1)
theorem wdR_pos {c : Int} (h : c ≠ 10) : 1 ≤ wdR c := by
  unfold wdR
  rw [if_neg h]
  split <;> omega
theorem cap_lex (k : Int) (st : IDt) (c : Int) : LexE st (capR k st c) := by
  unfold capR LexE
  split
  · left; show st.2 < st.2 + 1; omega
  · right; exact ⟨rfl, Int.le_refl _⟩
theorem pen_lex (k : Int) (st : IDt) (c : Int) : Lex (capR k st c) (penR k st c) := by
  unfold penR Lex
  split
  · left; show _ < (capR k st c).2 + 1; omega
  · rename_i h
    have := wdR_pos h
    right
    exact ⟨rfl, by show _ < (capR k st c).1 + wdR c; omega⟩
theorem spots_lex (k : Int) : ∀ (l : List Int) (st : IDt), (∀ t, t ∈ spotsR k l st → LexE st t) ∧ (spotsR k l st).Pairwise Lex
  | [], st => ⟨fun t h => by rw [List.mem_singleton.1 h]; right; exact ⟨rfl, Int.le_refl _⟩, List.pairwise_singleton _ _⟩
  | c :: r, st => by
    obtain ⟨h1, h2⟩ := spots_lex k r (penR k st c)
    have hc := cap_lex k st c
    have hp := pen_lex k st c
    have h3 : ∀ t, t ∈ spotsR k r (penR k st c) → Lex (capR k st c) t := fun t ht => by
      have := h1 t ht
      unfold LexE at this
      unfold Lex at hp ⊢
      omega
    refine ⟨fun t ht => ?_, List.pairwise_cons.2 ⟨h3, h2⟩⟩
    rcases List.mem_cons.1 ht with rfl | ht
    · exact hc
    · have := h3 t ht
      unfold Lex at this
      unfold LexE at hc ⊢
      omega
theorem caL_behind (x y : Int) : ∀ (l : List IDt) (j f : Nat), (∀ e, e ∈ l → Lex (x, y) e) → caL x y l j f y = f
  | [], _, _, _ => rfl
  | e :: r, j, f, h => by
    have he := h e List.mem_cons_self
    unfold Lex at he
    dsimp only at he
    rw [caL]
    by_cases h1 : y < e.2
    · rw [if_pos ⟨h1, h1⟩]
    · rw [if_neg (by omega), if_neg h1, if_neg (by omega)]
      exact caL_behind x y r (j + 1) f fun e' he' => h e' (List.mem_cons_of_mem _ he')
theorem caL_at (x y : Int) : ∀ (A B : List IDt) (j f : Nat) (ln : Int), (A ++ (x, y) :: B).Pairwise Lex → (∀ e, e ∈ A ++ (x, y) :: B → ln ≤ e.2) → caL x y (A ++ (x, y) :: B) j f ln = j + A.length
  | [], B, j, f, ln, hp, hl => by
    have h0 := hl (x, y) List.mem_cons_self
    dsimp only at h0
    have hb : ∀ e, e ∈ B → Lex (x, y) e := fun e he => (List.pairwise_cons.1 hp).1 e he
    show caL x y ((x, y) :: B) j f ln = j
    rw [caL, if_neg (by dsimp only; omega)]
    by_cases h1 : ln < y
    · rw [if_pos h1]
      exact caL_behind x y B (j + 1) j hb
    · rw [if_neg h1, if_pos (Int.le_refl _)]
      obtain rfl : ln = y := by omega
      exact caL_behind x ln B (j + 1) j hb
  | e :: A, B, j, f, ln, hp, hl => by
    rw [List.cons_append] at hp hl ⊢
    obtain ⟨h1, h2⟩ := List.pairwise_cons.1 hp
    have he : Lex e (x, y) := h1 (x, y) (by simp)
    have hle := hl e List.mem_cons_self
    unfold Lex at he
    dsimp only at he
    rw [caL, if_neg (by omega), List.length_cons, show j + (A.length + 1) = j + 1 + A.length by omega]
    by_cases q1 : ln < e.2
    · rw [if_pos q1]
      refine caL_at x y A B (j + 1) j e.2 h2 fun e' he' => ?_
      have := h1 e' he'
      unfold Lex at this
      omega
    · rw [if_neg q1]
      by_cases q2 : e.1 ≤ x
      · rw [if_pos q2]
        exact caL_at x y A B (j + 1) j ln h2 fun e' he' => hl e' (List.mem_cons_of_mem _ he')
      · rw [if_neg q2]
        exact caL_at x y A B (j + 1) f ln h2 fun e' he' => hl e' (List.mem_cons_of_mem _ he')
/-- The caret at a caret's place is that one. -/
theorem caL_self {s : ByteArray} {c : Int} (hc : 2 ≤ c ∧ c ≤ 200) (hs : s.size ≤ 1048576) {n : Nat} {st : IDt} (hn : (spotsR c (runesFrom s 0) (0, 0))[n]? = some st) : caL st.1 st.2 (spotsR c (runesFrom s 0) (0, 0)) 0 0 0 = n := by
  have hl := (spots_lex c (runesFrom s 0) (0, 0)).2
  have hf := spots_fit (s := s) (k := c) hc hs
  obtain ⟨all, eall⟩ : ∃ l, l = spotsR c (runesFrom s 0) (0, 0) := ⟨_, rfl⟩
  rw [← eall] at hn hl hf ⊢
  obtain ⟨hlt, hg⟩ := List.getElem?_eq_some_iff.1 hn
  have e : all = all.take n ++ st :: all.drop (n + 1) := by
    rw [← hg, List.getElem_cons_drop, List.take_append_drop]
  obtain ⟨x, y⟩ := st
  rw [e] at hl
  have h := caL_at x y (all.take n) (all.drop (n + 1)) 0 0 0 hl (fun e' he' => (hf e' (by rw [e]; exact he')).2.1.1)
  rw [← e, List.length_take] at h
  show caL x y all 0 0 0 = n
  rw [h]
  omega
/-- No other caret stands there. -/
theorem spots_two {s : ByteArray} {c : Int} {n m : Nat} {a b : IDt} (hn : (spotsR c (runesFrom s 0) (0, 0))[n]? = some a) (hm : (spotsR c (runesFrom s 0) (0, 0))[m]? = some b) (h : n < m) : Lex a b := by
  have hl := (spots_lex c (runesFrom s 0) (0, 0)).2
  obtain ⟨h1, e1⟩ := List.getElem?_eq_some_iff.1 hn
  obtain ⟨h2, e2⟩ := List.getElem?_eq_some_iff.1 hm
  rw [← e1, ← e2]
  exact List.pairwise_iff_getElem.1 hl n m h1 h2 h
end Go.Proofs.Ytejfdheiopejeaa
