/-
  The order of a text: heads, next ones, going through it element by element (layer 15; lists, of no program). By an AI agent.
-/
import Derived.Test.YtljciakgdpihdaaTG
namespace Go.Proofs.Ytljciakgdpihdaa
/-- Who stands next behind one of this name. -/
def nextIn : List Ins → IDt → Option Ins
  | [], _ => none
  | y :: r, i => if y.id = i then r.head? else nextIn r i
theorem nextIn_at {z : Ins} {B : List Ins} : ∀ {A : List Ins}, (∀ y ∈ A, y.id ≠ z.id) → nextIn (A ++ z :: B) z.id = B.head?
  | [], _ => if_pos rfl
  | y :: A, h => by
    rw [List.cons_append, nextIn, if_neg (h y (List.mem_cons.2 (.inl rfl)))]
    exact nextIn_at fun u hu => h u (List.mem_cons.2 (.inr hu))
theorem nextIn_in {i : IDt} {B : List Ins} : ∀ {A : List Ins}, (∀ y ∈ A, y.id ≠ i) → nextIn (A ++ B) i = nextIn B i
  | [], _ => rfl
  | y :: A, h => by
    rw [List.cons_append, nextIn, if_neg (h y (List.mem_cons.2 (.inl rfl)))]
    exact nextIn_in fun u hu => h u (List.mem_cons.2 (.inr hu))
theorem nextIn_out {i : IDt} {B C : List Ins} : ∀ {A : List Ins}, (∃ y ∈ A, y.id = i) → A.getLast?.map Ins.id ≠ some i → nextIn (A ++ B) i = nextIn (A ++ C) i
  | [], h, _ => by obtain ⟨y, hy, _⟩ := h; cases hy
  | [y], h, hl => by
    obtain ⟨z, hz, e⟩ := h
    rw [List.mem_singleton.1 hz] at e
    exact absurd (by simp [e]) hl
  | y :: z :: A, h, hl => by
    show (if y.id = i then (z :: A ++ B).head? else nextIn (z :: A ++ B) i) = if y.id = i then (z :: A ++ C).head? else nextIn (z :: A ++ C) i
    by_cases hy : y.id = i
    · rw [if_pos hy, if_pos hy]
      rfl
    · rw [if_neg hy, if_neg hy]
      refine nextIn_out (A := z :: A) ?_ (by simpa using hl)
      obtain ⟨u, hu, e⟩ := h
      rcases List.mem_cons.1 hu with h1 | h1
      · exact absurd (by rw [← h1]; exact e) hy
      · exact ⟨u, h1, e⟩
/-- The first so many are less than x, the others are not: there x is put. -/
theorem insK_cut {x : Ins} {A B : List Ins} (hA : ∀ y ∈ A, idLt y.id x.id = true) (hB : ∀ y ∈ B, idLt y.id x.id = false) : insK x (A ++ B) = A ++ x :: B := by
  unfold insK
  rw [List.filter_append, List.filter_append, List.filter_eq_self.2 hA, List.filter_eq_nil_iff.2 (fun y hy => by rw [hB y hy]; decide), List.filter_eq_nil_iff.2 (fun y hy => by rw [hA y hy]; decide), List.filter_eq_self.2 (fun y hy => by rw [hB y hy]; rfl), List.append_nil, List.nil_append]
theorem sorted_cut {x z : Ins} {A B : List Ins} (h : Sorted (A ++ z :: B)) (hz : idLt z.id x.id = false) : ∀ y ∈ z :: B, idLt y.id x.id = false := by
  obtain ⟨_, h2, _⟩ := List.pairwise_append.1 h
  obtain ⟨h3, _⟩ := List.pairwise_cons.1 h2
  intro y hy
  rcases List.mem_cons.1 hy with e | hy
  · rw [e]; exact hz
  · cases hk : idLt y.id x.id with
    | false => rfl
    | true => rw [idLt_trans (h3 y hy) hk] at hz; cases hz
/-- All that hangs below one on a side, in the order. -/
def blw (L : List Ins) (p : IDt) (s : Bool) : List Ins := belL (L.length + 1) L p s
/-- One with all that hangs below it. -/
def subL (L : List Ins) (x : Ins) : List Ins := blw L x.id false ++ x :: blw L x.id true
theorem blw_kids {L : List Ins} (h : Ok L) (p : IDt) (s : Bool) : blw L p s = (kidsL L p s).flatMap (subL L) := by
  have e1 : blw L p s = belL (L.length + 1 + 1) L p s := (bel_fuel L.length s (h.deep p) 1).symm
  rw [e1, belL]
  rfl
theorem nodes_blw (L : List Ins) : nodesL L = blw L (0, 0) true := rfl
/-- An element with what hangs below it stands behind P; so many steps are to be done behind it. -/
inductive Sits (L : List Ins) : Ins → List Ins → Nat → Prop where
  | top {e : Ins} {A B : List Ins} : kidsL L (0, 0) true = A ++ e :: B → Sits L e (A.flatMap (subL L)) (4 * (B.flatMap (subL L)).length + 1)
  | left {e p : Ins} {A B P : List Ins} {n : Nat} : Sits L p P n → p ∈ L → kidsL L p.id false = A ++ e :: B → Sits L e (P ++ A.flatMap (subL L)) (4 * (B.flatMap (subL L)).length + 3 + 4 * (blw L p.id true).length + n)
  | right {e p : Ins} {A B P : List Ins} {n : Nat} : Sits L p P n → p ∈ L → kidsL L p.id true = A ++ e :: B → Sits L e (P ++ blw L p.id false ++ p :: A.flatMap (subL L)) (4 * (B.flatMap (subL L)).length + 1 + n)
/-- Where the run stands: at one that is to be gone down from, that is to be given, behind which it goes on, from which it goes up (none: the beginning). -/
inductive Stand where
  | down (e : Ins)
  | give (e : Ins)
  | behind (e : Option Ins)
  | up (e : Option Ins)
/-- What has been given there, and how many steps are to be done at most. -/
def Ran (L : List Ins) : Stand → List Ins → Nat → Prop
  | .down e, pre, m => e ∈ L ∧ ∃ n, Sits L e pre n ∧ m = 4 * (subL L e).length + n
  | .give e, pre, m => e ∈ L ∧ ∃ P n, Sits L e P n ∧ pre = P ++ blw L e.id false ∧ m = 3 + 4 * (blw L e.id true).length + n
  | .behind (some e), pre, m => e ∈ L ∧ ∃ P n, Sits L e P n ∧ pre = P ++ blw L e.id false ++ [e] ∧ m = 2 + 4 * (blw L e.id true).length + n
  | .up (some e), pre, m => e ∈ L ∧ ∃ P n, Sits L e P n ∧ pre = P ++ subL L e ∧ m = n + 1
  | .behind none, pre, m => pre = [] ∧ m = 2 + 4 * (nodesL L).length
  | .up none, pre, m => pre = nodesL L ∧ m = 1
theorem kid_mem {L : List Ins} {p : IDt} {s : Bool} {A B : List Ins} {z : Ins} (h : kidsL L p s = A ++ z :: B) : z ∈ L ∧ z.par = p ∧ z.right = s := by
  have := (mem_kids p s (L := L) (y := z)).1 (by rw [h]; simp)
  exact ⟨this.1, hangs_iff.1 this.2⟩
theorem kid_apart {L : List Ins} (hok : Ok L) {p : IDt} {s : Bool} {A B : List Ins} {z : Ins} (h : kidsL L p s = A ++ z :: B) : (∀ y ∈ A, y.id ≠ z.id) ∧ ∀ y ∈ B, y.id ≠ z.id := by
  have hd := sorted_distinct (kids_sorted p s (L := L) hok.distinct)
  rw [h] at hd
  exact distinct_mid hd
section
variable {L : List Ins} {e : Ins} {pre : List Ins} {m : Nat}
theorem head_some {α : Type} {l : List α} {z : α} (h : l.head? = some z) : ∃ B, l = z :: B := by
  cases l with
  | nil => cases h
  | cons y B => cases h; exact ⟨B, rfl⟩
theorem head_none {α : Type} {l : List α} (h : l.head? = none) : l = [] := by
  cases l with
  | nil => rfl
  | cons y B => cases h
theorem ran_down_left (hok : Ok L) (h : Ran L (.down e) pre m) {z : Ins} (hz : (kidsL L e.id false).head? = some z) : ∃ m', Ran L (.down z) pre m' ∧ m' < m := by
  obtain ⟨he, n, hs, rfl⟩ := h
  obtain ⟨B, hB⟩ := head_some hz
  have h1 := Sits.left (A := []) hs he hB
  rw [List.flatMap_nil, List.append_nil] at h1
  refine ⟨_, ⟨(kid_mem (A := []) hB).1, _, h1, rfl⟩, ?_⟩
  have h2 : (blw L e.id false).length = (subL L z).length + (B.flatMap (subL L)).length := by rw [blw_kids hok, hB, List.flatMap_cons, List.length_append]
  have h3 : (subL L e).length = (blw L e.id false).length + (blw L e.id true).length + 1 := by unfold subL; rw [List.length_append, List.length_cons]; omega
  omega
theorem ran_down_give (hok : Ok L) (h : Ran L (.down e) pre m) (hz : (kidsL L e.id false).head? = none) : ∃ m', Ran L (.give e) pre m' ∧ m' < m := by
  obtain ⟨he, n, hs, rfl⟩ := h
  have h2 : blw L e.id false = [] := by rw [blw_kids hok, head_none hz]; rfl
  refine ⟨_, ⟨he, pre, n, hs, by rw [h2, List.append_nil], rfl⟩, ?_⟩
  have h3 : (subL L e).length = (blw L e.id false).length + (blw L e.id true).length + 1 := by unfold subL; rw [List.length_append, List.length_cons]; omega
  omega
theorem ran_give (h : Ran L (.give e) pre m) : ∃ m', Ran L (.behind (some e)) (pre ++ [e]) m' ∧ m' < m := by
  obtain ⟨he, P, n, hs, rfl, rfl⟩ := h
  exact ⟨_, ⟨he, P, n, hs, rfl, rfl⟩, by omega⟩
theorem ran_behind_right (hok : Ok L) (h : Ran L (.behind (some e)) pre m) {z : Ins} (hz : (kidsL L e.id true).head? = some z) : ∃ m', Ran L (.down z) pre m' ∧ m' < m := by
  obtain ⟨he, P, n, hs, rfl, rfl⟩ := h
  obtain ⟨B, hB⟩ := head_some hz
  have h1 := Sits.right (A := []) hs he hB
  rw [List.flatMap_nil] at h1
  refine ⟨_, ⟨(kid_mem (A := []) hB).1, _, h1, rfl⟩, ?_⟩
  have h2 : (blw L e.id true).length = (subL L z).length + (B.flatMap (subL L)).length := by rw [blw_kids hok, hB, List.flatMap_cons, List.length_append]
  omega
theorem ran_behind_up (hok : Ok L) (h : Ran L (.behind (some e)) pre m) (hz : (kidsL L e.id true).head? = none) : ∃ m', Ran L (.up (some e)) pre m' ∧ m' < m := by
  obtain ⟨he, P, n, hs, rfl, rfl⟩ := h
  have h2 : blw L e.id true = [] := by rw [blw_kids hok, head_none hz]; rfl
  refine ⟨_, ⟨he, P, n, hs, ?_, rfl⟩, by omega⟩
  unfold subL
  rw [h2, List.append_assoc]
theorem ran_begin_right (hok : Ok L) (h : Ran L (.behind none) pre m) {z : Ins} (hz : (kidsL L (0, 0) true).head? = some z) : ∃ m', Ran L (.down z) pre m' ∧ m' < m := by
  obtain ⟨rfl, rfl⟩ := h
  obtain ⟨B, hB⟩ := head_some hz
  have h1 := Sits.top (A := []) hB
  rw [List.flatMap_nil] at h1
  refine ⟨_, ⟨(kid_mem (A := []) hB).1, _, h1, rfl⟩, ?_⟩
  have h2 : (nodesL L).length = (subL L z).length + (B.flatMap (subL L)).length := by rw [nodes_blw, blw_kids hok, hB, List.flatMap_cons, List.length_append]
  omega
theorem ran_begin_up (hok : Ok L) (h : Ran L (.behind none) pre m) (hz : (kidsL L (0, 0) true).head? = none) : ∃ m', Ran L (.up none) pre m' ∧ m' < m := by
  obtain ⟨rfl, rfl⟩ := h
  refine ⟨_, ⟨?_, rfl⟩, by omega⟩
  rw [nodes_blw, blw_kids hok, head_none hz]
  rfl
theorem nextIn_kids (hok : Ok L) {p : IDt} {s : Bool} {A B : List Ins} (h : kidsL L p s = A ++ e :: B) : nextIn (kidsL L e.par e.right) e.id = B.head? := by
  obtain ⟨_, h1, h2⟩ := kid_mem h
  rw [h1, h2, h]
  exact nextIn_at (kid_apart hok h).1
theorem ran_up_next (hok : Ok L) (h : Ran L (.up (some e)) pre m) {z : Ins} (hz : nextIn (kidsL L e.par e.right) e.id = some z) : ∃ m', Ran L (.down z) pre m' ∧ m' < m := by
  obtain ⟨he, P, n, hs, rfl, rfl⟩ := h
  cases hs with
  | @top _ A B hk =>
    rw [nextIn_kids hok hk] at hz
    obtain ⟨B', rfl⟩ := head_some hz
    have hk' : kidsL L (0, 0) true = (A ++ [e]) ++ z :: B' := by rw [hk]; simp
    have h1 := Sits.top hk'
    rw [List.flatMap_append, List.flatMap_singleton] at h1
    refine ⟨_, ⟨(kid_mem hk').1, _, h1, rfl⟩, ?_⟩
    rw [List.flatMap_cons, List.length_append]
    omega
  | @left _ p A B P n hs hp hk =>
    rw [nextIn_kids hok hk] at hz
    obtain ⟨B', rfl⟩ := head_some hz
    have hk' : kidsL L p.id false = (A ++ [e]) ++ z :: B' := by rw [hk]; simp
    have h1 := Sits.left hs hp hk'
    rw [List.flatMap_append, List.flatMap_singleton, ← List.append_assoc] at h1
    refine ⟨_, ⟨(kid_mem hk').1, _, h1, rfl⟩, ?_⟩
    rw [List.flatMap_cons, List.length_append]
    omega
  | @right _ p A B P n hs hp hk =>
    rw [nextIn_kids hok hk] at hz
    obtain ⟨B', rfl⟩ := head_some hz
    have hk' : kidsL L p.id true = (A ++ [e]) ++ z :: B' := by rw [hk]; simp
    have h1 := Sits.right hs hp hk'
    rw [List.flatMap_append, List.flatMap_singleton] at h1
    refine ⟨_, ⟨(kid_mem hk').1, _, by rw [List.append_assoc, List.cons_append]; exact h1, rfl⟩, ?_⟩
    rw [List.flatMap_cons, List.length_append]
    omega
/-- None stands next: up to its parent. -/
theorem ran_up_none (hok : Ok L) (h : Ran L (.up (some e)) pre m) (hz : nextIn (kidsL L e.par e.right) e.id = none) :
    (e.par = (0, 0) ∧ e.right = true ∧ ∃ m', Ran L (.up none) pre m' ∧ m' < m) ∨ (∃ p, p ∈ L ∧ p.id = e.par ∧ e.right = true ∧ ∃ m', Ran L (.up (some p)) pre m' ∧ m' < m) ∨ ∃ p, p ∈ L ∧ p.id = e.par ∧ e.right = false ∧ ∃ m', Ran L (.give p) pre m' ∧ m' < m := by
  obtain ⟨he, P, n, hs, rfl, rfl⟩ := h
  cases hs with
  | @top _ A B hk =>
    rw [nextIn_kids hok hk] at hz
    have := head_none hz
    subst this
    obtain ⟨_, h1, h2⟩ := kid_mem hk
    refine .inl ⟨h1, h2, _, ⟨?_, rfl⟩, ?_⟩
    · rw [nodes_blw, blw_kids hok, hk, List.flatMap_append, List.flatMap_singleton]
    · simp
  | @left _ p A B P n hs hp hk =>
    rw [nextIn_kids hok hk] at hz
    have := head_none hz
    subst this
    obtain ⟨_, h1, h2⟩ := kid_mem hk
    refine .inr (.inr ⟨p, hp, h1.symm, h2, _, ⟨hp, P, n, hs, ?_, rfl⟩, ?_⟩)
    · rw [blw_kids hok p.id false, hk, List.flatMap_append, List.flatMap_singleton, List.append_assoc]
    · simp <;> omega
  | @right _ p A B P n hs hp hk =>
    rw [nextIn_kids hok hk] at hz
    have := head_none hz
    subst this
    obtain ⟨_, h1, h2⟩ := kid_mem hk
    refine .inr (.inl ⟨p, hp, h1.symm, h2, _, ⟨hp, P, n, hs, ?_, rfl⟩, ?_⟩)
    · conv => rhs; rw [subL, blw_kids hok p.id true, hk, List.flatMap_append, List.flatMap_singleton]
      simp
    · simp <;> omega
end
end Go.Proofs.Ytljciakgdpihdaa
