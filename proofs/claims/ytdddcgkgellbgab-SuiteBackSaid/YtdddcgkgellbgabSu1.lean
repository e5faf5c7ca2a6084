/-
  Layer 19: terms, their names, what they are found by: over lists. By an AI agent.
-/
import Derived.Test.YtdddcgkgellbgabMB
import Derived.Test.YtdddcgkgellbgabRds
namespace Go.Proofs.Ytdddcgkgellbgab
open Go Go.RowKit
/-- What n digits are worth. -/
def sumB : Nat → (Nat → Nat) → Nat
  | 0, _ => 0
  | n + 1, f => sumB n f + f n * 256 ^ n
theorem sumB_nil (f : Nat → Nat) : sumB 0 f = 0 := rfl
theorem sumB_succ (n : Nat) (f : Nat → Nat) : sumB (n + 1) f = sumB n f + f n * 256 ^ n := rfl
theorem sumB_dig (x : Nat) : ∀ n, sumB n (by8 x) = x % 256 ^ n
  | 0 => by rw [sumB_nil, Nat.pow_zero, Nat.mod_one]
  | n + 1 => by
    rw [sumB_succ, sumB_dig x n, Nat.mod_pow_succ, Nat.mul_comm (256 ^ n)]
    rfl
/-- A number in eight bytes, the lowest first. -/
def e8 (n : Nat) : List UInt8 := gen (bf n) 8
theorem e8_len (n : Nat) : (e8 n).length = 8 := gen_length _ _
theorem e8_inj {m n : Nat} (hm : m < 18446744073709551616) (hn : n < 18446744073709551616) (h : e8 m = e8 n) : m = n := by
  have hb : ∀ i, i < 8 → by8 m i = by8 n i := by
    intro i hi
    have h1 : (e8 m)[i]? = (e8 n)[i]? := by rw [h]
    unfold e8 gen at h1
    simp [hi] at h1
    rw [← bf_nat, ← bf_nat, h1]
  have hs : ∀ k, k ≤ 8 → sumB k (by8 m) = sumB k (by8 n) := by
    intro k
    induction k with
    | zero => intro _; rfl
    | succ k ih => intro hk; rw [sumB_succ, sumB_succ, ih (by omega), hb k (by omega)]
  have h8 := hs 8 (by omega)
  rw [sumB_dig, sumB_dig] at h8
  omega
/-- A term: its kind, its parts. -/
structure Trm where
  kind : UInt8
  parts : List (List UInt8)
deriving DecidableEq
/-- So long is its name. -/
def sizeT (t : Trm) : Nat := if t.kind = 103 then 64 else if t.kind = 98 then (row t.parts 3).length + 16 else 32
theorem sizeT_ge (t : Trm) : 16 ≤ sizeT t := by unfold sizeT; split <;> (try split) <;> omega
/-- Its name, if it has the number n. -/
def calledT (t : Trm) (n : Nat) : List UInt8 := t.kind :: (e8 n ++ List.replicate (sizeT t - 9) 0)
theorem calledT_len (t : Trm) (n : Nat) : (calledT t n).length = sizeT t := by
  have := sizeT_ge t
  unfold calledT
  rw [List.length_cons, List.length_append, e8_len, List.length_replicate]
  omega
theorem calledT_num {t t' : Trm} {m n : Nat} (hm : m < 18446744073709551616) (hn : n < 18446744073709551616) (h : calledT t m = calledT t' n) : t.kind = t'.kind ∧ m = n := by
  unfold calledT at h
  obtain ⟨h1, h2⟩ := List.cons.inj h
  refine ⟨h1, e8_inj hm hn ?_⟩
  have := congrArg (List.take 8) h2
  rwa [List.take_left' (e8_len m), List.take_left' (e8_len n)] at this
/-- What is known when a term has been named; its number. -/
def knowT (L : List Trm) (t : Trm) : List Trm := if t ∈ L then L else L ++ [t]
def numT (L : List Trm) (t : Trm) : Nat := L.idxOf t + 1
theorem numT_ge (L : List Trm) (t : Trm) : 1 ≤ numT L t := Nat.le_add_left _ _
theorem knowT_len (L : List Trm) (t : Trm) : numT L t ≤ (knowT L t).length ∧ (knowT L t).length ≤ L.length + 1 ∧ L.length ≤ (knowT L t).length := by
  unfold knowT numT
  split
  · rename_i h
    have := List.idxOf_lt_length_iff.2 h
    omega
  · rename_i h
    have := List.idxOf_eq_length h
    simp
    omega
theorem knowT_get (L : List Trm) (t : Trm) : (knowT L t)[numT L t - 1]? = some t := by
  unfold knowT numT
  split
  · rename_i h
    have h1 := List.idxOf_lt_length_iff.2 h
    rw [Nat.add_sub_cancel, List.getElem?_eq_getElem h1]
    congr 1
    exact List.getElem_idxOf h1
  · rename_i h
    have := List.idxOf_eq_length h
    rw [Nat.add_sub_cancel, this]
    simp
theorem knowT_nodup {L : List Trm} (h : L.Nodup) (t : Trm) : (knowT L t).Nodup := by
  unfold knowT
  split
  · exact h
  · rename_i hn
    rw [List.nodup_append]
    exact ⟨h, by simp, fun a ha b hb e => hn (by rw [List.mem_singleton] at hb; rw [← hb, ← e]; exact ha)⟩
theorem knowT_mem (L : List Trm) (t x : Trm) : x ∈ knowT L t ↔ x ∈ L ∨ x = t := by
  unfold knowT
  split
  · rename_i h
    exact ⟨.inl, fun h' => h'.elim id fun e => e ▸ h⟩
  · simp
theorem knowT_pre (L : List Trm) (t : Trm) {i : Nat} {x : Trm} (h : L[i]? = some x) : (knowT L t)[i]? = some x := by
  unfold knowT
  split
  · exact h
  · rw [List.getElem?_append_left (List.getElem?_eq_some_iff.1 h).1]; exact h
/-- The term of a kind whose name some bytes are: the first one, from the i-th on. -/
def findF : List Trm → Nat → List UInt8 → UInt8 → Option Trm
  | [], _, _, _ => none
  | t :: r, i, b, k => if t.kind = k ∧ calledT t (i + 1) = b then some t else findF r (i + 1) b k
def findT (L : List Trm) (b : List UInt8) (k : UInt8) : Option Trm := findF L 0 b k
theorem findF_none : ∀ {L : List Trm} {i : Nat} {b : List UInt8} {k : UInt8}, findF L i b k = none ↔ ∀ j t, L[j]? = some t → ¬ (t.kind = k ∧ calledT t (i + j + 1) = b)
  | [], i, b, k => by simp [findF]
  | x :: r, i, b, k => by
    unfold findF
    constructor
    · intro h j t hj
      split at h
      · cases h
      · rename_i hx
        cases j with
        | zero => simp at hj; subst hj; exact hx
        | succ j =>
          have := findF_none.1 h j t (by simpa using hj)
          rw [show i + (j + 1) + 1 = i + 1 + j + 1 by omega]
          exact this
    · intro h
      rw [if_neg (h 0 x rfl)]
      refine findF_none.2 fun j t hj => ?_
      have := h (j + 1) t (by simpa using hj)
      rwa [show i + (j + 1) + 1 = i + 1 + j + 1 by omega] at this
theorem findF_some : ∀ {L : List Trm} {i : Nat} {b : List UInt8} {k : UInt8} {t : Trm}, findF L i b k = some t → ∃ j, L[j]? = some t ∧ t.kind = k ∧ calledT t (i + j + 1) = b
  | [], i, b, k, t, h => by simp [findF] at h
  | x :: r, i, b, k, t, h => by
    unfold findF at h
    split at h
    · rename_i hx
      obtain rfl := Option.some.inj h
      exact ⟨0, rfl, hx⟩
    · obtain ⟨j, h1, h2, h3⟩ := findF_some h
      exact ⟨j + 1, by simpa using h1, h2, by rw [show i + (j + 1) + 1 = i + 1 + j + 1 by omega]; exact h3⟩
/-- Found is what has the number that the name tells. -/
theorem findT_iff {L : List Trm} (hl : L.length < 18446744073709551616) {b : List UInt8} {k : UInt8} {t : Trm} : findT L b k = some t ↔ ∃ j, L[j]? = some t ∧ t.kind = k ∧ calledT t (j + 1) = b := by
  constructor
  · intro h
    obtain ⟨j, h1, h2, h3⟩ := findF_some h
    exact ⟨j, h1, h2, by rwa [Nat.zero_add] at h3⟩
  · rintro ⟨j, h1, h2, h3⟩
    cases hf : findT L b k with
    | none => exact absurd ⟨h2, by rw [Nat.zero_add]; exact h3⟩ (findF_none.1 hf j t h1)
    | some t' =>
      obtain ⟨j', h1', h2', h3'⟩ := findF_some hf
      rw [Nat.zero_add] at h3'
      have l1 := (List.getElem?_eq_some_iff.1 h1).1
      have l2 := (List.getElem?_eq_some_iff.1 h1').1
      have := (calledT_num (by omega) (by omega) (h3.trans h3'.symm)).2
      obtain rfl : j = j' := by omega
      rw [h1] at h1'
      exact h1'.symm
/-- A term that is known is found by its name. -/
theorem findT_name {L : List Trm} (hl : L.length < 18446744073709551616) {j : Nat} {t : Trm} (h : L[j]? = some t) : findT L (calledT t (j + 1)) t.kind = some t := (findT_iff hl).2 ⟨j, h, rfl, rfl⟩
theorem findT_miss {L : List Trm} (hl : L.length < 18446744073709551616) {j : Nat} {b : List UInt8} {k : UInt8} {t : Trm} (h : L[j]? = some t) (hn : ¬ (t.kind = k ∧ calledT t (j + 1) = b)) (hb : ∀ i x, L[i]? = some x → calledT x (i + 1) = b → i = j) : findT L b k = none := by
  cases hf : findT L b k with
  | none => rfl
  | some t' =>
    obtain ⟨i, h1, h2, h3⟩ := (findT_iff hl).1 hf
    obtain rfl := hb i t' h1 h3
    rw [h] at h1
    obtain rfl := Option.some.inj h1
    exact absurd ⟨h2, h3⟩ hn
/-- What a kind and parts are found by. -/
def formP : List (List UInt8) → List UInt8
  | [] => []
  | p :: r => e8 p.length ++ p ++ formP r
def formT (t : Trm) : List UInt8 := t.kind :: formP t.parts
theorem formP_app (a b : List (List UInt8)) : formP (a ++ b) = formP a ++ formP b := by
  induction a with
  | nil => rfl
  | cons p r ih => simp only [List.cons_append, formP, ih, List.append_assoc]
theorem formP_inj : ∀ {a b : List (List UInt8)}, (∀ p ∈ a, p.length < 18446744073709551616) → (∀ p ∈ b, p.length < 18446744073709551616) → formP a = formP b → a = b
  | [], [], _, _, _ => rfl
  | [], q :: s, _, _, h => by
    have := congrArg List.length h
    simp only [formP, List.length_append, e8_len, List.length_nil] at this
    omega
  | p :: r, [], _, _, h => by
    have := congrArg List.length h
    simp only [formP, List.length_append, e8_len, List.length_nil] at this
    omega
  | p :: r, q :: s, h1, h2, h => by
    simp only [formP, List.append_assoc] at h
    obtain ⟨e1, e2⟩ := List.append_inj h (by rw [e8_len, e8_len])
    have hl := e8_inj (h1 p (by simp)) (h2 q (by simp)) e1
    obtain ⟨e3, e4⟩ := List.append_inj e2 hl
    rw [e3, formP_inj (fun x hx => h1 x (by simp [hx])) (fun x hx => h2 x (by simp [hx])) e4]
/-- Its parts are not too long. -/
def fitT (t : Trm) : Prop := ∀ p ∈ t.parts, p.length < 18446744073709551616
theorem formT_inj {t u : Trm} (h1 : fitT t) (h2 : fitT u) (h : formT t = formT u) : t = u := by
  obtain ⟨k, p⟩ := t
  obtain ⟨k', p'⟩ := u
  obtain ⟨e1, e2⟩ := List.cons.inj h
  have e3 := formP_inj h1 h2 e2
  cases e1; cases e3; rfl
end Go.Proofs.Ytdddcgkgellbgab
