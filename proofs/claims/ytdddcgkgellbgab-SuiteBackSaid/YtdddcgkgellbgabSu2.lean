/-
  Layer 19: what an ideal suite answers: over lists. By an AI agent.
-/
import Derived.Test.YtdddcgkgellbgabSu1
namespace Go.Proofs.Ytdddcgkgellbgab
open Go Go.RowKit
set_option maxRecDepth 20000
def termS (D : Nat) : Trm := ⟨115, [e8 (D + 1)]⟩
def termH (b : List UInt8) : Trm := ⟨104, [b]⟩
def termD (s p : List UInt8) : Trm := ⟨100, if Op.bytesLess p s then [p, s] else [s, p]⟩
def knowK (L : List Trm) (t : Trm) : List Trm := if (row t.parts 0).length = 32 then knowT L t else L
def ansK (L : List Trm) (t : Trm) : List UInt8 := if (row t.parts 0).length = 32 then calledT t (numT L t) else []
def termB (key : List UInt8) (n : Int) (other text : List UInt8) : Trm := ⟨98, [key, e8 n.toNat, other, text]⟩
def termP (s : List UInt8) : Trm := ⟨112, [s]⟩
def termK (key info : List UInt8) : Trm := ⟨107, [key, info]⟩
def termV (s : List UInt8) : Trm := ⟨118, [s]⟩
def termG (s b : List UInt8) : Trm := ⟨103, [s, b]⟩
def sharedL (L : List Trm) (s pub : List UInt8) : List Trm :=
  if s.length = 32 then (match findT L pub 112 with | some t => knowT L (termD s (row t.parts 0)) | none => L) else L
def sharedA (L : List Trm) (s pub : List UInt8) : List UInt8 :=
  if s.length = 32 then (match findT L pub 112 with | some t => calledT (termD s (row t.parts 0)) (numT L (termD s (row t.parts 0))) | none => []) else []
def sharedE (L : List Trm) (s pub : List UInt8) : Int :=
  if s.length = 32 then (match findT L pub 112 with | some _ => 0 | none => 8) else 1
def verifyT (L : List Trm) (key b sig : List UInt8) : Bool :=
  match findT L sig 103, findT L key 118 with
  | some g, some v => decide (row g.parts 0 = row v.parts 0) && decide (row g.parts 1 = b)
  | _, _ => false
def sealL (L : List Trm) (key : List UInt8) (n : Int) (other text : List UInt8) : List Trm := if n < 0 then L else knowK L (termB key n other text)
def sealA (L : List Trm) (key : List UInt8) (n : Int) (other text : List UInt8) : List UInt8 := if n < 0 then [] else ansK L (termB key n other text)
def opens (t : Trm) (key : List UInt8) (n : Int) (other : List UInt8) : Bool := decide (row t.parts 0 = key) && decide (row t.parts 1 = e8 n.toNat) && decide (row t.parts 2 = other)
def openA (L : List Trm) (key : List UInt8) (n : Int) (other box : List UInt8) : List UInt8 :=
  if key.length = 32 ∧ 0 ≤ n then (match findT L box 98 with | some t => if opens t key n other then row t.parts 3 else [] | none => []) else []
def openE (L : List Trm) (key : List UInt8) (n : Int) (other box : List UInt8) : Int :=
  if key.length = 32 ∧ 0 ≤ n then (match findT L box 98 with | some t => if opens t key n other then 0 else 9 | none => 9) else 1
/-- A term that has the number n. -/
def inL (L : List Trm) (t : Trm) (n : Nat) : Prop := 1 ≤ n ∧ L[n - 1]? = some t
theorem inL_know (L : List Trm) (t : Trm) : inL (knowT L t) t (numT L t) := ⟨numT_ge L t, knowT_get L t⟩
theorem inL.more {L : List Trm} {t : Trm} {n : Nat} (h : inL L t n) (u : Trm) : inL (knowT L u) t n := ⟨h.1, knowT_pre L u h.2⟩
theorem inL.le {L : List Trm} {t : Trm} {n : Nat} (h : inL L t n) : n ≤ L.length := by
  have := (List.getElem?_eq_some_iff.1 h.2).1
  omega
theorem inL.mem {L : List Trm} {t : Trm} {n : Nat} (h : inL L t n) : t ∈ L := List.mem_of_getElem? h.2
theorem inL.inj {L : List Trm} (hd : L.Nodup) {t : Trm} {m n : Nat} (h1 : inL L t m) (h2 : inL L t n) : m = n := by
  obtain ⟨a1, a2⟩ := h1
  obtain ⟨b1, b2⟩ := h2
  obtain ⟨l1, e1⟩ := List.getElem?_eq_some_iff.1 a2
  obtain ⟨l2, e2⟩ := List.getElem?_eq_some_iff.1 b2
  have := (List.getElem_inj (h₀ := l1) (h₁ := l2) hd).1 (e1.trans e2.symm)
  omega
theorem inL.one {L : List Trm} {t u : Trm} {n : Nat} (h1 : inL L t n) (h2 : inL L u n) : t = u := Option.some.inj (h1.2.symm.trans h2.2)
/-- Named again, it has its number still. -/
theorem inL.num {L : List Trm} (hd : L.Nodup) {t : Trm} {n : Nat} (h : inL L t n) : numT L t = n ∧ knowT L t = L := by
  have hm := h.mem
  have e : knowT L t = L := if_pos hm
  refine ⟨?_, e⟩
  have h1 := inL_know L t
  rw [e] at h1
  exact h1.inj hd h
theorem inL.find {L : List Trm} (hl : L.length < 18446744073709551616) {t : Trm} {n : Nat} (h : inL L t n) : findT L (calledT t n) t.kind = some t := by
  obtain ⟨h1, h2⟩ := h
  have := findT_name hl h2
  rwa [Nat.sub_add_cancel h1] at this
theorem find_in {L : List Trm} (hl : L.length < 18446744073709551616) {b : List UInt8} {k : UInt8} {t : Trm} (h : findT L b k = some t) : ∃ n, inL L t n ∧ t.kind = k ∧ b = calledT t n := by
  obtain ⟨j, h1, h2, h3⟩ := (findT_iff hl).1 h
  exact ⟨j + 1, ⟨by omega, by simpa using h1⟩, h2, h3.symm⟩
/-- If it is the only one of its kind, no other name is found. -/
theorem find_only {L : List Trm} (hl : L.length < 18446744073709551616) (hd : L.Nodup) {t : Trm} {n : Nat} (h : inL L t n) (ho : ∀ u ∈ L, u.kind = t.kind → u = t) {b : List UInt8} {u : Trm} (hf : findT L b t.kind = some u) : u = t ∧ b = calledT t n := by
  obtain ⟨m, h1, h2, h3⟩ := find_in hl hf
  obtain rfl := ho u h1.mem h2
  exact ⟨rfl, by rw [h3, h1.inj hd h]⟩
theorem called_inj {t u : Trm} {m n : Nat} (hm : m < 18446744073709551616) (hn : n < 18446744073709551616) (h : calledT t m = calledT u n) : m = n := (calledT_num hm hn h).2
theorem bytesLess_irrefl : ∀ a : List UInt8, Op.bytesLess a a = false
  | [] => rfl
  | a :: r => by
    have h : ¬ a < a := UInt8.lt_irrefl a
    simp [Op.bytesLess, h, bytesLess_irrefl r]
theorem bytesLess_asymm : ∀ a b : List UInt8, Op.bytesLess a b = true → Op.bytesLess b a = false
  | [], [], h => by simp [Op.bytesLess] at h
  | [], _ :: _, _ => rfl
  | _ :: _, [], h => by simp [Op.bytesLess] at h
  | a :: r, b :: s, h => by
    simp only [Op.bytesLess, Bool.or_eq_true, decide_eq_true_eq, Bool.and_eq_true, beq_iff_eq] at h
    simp only [Op.bytesLess, Bool.or_eq_false_iff, decide_eq_false_iff_not, Bool.and_eq_false_iff, beq_eq_false_iff_ne]
    rcases h with h | ⟨rfl, h⟩
    · exact ⟨UInt8.not_lt.2 (UInt8.le_of_lt h), .inl (fun e => by rw [e] at h; exact UInt8.lt_irrefl _ h)⟩
    · exact ⟨UInt8.lt_irrefl _, .inr (bytesLess_asymm r s h)⟩
theorem bytesLess_total : ∀ a b : List UInt8, Op.bytesLess a b = false → Op.bytesLess b a = false → a = b
  | [], [], _, _ => rfl
  | [], _ :: _, h, _ => by simp [Op.bytesLess] at h
  | _ :: _, [], _, h => by simp [Op.bytesLess] at h
  | a :: r, b :: s, h1, h2 => by
    simp only [Op.bytesLess, Bool.or_eq_false_iff, decide_eq_false_iff_not, Bool.and_eq_false_iff, beq_eq_false_iff_ne] at h1 h2
    have e : a = b := UInt8.le_antisymm (UInt8.not_lt.1 h2.1) (UInt8.not_lt.1 h1.1)
    subst e
    rw [bytesLess_total r s (h1.2.resolve_left (fun h => h rfl)) (h2.2.resolve_left (fun h => h rfl))]
theorem termD_comm (s p : List UInt8) : termD s p = termD p s := by
  unfold termD
  cases h1 : Op.bytesLess p s with
  | true => rw [bytesLess_asymm p s h1]; rfl
  | false =>
    cases h2 : Op.bytesLess s p with
    | true => rfl
    | false => rw [bytesLess_total s p h2 h1]
end Go.Proofs.Ytdddcgkgellbgab
