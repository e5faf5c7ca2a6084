/-
  Maps in memory, over an explicit list of entries; keyed by strings: look-up and store. Of no program. By an AI agent.
-/
import Derived.Test.YtdddcgkgellbgabMA
import Derived.Maps.RangeRun
import Derived.WideKeyRuns
namespace Go.Proofs.Ytdddcgkgellbgab
open Go Go.RowKit
set_option maxRecDepth 20000
section
variable {w : World}
/-- A block is set to something else. -/
abbrev putB (w : World) (b : Nat) (o : Obj) : World := ChangeMaps.setBlock w b o
theorem putB_same {b : Nat} {o' : Obj} (hb : b < w.heap.size) : (putB w b o').heap[b]? = some o' := by simp [putB, ChangeMaps.setBlock, hb]
theorem putB_other {b k : Nat} {o' : Obj} (h : k ≠ b) : (putB w b o').heap[k]? = w.heap[k]? := by simp [putB, ChangeMaps.setBlock, Array.getElem?_setIfInBounds_ne (Ne.symm h)]
theorem putB_size {b : Nat} {o' : Obj} : (putB w b o').heap.size = w.heap.size := by simp [putB, ChangeMaps.setBlock]
end
/-- An entry: key, value, when it came. -/
structure Ent (κ : Type) where
  key : κ
  val : Value
  born : Nat
section
variable {κ : Type} [DecidableEq κ] {kt : TypeId} {kV : κ → Value}
def entV (kV : κ → Value) (e : Ent κ) : MapEntry := ⟨kV e.key, e.val, e.born⟩
def mapV (kV : κ → Value) (es : List (Ent κ)) (clk : Nat) : Obj := .map (es.map (entV kV)).toArray clk
def lookV (es : List (Ent κ)) (k : κ) : Option Value := (es.find? fun e => decide (e.key = k)).map Ent.val
/-- Its place. -/
def atV (es : List (Ent κ)) (k : κ) : Option Nat := es.findIdx? fun e => decide (e.key = k)
def keysV (es : List (Ent κ)) : List κ := es.map Ent.key
theorem lookV_at (es : List (Ent κ)) (k : κ) : lookV es k = (atV es k).bind fun i => (es[i]?).map Ent.val := by
  unfold lookV atV
  induction es with
  | nil => rfl
  | cons e es ih =>
    rw [List.find?_cons, List.findIdx?_cons]
    by_cases h : e.key = k
    · simp [h]
    · simp only [h, decide_false, ih]
      cases List.findIdx? (fun e => decide (e.key = k)) es <;> simp
theorem erase_map {α β : Type} (f : α → β) : ∀ (l : List α) (i : Nat), (l.map f).eraseIdx i = (l.eraseIdx i).map f
  | [], _ => rfl
  | _ :: _, 0 => rfl
  | a :: l, i + 1 => by
    have := erase_map f l i
    simp [this]
theorem at_lt {es : List (Ent κ)} {k : κ} {i : Nat} (h : atV es k = some i) : ∃ e, es[i]? = some e ∧ e.key = k := by
  unfold atV at h
  obtain ⟨h1, h2, _⟩ := List.findIdx?_eq_some_iff_getElem.1 h
  exact ⟨es[i], List.getElem?_eq_getElem h1, of_decide_eq_true h2⟩
theorem at_none_iff {es : List (Ent κ)} {k : κ} : atV es k = none ↔ k ∉ keysV es := by
  unfold atV keysV
  rw [List.findIdx?_eq_none_iff]
  simp only [decide_eq_false_iff_not, List.mem_map, not_exists, not_and]
end
abbrev strV (s : ByteArray) : Value := .string s
abbrev EntS := Ent ByteArray
theorem bytes_beq (a b : ByteArray) : (a == b) = decide (a = b) := by
  obtain ⟨x⟩ := a
  obtain ⟨y⟩ := b
  show (x == y) = _
  rw [Bool.eq_iff_iff, beq_iff_eq, decide_eq_true_iff, ByteArray.mk.injEq]
theorem snow (k : ByteArray) : ∀ (es : List EntS) (j : Nat), Instr.findNow .string (.string k) (es.map (entV strV)) j = some ((es.findIdx? fun e => decide (e.key = k)).bind fun i => (es[i]?).map fun e => (i + j, e.val))
  | [], j => by simp [Instr.findNow]
  | e :: es, j => by
    rw [List.map_cons, Instr.findNow]
    show (match Instr.sameNow .string (.string k) (.string e.key) with
      | some true => _
      | some false => _
      | none => _) = _
    have hs : Instr.sameNow .string (.string k) (.string e.key) = some (decide (e.key = k)) := by
      show some (k == e.key) = _
      rw [bytes_beq k e.key]
      congr 1
      rw [Bool.eq_iff_iff, decide_eq_true_iff, decide_eq_true_iff]
      exact eq_comm
    rw [hs, List.findIdx?_cons]
    by_cases h : e.key = k
    · simp [h, entV]
    · have ih := snow k es (j + 1)
      simp only [h, decide_false]
      rw [ih]
      simp only [Bool.false_eq_true, if_false]
      congr 1
      cases hq : List.findIdx? (fun e => decide (e.key = k)) es with
      | none => simp
      | some q =>
        simp
        cases es[q]? with
        | none => rfl
        | some y => simp; omega
section
variable {kt : TypeId}
theorem sfind (hk : ∀ w, (underlying kt).run Try.prog w = .ok .string w) (k : ByteArray) (w : World) (es : List EntS) : (Instr.findKey kt (.string k) (es.map (entV strV))).run Try.prog w = .ok ((atV es k).bind fun i => (es[i]?).map fun e => (i, e.val)) w := by
  have h := snow k es 0
  simp only [Nat.add_zero] at h
  unfold Instr.findKey
  rw [Sem.run_bind, hk, Result.andThen_ok]
  simp only [h, Sem.run_pure]
  rfl
theorem schk (hk : ∀ w, (underlying kt).run Try.prog w = .ok .string w) (e : Bool) (k : ByteArray) (w : World) : (Instr.checkKey e 10000 kt (.string k)).run Try.prog w = .ok () w := by
  rw [Instr.checkKey]
  simp [Sem.run_bind, hk, Result.andThen_ok, Sem.run_pure]
theorem slook (hk : ∀ w, (underlying kt).run Try.prog w = .ok .string w) {mt et : TypeId} {w : World} {M clk : Nat} {es : List EntS} {z : Value} (hu : ∀ w, (underlying mt).run Try.prog w = .ok (.map kt et) w) (hz : ∀ w, (zeroValue et).run Try.prog w = .ok z w) (h : w.heap[M]? = some (mapV strV es clk)) (k : ByteArray) :
    (Instr.lookup mt (.map (some M)) (.string k) false).run Try.prog w = .ok ((lookV es k).getD z) w := by
  have hf := sfind hk k w es
  have hl : (es.map (entV strV)).toArray.toList = es.map (entV strV) := rfl
  rw [lookV_at]
  unfold mapV at h
  cases ha : atV es k with
  | none =>
    rw [ha] at hf
    simp [Instr.lookup, hu, MapKept.run_getObj_map h, schk hk, hf, hz, Result.andThen]
  | some i =>
    obtain ⟨e, he, _⟩ := at_lt ha
    rw [ha] at hf
    simp [he] at hf
    simp [Instr.lookup, hu, MapKept.run_getObj_map h, schk hk, hf, he, Result.andThen]
theorem sstore (hk : ∀ w, (underlying kt).run Try.prog w = .ok .string w) {mt et : TypeId} {w : World} {M clk : Nat} {es : List EntS} (hu : ∀ w, (underlying mt).run Try.prog w = .ok (.map kt et) w) (h : w.heap[M]? = some (mapV strV es clk)) (k : ByteArray) (v : Value) (hn : atV es k = none) :
    (Instr.mapUpdate mt (.map (some M)) (.string k) v).run Try.prog w = .ok () (putB w M (mapV strV (es ++ [⟨k, v, clk⟩]) (clk + 1))) := by
  have hf := sfind hk k w es
  have hl : (es.map (entV strV)).toArray.toList = es.map (entV strV) := rfl
  unfold mapV at h
  rw [hn] at hf
  simp [Instr.mapUpdate, hu, MapKept.run_getObj_map h, schk hk, hf, MapKept.run_setObj_map _ h, Result.andThen, putB, ChangeMaps.setBlock, mapV, entV]
theorem lookV_app (es : List EntS) (k : ByteArray) (v : Value) (b : Nat) (hn : lookV es k = none) (x : ByteArray) : lookV (es ++ [⟨k, v, b⟩]) x = if x = k then some v else lookV es x := by
  unfold lookV at hn ⊢
  rw [List.find?_append]
  by_cases hx : x = k
  · subst hx
    rw [if_pos rfl, Option.map_eq_none_iff.1 hn]
    simp
  · rw [if_neg hx]
    have hk : ¬ k = x := fun h => hx h.symm
    simp [hk]
theorem lookV_none {es : List EntS} {k : ByteArray} : lookV es k = none ↔ atV es k = none := by
  rw [lookV_at]
  cases h : atV es k with
  | none => simp
  | some i =>
    obtain ⟨e, he, _⟩ := at_lt h
    simp [he]
end
end Go.Proofs.Ytdddcgkgellbgab
