/-
  Layer 17: the runes of a string; where each caret stands, as lists. Of no program. By an AI agent.
-/
import Derived.Test.YtejfdheiopejeaaFx1
import Derived.Test.YtejfdheiopejeaaRw
import Derived.Laws.RangeString
namespace Go.Proofs.Ytejfdheiopejeaa
open Go Go.RowKit
set_option maxRecDepth 20000
/-- A rune and how many bytes it has. -/
theorem dec_width (s : ByteArray) (i : Nat) : 1 ≤ (Utf8.decode s i).2 ∧ (Utf8.decode s i).2 ≤ 4 := by
  unfold Utf8.decode
  dsimp only
  repeat' split
  all_goals exact ⟨by dsimp only; omega, by dsimp only; omega⟩
theorem dec_rune (s : ByteArray) (i : Nat) : (Utf8.decode s i).1 ≤ 1114111 := by
  unfold Utf8.decode
  dsimp only
  have hb : ∀ k, (s.get! k).toNat < 256 := fun k => (s.get! k).toNat_lt
  have h0 := hb (i + 0)
  have h1 := hb (i + 1)
  have h2 := hb (i + 2)
  have h3 := hb (i + 3)
  have hv : ∀ c : Nat, Utf8.valid (c : Int) = true → c ≤ 1114111 := fun c h => by
    unfold Utf8.valid at h
    simp only [Bool.or_eq_true, Bool.and_eq_true, decide_eq_true_eq] at h
    omega
  have he : Utf8.runeError ≤ 1114111 := by decide
  split
  · dsimp only; omega
  · split
    · split
      · dsimp only; omega
      · exact he
    · split
      · split
        · rename_i h
          simp only [Bool.and_eq_true] at h
          exact hv _ h.2
        · exact he
      · split
        · split
          · rename_i h
            simp only [Bool.and_eq_true] at h
            exact hv _ h.2
          · exact he
        · exact he
theorem dec_in {s : ByteArray} {i : Nat} (h : i < s.size) : i + (Utf8.decode s i).2 ≤ s.size := by
  unfold Utf8.decode
  dsimp only
  split
  · dsimp only; omega
  · split
    · rename_i h1
      simp only [Bool.and_eq_true, decide_eq_true_eq] at h1
      split <;> (dsimp only; omega)
    · split
      · rename_i h1
        simp only [Bool.and_eq_true, decide_eq_true_eq] at h1
        split <;> (dsimp only; omega)
      · split
        · rename_i h1
          simp only [Bool.and_eq_true, decide_eq_true_eq] at h1
          split <;> (dsimp only; omega)
        · dsimp only; omega
/-- The runes from a place on. -/
def runesF : Nat → ByteArray → Nat → List Int
  | 0, _, _ => []
  | f + 1, s, p => if p < s.size then ((Utf8.decode s p).1 : Int) :: runesF f s (p + (Utf8.decode s p).2) else []
theorem runesF_more : ∀ (f : Nat) (s : ByteArray) (p : Nat), s.size ≤ p + f → runesF (f + 1) s p = runesF f s p
  | 0, s, p, h => by
    unfold runesF
    rw [if_neg (by omega)]
  | f + 1, s, p, h => by
    have hw := dec_width s p
    conv => lhs; unfold runesF
    conv => rhs; unfold runesF
    by_cases hp : p < s.size
    · rw [if_pos hp, if_pos hp, runesF_more f s _ (by omega)]
    · rw [if_neg hp, if_neg hp]
theorem runesF_any (s : ByteArray) (p : Nat) : ∀ (d f : Nat), s.size ≤ p + f → runesF (f + d) s p = runesF f s p
  | 0, _, _ => rfl
  | d + 1, f, h => by rw [← Nat.add_assoc, runesF_more (f + d) s p (by omega), runesF_any s p d f h]
def runesFrom (s : ByteArray) (p : Nat) : List Int := runesF (s.size - p) s p
theorem runes_end {s : ByteArray} {p : Nat} (h : ¬ p < s.size) : runesFrom s p = [] := by
  unfold runesFrom
  rw [show s.size - p = 0 by omega]
  rfl
theorem runes_next {s : ByteArray} {p : Nat} (h : p < s.size) : runesFrom s p = ((Utf8.decode s p).1 : Int) :: runesFrom s (p + (Utf8.decode s p).2) := by
  have hw := dec_width s p
  unfold runesFrom
  obtain ⟨f, hf⟩ : ∃ f, s.size - p = f + 1 := ⟨s.size - p - 1, by omega⟩
  rw [hf]
  conv => lhs; unfold runesF
  rw [if_pos h]
  congr 1
  have e : f = (s.size - (p + (Utf8.decode s p).2)) + (f - (s.size - (p + (Utf8.decode s p).2))) := by omega
  rw [e]
  exact runesF_any s _ _ _ (by omega)
theorem runes_len (s : ByteArray) : ∀ (k p : Nat), s.size - p = k → (runesFrom s p).length ≤ k := by
  intro k
  induction k using Nat.strongRecOn with
  | ind k ih =>
    intro p hk
    by_cases hp : p < s.size
    · have hw := dec_width s p
      have := ih (s.size - (p + (Utf8.decode s p).2)) (by omega) _ rfl
      rw [runes_next hp, List.length_cons]
      omega
    · rw [runes_end hp]
      exact Nat.zero_le _
/-- A rune's width. -/
def wdR (c : Int) : Int := if c = 10 then 0 else if 4352 ≤ c then 2 else 1
theorem wdR_le (c : Int) : 0 ≤ wdR c ∧ wdR c ≤ 2 := by
  unfold wdR
  split
  · exact ⟨by decide, by decide⟩
  · split <;> exact ⟨by decide, by decide⟩
/-- Where a rune's caret stands, the pen being there; where the pen is behind it. -/
def capR (k : Int) (st : IDt) (c : Int) : IDt := if k < st.1 + wdR c ∧ c ≠ 10 then (0, st.2 + 1) else st
def penR (k : Int) (st : IDt) (c : Int) : IDt := if c = 10 then (0, (capR k st c).2 + 1) else ((capR k st c).1 + wdR c, (capR k st c).2)
def spotsR (k : Int) : List Int → IDt → List IDt
  | [], st => [st]
  | c :: r, st => capR k st c :: spotsR k r (penR k st c)
theorem spotsR_len (k : Int) : ∀ (l : List Int) (st : IDt), (spotsR k l st).length = l.length + 1
  | [], _ => rfl
  | c :: r, st => by rw [spotsR, List.length_cons, spotsR_len k r, List.length_cons]
/-- The pen stays on the page. -/
theorem cap_on {k : Int} (hk : 2 ≤ k) {st : IDt} (h : 0 ≤ st.1 ∧ st.1 ≤ k ∧ 0 ≤ st.2) (c : Int) : 0 ≤ (capR k st c).1 ∧ (capR k st c).1 ≤ k ∧ (c ≠ 10 → (capR k st c).1 + wdR c ≤ k) ∧ st.2 ≤ (capR k st c).2 ∧ (capR k st c).2 ≤ st.2 + 1 := by
  have hw := wdR_le c
  unfold capR
  split
  · exact ⟨Int.le_refl _, by show (0 : Int) ≤ k; omega, fun _ => by show 0 + wdR c ≤ k; omega, by show st.2 ≤ st.2 + 1; omega, Int.le_refl _⟩
  · rename_i hn
    refine ⟨h.1, h.2.1, fun hc => ?_, Int.le_refl _, by omega⟩
    by_cases q : k < st.1 + wdR c
    · exact absurd ⟨q, hc⟩ hn
    · omega
theorem pen_on {k : Int} (hk : 2 ≤ k) {st : IDt} (h : 0 ≤ st.1 ∧ st.1 ≤ k ∧ 0 ≤ st.2) (c : Int) : 0 ≤ (penR k st c).1 ∧ (penR k st c).1 ≤ k ∧ st.2 ≤ (penR k st c).2 ∧ (penR k st c).2 ≤ st.2 + 2 := by
  have h1 := cap_on hk h c
  have hw := wdR_le c
  unfold penR
  split
  · exact ⟨Int.le_refl _, by show (0 : Int) ≤ k; omega, by show st.2 ≤ _ + 1; omega, by show _ + 1 ≤ st.2 + 2; omega⟩
  · rename_i hc
    exact ⟨by show 0 ≤ _ + wdR c; omega, h1.2.2.1 hc, h1.2.2.2.1, by show (capR k st c).2 ≤ st.2 + 2; omega⟩
/-- The iterator of a string, at another place. -/
def itS (w : World) (g : Nat) (s : ByteArray) (p : Nat) : World := { w with heap := w.heap.setIfInBounds g (.stringIter s p) }
theorem itS_at {w : World} {g : Nat} {o : Obj} (h : w.heap[g]? = some o) (s : ByteArray) (p : Nat) : (itS w g s p).heap[g]? = some (.stringIter s p) := by
  have hlt : g < w.heap.size := by
    rcases Nat.lt_or_ge g w.heap.size with h1 | h1
    · exact h1
    · rw [Array.getElem?_eq_none h1] at h; cases h
  show (w.heap.setIfInBounds g (Obj.stringIter s p))[g]? = _
  simp [hlt]
theorem itS_below (w : World) {B g : Nat} (hB : B ≤ g) (s : ByteArray) (p : Nat) : Below B w (itS w g s p) := by
  refine ⟨rfl, rfl, rfl, by show w.heap.size ≤ (w.heap.setIfInBounds g _).size; simp, fun k hk => ?_⟩
  show (w.heap.setIfInBounds g (Obj.stringIter s p))[k]? = w.heap[k]?
  rw [Array.getElem?_setIfInBounds_ne (by omega)]
theorem itS_other (w : World) {g k : Nat} (h : k ≠ g) (s : ByteArray) (p : Nat) : (itS w g s p).heap[k]? = w.heap[k]? := by
  show (w.heap.setIfInBounds g (Obj.stringIter s p))[k]? = w.heap[k]?
  rw [Array.getElem?_setIfInBounds_ne (fun e => h e.symm)]
theorem itS_size (w : World) (g : Nat) (s : ByteArray) (p : Nat) : (itS w g s p).heap.size = w.heap.size := by
  show (w.heap.setIfInBounds g _).size = _
  simp
theorem run_next_str {P : Program} {w : World} {g : Nat} {s : ByteArray} {p : Nat} (ty : TypeId) (hg : w.heap[g]? = some (.stringIter s p)) (h : p < s.size) :
    (Instr.next (.pointer (some ⟨g, 0, none⟩)) true ty).run P w = .ok (.tuple #[.bool true, .int .i64 (p : Int), .int .i32 ((Utf8.decode s p).1 : Int)]) (itS w g s (p + (Utf8.decode s p).2)) := by
  simp only [Instr.next, getObj, setObj, Sem.run_bind, Sem.run, hg, Result.andThen, h, if_true]
  simp [goInt, itS]
theorem run_over_str {P : Program} {w : World} {g : Nat} {s : ByteArray} {p : Nat} (ty : TypeId) (hg : w.heap[g]? = some (.stringIter s p)) (h : ¬ p < s.size) :
    (Instr.next (.pointer (some ⟨g, 0, none⟩)) true ty).run P w = .ok (.tuple #[.bool false]) w := by
  simp [Instr.next, getObj, Sem.run, hg, h]
end Go.Proofs.Ytejfdheiopejeaa
