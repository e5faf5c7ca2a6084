/-
  Layer 15: the steps of unlike names; two elements of a row change places. By an AI agent.
-/
import Derived.Test.YtpjeggbkhbghaaaFl10
namespace Go.Proofs.Ytpjeggbkhbghaaa
open Go Go.RowKit
/-- Both add, and one name. -/
def hitB (x y : Dot) : Bool := decide (x.kind ≠ 0) && (decide (y.kind ≠ 0) && decide (y.ins.id = x.ins.id))
def onceS (acc : List Dot) (x : Dot) : List Dot := if acc.any (hitB x) then acc else acc ++ [x]
def onceK (l : List Dot) (k : Nat) : List Dot := (l.take k).foldl onceS []
theorem onceK_succ {l : List Dot} {k : Nat} {x : Dot} (h : l[k]? = some x) : onceK l (k + 1) = onceS (onceK l k) x := by
  unfold onceK
  rw [take_snoc h, List.foldl_append]
  rfl
theorem onceS_len (acc : List Dot) (x : Dot) : (onceS acc x).length ≤ acc.length + 1 := by
  unfold onceS
  split
  · omega
  · rw [List.length_append, List.length_singleton]
    omega
theorem once_len : ∀ (l acc : List Dot), (l.foldl onceS acc).length ≤ acc.length + l.length
  | [], _ => Nat.le_refl _
  | x :: r, acc => by
    have h1 := once_len r (onceS acc x)
    have h2 := onceS_len acc x
    rw [List.foldl_cons, List.length_cons]
    omega
theorem onceK_len (l : List Dot) (k : Nat) : (onceK l k).length ≤ k := by
  have h := once_len (l.take k) []
  rw [List.length_nil, List.length_take] at h
  unfold onceK
  omega
def Apart (l : List Dot) : Prop := ∀ x ∈ l, ∀ y ∈ l, x.kind ≠ 0 → y.kind ≠ 0 → x.ins.id = y.ins.id → x = y
theorem onceS_apart {acc : List Dot} (h : Apart acc) (x : Dot) : Apart (onceS acc x) := by
  unfold onceS
  split
  · exact h
  · rename_i hn
    have hno : ∀ y ∈ acc, ¬ (x.kind ≠ 0 ∧ y.kind ≠ 0 ∧ y.ins.id = x.ins.id) := fun y hy ⟨h1, h2, h3⟩ => hn (List.any_eq_true.2 ⟨y, hy, by unfold hitB; simp [h1, h2, h3]⟩)
    intro a ha b hb ka kb e
    rcases List.mem_append.1 ha with h1 | h1 <;> rcases List.mem_append.1 hb with h2 | h2
    · exact h a h1 b h2 ka kb e
    · rw [List.mem_singleton] at h2
      subst h2
      exact absurd ⟨kb, ka, e⟩ (hno a h1)
    · rw [List.mem_singleton] at h1
      subst h1
      exact absurd ⟨ka, kb, e.symm⟩ (hno b h2)
    · rw [List.mem_singleton] at h1 h2
      rw [h1, h2]
theorem once_apart : ∀ (l acc : List Dot), Apart acc → Apart (l.foldl onceS acc)
  | [], _, h => h
  | x :: r, _, h => once_apart r _ (onceS_apart h x)
theorem onceK_apart (l : List Dot) (k : Nat) : Apart (onceK l k) := once_apart _ _ (fun x hx => by cases hx)
theorem apart_unlike {l : List Dot} (h : Apart l) : Unlike (l.map actOf) := by
  intro x y hx hy e
  obtain ⟨a, ha, ea⟩ := List.mem_map.1 hx
  obtain ⟨b, hb, eb⟩ := List.mem_map.1 hy
  unfold actOf at ea eb
  split at ea
  · cases ea
  · rename_i ka
    split at eb
    · cases eb
    · rename_i kb
      injection ea with ea
      injection eb with eb
      subst ea eb
      rw [h a ha b hb ka kb e]
def swapL {α : Type} (M : List α) (p q : Nat) (y z : α) : List α := (M.set p z).set q y
theorem swap_mem {α : Type} {M : List α} {p q : Nat} {y z : α} (hp : M[p]? = some y) (hq : M[q]? = some z) (a : α) : a ∈ swapL M p q y z ↔ a ∈ M := by
  obtain ⟨h1, rfl⟩ := List.getElem?_eq_some_iff.1 hp
  obtain ⟨h2, rfl⟩ := List.getElem?_eq_some_iff.1 hq
  exact (List.set_set_perm h1 h2).mem_iff
theorem swap_len {α : Type} (M : List α) (p q : Nat) (y z : α) : (swapL M p q y z).length = M.length := by unfold swapL; rw [List.length_set, List.length_set]
def setL : List Value → Nat → List Value → List Value
  | xs, _, [] => xs
  | xs, o, v :: r => setL (xs.set o v) (o + 1) r
theorem setL_app : ∀ (vs A r : List Value) (o : Nat), setL (A ++ r) (A.length + o) vs = A ++ setL r o vs
  | [], _, _, _ => rfl
  | v :: vs, A, r, o => by
    unfold setL
    rw [List.set_append_right _ _ (Nat.le_add_right _ _), Nat.add_sub_cancel_left, Nat.add_assoc]
    exact setL_app vs A (r.set o v) (o + 1)
theorem setL_front : ∀ (vs A r : List Value), A.length = vs.length → setL (A ++ r) 0 vs = vs ++ r
  | [], A, r, h => by rw [List.length_eq_zero_iff.1 h]; rfl
  | v :: vs, [], r, h => by simp at h
  | v :: vs, a :: A, r, h => by
    unfold setL
    rw [List.cons_append, List.set_cons_zero]
    have h2 := setL_app vs [v] (A ++ r) 0
    simp only [List.length_singleton, List.singleton_append, Nat.add_zero] at h2
    rw [Nat.zero_add, h2, setL_front vs A r (by simpa using h)]
    rfl
theorem setL_all {α : Type} (E : Enc α) (x : α) : ∀ (L : List α) (p : Nat), p < L.length → setL (E.all L) (p * E.size) (E.enc x) = E.all (L.set p x)
  | [], p, h => by simp at h
  | y :: r, 0, _ => by
    unfold Enc.all
    rw [List.flatMap_cons, Nat.zero_mul, List.set_cons_zero, List.flatMap_cons]
    exact setL_front _ _ _ (by rw [E.len, E.len])
  | y :: r, p + 1, h => by
    have h2 := setL_all E x r p (by simpa using h)
    unfold Enc.all at h2 ⊢
    rw [List.flatMap_cons, List.set_cons_succ, List.flatMap_cons, ← h2]
    have h3 := setL_app (E.enc x) (E.enc y) (r.flatMap E.enc) (p * E.size)
    rw [E.len] at h3
    rw [← h3, Nat.succ_mul, Nat.add_comm]
theorem ownsRow_sets {B n c g size : Nat} {e : TypeId} : ∀ (vs : List Value) (o : Nat) (w : World) (xs : List Value), w.ownsRow B e size (.slice (some ⟨g, 0, none⟩) n c) n xs → (w.setCells g o vs).ownsRow B e size (.slice (some ⟨g, 0, none⟩) n c) n (setL xs o vs)
  | [], _, _, _, h => h
  | v :: r, o, _, _, h => ownsRow_sets r (o + 1) _ _ (World.ownsRow.stored h o v).1
theorem OwnR.put {α : Type} {E : Enc α} {w : World} {B c g : Nat} {e : TypeId} {L : List α} (h : OwnR E w B e (some ⟨g, 0, none⟩) c L) {p : Nat} (hp : p < L.length) (x : α) : OwnR E (w.setCells g (p * E.size) (E.enc x)) B e (some ⟨g, 0, none⟩) c (L.set p x) := by
  have h1 := ownsRow_sets (E.enc x) (p * E.size) w _ h
  rw [setL_all E x L p hp] at h1
  unfold OwnR
  rw [List.length_set]
  exact h1
theorem mix_nums {q N : Nat} {z : Int} (hN : 0 < N) (hN2 : N ≤ 40) : ∃ P U Q : Nat, (q : Int).tmod (N : Int) = (P : Int) ∧ IntKind.u64.wrap z = (U : Int) ∧ IntKind.u64.wrap (N : Int) = (N : Int) ∧ (U : Int).tmod (N : Int) = (Q : Int) ∧ IntKind.i64.wrap (Q : Int) = (Q : Int) ∧ P < N ∧ Q < N := by
  refine ⟨q % N, (z % 18446744073709551616).toNat, (z % 18446744073709551616).toNat % N, rfl, ?_, ?_, rfl, ?_, Nat.mod_lt _ hN, Nat.mod_lt _ hN⟩
  · rw [IntKind.wrap_u64]
    omega
  · rw [IntKind.wrap_u64]
    omega
  · have := Nat.mod_lt (z % 18446744073709551616).toNat hN
    rw [IntKind.wrap_i64]
    omega
/-- A step is written. -/
def set9 (w : World) (g o : Nat) (x : Dot) : World := ((((((((w.setCell ⟨g, o, none⟩ (.int .i64 x.kind)).setCell ⟨g, o + 1, none⟩ (.int .i64 x.ins.id.1)).setCell ⟨g, o + 2, none⟩ (.int .i64 x.ins.id.2)).setCell ⟨g, o + 3, none⟩ (.int .i64 x.ins.par.1)).setCell ⟨g, o + 4, none⟩ (.int .i64 x.ins.par.2)).setCell ⟨g, o + 5, none⟩ (.bool x.ins.right)).setCell ⟨g, o + 6, none⟩ (.int .i32 x.ins.rune)).setCell ⟨g, o + 7, none⟩ (.int .i64 x.drop.1)).setCell ⟨g, o + 8, none⟩ (.int .i64 x.drop.2)
theorem set9_eq (w : World) (g o : Nat) (x : Dot) : set9 w g o x = w.setCells g o (doE.enc x) := rfl
theorem sets_below15 (g : Nat) : ∀ (vs : List Value) (o : Nat) (w : World), Below g w (w.setCells g o vs)
  | [], _, w => Below.refl _ w
  | v :: r, o, w => ((Below.refl g w).setCell (p := ⟨g, o, none⟩) (Nat.le_refl g) v).trans (sets_below15 g r (o + 1) _)
theorem OwnR.ptr {α : Type} {E : Enc α} {w : World} {B c : Nat} {e : TypeId} {A : Option Addr} {L : List α} (h : OwnR E w B e A c L) (hn : 0 < L.length) : ∃ g, A = some ⟨g, 0, none⟩ := by
  obtain ⟨_, h2⟩ := h
  rcases h2 with ⟨_, h0⟩ | ⟨g, cap, cur, hv, _⟩
  · omega
  · simp only [Value.slice.injEq] at hv
    exact ⟨g, hv.1⟩
end Go.Proofs.Ytpjeggbkhbghaaa
