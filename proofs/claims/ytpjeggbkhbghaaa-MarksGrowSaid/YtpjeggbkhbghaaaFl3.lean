/-
  Layer 15: FuguePlans. By an AI agent.
-/
import Derived.Test.YtpjeggbkhbghaaaFl1
namespace Go.Proofs.Ytpjeggbkhbghaaa
open Go Go.RowKit
set_option maxRecDepth 20000
theorem stepT_gone {t : Txt} (h : ∀ i ∈ t.G, hasL t.L i) (x : Dot) : ∀ i ∈ (stepT t x).G, hasL (stepT t x).L i := by
  unfold stepT
  split
  · show ∀ i ∈ (dropR t.L t.G x.drop).1, hasL t.L i
    unfold dropR
    split
    · exact h
    · rename_i h1
      split
      · exact h
      · intro i hi
        rcases List.mem_append.1 hi with hi | hi
        · exact h i hi
        · rw [List.mem_singleton] at hi
          subst hi
          exact hasB_iff.1 (by cases h3 : hasB t.L x.drop with | true => rfl | false => exact absurd h3 h1)
  · show ∀ i ∈ t.G, hasL (addR t.L x.ins).1 i
    intro i hi
    obtain ⟨y, hy, e⟩ := h i hi
    refine ⟨y, ?_, e⟩
    unfold addR
    repeat' split
    all_goals first | exact hy | exact List.mem_append.2 (.inl hy)
theorem fold_gone : ∀ (l : List Dot) (s : Txt), (∀ i ∈ s.G, hasL s.L i) → ∀ i ∈ (l.foldl stepT s).G, hasL (l.foldl stepT s).L i
  | [], _, h => h
  | x :: r, _, h => fold_gone r _ (stepT_gone h x)
theorem txtK_gone (l : List Dot) (k : Nat) : ∀ i ∈ (txtK l k).G, hasL (txtK l k).L i := fold_gone _ _ (fun i hi => by cases hi)
/-- What is planned and taken. -/
theorem plan_add {L : List Ins} {G : List IDt} {x : Ins} {j : Int} (hok : Ok L) (hl : L.length ≤ 4096) (hG : ∀ i ∈ G, hasL L i) (h0 : (planR L G j).2.2 = 0) (h1 : x.par = (planR L G j).1) (h2 : x.right = (planR L G j).2.1) (ha : (addR L x).2 = 0) :
    0 ≤ j ∧ j.toNat ≤ (liveL G (nodesL L)).length ∧ (addR L x).1 = L ++ [x] ∧ Ok (L ++ [x]) ∧ (L ++ [x]).length ≤ 4096 ∧ liveL G (nodesL (L ++ [x])) = (liveL G (nodesL L)).take j.toNat ++ x :: (liveL G (nodesL L)).drop j.toNat := by
  have hj : ¬ (j < 0 ∨ ((liveL G (nodesL L)).length : Int) < j) := fun h => by
    unfold planR at h0
    rw [if_pos h] at h0
    exact absurd h0 (by decide)
  have hp : planR L G j = ((planL L G j.toNat).1, (planL L G j.toNat).2, 0) := by unfold planR; rw [if_neg hj]
  rw [hp] at h1 h2
  obtain ⟨e1, e2⟩ : (addR L x).1 = L ++ [x] ∧ hasB L x.id = false := by
    unfold addR at ha ⊢
    split at ha
    · exact absurd (show (1 : Int) = 0 from ha) (by decide)
    · rename_i g1
      rw [if_neg g1]
      split at ha
      · exact absurd (show (12 : Int) = 0 from ha) (by decide)
      · rename_i g2
        rw [if_neg g2]
        split at ha
        · exact absurd (show (13 : Int) = 0 from ha) (by decide)
        · rename_i g3
          rw [if_neg g3]
          split at ha
          · exact absurd (show (14 : Int) = 0 from ha) (by decide)
          · rename_i g4
            rw [if_neg g4]
            exact ⟨rfl, by cases h9 : hasB L x.id with | false => rfl | true => exact absurd h9 g2⟩
  obtain ⟨o1, _, o3⟩ := addR_ok (x := x) hok hl
  rw [e1] at o1 o3
  have hi : j.toNat ≤ (liveL G (nodesL L)).length := by omega
  refine ⟨by omega, hi, e1, o1, o3, plan_live o1 hi (by rw [h1, h2]) fun hx => ?_⟩
  have := hasB_iff.2 (hG _ hx)
  rw [e2] at this
  cases this
theorem put_at {α : Type} {V : List α} {i : Nat} (hi : i ≤ V.length) (x : α) : (V.take i ++ x :: V.drop i).length = V.length + 1 ∧ (∀ k, k < i → (V.take i ++ x :: V.drop i)[k]? = V[k]?) ∧ (V.take i ++ x :: V.drop i)[i]? = some x ∧ ∀ k, i < k → (V.take i ++ x :: V.drop i)[k]? = V[k - 1]? := by
  have ht : (V.take i).length = i := by rw [List.length_take]; omega
  refine ⟨by rw [List.length_append, List.length_cons, ht, List.length_drop]; omega, fun k hk => ?_, ?_, fun k hk => ?_⟩
  · rw [List.getElem?_append_left (by omega), List.getElem?_take, if_pos hk]
  · rw [List.getElem?_append_right (by omega), ht, Nat.sub_self, List.getElem?_cons_zero]
  · rw [List.getElem?_append_right (by omega), ht, show k - i = (k - 1 - i) + 1 by omega, List.getElem?_cons_succ, List.getElem?_drop, show i + (k - 1 - i) = k - 1 by omega]
theorem atR_of {L : List Ins} {G : List IDt} {k : Nat} {y : Ins} (h : (liveL G (nodesL L))[k]? = some y) : atR L G (k : Int) = (y.id, 0) := by
  have hk := (List.getElem?_eq_some_iff.1 h).1
  unfold atR
  rw [if_neg (by omega), Int.toNat_natCast, h]
  rfl
section
variable {R : TreeP} (K : FugC R)
include K
end
end Go.Proofs.Ytpjeggbkhbghaaa
