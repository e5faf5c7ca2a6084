/-
  Layer 15: the landed tree is what is asked of it. By an AI agent.
-/
import Derived.Test.YtpjeggbkhbghaaaTY
import Derived.Test.YtpjeggbkhbghaaaTV
import Derived.Test.YtpjeggbkhbghaaaTV
import Derived.Test.YtpjeggbkhbghaaaTW
import Derived.Test.YtpjeggbkhbghaaaTY
import Derived.Test.YtpjeggbkhbghaaaTY
namespace Go.Proofs.Ytpjeggbkhbghaaa
open Go Go.RowKit
theorem addR_right {L : List Ins} {x : Ins} (h : ∀ y ∈ L, rightB y = true) : ∀ y ∈ (addR L x).1, rightB y = true := by
  unfold addR
  split
  · exact h
  · rename_i h1
    split
    · exact h
    · split
      · exact h
      · split
        · exact h
        · intro y hy
          rcases List.mem_append.1 hy with hy | hy
          · exact h y hy
          · rw [List.mem_singleton] at hy
            subst hy
            cases h2 : rightB y with
            | true => rfl
            | false => exact absurd h2 h1
/-- A tree of the code: its blocks; all its elements are right. -/
def RTr : TreeP := fun w F p L G => ∃ T M ad, p = pB T ∧ TreeH w T M ad L G ∧ (∀ k, F k ↔ inT T M ad L k) ∧ ∀ x ∈ L, rightB x = true
theorem same_below {w w' : World} (h : w' = w) : Below w.heap.size w w' := by rw [h]; exact Below.refl _ _
theorem OutF.iff {F F' : Nat → Prop} {w w' : World} (h : OutF F w w') (hF : ∀ k, F' k ↔ F k) : OutF F' w w' := ⟨h.os, h.tape, h.output, h.size, fun k hk hn => h.block k hk fun hf => hn ((hF k).2 hf)⟩
theorem landed : FugC RTr where
  keep := fun ⟨T, M, ad, e, h, hF, hr⟩ hk _ => ⟨T, M, ad, e, h.keep (fun k hi => hk k ((hF k).2 hi)), hF, hr⟩
  le := fun ⟨T, M, ad, e, h, hF, hr⟩ k hk => h.lt ((hF k).1 hk)
  new := fun w => (new_any w).mono fun e w' ⟨T, he, M, ad, h, hF, hb⟩ => ⟨pB T, inT T M ad [], he, ⟨T, M, ad, rfl, h, fun _ => Iff.rfl, fun x hx => by cases hx⟩, hF, hb⟩
  add := fun x w ⟨T, M, ad, e, h, hF, hr⟩ _ hl => by
    subst e
    refine (add_any h hl x).mono ?_
    rintro e w' ⟨he, ad', h', hn, ho⟩
    exact ⟨he, inT T M ad' _, ⟨T, M, ad', rfl, h', fun _ => Iff.rfl, addR_right hr⟩, fun k hk => (hn k hk).imp (hF k).2 id, ho.iff hF⟩
  drop := fun i w ⟨T, M, ad, e, h, hF, hr⟩ _ hl => by
    subst e
    refine (drop_any h hl i).mono ?_
    rintro e w' ⟨he, h', ho⟩
    exact ⟨he, _, ⟨T, M, ad, rfl, h', hF, hr⟩, fun k hk => .inl hk, ho.iff hF⟩
  has := fun i w ⟨T, M, ad, e, h, hF, hr⟩ => by subst e; exact has_any h i
  len := fun w ⟨T, M, ad, e, h, hF, hr⟩ _ hl => by subst e; exact (len_any h).mono fun e w' ⟨he, hw⟩ => ⟨he, same_below hw⟩
  nodes := fun w ⟨T, M, ad, e, h, hF, hr⟩ _ hl => by subst e; exact nodes_any h hl
  text := fun w ⟨T, M, ad, e, h, hF, hr⟩ _ hl => by subst e; exact text_any h hl hr
  at_ := fun i w ⟨T, M, ad, e, h, hF, hr⟩ _ hl => by subst e; exact at_any h hl i
  plan := fun i w ⟨T, M, ad, e, h, hF, hr⟩ _ hl => by subst e; exact plan_any h hl i
end Go.Proofs.Ytpjeggbkhbghaaa
