/-
  Layer 15: FugueClones at the landed code. By an AI agent.
-/
import Derived.Test.YtljciakgdpihdaaFl14
import Derived.Test.YtljciakgdpihdaaFu19
import Derived.Test.YtljciakgdpihdaaFu21
namespace Go.Proofs.Ytljciakgdpihdaa
open Go Go.RowKit
set_option maxRecDepth 20000
theorem fugueclones_much {R : TreeP} (K : FugC R) {A A' A'' : Option Addr} {c c' c'' n n' n'' : Nat} (hn : 60 < n ∨ 60 < n' ∨ 60 < n'') (w : World) :
    Calls Try.prog 9 #[.slice A n c, .slice A' n' c', .slice A'' n'' c''] w fun e w' => e = .returned (.bool true) ∧ Below w.heap.size w w' := by
  by_cases h1 : 60 < n
  · have g1 : (60 : Int) < (n : Int) := by omega
    clear hn h1
    go_enter Try.func9, Try.ntmps9
    go_wp2_with fail
    go_at_call 11
    refine (awake15 K w).mono ?_
    rintro z v9 ⟨rfl, h0⟩
    go_wp2_with fail
    go_ret
    exact ⟨rfl, h0⟩
  · have g1 : ¬ (60 : Int) < (n : Int) := by omega
    by_cases h2 : 60 < n'
    · have g2 : (60 : Int) < (n' : Int) := by omega
      clear hn h1 h2
      go_enter Try.func9, Try.ntmps9
      go_wp2_with fail
      go_at_call 11
      refine (awake15 K w).mono ?_
      rintro z v9 ⟨rfl, h0⟩
      go_wp2_with fail
      go_ret
      exact ⟨rfl, h0⟩
    · have g2 : ¬ (60 : Int) < (n' : Int) := by omega
      have g3 : (60 : Int) < (n'' : Int) := by have := (hn.resolve_left h1).resolve_left h2; omega
      clear hn h1 h2
      go_enter Try.func9, Try.ntmps9
      go_wp2_with fail
      go_at_call 11
      refine (awake15 K w).mono ?_
      rintro z v9 ⟨rfl, h0⟩
      go_wp2_with fail
      go_ret
      exact ⟨rfl, h0⟩
theorem clones15 {F : Nat → Prop} {p : Value} {L : List Ins} {G : List IDt} (w : World) (h : RTr w F p L G) : Calls Try.prog 31 #[p] w fun e w' => ∃ T' F', e = .returned (pB T') ∧ RTr w' F' (pB T') L G ∧ (∀ b, F' b → w.heap.size ≤ b) ∧ Below w.heap.size w w' := by
  obtain ⟨T, M, ad, rfl, ht, _, hr⟩ := h
  refine (clone_any ht).mono ?_
  rintro e w' ⟨T', M', ad', he, ht', hn, hb⟩
  exact ⟨T', inT T' M' ad' L, he, ⟨T', M', ad', rfl, ht', fun _ => Iff.rfl, hr⟩, hn, hb⟩
theorem fugueclones_w {A A' A'' : Option Addr} {c c' c'' : Nat} {l l' l'' : List Dot} (w : World) (r : RdR doE w w.heap.size A c l) (r' : RdR doE w w.heap.size A' c' l') (r'' : RdR doE w w.heap.size A'' c'' l'') :
    Calls Try.prog 9 #[.slice A l.length c, .slice A' l'.length c', .slice A'' l''.length c''] w fun e w' => e = .returned (.bool true) ∧ Below w.heap.size w w' := by
  by_cases h : 60 < l.length ∨ 60 < l'.length ∨ 60 < l''.length
  · exact fugueclones_much landed h w
  · exact fugueclones_law landed clones15 rfl (by omega) rfl (by omega) rfl (by omega) w r r' r''
end Go.Proofs.Ytljciakgdpihdaa
