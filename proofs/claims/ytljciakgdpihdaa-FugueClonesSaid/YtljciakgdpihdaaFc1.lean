/-
  Layer 15: what is asked of the landed tree; steps by lists. By an AI agent.
-/
import Derived.Test.YtljciakgdpihdaaFa3
import Derived.Test.YtljciakgdpihdaaTA
import Derived.Test.YtljciakgdpihdaaTA
import Derived.Test.YtljciakgdpihdaaTA
namespace Go.Proofs.Ytljciakgdpihdaa
open Go Go.RowKit
theorem right_fair : Fair rightB := by
  intro x h
  unfold rightB idOk at h
  simp only [Bool.and_eq_true, decide_eq_true_eq, Bool.or_eq_true] at h
  obtain ⟨⟨_, _, h1, _⟩, _, h2⟩ := h
  refine ⟨fun e => ?_, fun e => ?_⟩
  · rw [e] at h1
    exact absurd h1 (by decide)
  · rcases h2 with h2 | h2
    · exact h2
    · exact absurd e h2
/-- Adding and dropping are a step of the text. -/
theorem addR_doT {L : List Ins} {G : List IDt} {x : Ins} (hl : L.length ≤ 4096) : doT rightB ⟨L, G⟩ (.add x) = ⟨(addR L x).1, G⟩ := by
  show (if mayAdd rightB ⟨L, G⟩ x then (⟨L ++ [x], G⟩ : Txt) else ⟨L, G⟩) = ⟨(addR L x).1, G⟩
  unfold addR
  by_cases h1 : rightB x = false
  · rw [if_pos h1, if_neg (fun h => by have := h.1; rw [h1] at this; cases this)]
  · have h1' : rightB x = true := by cases h : rightB x <;> simp_all
    rw [if_neg h1]
    by_cases h2 : hasB L x.id = true
    · rw [if_pos h2, if_neg (fun h => h.2.1 (hasB_iff.1 h2))]
    · rw [if_neg h2]
      by_cases h3 : x.par ≠ (0, 0) ∧ hasB L x.par = false
      · rw [if_pos h3, if_neg (fun h => by
          rcases h.2.2.1 with h4 | h4
          · exact h3.1 h4
          · have := hasB_iff.2 h4
            rw [h3.2] at this
            cases this)]
      · rw [if_neg h3]
        have h3' : x.par = (0, 0) ∨ hasL L x.par := by
          by_cases h4 : x.par = (0, 0)
          · exact .inl h4
          · refine .inr (hasB_iff.1 ?_)
            cases h5 : hasB L x.par with
            | true => rfl
            | false => exact absurd ⟨h4, h5⟩ h3
        by_cases h4 : L.length = 4096
        · rw [if_pos h4, if_neg (fun h => by have h5 : L.length < 4096 := h.2.2.2; omega)]
        · rw [if_neg h4, if_pos ⟨h1', fun h => h2 (hasB_iff.2 h), h3', by show L.length < 4096; omega⟩]
theorem dropR_doT {L : List Ins} {G : List IDt} {i : IDt} : doT rightB ⟨L, G⟩ (.drop i) = ⟨L, (dropR L G i).1⟩ := by
  show (if mayDrop ⟨L, G⟩ i then (⟨L, G ++ [i]⟩ : Txt) else ⟨L, G⟩) = ⟨L, (dropR L G i).1⟩
  unfold dropR
  by_cases h1 : hasB L i = false
  · rw [if_pos h1, if_neg (fun h => by have := hasB_iff.2 h.1; rw [h1] at this; cases this)]
  · have h1' : hasL L i := hasB_iff.1 (by cases h : hasB L i <;> simp_all)
    rw [if_neg h1]
    by_cases h2 : goneB G i = true
    · rw [if_pos h2, if_neg (fun h => h.2 (by rw [goneB_eq] at h2; exact of_decide_eq_true h2))]
    · rw [if_neg h2, if_pos ⟨h1', fun h => h2 (by rw [goneB_eq]; exact decide_eq_true h)⟩]
theorem addR_ok {L : List Ins} {x : Ins} (h : Ok L) (hl : L.length ≤ 4096) : Ok (addR L x).1 ∧ (addR L x).1.length ≤ L.length + 1 ∧ (addR L x).1.length ≤ 4096 := by
  have h1 := (doT_ok right_fair (t := ⟨L, []⟩) h (.add x)).1
  rw [addR_doT hl] at h1
  refine ⟨h1, ?_⟩
  unfold addR
  split
  · exact ⟨Nat.le_succ _, hl⟩
  · split
    · exact ⟨Nat.le_succ _, hl⟩
    · split
      · exact ⟨Nat.le_succ _, hl⟩
      · split
        · exact ⟨Nat.le_succ _, hl⟩
        · rename_i h5
          show (L ++ [x]).length ≤ _ ∧ (L ++ [x]).length ≤ _
          rw [List.length_append, List.length_singleton]
          omega
/-- Outside the blocks of F nothing that was there is another one. -/
structure OutF (F : Nat → Prop) (w w' : World) : Prop where
  os : w'.os = w.os
  tape : w'.tape = w.tape
  output : w'.output = w.output
  size : w.heap.size ≤ w'.heap.size
  block : ∀ k, k < w.heap.size → ¬ F k → w'.heap[k]? = w.heap[k]?
theorem OutF.of {F : Nat → Prop} {w w' : World} (h : Below w.heap.size w w') : OutF F w w' := ⟨h.os, h.tape, h.output, h.size, fun k hk _ => h.block k hk⟩
theorem OutF.below {F : Nat → Prop} {B : Nat} {w w' : World} (h : OutF F w w') (hF : ∀ k, F k → B ≤ k) (hB : B ≤ w.heap.size) : Below B w w' := ⟨h.os, h.tape, h.output, h.size, fun k hk => h.block k (Nat.lt_of_lt_of_le hk hB) (fun hf => by have := hF k hf; omega)⟩
/-- A tree of the code: the blocks that it holds, the elements as they came, what was dropped. -/
abbrev TreeP := World → (Nat → Prop) → Value → List Ins → List IDt → Prop
/-- What is asked of the code. -/
structure FugC (R : TreeP) : Prop where
  keep : ∀ {w w' F p L G}, R w F p L G → (∀ k, F k → w'.heap[k]? = w.heap[k]?) → w.heap.size ≤ w'.heap.size → R w' F p L G
  le : ∀ {w F p L G}, R w F p L G → ∀ k, F k → k < w.heap.size
  new : ∀ w : World, Calls Try.prog 12 #[] w fun x w' => ∃ p F, x = .returned p ∧ R w' F p [] [] ∧ (∀ k, F k → w.heap.size ≤ k) ∧ Below w.heap.size w w'
  add : ∀ {F : Nat → Prop} {p : Value} {L : List Ins} {G : List IDt} (x : Ins) (w : World), R w F p L G → Ok L → L.length ≤ 4096 →
    Calls Try.prog 30 #[p, insV x] w fun e w' => e = .returned (.int .i64 (addR L x).2) ∧ ∃ F' : Nat → Prop, R w' F' p (addR L x).1 G ∧ (∀ k, F' k → F k ∨ w.heap.size ≤ k) ∧ OutF F w w'
  drop : ∀ {F : Nat → Prop} {p : Value} {L : List Ins} {G : List IDt} (i : IDt) (w : World), R w F p L G → Ok L → L.length ≤ 4096 →
    Calls Try.prog 33 #[p, idV i] w fun e w' => e = .returned (.int .i64 (dropR L G i).2) ∧ ∃ F' : Nat → Prop, R w' F' p L (dropR L G i).1 ∧ (∀ k, F' k → F k ∨ w.heap.size ≤ k) ∧ OutF F w w'
  has : ∀ {F : Nat → Prop} {p : Value} {L : List Ins} {G : List IDt} (i : IDt) (w : World), R w F p L G →
    Calls Try.prog 25 #[p, idV i] w fun e w' => e = .returned (.bool (hasB L i)) ∧ Below w.heap.size w w'
  len : ∀ {F : Nat → Prop} {p : Value} {L : List Ins} {G : List IDt} (w : World), R w F p L G → Ok L → L.length ≤ 4096 →
    Calls Try.prog 19 #[p] w fun e w' => e = .returned (.int .i64 ((liveL G (nodesL L)).length : Int)) ∧ Below w.heap.size w w'
  nodes : ∀ {F : Nat → Prop} {p : Value} {L : List Ins} {G : List IDt} (w : World), R w F p L G → Ok L → L.length ≤ 4096 →
    Calls Try.prog 15 #[p] w fun e w' => ∃ A c, e = .returned (.slice A (nodesL L).length c) ∧ RdR nodE w' w'.heap.size A c ((nodesL L).map (nodeOf G)) ∧ (∀ ad, A = some ad → w.heap.size ≤ ad.block) ∧ Below w.heap.size w w'
  text : ∀ {F : Nat → Prop} {p : Value} {L : List Ins} {G : List IDt} (w : World), R w F p L G → Ok L → L.length ≤ 4096 →
    Calls Try.prog 17 #[p] w fun e w' => e = .returned (.string (textN ((liveL G (nodesL L)).map (nodeOf G)))) ∧ Below w.heap.size w w'
  at_ : ∀ {F : Nat → Prop} {p : Value} {L : List Ins} {G : List IDt} (i : Int) (w : World), R w F p L G → Ok L → L.length ≤ 4096 →
    Calls Try.prog 21 #[p, .int .i64 i] w fun e w' => e = .returned (.tuple #[idV (atR L G i).1, .int .i64 (atR L G i).2]) ∧ Below w.heap.size w w'
  plan : ∀ {F : Nat → Prop} {p : Value} {L : List Ins} {G : List IDt} (i : Int) (w : World), R w F p L G → Ok L → L.length ≤ 4096 →
    Calls Try.prog 23 #[p, .int .i64 i] w fun e w' => e = .returned (.tuple #[idV (planR L G i).1, .bool (planR L G i).2.1, .int .i64 (planR L G i).2.2]) ∧ Below w.heap.size w w'
theorem FugC.next {R : TreeP} (K : FugC R) {w w' : World} {F : Nat → Prop} {p : Value} {L : List Ins} {G : List IDt} (h : R w F p L G) (hb : Below w.heap.size w w') : R w' F p L G :=
  K.keep h (fun k hk => hb.block k (K.le h k hk)) hb.size
/-- Another tree's step leaves this one as it is, where they hold no block together. -/
theorem FugC.beside {R : TreeP} (K : FugC R) {w w' : World} {F F2 : Nat → Prop} {p : Value} {L : List Ins} {G : List IDt} (h : R w F p L G) (ho : OutF F2 w w') (hd : ∀ k, F k → ¬ F2 k) : R w' F p L G :=
  K.keep h (fun k hk => ho.block k (K.le h k hk) (hd k hk)) ho.size
/-- A step: what it is, the element, the name. -/
structure Dot where
  kind : Int
  ins : Ins
  drop : IDt
def doE : Enc Dot := ⟨fun k => [.int .i64 k.kind, .int .i64 k.ins.id.1, .int .i64 k.ins.id.2, .int .i64 k.ins.par.1, .int .i64 k.ins.par.2, .bool k.ins.right, .int .i32 k.ins.rune, .int .i64 k.drop.1, .int .i64 k.drop.2], 9, fun _ => rfl, fun k v h => by simp at h; rcases h with rfl | rfl | rfl | rfl | rfl | rfl | rfl | rfl | rfl <;> rfl, by decide⟩
abbrev doV (k : Dot) : Value := .agg #[.int .i64 k.kind, .int .i64 k.ins.id.1, .int .i64 k.ins.id.2, .int .i64 k.ins.par.1, .int .i64 k.ins.par.2, .bool k.ins.right, .int .i32 k.ins.rune, .int .i64 k.drop.1, .int .i64 k.drop.2]
/-- Behind a step. -/
def stepT (t : Txt) (k : Dot) : Txt := if k.kind = 0 then ⟨t.L, (dropR t.L t.G k.drop).1⟩ else ⟨(addR t.L k.ins).1, t.G⟩
def actOf (k : Dot) : Act := if k.kind = 0 then .drop k.drop else .add k.ins
theorem stepT_do {t : Txt} {k : Dot} (hl : t.L.length ≤ 4096) : stepT t k = doT rightB t (actOf k) := by
  unfold stepT actOf
  split
  · exact dropR_doT.symm
  · exact (addR_doT hl).symm
theorem stepT_ok {t : Txt} {k : Dot} (h : Ok t.L) (hl : t.L.length ≤ 4096) : Ok (stepT t k).L ∧ (stepT t k).L.length ≤ t.L.length + 1 ∧ (stepT t k).L.length ≤ 4096 ∧ (stepT t k).G.length ≤ t.G.length + 1 := by
  unfold stepT
  split
  · refine ⟨h, Nat.le_succ _, hl, ?_⟩
    unfold dropR
    split
    · exact Nat.le_succ _
    · split
      · exact Nat.le_succ _
      · show (t.G ++ [k.drop]).length ≤ _
        rw [List.length_append, List.length_singleton]
        exact Nat.le_refl _
  · exact ⟨(addR_ok h hl).1, (addR_ok h hl).2.1, (addR_ok h hl).2.2, Nat.le_succ _⟩
end Go.Proofs.Ytljciakgdpihdaa
