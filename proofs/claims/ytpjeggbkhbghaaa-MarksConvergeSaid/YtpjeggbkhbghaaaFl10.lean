/-
  Layer 15: settled, over what is asked of the landed tree. By an AI agent.
-/
import Derived.Test.YtpjeggbkhbghaaaFl1
namespace Go.Proofs.Ytpjeggbkhbghaaa
open Go Go.RowKit
set_option maxRecDepth 20000
theorem rounds_next {ok : Ins → Bool} {l : List Act} : ∀ (n : Nat) (t : Txt), roundsT ok l (n + 1) t = roundT ok l (roundsT ok l n t)
  | 0, _ => rfl
  | n + 1, t => rounds_next n (roundT ok l t)
/-- Behind r rounds and k steps. -/
def setK (l : List Dot) (r k : Nat) : Txt := ((l.take k).map actOf).foldl (doT rightB) (roundsT rightB (l.map actOf) r ⟨[], []⟩)
theorem setK_zero (l : List Dot) : setK l 0 0 = ⟨[], []⟩ := rfl
theorem setK_succ {l : List Dot} {r k : Nat} {x : Dot} (h : l[k]? = some x) : setK l r (k + 1) = doT rightB (setK l r k) (actOf x) := by
  unfold setK
  rw [take_snoc h, List.map_append, List.foldl_append]
  rfl
theorem setK_round (l : List Dot) (r : Nat) : setK l r l.length = setK l (r + 1) 0 := by
  unfold setK
  rw [List.take_length, rounds_next]
  rfl
theorem setK_all (l : List Dot) : setK l (l.length + 1) 0 = settledT rightB (l.map actOf) := by
  unfold setK settledT
  rw [List.length_map]
  rfl
theorem setK_ok {l : List Dot} (r k : Nat) : Ok (setK l r k).L ∧ (setK l r k).L.length ≤ l.length := by
  have h : Came rightB (l.map actOf) (setK l r k) := by
    unfold setK
    refine Came.fold right_fair (fun a ha => ?_) (Came.rounds right_fair r ⟨.nil, (fun _ h => nomatch h), (fun _ h => nomatch h), by rw [List.length_nil, Nat.zero_add]; exact List.length_filter_le _ _⟩)
    obtain ⟨x, hx, rfl⟩ := List.mem_map.1 ha
    exact List.mem_map.2 ⟨x, List.mem_of_mem_take hx, rfl⟩
  refine ⟨h.fine, ?_⟩
  have := h.size
  rw [List.length_map] at this
  omega
/-- A tree that was made since. -/
def SetR (R : TreeP) (w0 : World) (p : Value) (t : Txt) (w : World) : Prop := ∃ F : Nat → Prop, R w F p t.L t.G ∧ (∀ b, F b → w0.heap.size ≤ b) ∧ Below w0.heap.size w0 w
section
variable {R : TreeP} (K : FugC R)
theorem SetR.base {w0 w : World} {p : Value} {t : Txt} (h : SetR R w0 p t w) : Below w0.heap.size w0 w := by
  obtain ⟨_, _, _, hb⟩ := h
  exact hb
include K
theorem SetR.keep {w0 w w' : World} {p : Value} {t : Txt} (h : SetR R w0 p t w) (hb : Below w.heap.size w w') : SetR R w0 p t w' := by
  obtain ⟨F, h1, h2, h3⟩ := h
  exact ⟨F, K.next h1 hb, h2, h3.trans (hb.mono h3.size)⟩
theorem set_drop {w0 w : World} {p : Value} {t : Txt} {x : Dot} (h : SetR R w0 p t w) (hok : Ok t.L) (hl : t.L.length ≤ 4096) (hk : x.kind = 0) :
    Calls Try.prog 46 #[p, idV x.drop] w fun e w' => (∃ i, e = .returned (.int .i64 i)) ∧ SetR R w0 p (doT rightB t (actOf x)) w' := by
  obtain ⟨F, h1, h2, h3⟩ := h
  refine (K.drop x.drop w h1 hok hl).mono ?_
  rintro e w' ⟨rfl, F', h4, h5, h6⟩
  refine ⟨⟨_, rfl⟩, F', ?_, fun b hb => ?_, h3.trans (OutF.below h6 h2 h3.size)⟩
  · rw [← stepT_do hl]
    unfold stepT
    rw [if_pos hk]
    exact h4
  · rcases h5 b hb with h | h
    · exact h2 b h
    · exact Nat.le_trans h3.size h
theorem set_add {w0 w : World} {p : Value} {t : Txt} {x : Dot} (h : SetR R w0 p t w) (hok : Ok t.L) (hl : t.L.length ≤ 4096) (hk : ¬ x.kind = 0) :
    Calls Try.prog 33 #[p, insV x.ins] w fun e w' => (∃ i, e = .returned (.int .i64 i)) ∧ SetR R w0 p (doT rightB t (actOf x)) w' := by
  obtain ⟨F, h1, h2, h3⟩ := h
  refine (K.add x.ins w h1 hok hl).mono ?_
  rintro e w' ⟨rfl, F', h4, h5, h6⟩
  refine ⟨⟨_, rfl⟩, F', ?_, fun b hb => ?_, h3.trans (OutF.below h6 h2 h3.size)⟩
  · rw [← stepT_do hl]
    unfold stepT
    rw [if_neg hk]
    exact h4
  · rcases h5 b hb with h | h
    · exact h2 b h
    · exact Nat.le_trans h3.size h
end
end Go.Proofs.Ytpjeggbkhbghaaa
