/-
  Layer 19, the landed code: an ideal suite in memory. By an AI agent.
-/
import Derived.Test.YtdddcgkgellbgabSl1
import Derived.Test.YtdddcgkgellbgabMp
import Derived.Test.YtdddcgkgellbgabRw
import Derived.Test.YtdddcgkgellbgabRg0
namespace Go.Proofs.Ytdddcgkgellbgab
open Go Go.RowKit
set_option maxRecDepth 20000
abbrev ptB (b : Nat) : Value := .pointer (some ⟨b, 0, none⟩)
abbrev sliV (b n : Nat) : Value := .slice (some ⟨b, 0, none⟩) n n
/-- A term in the table, with the block of its parts. -/
abbrev TrmB := Trm × Nat
def trmE : Enc TrmB := ⟨fun x => [.int .u8 (x.1.kind.toNat : Int), sliV x.2 x.1.parts.length], 2, fun _ => rfl, fun x v hv => by
  simp only [List.mem_cons, List.not_mem_nil, or_false] at hv
  rcases hv with rfl | rfl <;> rfl, by decide⟩
abbrev bStr (p : List UInt8) : Value := .string ⟨p.toArray⟩
abbrev prtC (P : List (List UInt8)) : Obj := .cells (P.map bStr).toArray 9
/-- A table at T, its map at M. -/
structure TabH (w : World) (T M : Nat) (A : Option Addr) (c clk : Nat) (es : List EntS) (X : List TrmB) (D : Nat) : Prop where
  table : w.heap[T]? = some (.cells #[.slice A X.length c, .map (some M), .int .i64 (D : Int)] 63)
  rows : OwnR trmE w 0 75 A c X
  map : w.heap[M]? = some (mapV strV es clk)
  look : ∀ u : Trm, fitT u → lookV es ⟨(formT u).toArray⟩ = if u ∈ X.map Prod.fst then some (.int .i64 (numT (X.map Prod.fst) u : Int)) else none
  parts : ∀ x ∈ X, w.heap[x.2]? = some (prtC x.1.parts)
  ok : ∀ x ∈ X, okT x.1
  once : (X.map Prod.fst).Nodup
/-- A table: the blocks that it writes, the blocks of parts, the terms that it knows, how many are drawn. -/
def TabR (w : World) (F S : Nat → Prop) (T : Nat) (L : List Trm) (D : Nat) : Prop :=
  ∃ M A c clk es X, TabH w T M A c clk es X D ∧ L = X.map Prod.fst ∧ (∀ k, F k ↔ k = T ∨ k = M ∨ ∃ ad, A = some ad ∧ ad.block = k) ∧ (∀ k, S k ↔ ∃ x ∈ X, x.2 = k)
/-- An ideal suite. -/
def IdR (w : World) (F S : Nat → Prop) (p : Value) (L : List Trm) (D : Nat) : Prop :=
  ∃ I T F0, p = ptB I ∧ w.heap[I]? = some (.cells #[ptB T] 54) ∧ TabR w F0 S T L D ∧ (∀ k, F k ↔ k = I ∨ F0 k)
section
variable {w w' : World} {T M : Nat} {A : Option Addr} {c clk : Nat} {es : List EntS} {X : List TrmB} {D : Nat} {F S : Nat → Prop} {L : List Trm} {p : Value}
theorem TabH.keep (h : TabH w T M A c clk es X D) (h1 : w'.heap[T]? = w.heap[T]?) (h2 : w'.heap[M]? = w.heap[M]?) (h3 : ∀ ad, A = some ad → w'.heap[ad.block]? = w.heap[ad.block]?) (h4 : ∀ x ∈ X, w'.heap[x.2]? = w.heap[x.2]?) : TabH w' T M A c clk es X D :=
  ⟨h1.trans h.table, h.rows.keep0 h3, h2.trans h.map, h.look, fun x hx => (h4 x hx).trans (h.parts x hx), h.ok, h.once⟩
theorem TabR.keep (h : TabR w F S T L D) (hk : ∀ k, F k ∨ S k → w'.heap[k]? = w.heap[k]?) : TabR w' F S T L D := by
  obtain ⟨M, A, c, clk, es, X, H, e, hF, hS⟩ := h
  exact ⟨M, A, c, clk, es, X, H.keep (hk _ (.inl ((hF _).2 (.inl rfl)))) (hk _ (.inl ((hF _).2 (.inr (.inl rfl))))) (fun ad ea => hk _ (.inl ((hF _).2 (.inr (.inr ⟨ad, ea, rfl⟩))))) (fun x hx => hk _ (.inr ((hS _).2 ⟨x, hx, rfl⟩))), e, hF, hS⟩
theorem TabR.lt (h : TabR w F S T L D) : ∀ k, F k ∨ S k → k < w.heap.size := by
  obtain ⟨M, A, c, clk, es, X, H, e, hF, hS⟩ := h
  intro k hk
  rcases hk with hk | hk
  · rcases (hF k).1 hk with rfl | rfl | ⟨ad, ea, rfl⟩
    · exact w_lt H.table
    · exact w_lt H.map
    · exact (H.rows.blk ad ea).2
  · obtain ⟨x, hx, rfl⟩ := (hS k).1 hk
    exact w_lt (H.parts x hx)
theorem rows_block (h : OwnR trmE w 0 75 A c X) : ∀ ad, A = some ad → ∃ cs, w.heap[ad.block]? = some (.cells cs 75) := by
  intro ad ea
  obtain ⟨_, h2⟩ := h
  rcases h2 with ⟨hv, _⟩ | ⟨g, cap, cur, hv, hB, hb, _⟩
  · simp only [Value.slice.injEq] at hv
    rw [hv.1] at ea; cases ea
  · simp only [Value.slice.injEq] at hv
    rw [hv.1, Option.some.injEq] at ea
    subst ea
    exact ⟨_, hb⟩
/-- No two of its blocks are one. -/
theorem TabH.apart (h : TabH w T M A c clk es X D) : T ≠ M ∧ (∀ ad, A = some ad → ad.block ≠ T ∧ ad.block ≠ M) ∧ ∀ x ∈ X, x.2 ≠ T ∧ x.2 ≠ M ∧ ∀ ad, A = some ad → x.2 ≠ ad.block := by
  have h1 := h.table
  have h2 := h.map
  have h3 := rows_block h.rows
  refine ⟨fun e => ?_, fun ad ea => ⟨fun e => ?_, fun e => ?_⟩, fun x hx => ⟨fun e => ?_, fun e => ?_, fun ad ea e => ?_⟩⟩
  · rw [e, h2] at h1; cases h1
  · obtain ⟨cs, hc⟩ := h3 ad ea
    rw [e, h1] at hc
    simp at hc
  · obtain ⟨cs, hc⟩ := h3 ad ea
    rw [e, h2] at hc
    cases hc
  · have h4 := h.parts x hx
    rw [e, h1] at h4
    simp at h4
  · have h4 := h.parts x hx
    rw [e, h2] at h4
    cases h4
  · obtain ⟨cs, hc⟩ := h3 ad ea
    have h4 := h.parts x hx
    rw [e, hc] at h4
    simp at h4
theorem TabR.apart (h : TabR w F S T L D) : ∀ k, S k → ¬ F k := by
  obtain ⟨M, A, c, clk, es, X, H, e, hF, hS⟩ := h
  intro k hk hf
  obtain ⟨x, hx, rfl⟩ := (hS k).1 hk
  obtain ⟨_, _, h3⟩ := H.apart
  obtain ⟨a1, a2, a3⟩ := h3 x hx
  rcases (hF _).1 hf with e1 | e1 | ⟨ad, ea, e1⟩
  · exact a1 e1
  · exact a2 e1
  · exact a3 ad ea e1.symm
theorem IdR.keep (h : IdR w F S p L D) (hk : ∀ k, F k ∨ S k → w'.heap[k]? = w.heap[k]?) : IdR w' F S p L D := by
  obtain ⟨I, T, F0, e, hI, H, hF⟩ := h
  exact ⟨I, T, F0, e, (hk I (.inl ((hF I).2 (.inl rfl)))).trans hI, H.keep fun k hk' => hk k (hk'.imp (fun h => (hF k).2 (.inr h)) id), hF⟩
theorem IdR.lt (h : IdR w F S p L D) : ∀ k, F k ∨ S k → k < w.heap.size := by
  obtain ⟨I, T, F0, e, hI, H, hF⟩ := h
  intro k hk
  rcases hk with hk | hk
  · rcases (hF k).1 hk with rfl | hk
    · exact w_lt hI
    · exact H.lt k (.inl hk)
  · exact H.lt k (.inr hk)
theorem IdR.apart (h : IdR w F S p L D) : ∀ k, S k → ¬ F k := by
  obtain ⟨I, T, F0, e, hI, H, hF⟩ := h
  intro k hk hf
  rcases (hF k).1 hf with rfl | hf
  · obtain ⟨M, A, c, clk, es, X, H, e, hF, hS⟩ := H
    obtain ⟨x, hx, rfl⟩ := (hS _).1 hk
    have h4 := H.parts x hx
    rw [hI] at h4
    simp at h4
  · exact H.apart k hk hf
theorem TabR.good (h : TabR w F S T L D) : L.Nodup ∧ ∀ t ∈ L, okT t := by
  obtain ⟨M, A, c, clk, es, X, H, e, hF, hS⟩ := h
  subst e
  exact ⟨H.once, fun t ht => by obtain ⟨x, hx, rfl⟩ := List.mem_map.1 ht; exact H.ok x hx⟩
theorem IdR.good (h : IdR w F S p L D) : L.Nodup ∧ ∀ t ∈ L, okT t := by
  obtain ⟨I, T, F0, e, hI, H, hF⟩ := h
  exact H.good
end
end Go.Proofs.Ytdddcgkgellbgab
