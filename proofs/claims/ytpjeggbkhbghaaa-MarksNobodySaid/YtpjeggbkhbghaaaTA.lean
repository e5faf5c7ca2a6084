/-
  Layer 15, the document's Same. By an AI agent. Layer 15, the document's Text. By an AI agent. Layer 15, the document's Plan. By an AI agent.
-/
import Derived.Test.YtpjeggbkhbghaaaFa4
namespace Go.Proofs.Ytpjeggbkhbghaaa
open Go Go.RowKit
set_option maxRecDepth 20000
theorem Nod.ext' {x y : Nod} (h0 : x.id.1 = y.id.1) (h1 : x.id.2 = y.id.2) (h2 : x.rune = y.rune) (h3 : x.gone = y.gone) : x = y := by
  obtain ⟨⟨a, b⟩, c, d⟩ := x
  obtain ⟨⟨a', b'⟩, c', d'⟩ := y
  simp only at h0 h1 h2 h3
  subst h0 h1 h2 h3
  rfl
/-- Are they one list? -/
noncomputable def sameB (M N : List Nod) : Bool := @decide (M = N) (Classical.propDecidable _)
theorem sameB_yes {M N : List Nod} (h : M = N) : sameB M N = true := by unfold sameB; simp [h]
theorem sameB_no {M N : List Nod} (h : M ≠ N) : sameB M N = false := by unfold sameB; simp [h]
end Go.Proofs.Ytpjeggbkhbghaaa
namespace Go.Proofs.Ytpjeggbkhbghaaa
open Go Go.RowKit
set_option maxRecDepth 20000
/-- The runes of those that are there, as UTF-8. -/
def textN (N : List Nod) : ByteArray := N.foldl (fun s y => s ++ Utf8.encode y.rune) ByteArray.empty
theorem textN_snoc (N : List Nod) (y : Nod) : textN (N ++ [y]) = textN N ++ Utf8.encode y.rune := by unfold textN; rw [List.foldl_append]; rfl
theorem enc_four (c : Nat) (b : Nat → UInt8) : ByteArray.size (if c < 0x80 then ⟨#[b c]⟩ else if c < 0x800 then ⟨#[b (0xC0 + c / 64), b (0x80 + c % 64)]⟩ else if c < 0x10000 then ⟨#[b (0xE0 + c / 4096), b (0x80 + c / 64 % 64), b (0x80 + c % 64)]⟩ else ⟨#[b (0xF0 + c / 262144), b (0x80 + c / 4096 % 64), b (0x80 + c / 64 % 64), b (0x80 + c % 64)]⟩) ≤ 4 := by
  by_cases h1 : c < 0x80
  · rw [if_pos h1]
    exact (by decide : 1 ≤ 4)
  · rw [if_neg h1]
    by_cases h2 : c < 0x800
    · rw [if_pos h2]
      exact (by decide : 2 ≤ 4)
    · rw [if_neg h2]
      by_cases h3 : c < 0x10000
      · rw [if_pos h3]
        exact (by decide : 3 ≤ 4)
      · rw [if_neg h3]
        exact (by decide : 4 ≤ 4)
theorem enc_size (r : Int) : (Utf8.encode r).size ≤ 4 := enc_four (if Utf8.valid r then r.toNat else Utf8.runeError) (fun n => UInt8.ofNat n)
theorem textN_size (N : List Nod) : (textN N).size ≤ 4 * N.length := by
  induction h : N.length generalizing N with
  | zero =>
    rw [List.length_eq_zero_iff.1 h]
    exact Nat.le_refl _
  | succ n ih =>
    have hne : N ≠ [] := by rintro rfl; simp at h
    rw [← List.dropLast_concat_getLast hne, textN_snoc, ByteArray.size_append]
    have h1 := ih N.dropLast (by rw [List.length_dropLast, h]; rfl)
    have h2 := enc_size (N.getLast hne).rune
    omega
end Go.Proofs.Ytpjeggbkhbghaaa
namespace Go.Proofs.Ytpjeggbkhbghaaa
open Go Go.RowKit
set_option maxRecDepth 20000
/-- Where something hangs on the right of the one ahead, one stands behind it. -/
theorem plan_at {L : List Ins} {G : List IDt} (hok : Ok L) {i : Nat} (hi : i ≤ (liveL G (nodesL L)).length) (hk : kidsL L (aheadL L G i) true ≠ []) : ∃ b, (nodesL L)[atL (aheadL L G i) (nodesL L) 0 0]? = some b := by
  cases i with
  | zero =>
    have ha : aheadL L G 0 = (0, 0) := rfl
    rw [ha] at hk ⊢
    rw [at_none (fun y hy => hok.nz y ((nodes_mem hok).1 hy))]
    have hne := bel_some L.length hk
    obtain ⟨b, r, e⟩ := List.exists_cons_of_ne_nil hne
    exact ⟨b, by unfold nodesL; rw [e]; rfl⟩
  | succ j =>
    obtain ⟨y, hy⟩ : ∃ y, (liveL G (nodesL L))[j]? = some y := getD_of (by omega)
    have ha : aheadL L G (j + 1) = y.id := by
      unfold aheadL
      rw [if_neg (by omega), Nat.add_sub_cancel, hy]
      rfl
    rw [ha] at hk ⊢
    obtain ⟨pre, post, e, _, _⟩ := live_at hy
    obtain ⟨b, r, e2, _⟩ := nodes_next hok e hk
    have hd := nodes_distinct hok
    rw [e] at hd ⊢
    rw [at_some rfl (distinct_mid hd).2]
    exact ⟨b, by rw [e2, Nat.zero_add, List.getElem?_append_right (by omega), show pre.length + 1 - pre.length = 1 by omega]; rfl⟩
def planR (L : List Ins) (G : List IDt) (i : Int) : IDt × Bool × Int := if i < 0 ∨ ((liveL G (nodesL L)).length : Int) < i then ((0, 0), false, 6) else ((planL L G i.toNat).1, (planL L G i.toNat).2, 0)
end Go.Proofs.Ytpjeggbkhbghaaa
