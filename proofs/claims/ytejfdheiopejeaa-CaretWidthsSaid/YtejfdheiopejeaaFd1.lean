/-
  Layer 15: elements, their names, nodes as they lie in memory. By an AI agent.
-/
import Derived.Test.YtejfdheiopejeaaFg7
import Derived.Test.YtejfdheiopejeaaRw
import Derived.Test.YtejfdheiopejeaaInv
namespace Go.Proofs.Ytejfdheiopejeaa
open Go Go.RowKit
set_option maxRecDepth 20000
/-- A node of a text. -/
structure Nod where
  id : IDt
  rune : Int
  gone : Bool
def insE : Enc Ins := ⟨fun x => [.int .i64 x.id.1, .int .i64 x.id.2, .int .i64 x.par.1, .int .i64 x.par.2, .bool x.right, .int .i32 x.rune], 6, fun _ => rfl, fun x v h => by simp at h; rcases h with rfl | rfl | rfl | rfl | rfl | rfl <;> rfl, by decide⟩
def nodE : Enc Nod := ⟨fun x => [.int .i64 x.id.1, .int .i64 x.id.2, .int .i32 x.rune, .bool x.gone], 4, fun _ => rfl, fun x v h => by simp at h; rcases h with rfl | rfl | rfl | rfl <;> rfl, by decide⟩
def idE : Enc IDt := ⟨fun x => [.int .i64 x.1, .int .i64 x.2], 2, fun _ => rfl, fun x v h => by simp at h; rcases h with rfl | rfl <;> rfl, by decide⟩
abbrev idV (i : IDt) : Value := .agg #[.int .i64 i.1, .int .i64 i.2]
abbrev insV (x : Ins) : Value := .agg #[.int .i64 x.id.1, .int .i64 x.id.2, .int .i64 x.par.1, .int .i64 x.par.2, .bool x.right, .int .i32 x.rune]
abbrev nodV (x : Nod) : Value := .agg #[.int .i64 x.id.1, .int .i64 x.id.2, .int .i32 x.rune, .bool x.gone]
theorem getD_of {α : Type} {L : List α} {k : Nat} (h : k < L.length) : ∃ x, L[k]? = some x := ⟨L[k], by rw [List.getElem?_eq_getElem h]⟩
section
variable {w : World} {B c : Nat} {A : Option Addr}
theorem ins_at {L : List Ins} (h : RdR insE w B A c L) {k : Nat} {x : Ins} (hk : L[k]? = some x) : ∃ b o, A = some ⟨b, o, none⟩ ∧ b < B ∧ w.cell? ⟨b, o + k * 6, none⟩ = some (.int .i64 x.id.1) ∧ w.cell? ⟨b, o + k * 6 + 1, none⟩ = some (.int .i64 x.id.2) ∧ w.cell? ⟨b, o + k * 6 + 2, none⟩ = some (.int .i64 x.par.1) ∧ w.cell? ⟨b, o + k * 6 + 3, none⟩ = some (.int .i64 x.par.2) ∧ w.cell? ⟨b, o + k * 6 + 4, none⟩ = some (.bool x.right) ∧ w.cell? ⟨b, o + k * 6 + 5, none⟩ = some (.int .i32 x.rune) := by
  obtain ⟨b, o, e, hlt, hc⟩ := h.at_ hk
  exact ⟨b, o, e, hlt, hc 0 _ rfl, hc 1 _ rfl, hc 2 _ rfl, hc 3 _ rfl, hc 4 _ rfl, hc 5 _ rfl⟩
theorem nod_at {L : List Nod} (h : RdR nodE w B A c L) {k : Nat} {x : Nod} (hk : L[k]? = some x) : ∃ b o, A = some ⟨b, o, none⟩ ∧ b < B ∧ w.cell? ⟨b, o + k * 4, none⟩ = some (.int .i64 x.id.1) ∧ w.cell? ⟨b, o + k * 4 + 1, none⟩ = some (.int .i64 x.id.2) ∧ w.cell? ⟨b, o + k * 4 + 2, none⟩ = some (.int .i32 x.rune) ∧ w.cell? ⟨b, o + k * 4 + 3, none⟩ = some (.bool x.gone) := by
  obtain ⟨b, o, e, hlt, hc⟩ := h.at_ hk
  exact ⟨b, o, e, hlt, hc 0 _ rfl, hc 1 _ rfl, hc 2 _ rfl, hc 3 _ rfl⟩
theorem id_at {L : List IDt} (h : RdR idE w B A c L) {k : Nat} {x : IDt} (hk : L[k]? = some x) : ∃ b o, A = some ⟨b, o, none⟩ ∧ b < B ∧ w.cell? ⟨b, o + k * 2, none⟩ = some (.int .i64 x.1) ∧ w.cell? ⟨b, o + k * 2 + 1, none⟩ = some (.int .i64 x.2) := by
  obtain ⟨b, o, e, hlt, hc⟩ := h.at_ hk
  exact ⟨b, o, e, hlt, hc 0 _ rfl, hc 1 _ rfl⟩
end
/-- The document's text as a value: its elements, what was dropped. -/
def RdT (w : World) (B : Nat) (v : Value) (L : List Ins) (G : List IDt) : Prop := ∃ A c A2 c2, v = .agg #[.slice A L.length c, .slice A2 G.length c2] ∧ RdR insE w B A c L ∧ RdR idE w B A2 c2 G
theorem RdT.keep {w w' : World} {B : Nat} {v : Value} {L : List Ins} {G : List IDt} (h : RdT w B v L G) (hb : Below B w w') : RdT w' B v L G := by
  obtain ⟨A, c, A2, c2, e, h1, h2⟩ := h
  exact ⟨A, c, A2, c2, e, h1.keep hb, h2.keep hb⟩
theorem RdT.mono {w : World} {B B' : Nat} {v : Value} {L : List Ins} {G : List IDt} (h : RdT w B v L G) (hb : B ≤ B') : RdT w B' v L G := by
  obtain ⟨A, c, A2, c2, e, h1, h2⟩ := h
  exact ⟨A, c, A2, c2, e, h1.mono hb, h2.mono hb⟩
end Go.Proofs.Ytejfdheiopejeaa
