/-
  Layer 15: a step in a law's loop; FugueAsks. By an AI agent.
-/
import Derived.Test.YtpjeggbkhbghaaaTF
namespace Go.Proofs.Ytpjeggbkhbghaaa
open Go Go.RowKit
set_option maxRecDepth 20000
theorem do_at {w : World} {B c : Nat} {A : Option Addr} {L : List Dot} (h : RdR doE w B A c L) {k : Nat} {x : Dot} (hk : L[k]? = some x) : ∃ b o, A = some ⟨b, o, none⟩ ∧ b < B ∧ w.cell? ⟨b, o + k * 9, none⟩ = some (.int .i64 x.kind) ∧ w.cell? ⟨b, o + k * 9 + 1, none⟩ = some (.int .i64 x.ins.id.1) ∧ w.cell? ⟨b, o + k * 9 + 2, none⟩ = some (.int .i64 x.ins.id.2) ∧ w.cell? ⟨b, o + k * 9 + 3, none⟩ = some (.int .i64 x.ins.par.1) ∧ w.cell? ⟨b, o + k * 9 + 4, none⟩ = some (.int .i64 x.ins.par.2) ∧ w.cell? ⟨b, o + k * 9 + 5, none⟩ = some (.bool x.ins.right) ∧ w.cell? ⟨b, o + k * 9 + 6, none⟩ = some (.int .i32 x.ins.rune) ∧ w.cell? ⟨b, o + k * 9 + 7, none⟩ = some (.int .i64 x.drop.1) ∧ w.cell? ⟨b, o + k * 9 + 8, none⟩ = some (.int .i64 x.drop.2) := by
  obtain ⟨b, o, e, hlt, hc⟩ := h.at_ hk
  exact ⟨b, o, e, hlt, hc 0 _ rfl, hc 1 _ rfl, hc 2 _ rfl, hc 3 _ rfl, hc 4 _ rfl, hc 5 _ rfl, hc 6 _ rfl, hc 7 _ rfl, hc 8 _ rfl⟩
abbrev doC (x : Dot) : Array Value := #[.int .i64 x.kind, .int .i64 x.ins.id.1, .int .i64 x.ins.id.2, .int .i64 x.ins.par.1, .int .i64 x.ins.par.2, .bool x.ins.right, .int .i32 x.ins.rune, .int .i64 x.drop.1, .int .i64 x.drop.2]
/-- The box of a step. -/
def DoB (w : World) (g : Nat) (x : Dot) : Prop := w.cell? ⟨g, 0, none⟩ = some (.int .i64 x.kind) ∧ w.cell? ⟨g, 1, none⟩ = some (.int .i64 x.ins.id.1) ∧ w.cell? ⟨g, 2, none⟩ = some (.int .i64 x.ins.id.2) ∧ w.cell? ⟨g, 3, none⟩ = some (.int .i64 x.ins.par.1) ∧ w.cell? ⟨g, 4, none⟩ = some (.int .i64 x.ins.par.2) ∧ w.cell? ⟨g, 5, none⟩ = some (.bool x.ins.right) ∧ w.cell? ⟨g, 6, none⟩ = some (.int .i32 x.ins.rune) ∧ w.cell? ⟨g, 7, none⟩ = some (.int .i64 x.drop.1) ∧ w.cell? ⟨g, 8, none⟩ = some (.int .i64 x.drop.2)
theorem Play.base {R : TreeP} {w0 : World} {gr : Nat} {p : Value} {t : Txt} {w : World} (h : Play R w0 gr p t w) : Below w0.heap.size w0 w := by
  obtain ⟨_, _, ⟨_, _, _, _, _, hb⟩, _⟩ := h
  exact hb
theorem PlayB.slices {R : TreeP} {w0 : World} {gr : Nat} {p u1 u2 : Value} {t : Txt} {w : World} (h : PlayB R w0 gr p u1 u2 t w) : ∃ A n c A2 n2 c2, u1 = .slice A n c ∧ u2 = .slice A2 n2 c2 := by
  obtain ⟨F, _, ⟨A, c, A2, c2, e, _⟩, _⟩ := h
  simp only [Value.agg.injEq, Array.mk.injEq, List.cons.injEq, and_true] at e
  exact ⟨A, _, c, A2, _, c2, e.1, e.2⟩
/-- Behind all steps. -/
theorem txtK_all (l : List Dot) : txtK l l.length = l.foldl stepT ⟨[], []⟩ := by unfold txtK; rw [List.take_length]
section
variable {R : TreeP} (K : FugC R)
include K
end
end Go.Proofs.Ytpjeggbkhbghaaa
