/-
  Layer 15: steps done to both while other blocks stay. By an AI agent.
-/
import Derived.Test.YtljciakgdpihdaaFl1
namespace Go.Proofs.Ytljciakgdpihdaa
open Go Go.RowKit
set_option maxRecDepth 20000
/-- Behind the first so many steps from a text on. -/
def txtF (s : Txt) (l : List Dot) (k : Nat) : Txt := (l.take k).foldl stepT s
theorem txtF_succ {s : Txt} {l : List Dot} {k : Nat} {x : Dot} (h : l[k]? = some x) : txtF s l (k + 1) = stepT (txtF s l k) x := by
  unfold txtF
  rw [take_snoc h, List.foldl_append]
  rfl
theorem txtF_ok {s : Txt} (hs : Ok s.L) {l : List Dot} {k : Nat} (hl : s.L.length + l.length ≤ 4096) (hg : s.G.length + l.length ≤ 1000000) : Ok (txtF s l k).L ∧ (txtF s l k).L.length ≤ 4096 ∧ (txtF s l k).G.length ≤ 1000000 := by
  have hk : (l.take k).length ≤ l.length := by rw [List.length_take]; exact Nat.min_le_right _ _
  obtain ⟨h1, h2, h3⟩ := fold_okT (l.take k) s hs (by omega)
  exact ⟨h1, by unfold txtF; omega, by unfold txtF; omega⟩
/-- The landed tree at p and the document's value stand for one text; neither holds the box at gr, the tree none of the blocks Z; these are as they were at wz. -/
def PlayZB (R : TreeP) (w0 : World) (gr : Nat) (Z : Nat → Prop) (wz : World) (p u1 u2 : Value) (t : Txt) (w : World) : Prop :=
  ∃ F : Nat → Prop, R w F p t.L t.G ∧ RdT w w.heap.size (.agg #[u1, u2]) t.L t.G ∧ (∀ b, inV (.agg #[u1, u2]) b → b < w.heap.size ∧ ¬ F b ∧ b ≠ gr) ∧ (∀ b, F b → w0.heap.size ≤ b ∧ b ≠ gr ∧ ¬ Z b) ∧ Below w0.heap.size w0 w ∧
    (∀ b, Z b → b < wz.heap.size ∧ b ≠ gr ∧ w.heap[b]? = wz.heap[b]?) ∧ wz.heap.size ≤ w.heap.size
def PlayZ (R : TreeP) (w0 : World) (gr : Nat) (Z : Nat → Prop) (wz : World) (p : Value) (t : Txt) (w : World) : Prop := ∃ u1 u2, PlayZB R w0 gr Z wz p u1 u2 t w ∧ O2 w w0.heap.size 29 gr u1 u2
section
variable {R : TreeP} (K : FugC R) {w0 w w' wz : World} {gr : Nat} {Z : Nat → Prop} {p u1 u2 : Value} {t : Txt}
theorem PlayZB.slices (h : PlayZB R w0 gr Z wz p u1 u2 t w) : ∃ A n c A2 n2 c2, u1 = .slice A n c ∧ u2 = .slice A2 n2 c2 := by
  obtain ⟨F, _, ⟨A, c, A2, c2, e, _⟩, _⟩ := h
  simp only [Value.agg.injEq, Array.mk.injEq, List.cons.injEq, and_true] at e
  exact ⟨A, _, c, A2, _, c2, e.1, e.2⟩
theorem PlayZ.base (h : PlayZ R w0 gr Z wz p t w) : Below w0.heap.size w0 w := by
  obtain ⟨_, _, ⟨_, _, _, _, _, hb, _⟩, _⟩ := h
  exact hb
theorem PlayZ.stays (h : PlayZ R w0 gr Z wz p t w) : (∀ b, Z b → w.heap[b]? = wz.heap[b]?) ∧ wz.heap.size ≤ w.heap.size := by
  obtain ⟨_, _, ⟨_, _, _, _, _, _, hz, hs⟩, _⟩ := h
  exact ⟨fun b hb => (hz b hb).2.2, hs⟩
include K
theorem PlayZB.keep (h : PlayZB R w0 gr Z wz p u1 u2 t w) (hb : Below w.heap.size w w') : PlayZB R w0 gr Z wz p u1 u2 t w' := by
  obtain ⟨F, h1, h2, h3, h4, h5, h6, h7⟩ := h
  exact ⟨F, K.next h1 hb, (h2.keep hb).mono hb.size, fun b hb' => ⟨Nat.lt_of_lt_of_le (h3 b hb').1 hb.size, (h3 b hb').2⟩, h4, h5.trans (hb.mono h5.size), fun b hz => ⟨(h6 b hz).1, (h6 b hz).2.1, (hb.block b (Nat.lt_of_lt_of_le (h6 b hz).1 h7)).trans (h6 b hz).2.2⟩, Nat.le_trans h7 hb.size⟩
theorem PlayZ.keep (h : PlayZ R w0 gr Z wz p t w) (hb : Below w.heap.size w w') : PlayZ R w0 gr Z wz p t w' := by
  obtain ⟨u1, u2, h1, h2⟩ := h
  exact ⟨u1, u2, PlayZB.keep K h1 hb, OwnF.keep h2 hb⟩
theorem PlayZB.store (h : PlayZB R w0 gr Z wz p u1 u2 t w) {x y : Value} (o : O2 w w0.heap.size 29 gr x y) : PlayZ R w0 gr Z wz p t (set2 w gr u1 u2) := by
  obtain ⟨F, h1, h2, h3, h4, h5, h6, h7⟩ := h
  have hs := set2_out o u1 u2
  exact ⟨u1, u2, ⟨F, K.keep h1 (fun b hb => set2_only w gr u1 u2 b (h4 b hb).2.1) hs.size, RdT.outf h2 hs (fun b hb => (h3 b hb).2.2), fun b hb => ⟨Nat.lt_of_lt_of_le (h3 b hb).1 hs.size, (h3 b hb).2⟩, h4, h5.trans (o.below u1 u2),
    fun b hz => ⟨(h6 b hz).1, (h6 b hz).2.1, (set2_only w gr u1 u2 b (h6 b hz).2.1).trans (h6 b hz).2.2⟩, Nat.le_trans h7 hs.size⟩, o.set_ u1 u2⟩
theorem playz_both (h : PlayZB R w0 gr Z wz p u1 u2 t w) (o : O2 w w0.heap.size 29 gr u1 u2) (hok : Ok t.L) (hl : t.L.length ≤ 4096) (hg : t.G.length ≤ 1000000) (x : Dot) :
    Calls Try.prog 13 #[p, .agg #[u1, u2], doV x] w fun e w' => ∃ z1 z2, e = .returned (.tuple #[.agg #[z1, z2], .bool true]) ∧ PlayZB R w0 gr Z wz p z1 z2 (stepT t x) w' ∧ O2 w' w0.heap.size 29 gr u1 u2 := by
  obtain ⟨F, h1, h2, h3, h4, h5, h6, h7⟩ := h
  have hlt := OwnF.lt o
  refine (both_any K x w h1 hok hl hg h2 (fun b hb => ⟨(h3 b hb).1, (h3 b hb).2.1⟩)).mono ?_
  rintro e w' ⟨v', F', rfl, r, ht, hin, hF, hnew, ho⟩
  have hgr : ¬ F gr := fun hf => (h4 gr hf).2.1 rfl
  have ho2 : O2 w' w0.heap.size 29 gr u1 u2 := OwnF.same_ o (ho.block gr hlt hgr)
  have hb2 : Below w0.heap.size w0 w' := h5.trans (OutF.below ho (fun b hb => (h4 b hb).1) h5.size)
  obtain ⟨A, c, A2, c2, rfl, t1, t2⟩ := ht
  exact ⟨_, _, rfl, ⟨F', r, ⟨A, c, A2, c2, rfl, t1, t2⟩, fun b hb => ⟨(hin b hb).1, (hin b hb).2, by rcases hnew b hb with h9 | h9; exact (h3 b h9).2.2; omega⟩, fun b hb => by
    rcases hF b hb with h9 | h9
    · exact h4 b h9
    · exact ⟨Nat.le_trans h5.size h9, by omega, fun hz => by have := (h6 b hz).1; omega⟩, hb2,
    fun b hz => ⟨(h6 b hz).1, (h6 b hz).2.1, (ho.block b (Nat.lt_of_lt_of_le (h6 b hz).1 h7) (fun hf => (h4 b hf).2.2 hz)).trans (h6 b hz).2.2⟩, Nat.le_trans h7 ho.size⟩, ho2⟩
end
/-- A row in blocks that stay. -/
theorem RdR.stay {α : Type} {E : Enc α} {w w' : World} {c : Nat} {A : Option Addr} {L : List α} (h : RdR E w w.heap.size A c L) (hs : L ≠ [] → ∀ ad, A = some ad → ad.block < w.heap.size → w'.heap[ad.block]? = w.heap[ad.block]?) (hz : w.heap.size ≤ w'.heap.size) : RdR E w' w'.heap.size A c L :=
  ⟨h.cap, h.nil, fun hn => by
    obtain ⟨b, o, e, hlt, hc⟩ := h.some_ hn
    exact ⟨b, o, e, Nat.lt_of_lt_of_le hlt hz, fun k v hk => (World.cell?_of_block (show w'.heap[b]? = w.heap[b]? from hs hn _ e hlt)).trans (hc k v hk)⟩⟩
end Go.Proofs.Ytljciakgdpihdaa
