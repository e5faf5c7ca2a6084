/-
  Layer 16: marks of unlike clocks or authors; two marks of a row change places; a page in a box. By an AI agent.
-/
import Derived.Test.YtpjeggbkhbghaaaFl11
import Derived.Test.YtpjeggbkhbghaaaMd4
namespace Go.Proofs.Ytpjeggbkhbghaaa
open Go Go.RowKit
set_option maxRecDepth 20000
def onceM (acc : List Mrk) (x : Mrk) : List Mrk := if mhasB acc x.clock x.author = true then acc else acc ++ [x]
def oncM (l : List Mrk) (k : Nat) : List Mrk := (l.take k).foldl onceM []
theorem oncM_succ {l : List Mrk} {k : Nat} {x : Mrk} (h : l[k]? = some x) : oncM l (k + 1) = onceM (oncM l k) x := by
  unfold oncM
  rw [take_snoc h, List.foldl_append]
  rfl
theorem onceM_len (acc : List Mrk) (x : Mrk) : (onceM acc x).length ≤ acc.length + 1 := by
  unfold onceM
  split
  · omega
  · rw [List.length_append, List.length_singleton]
    omega
theorem oncesM_len : ∀ (l acc : List Mrk), (l.foldl onceM acc).length ≤ acc.length + l.length
  | [], _ => Nat.le_refl _
  | x :: r, acc => by
    have h1 := oncesM_len r (onceM acc x)
    have h2 := onceM_len acc x
    rw [List.foldl_cons, List.length_cons]
    omega
theorem oncM_len (l : List Mrk) (k : Nat) : (oncM l k).length ≤ k := by
  have h := oncesM_len (l.take k) []
  rw [List.length_nil, List.length_take] at h
  unfold oncM
  omega
abbrev UnlikeM (l : List Mrk) : Prop := l.Pairwise fun a b => keyM a ≠ keyM b
theorem onceM_unlike {acc : List Mrk} (h : UnlikeM acc) (x : Mrk) : UnlikeM (onceM acc x) := by
  unfold onceM
  split
  · exact h
  · rename_i hn
    refine List.pairwise_append.2 ⟨h, List.pairwise_singleton _ _, fun a ha b hb e => ?_⟩
    rw [List.mem_singleton] at hb
    subst hb
    exact hn (mhasB_iff.2 ⟨a, ha, e⟩)
theorem oncesM_unlike : ∀ (l acc : List Mrk), UnlikeM acc → UnlikeM (l.foldl onceM acc)
  | [], _, h => h
  | x :: r, _, h => oncesM_unlike r _ (onceM_unlike h x)
theorem oncM_unlike (l : List Mrk) (k : Nat) : UnlikeM (oncM l k) := oncesM_unlike _ _ List.Pairwise.nil
theorem swap_perm {α : Type} {M : List α} {p q : Nat} {y z : α} (hp : M[p]? = some y) (hq : M[q]? = some z) : (swapL M p q y z).Perm M := by
  obtain ⟨h1, rfl⟩ := List.getElem?_eq_some_iff.1 hp
  obtain ⟨h2, rfl⟩ := List.getElem?_eq_some_iff.1 hq
  exact List.set_set_perm h1 h2
/-- In whatever order. -/
theorem conv16 {O M : List Mrk} (h : UnlikeM O) (hm : M.Perm O) (hl : O.length ≤ 20) : maddsL [] M = maddsL [] O := by
  have hM : UnlikeM M := (hm.pairwise_iff (fun e => Ne.symm e)).2 h
  rw [maddsL_addM M [] Good.nil (by decide), maddsL_addM O [] Good.nil (by decide)]
  exact addsM_one hM h (fun z => hm.mem_iff) (by rw [hm.length_eq]; omega) (by omega)
def set10o (w : World) (g o : Nat) (x : Mrk) : World := (((((((((w.setCell ⟨g, o, none⟩ (.int .i64 x.clock)).setCell ⟨g, o + 1, none⟩ (.int .i64 x.author)).setCell ⟨g, o + 2, none⟩ (.int .i64 x.from_.id.1)).setCell ⟨g, o + 3, none⟩ (.int .i64 x.from_.id.2)).setCell ⟨g, o + 4, none⟩ (.bool x.from_.behind)).setCell ⟨g, o + 5, none⟩ (.int .i64 x.upto.id.1)).setCell ⟨g, o + 6, none⟩ (.int .i64 x.upto.id.2)).setCell ⟨g, o + 7, none⟩ (.bool x.upto.behind)).setCell ⟨g, o + 8, none⟩ (.int .i64 x.name)).setCell ⟨g, o + 9, none⟩ (.int .i64 x.value)
theorem set10o_eq (w : World) (g o : Nat) (x : Mrk) : set10o w g o x = w.setCells g o (mrkE.enc x) := rfl
theorem OwnR.put10o {w : World} {B c g : Nat} {L : List Mrk} (h : OwnR mrkE w B 31 (some ⟨g, 0, none⟩) c L) {p : Nat} (hp : p < L.length) (x : Mrk) : OwnR mrkE (set10o w g (p * 10) x) B 31 (some ⟨g, 0, none⟩) c (L.set p x) ∧ Below B w (set10o w g (p * 10) x) := by
  rw [set10o_eq]
  exact ⟨h.put hp x, (sets_below15 g _ _ w).mono (OwnR.blk h _ rfl).1⟩
/-- The cells of a row that is the call's own, and that they may be written. -/
theorem OwnR.ten {w : World} {B c g : Nat} {L : List Mrk} (h : OwnR mrkE w B 31 (some ⟨g, 0, none⟩) c L) {p : Nat} {x : Mrk} (hp : L[p]? = some x) :
    (w.cell? ⟨g, p * 10, none⟩ = some (.int .i64 x.clock) ∧ w.cell? ⟨g, p * 10 + 1, none⟩ = some (.int .i64 x.author) ∧ w.cell? ⟨g, p * 10 + 2, none⟩ = some (.int .i64 x.from_.id.1) ∧ w.cell? ⟨g, p * 10 + 3, none⟩ = some (.int .i64 x.from_.id.2) ∧ w.cell? ⟨g, p * 10 + 4, none⟩ = some (.bool x.from_.behind) ∧ w.cell? ⟨g, p * 10 + 5, none⟩ = some (.int .i64 x.upto.id.1) ∧ w.cell? ⟨g, p * 10 + 6, none⟩ = some (.int .i64 x.upto.id.2) ∧ w.cell? ⟨g, p * 10 + 7, none⟩ = some (.bool x.upto.behind) ∧ w.cell? ⟨g, p * 10 + 8, none⟩ = some (.int .i64 x.name) ∧ w.cell? ⟨g, p * 10 + 9, none⟩ = some (.int .i64 x.value)) ∧
    ∀ k, w.frozen? ⟨g, k, none⟩ = false := by
  obtain ⟨b, o, e, _, c0, c1, c2, c3, c4, c5, c6, c7, c8, c9⟩ := mrk_at h.rd hp
  simp only [Option.some.injEq, Addr.mk.injEq, and_true] at e
  obtain ⟨rfl, rfl⟩ := e
  simp only [Nat.zero_add] at c0 c1 c2 c3 c4 c5 c6 c7 c8 c9
  exact ⟨⟨c0, c1, c2, c3, c4, c5, c6, c7, c8, c9⟩, fun k => World.ownsRow.frozenAt h k⟩
/-- A box of three cells. -/
def triF (a b c : Value) (k : Nat) : Value := if k = 0 then a else if k = 1 then b else c
abbrev O3p (w : World) (B : Nat) (t : TypeId) (g : Nat) (a b c : Value) : Prop := OwnF w B t (some ⟨g, 0, none⟩) 3 3 (triF a b c)
section
variable {w : World} {B g : Nat} {t : TypeId} {a b c : Value}
theorem O3p.newz (hB : B ≤ w.heap.size) (t : TypeId) (a b c : Value) : O3p (w.alloc (.cells #[a, b, c] t)) B t w.heap.size a b c := OwnF.lit _ hB _ 3 (triF a b c) (by decide) rfl
theorem O3p.c0 (h : O3p w B t g a b c) : w.cell? ⟨g, 0, none⟩ = some a := OwnF.cell h (k := 0) (by decide)
theorem O3p.c1 (h : O3p w B t g a b c) : w.cell? ⟨g, 1, none⟩ = some b := OwnF.cell h (k := 1) (by decide)
theorem O3p.c2 (h : O3p w B t g a b c) : w.cell? ⟨g, 2, none⟩ = some c := OwnF.cell h (k := 2) (by decide)
theorem O3p.f2 (h : O3p w B t g a b c) : w.frozen? ⟨g, 2, none⟩ = false := OwnF.free h 2
theorem O3p.set2 (h : O3p w B t g a b c) (d : Value) : O3p (w.setCell ⟨g, 2, none⟩ d) B t g a b d ∧ Below B w (w.setCell ⟨g, 2, none⟩ d) ∧ OutF (fun k => k = g) w (w.setCell ⟨g, 2, none⟩ d) := by
  have hb := (Below.refl B w).setCell (p := ⟨g, 2, none⟩) (OwnF.ge h) d
  refine ⟨OwnF.congr (OwnF.set_ h 2 d) fun k hk => ?_, hb, ⟨hb.os, hb.tape, hb.output, hb.size, fun k _ hn => Below.heap_setCell w ⟨g, 2, none⟩ d k hn⟩⟩
  have : k = 0 ∨ k = 1 ∨ k = 2 := by omega
  rcases this with rfl | rfl | rfl <;> rfl
end
end Go.Proofs.Ytpjeggbkhbghaaa
