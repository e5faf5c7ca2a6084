/-
  Layer 16: what is asked of the landed book. By an AI agent. Layer 16: the laws' own few, text and book, over what is asked of the landed text and book. By an AI agent. Layer 16: the laws' own book, over what is asked of the landed one. By an AI agent. Layer 16: awake, over what is asked of the landed text and book. By an AI agent.
-/
import Derived.Test.YtpjeggbkhbghaaaTF
import Derived.Test.YtpjeggbkhbghaaaMd4
import Derived.Test.YtpjeggbkhbghaaaTN
import Derived.Test.YtpjeggbkhbghaaaFl1
import Derived.Test.YtpjeggbkhbghaaaTF
namespace Go.Proofs.Ytpjeggbkhbghaaa
open Go Go.RowKit
set_option maxRecDepth 20000
/-- A book of the code: the blocks that it holds, its marks in order. -/
abbrev BookP := World → (Nat → Prop) → Value → List Mrk → Prop
/-- A text's elements in order, as the document has them. -/
abbrev nodL (L : List Ins) (G : List IDt) : List Nod := (nodesL L).map (nodeOf G)
structure MarkC (B : BookP) : Prop where
  keep : ∀ {w w' F p L}, B w F p L → (∀ k, F k → w'.heap[k]? = w.heap[k]?) → w.heap.size ≤ w'.heap.size → B w' F p L
  le : ∀ {w F p L}, B w F p L → ∀ k, F k → k < w.heap.size
  good : ∀ {w F p L}, B w F p L → Good L ∧ L.length ≤ 512
  ptr : ∀ {w F p L}, B w F p L → ∃ g, p = .pointer (some ⟨g, 0, none⟩)
  new : ∀ w : World, Calls Try.prog 11 #[] w fun x w' => ∃ p F, x = .returned p ∧ B w' F p [] ∧ (∀ k, F k → w.heap.size ≤ k) ∧ Below w.heap.size w w'
  right : ∀ (m : Mrk) (w : World), Calls Try.prog 13 #[mrkV m] w fun e w' => e = .returned (.bool (rightM m)) ∧ Below w.heap.size w w'
  add : ∀ {F : Nat → Prop} {p : Value} {L : List Mrk} (m : Mrk) (w : World), B w F p L →
    Calls Try.prog 15 #[p, mrkV m] w fun e w' => e = .returned (.int .i64 (maddR L m).2) ∧ ∃ F' : Nat → Prop, B w' F' p (maddR L m).1 ∧ (∀ k, F' k → F k ∨ w.heap.size ≤ k) ∧ OutF F w w'
  has : ∀ {F : Nat → Prop} {p : Value} {L : List Mrk} (k a : Int) (w : World), B w F p L →
    Calls Try.prog 18 #[p, .int .i64 k, .int .i64 a] w fun e w' => e = .returned (.bool (mhasB L k a)) ∧ Below w.heap.size w w'
  list : ∀ {F : Nat → Prop} {p : Value} {L : List Mrk} (w : World), B w F p L →
    Calls Try.prog 17 #[p] w fun e w' => ∃ A c, e = .returned (.slice A L.length c) ∧ RdR mrkE w' w'.heap.size A c L ∧ Below w.heap.size w w'
  last : ∀ {F : Nat → Prop} {p : Value} {L : List Mrk} (w : World), B w F p L →
    Calls Try.prog 20 #[p] w fun e w' => e = .returned (.int .i64 (lastM L)) ∧ Below w.heap.size w w'
  styles : ∀ {R : TreeP} (_ : FugC R) {F FT : Nat → Prop} {p q : Value} {L : List Mrk} {TL : List Ins} {TG : List IDt} (w : World), B w F p L → R w FT q TL TG → Ok TL → TL.length ≤ 4096 →
    Calls Try.prog 24 #[p, q] w fun e w' => ∃ A c, e = .returned (.slice A (nodesL TL).length c) ∧ RdR styE w' w'.heap.size A c (styL (nodL TL TG) L) ∧ Below w.heap.size w w'
  runs : ∀ {R : TreeP} (_ : FugC R) {F FT : Nat → Prop} {p q : Value} {L : List Mrk} {TL : List Ins} {TG : List IDt} (w : World), B w F p L → R w FT q TL TG → Ok TL → TL.length ≤ 4096 →
    Calls Try.prog 27 #[p, q] w fun e w' => ∃ A c, e = .returned (.slice A (runsR (nodL TL TG) L).length c) ∧ RdR runE w' w'.heap.size A c (runsR (nodL TL TG) L) ∧ Below w.heap.size w w'
  clone : ∀ {F : Nat → Prop} {p : Value} {L : List Mrk} (w : World), B w F p L →
    Calls Try.prog 35 #[p] w fun e w' => ∃ p' F', e = .returned p' ∧ B w' F' p' L ∧ (∀ k, F' k → w.heap.size ≤ k) ∧ Below w.heap.size w w'
/-- What is asked of a book, of a text, that is not there. -/
structure NobM (B : BookP) : Prop where
  add : ∀ (m : Mrk) (w : World), Calls Try.prog 15 #[.pointer none, mrkV m] w fun e w' => e = .returned (.int .i64 13) ∧ Below w.heap.size w w'
  has : ∀ (k a : Int) (w : World), Calls Try.prog 18 #[.pointer none, .int .i64 k, .int .i64 a] w fun e w' => e = .returned (.bool false) ∧ Below w.heap.size w w'
  list : ∀ w : World, Calls Try.prog 17 #[.pointer none] w fun e w' => ∃ A c, e = .returned (.slice A 0 c) ∧ Below w.heap.size w w'
  last : ∀ w : World, Calls Try.prog 20 #[.pointer none] w fun e w' => e = .returned (.int .i64 0) ∧ Below w.heap.size w w'
  clone : ∀ w : World, Calls Try.prog 35 #[.pointer none] w fun e w' => e = .returned (.pointer none) ∧ Below w.heap.size w w'
  runs : ∀ {R : TreeP} (_ : FugC R) {FT : Nat → Prop} {q : Value} {TL : List Ins} {TG : List IDt} (w : World), R w FT q TL TG → Ok TL → TL.length ≤ 4096 →
    Calls Try.prog 27 #[.pointer none, q] w fun e w' => ∃ A c, e = .returned (.slice A (runsR (nodL TL TG) []).length c) ∧ RdR runE w' w'.heap.size A c (runsR (nodL TL TG) []) ∧ Below w.heap.size w w'
  stylesT : ∀ {F : Nat → Prop} {p : Value} {L : List Mrk} (w : World), B w F p L → Calls Try.prog 24 #[p, .pointer none] w fun e w' => ∃ A c, e = .returned (.slice A 0 c) ∧ Below w.heap.size w w'
  runsT : ∀ {F : Nat → Prop} {p : Value} {L : List Mrk} (w : World), B w F p L → Calls Try.prog 27 #[p, .pointer none] w fun e w' => ∃ A c, e = .returned (.slice A 0 c) ∧ Below w.heap.size w w'
theorem MarkC.next {B : BookP} (M : MarkC B) {w w' : World} {F : Nat → Prop} {p : Value} {L : List Mrk} (h : B w F p L) (hb : Below w.heap.size w w') : B w' F p L := M.keep h (fun k hk => hb.block k (M.le h k hk)) hb.size
theorem MarkC.beside {B : BookP} (M : MarkC B) {w w' : World} {F F2 : Nat → Prop} {p : Value} {L : List Mrk} (h : B w F p L) (ho : OutF F2 w w') (hd : ∀ k, F k → ¬ F2 k) : B w' F p L := M.keep h (fun k hk => ho.block k (M.le h k hk) (hd k hk)) ho.size
/-- The steps of a page. -/
def pageD (es : List Ins) (ds : List IDt) : List Dot := es.map (fun x => ⟨1, x, (0, 0)⟩) ++ ds.map (fun i => ⟨0, ⟨(0, 0), (0, 0), false, 0⟩, i⟩)
theorem pageD_len (es : List Ins) (ds : List IDt) : (pageD es ds).length = es.length + ds.length := by unfold pageD; simp
theorem pageD_add {es : List Ins} {ds : List IDt} {k : Nat} {x : Ins} (h : es[k]? = some x) : (pageD es ds)[k]? = some ⟨1, x, (0, 0)⟩ := by
  unfold pageD
  have := (List.getElem?_eq_some_iff.1 h).1
  rw [List.getElem?_append_left (by simpa using this), List.getElem?_map, h]
  rfl
theorem pageD_drop {es : List Ins} {ds : List IDt} {k : Nat} {i : IDt} (h : ds[k]? = some i) : (pageD es ds)[es.length + k]? = some ⟨0, ⟨(0, 0), (0, 0), false, 0⟩, i⟩ := by
  unfold pageD
  rw [List.getElem?_append_right (by simp), List.length_map, Nat.add_sub_cancel_left, List.getElem?_map, h]
  rfl
theorem page_add {es : List Ins} {ds : List IDt} {k : Nat} {x : Ins} (h : es[k]? = some x) : txtK (pageD es ds) (k + 1) = ⟨(addR (txtK (pageD es ds) k).L x).1, (txtK (pageD es ds) k).G⟩ := by
  rw [txtK_succ (pageD_add h)]
  unfold stepT
  rw [if_neg (fun h => absurd (show (1 : Int) = 0 from h) (by decide))]
theorem page_drop {es : List Ins} {ds : List IDt} {k : Nat} {i : IDt} (h : ds[k]? = some i) : txtK (pageD es ds) (es.length + k + 1) = ⟨(txtK (pageD es ds) (es.length + k)).L, (dropR (txtK (pageD es ds) (es.length + k)).L (txtK (pageD es ds) (es.length + k)).G i).1⟩ := by
  rw [txtK_succ (pageD_drop h)]
  unfold stepT
  rw [if_pos rfl]
/-- The text of a page. -/
def pageT (es : List Ins) (ds : List IDt) : Txt := txtK (pageD es ds) (es.length + ds.length)
theorem addR_right16 {L : List Ins} {x : Ins} (h : ∀ y ∈ L, rightB y = true) : ∀ y ∈ (addR L x).1, rightB y = true := by
  unfold addR
  split
  · exact h
  · rename_i h1
    split
    · exact h
    · split
      · exact h
      · split
        · exact h
        · intro y hy
          rcases List.mem_append.1 hy with hy | hy
          · exact h y hy
          · rw [List.mem_singleton] at hy
            subst hy
            cases h2 : rightB y with
            | true => rfl
            | false => exact absurd h2 h1
theorem step_right {t : Txt} (h : ∀ y ∈ t.L, rightB y = true) (x : Dot) : ∀ y ∈ (stepT t x).L, rightB y = true := by
  unfold stepT
  split
  · exact h
  · exact addR_right16 h
theorem fold_right : ∀ (l : List Dot) (t : Txt), (∀ y ∈ t.L, rightB y = true) → ∀ y ∈ (l.foldl stepT t).L, rightB y = true
  | [], _, h => h
  | x :: r, _, h => fold_right r _ (step_right h x)
theorem page_ok {es : List Ins} {ds : List IDt} (he : es.length ≤ 40) (hd : ds.length ≤ 40) (k : Nat) : Ok (txtK (pageD es ds) k).L ∧ (txtK (pageD es ds) k).L.length ≤ 80 ∧ (txtK (pageD es ds) k).G.length ≤ 80 ∧ ∀ y ∈ (txtK (pageD es ds) k).L, rightB y = true := by
  have hl := pageD_len es ds
  obtain ⟨h1, h2, h3⟩ := txtK_ok (l := pageD es ds) (k := k) (by omega)
  exact ⟨h1, by omega, by omega, fold_right _ _ (fun y hy => nomatch hy)⟩
/-- The tree may be a step ahead of the document's value. -/
def PlayM (R : TreeP) (w0 : World) (gr : Nat) (p u1 u2 : Value) (t t' : Txt) (w : World) : Prop :=
  ∃ F : Nat → Prop, R w F p t'.L t'.G ∧ RdT w w.heap.size (.agg #[u1, u2]) t.L t.G ∧ (∀ b, inV (.agg #[u1, u2]) b → b < w.heap.size ∧ ¬ F b ∧ b ≠ gr) ∧ (∀ b, F b → w0.heap.size ≤ b ∧ b ≠ gr) ∧ Below w0.heap.size w0 w
section
variable {R : TreeP} (K : FugC R) {w0 w w' : World} {gr : Nat} {p u1 u2 : Value} {t t' : Txt}
theorem playm_of {F F' : Nat → Prop} (h2 : RdT w w.heap.size (.agg #[u1, u2]) t.L t.G) (h3 : ∀ b, inV (.agg #[u1, u2]) b → b < w.heap.size ∧ ¬ F b ∧ b ≠ gr) (h4 : ∀ b, F b → w0.heap.size ≤ b ∧ b ≠ gr) (h5 : Below w0.heap.size w0 w)
    (o : O2 w w0.heap.size 91 gr u1 u2) (r : R w' F' p t'.L t'.G) (hF : ∀ k, F' k → F k ∨ w.heap.size ≤ k) (ho : OutF F w w') :
    PlayM R w0 gr p u1 u2 t t' w' ∧ O2 w' w0.heap.size 91 gr u1 u2 := by
  have hlt := OwnF.lt o
  have hgr : ¬ F gr := fun hf => (h4 gr hf).2 rfl
  refine ⟨⟨F', r, h2.outf ho fun b hb => (h3 b hb).2.1, fun b hb => ⟨Nat.lt_of_lt_of_le (h3 b hb).1 ho.size, fun hf => ?_, (h3 b hb).2.2⟩, fun b hb => ?_, h5.trans (OutF.below ho (fun b hb => (h4 b hb).1) h5.size)⟩, OwnF.same_ o (ho.block gr hlt hgr)⟩
  · rcases hF b hf with h9 | h9
    · exact (h3 b hb).2.1 h9
    · have := (h3 b hb).1
      omega
  · rcases hF b hb with h9 | h9
    · exact h4 b h9
    · exact ⟨Nat.le_trans h5.size h9, by omega⟩
include K
theorem PlayM.keep (h : PlayM R w0 gr p u1 u2 t t' w) (hb : Below w.heap.size w w') : PlayM R w0 gr p u1 u2 t t' w' := by
  obtain ⟨F, h1, h2, h3, h4, h5⟩ := h
  exact ⟨F, K.next h1 hb, (h2.keep hb).mono hb.size, fun b hb' => ⟨Nat.lt_of_lt_of_le (h3 b hb').1 hb.size, (h3 b hb').2⟩, h4, h5.trans (hb.mono h5.size)⟩
theorem playm_add {wr : World} (h : PlayB R w0 gr p u1 u2 t wr) (o : O2 wr w0.heap.size 91 gr u1 u2) (hw : Below wr.heap.size wr w) (hok : Ok t.L) (hl : t.L.length ≤ 4096) (x : Ins) :
    Calls Try.prog 33 #[p, insV x] w fun e w' => e = .returned (.int .i64 (addR t.L x).2) ∧ PlayM R w0 gr p u1 u2 t ⟨(addR t.L x).1, t.G⟩ w' ∧ O2 w' w0.heap.size 91 gr u1 u2 ∧ OutF (fun b => b < wr.heap.size) w w' := by
  obtain ⟨F, h1, h2, h3, h4, h5⟩ := h
  have hFl := K.le h1
  refine (K.add x w (K.next h1 hw) hok hl).mono ?_
  rintro e w' ⟨he, F', r, hF, ho⟩
  obtain ⟨m1, m2⟩ := playm_of (t' := ⟨(addR t.L x).1, t.G⟩) ((h2.keep hw).mono hw.size) (fun b hb => ⟨Nat.lt_of_lt_of_le (h3 b hb).1 hw.size, (h3 b hb).2⟩) h4 (h5.trans (hw.mono h5.size)) (OwnF.keep o hw) r hF ho
  exact ⟨he, m1, m2, ⟨ho.os, ho.tape, ho.output, ho.size, fun k hk hn => ho.block k hk fun hf => hn (hFl k hf)⟩⟩
theorem playm_drop {wr : World} (h : PlayB R w0 gr p u1 u2 t wr) (o : O2 wr w0.heap.size 91 gr u1 u2) (hw : Below wr.heap.size wr w) (hok : Ok t.L) (hl : t.L.length ≤ 4096) (i : IDt) :
    Calls Try.prog 46 #[p, idV i] w fun e w' => e = .returned (.int .i64 (dropR t.L t.G i).2) ∧ PlayM R w0 gr p u1 u2 t ⟨t.L, (dropR t.L t.G i).1⟩ w' ∧ O2 w' w0.heap.size 91 gr u1 u2 ∧ OutF (fun b => b < wr.heap.size) w w' := by
  obtain ⟨F, h1, h2, h3, h4, h5⟩ := h
  have hFl := K.le h1
  refine (K.drop i w (K.next h1 hw) hok hl).mono ?_
  rintro e w' ⟨he, F', r, hF, ho⟩
  obtain ⟨m1, m2⟩ := playm_of (t' := ⟨t.L, (dropR t.L t.G i).1⟩) ((h2.keep hw).mono hw.size) (fun b hb => ⟨Nat.lt_of_lt_of_le (h3 b hb).1 hw.size, (h3 b hb).2⟩) h4 (h5.trans (hw.mono h5.size)) (OwnF.keep o hw) r hF ho
  exact ⟨he, m1, m2, ⟨ho.os, ho.tape, ho.output, ho.size, fun k hk hn => ho.block k hk fun hf => hn (hFl k hf)⟩⟩
theorem playb_of {v : Value} (h : PlayM R w0 gr p u1 u2 t t' w) (o : O2 w w0.heap.size 91 gr u1 u2) (hv : RdT w' w'.heap.size v t'.L t'.G) (hin : ∀ k, inV v k → inV (.agg #[u1, u2]) k ∨ (w.heap.size ≤ k ∧ k < w'.heap.size)) (hb : Below w.heap.size w w') :
    ∃ A c A2 c2, v = .agg #[.slice A t'.L.length c, .slice A2 t'.G.length c2] ∧ PlayB R w0 gr p (.slice A t'.L.length c) (.slice A2 t'.G.length c2) t' w' ∧ O2 w' w0.heap.size 91 gr u1 u2 := by
  obtain ⟨F, h1, h2, h3, h4, h5⟩ := h
  have hlt := OwnF.lt o
  have hFl := K.le h1
  obtain ⟨A, c, A2, c2, rfl, t1, t2⟩ := hv
  refine ⟨A, c, A2, c2, rfl, ⟨F, K.next h1 hb, ⟨A, c, A2, c2, rfl, t1, t2⟩, fun b hb' => ?_, h4, h5.trans (hb.mono h5.size)⟩, OwnF.keep o hb⟩
  rcases hin b hb' with h9 | h9
  · exact ⟨Nat.lt_of_lt_of_le (h3 b h9).1 hb.size, (h3 b h9).2⟩
  · exact ⟨h9.2, fun hf => by have := hFl b hf; omega, by omega⟩
theorem playm_radd {x : Ins} (h : PlayM R w0 gr p u1 u2 t ⟨(addR t.L x).1, t.G⟩ w) (o : O2 w w0.heap.size 91 gr u1 u2) (hl : t.L.length ≤ 4096) :
    Calls Try.prog 45 #[.agg #[u1, u2], insV x] w fun e w' => ∃ A n c A2 n2 c2, e = .returned (.tuple #[.agg #[.slice A n c, .slice A2 n2 c2], .int .i64 (addR t.L x).2]) ∧ PlayB R w0 gr p (.slice A n c) (.slice A2 n2 c2) ⟨(addR t.L x).1, t.G⟩ w' ∧ O2 w' w0.heap.size 91 gr u1 u2 := by
  have h0 := h
  obtain ⟨F, h1, h2, h3, h4, h5⟩ := h
  refine (radd_any x w h2 (Nat.le_refl _) (Nat.le_trans hl (by decide))).mono ?_
  rintro e w' ⟨v', rfl, hv, hin, hb⟩
  obtain ⟨A, c, A2, c2, rfl, hP, o2⟩ := playb_of K (t' := ⟨(addR t.L x).1, t.G⟩) h0 o hv hin hb
  exact ⟨A, _, c, A2, _, c2, rfl, hP, o2⟩
theorem playm_rdrop {i : IDt} (h : PlayM R w0 gr p u1 u2 t ⟨t.L, (dropR t.L t.G i).1⟩ w) (o : O2 w w0.heap.size 91 gr u1 u2) (hl : t.L.length ≤ 4096) (hg : t.G.length ≤ 4096) :
    Calls Try.prog 47 #[.agg #[u1, u2], idV i] w fun e w' => ∃ A n c A2 n2 c2, e = .returned (.tuple #[.agg #[.slice A n c, .slice A2 n2 c2], .int .i64 (dropR t.L t.G i).2]) ∧ PlayB R w0 gr p (.slice A n c) (.slice A2 n2 c2) ⟨t.L, (dropR t.L t.G i).1⟩ w' ∧ O2 w' w0.heap.size 91 gr u1 u2 := by
  have h0 := h
  obtain ⟨F, h1, h2, h3, h4, h5⟩ := h
  refine (rdrop_any i w h2 (Nat.le_refl _) (Nat.le_trans hl (by decide)) (Nat.le_trans hg (by decide))).mono ?_
  rintro e w' ⟨v', rfl, hv, hin, hb⟩
  obtain ⟨A, c, A2, c2, rfl, hP, o2⟩ := playb_of K (t' := ⟨t.L, (dropR t.L t.G i).1⟩) h0 o hv hin hb
  exact ⟨A, _, c, A2, _, c2, rfl, hP, o2⟩
end
end Go.Proofs.Ytpjeggbkhbghaaa
namespace Go.Proofs.Ytpjeggbkhbghaaa
open Go Go.RowKit
set_option maxRecDepth 20000
abbrev pageV (A1 : Option Addr) (n1 c1 : Nat) (A2 : Option Addr) (n2 c2 : Nat) (A3 : Option Addr) (n3 c3 : Nat) : Value := .agg #[.slice A1 n1 c1, .slice A2 n2 c2, .slice A3 n3 c3]
/-- May it be gone through? -/
def fewB (n1 n2 n3 : Nat) : Bool := decide (n1 ≤ 40 ∧ n2 ≤ 40 ∧ n3 ≤ 20)
section
variable {A1 A2 A3 : Option Addr} {n1 c1 n2 c2 n3 c3 : Nat}
theorem few_any (w : World) : Calls Try.prog 21 #[pageV A1 n1 c1 A2 n2 c2 A3 n3 c3] w fun e w' => e = .returned (.bool (fewB n1 n2 n3)) ∧ Below w.heap.size w w' := by
  obtain ⟨v1, ev⟩ : ∃ v, v = w.alloc (.cells #[.slice A1 n1 c1, .slice A2 n2 c2, .slice A3 n3 c3] 45) := ⟨_, rfl⟩
  obtain ⟨g, eg⟩ : ∃ g, g = w.heap.size := ⟨_, rfl⟩
  have hb : Below w.heap.size w v1 := by rw [ev]; exact (Below.refl _ _).alloc (Nat.le_refl _) _
  have hq : v1.cell? ⟨g, 0, none⟩ = some (.slice A1 n1 c1) ∧ v1.cell? ⟨g, 1, none⟩ = some (.slice A2 n2 c2) ∧ v1.cell? ⟨g, 2, none⟩ = some (.slice A3 n3 c3) := by
    rw [ev, eg]
    simp
  have HB := Lib.hid hb
  have HV := Lib.hid (And.intro ev eg)
  obtain ⟨q0, q1, q2⟩ := hq
  clear ev eg hb
  by_cases h1 : n1 ≤ 40
  case neg =>
    have HD := Lib.hid (show fewB n1 n2 n3 = false from decide_eq_false fun h => h1 h.1)
    have z1 : ¬ (n1 : Int) ≤ 40 := by omega
    clear h1
    go_enter Try.func21, Try.ntmps21
    go_upto_region 1 with fail
    rw [← HV.out.1, ← HV.out.2]
    go_wp2_with fail
    go_ret
    rw [HD.out]
    exact ⟨rfl, HB.out⟩
  by_cases h2 : n2 ≤ 40
  case neg =>
    have HD := Lib.hid (show fewB n1 n2 n3 = false from decide_eq_false fun h => h2 h.2.1)
    have z1 : (n1 : Int) ≤ 40 := by omega
    have z2 : ¬ (n2 : Int) ≤ 40 := by omega
    clear h1 h2
    go_enter Try.func21, Try.ntmps21
    go_upto_region 1 with fail
    rw [← HV.out.1, ← HV.out.2]
    go_wp2_with fail
    go_ret
    rw [HD.out]
    exact ⟨rfl, HB.out⟩
  by_cases h3 : n3 ≤ 20
  case neg =>
    have HD := Lib.hid (show fewB n1 n2 n3 = false from decide_eq_false fun h => h3 h.2.2)
    have z1 : (n1 : Int) ≤ 40 := by omega
    have z2 : (n2 : Int) ≤ 40 := by omega
    have z3 : ¬ (n3 : Int) ≤ 20 := by omega
    clear h1 h2 h3
    go_enter Try.func21, Try.ntmps21
    go_upto_region 1 with fail
    rw [← HV.out.1, ← HV.out.2]
    go_wp2_with fail
    go_ret
    rw [HD.out]
    exact ⟨rfl, HB.out⟩
  have HD := Lib.hid (show fewB n1 n2 n3 = true from decide_eq_true ⟨h1, h2, h3⟩)
  have z1 : (n1 : Int) ≤ 40 := by omega
  have z2 : (n2 : Int) ≤ 40 := by omega
  have z3 : (n3 : Int) ≤ 20 := by omega
  clear h1 h2 h3
  go_enter Try.func21, Try.ntmps21
  go_upto_region 1 with fail
  rw [← HV.out.1, ← HV.out.2]
  go_wp2_with fail
  go_ret
  rw [HD.out]
  exact ⟨rfl, HB.out⟩
end
section
variable {R : TreeP} (K : FugC R)
include K
set_option maxHeartbeats 6400000 in
theorem text16_any {A1 A2 A3 : Option Addr} {n1 c1 n2 c2 n3 c3 : Nat} {es : List Ins} {ds : List IDt} (w : World) (r1 : RdR insE w w.heap.size A1 c1 es) (r2 : RdR idE w w.heap.size A2 c2 ds) (hn1 : es.length = n1) (hn2 : ds.length = n2) (hl1 : n1 ≤ 40) (hl2 : n2 ≤ 40) :
    Calls Try.prog 22 #[pageV A1 n1 c1 A2 n2 c2 A3 n3 c3] w fun e w' => ∃ p F A c, e = .returned (.tuple #[p, .slice A (nodesL (pageT es ds).L).length c]) ∧ R w' F p (pageT es ds).L (pageT es ds).G ∧ (∀ k, F k → w.heap.size ≤ k) ∧ RdR nodE w' w'.heap.size A c (nodL (pageT es ds).L (pageT es ds).G) ∧ Below w.heap.size w w' := by
  obtain ⟨v1, ev⟩ : ∃ v, v = w.alloc (.cells #[.slice A1 n1 c1, .slice A2 n2 c2, .slice A3 n3 c3] 45) := ⟨_, rfl⟩
  obtain ⟨g, eg⟩ : ∃ g, g = w.heap.size := ⟨_, rfl⟩
  have hb : Below w.heap.size w v1 := by rw [ev]; exact (Below.refl _ _).alloc (Nat.le_refl _) _
  have hq : v1.cell? ⟨g, 0, none⟩ = some (.slice A1 n1 c1) ∧ v1.cell? ⟨g, 1, none⟩ = some (.slice A2 n2 c2) := by
    rw [ev, eg]
    simp
  have hg : g < v1.heap.size := by rw [ev, eg]; simp
  obtain ⟨D, eD⟩ : ∃ D, D = pageD es ds := ⟨_, rfl⟩
  have HD := Lib.hid eD
  have HT0 := Lib.hid (show pageT es ds = txtK D (n1 + n2) by rw [eD, ← hn1, ← hn2]; rfl)
  have HOK := Lib.hid (show ∀ k, Ok (txtK D k).L ∧ (txtK D k).L.length ≤ 80 ∧ (txtK D k).G.length ≤ 80 ∧ ∀ y ∈ (txtK D k).L, rightB y = true from fun k => by rw [eD]; exact page_ok (by omega) (by omega) k)
  have HN := Lib.hid (And.intro hn1 (And.intro hl1 (And.intro hn2 hl2)))
  have HB := Lib.hid hb
  have HV := Lib.hid (And.intro ev eg)
  have HQ := Lib.hid (fun wz (hz : Below v1.heap.size v1 wz) => And.intro ((hz.cell (p := ⟨g, 0, none⟩) hg).trans hq.1) ((hz.cell (p := ⟨g, 1, none⟩) hg).trans hq.2))
  have HR := Lib.hid (fun wz (hz : Below v1.heap.size v1 wz) => And.intro (r1.keep (hb.trans (hz.mono hb.size)) : RdR insE wz w.heap.size A1 c1 es) (r2.keep (hb.trans (hz.mono hb.size)) : RdR idE wz w.heap.size A2 c2 ds))
  clear ev eg hb hq hg eD r1 r2 hn1 hn2 hl1 hl2
  go_enter Try.func22, Try.ntmps22
  go_upto_region 1 with fail
  rw [← HV.out.1, ← HV.out.2]
  clear HV
  go_wp2_with fail
  go_at_call 36
  refine (play_new K v1).mono ?_
  rintro z v2 ⟨p, rfl, hp⟩
  obtain ⟨v3, e3⟩ : ∃ v, v = v2.alloc (.cells #[.slice none 0 0, .slice none 0 0] 91) := ⟨_, rfl⟩
  obtain ⟨gr, egr⟩ : ∃ g, g = v2.heap.size := ⟨_, rfl⟩
  rw [← e3, ← egr] at hp
  have HP := Lib.hid (show Play R v1 gr p (txtK D 0) v3 from hp)
  have HV := Lib.hid (And.intro e3 egr)
  obtain ⟨q0, q1⟩ := HQ.out v3 hp.base
  clear hp e3 egr
  go_upto_region 2 with fail
  rw [← HV.out.1, ← HV.out.2]
  clear HV
  go_wp2_with fail
  go_loopw [15] (fun i wr => ∃ k : Nat, k ≤ n1 ∧ i = .int .i64 (k : Int) ∧ Play R v1 gr p (txtK D (k)) wr) (fun i _ => n1 - (intF i).toNat)
  case atStart => exact ⟨0, Nat.zero_le _, rfl, HP.out⟩
  case round =>
    obtain ⟨k, hk, rfl, hp⟩ := hrel
    clear HP
    by_cases hlt : k < n1
    · have g2 : (k : Int) < (n1 : Int) := by omega
      obtain ⟨x, hx⟩ := getD_of (L := es) (k := k) (by rw [HN.out.1]; exact hlt)
      obtain ⟨b, o, rfl, hbB, m0, m1, m2, m3, m4, m5⟩ := ins_at (HR.out wr hp.base).1 hx
      obtain ⟨v5, e5⟩ : ∃ v, v = wr.alloc (.cells #[.int .i64 x.id.1, .int .i64 x.id.2, .int .i64 x.par.1, .int .i64 x.par.2, .bool x.right, .int .i32 x.rune] 74) := ⟨_, rfl⟩
      obtain ⟨g5, eg5⟩ : ∃ g, g = wr.heap.size := ⟨_, rfl⟩
      have hb5 : Below wr.heap.size wr v5 := by rw [e5]; exact (Below.refl _ _).alloc (Nat.le_refl _) _
      have hd : g5 < v5.heap.size ∧ ¬ g5 < wr.heap.size ∧ v5.cell? ⟨g5, 0, none⟩ = some (.int .i64 x.id.1) ∧ v5.cell? ⟨g5, 1, none⟩ = some (.int .i64 x.id.2) ∧ v5.cell? ⟨g5, 2, none⟩ = some (.int .i64 x.par.1) ∧ v5.cell? ⟨g5, 3, none⟩ = some (.int .i64 x.par.2) ∧ v5.cell? ⟨g5, 4, none⟩ = some (.bool x.right) ∧ v5.cell? ⟨g5, 5, none⟩ = some (.int .i32 x.rune) := by
        rw [e5, eg5]
        simp
      obtain ⟨u1, u2, hPB, o5⟩ := hp
      obtain ⟨T0, eT0⟩ : ∃ t, t = txtK D (k) := ⟨_, rfl⟩
      have hok := HOK.out (k)
      have hst : txtK D (k + 1) = ⟨(addR T0.L x).1, T0.G⟩ := by rw [eT0]; rw [HD.out]; exact page_add hx
      rw [← eT0] at hPB hok
      have HT := Lib.hid (And.intro hok hst)
      have HA := Lib.hid (playm_add K hPB o5 hb5 hok.1 (Nat.le_trans hok.2.1 (by decide)) x)
      have E5 := Lib.hid (And.intro e5 eg5)
      have HDD := Lib.hid hd
      have HK := Lib.hid hlt
      have hl9 := HN.out.2.1
      obtain ⟨A3, n3', c3', A4, n4, c4, rfl, rfl⟩ := hPB.slices
      clear hbB hb5 hd o5 hPB hok hst hx hlt hk e5 eg5 eT0
      go_upto_region 5 with fail
      rw [← E5.out.1, ← E5.out.2]
      clear E5 m0 m1 m2 m3 m4 m5
      obtain ⟨_, _, m0, m1, m2, m3, m4, m5⟩ := HDD.out
      go_wp2_with fail
      go_at_call 33
      refine HA.out.mono ?_
      rintro z v6 ⟨rfl, hPM, o6, ho⟩
      clear m0 m1 m2 m3 m4 m5
      obtain ⟨m0, m1, m2, m3, m4, m5⟩ : v6.cell? ⟨g5, 0, none⟩ = some (.int .i64 x.id.1) ∧ v6.cell? ⟨g5, 1, none⟩ = some (.int .i64 x.id.2) ∧ v6.cell? ⟨g5, 2, none⟩ = some (.int .i64 x.par.1) ∧ v6.cell? ⟨g5, 3, none⟩ = some (.int .i64 x.par.2) ∧ v6.cell? ⟨g5, 4, none⟩ = some (.bool x.right) ∧ v6.cell? ⟨g5, 5, none⟩ = some (.int .i32 x.rune) := by
        obtain ⟨q0, q1, m0, m1, m2, m3, m4, m5⟩ := HDD.out
        exact ⟨ho.cell q0 q1 m0, ho.cell q0 q1 m1, ho.cell q0 q1 m2, ho.cell q0 q1 m3, ho.cell q0 q1 m4, ho.cell q0 q1 m5⟩
      have y0 := o6.c0
      have y1 := o6.c1
      have HB2 := Lib.hid (playm_radd K hPM o6 (Nat.le_trans HT.out.1.2.1 (by decide)))
      clear hPM o6 ho HA HDD
      go_wp2_with fail
      go_at_call 45
      refine HB2.out.mono ?_
      rintro z v7 ⟨A5, n5, c5, A6, n6, c6, rfl, hPB, o7⟩
      clear m0 m1 m2 m3 m4 m5 y0 y1 HB2
      have y0 := o7.c0
      have y1 := o7.c1
      have f0 := o7.f0
      have f1 := o7.f1
      have HS := Lib.hid (PlayB.store K hPB o7)
      clear hPB o7
      go_wp2_with fail
      go_roundw
      case rel => exact ⟨k + 1, HK.out, by go_num, by rw [show (k + 1) = k + 1 from rfl, HT.out.2]; exact HS.out⟩
      case measure => simp [intF]; have := HK.out; omega
    · obtain rfl : n1 = k := by omega
      have hl9 := HN.out.2.1
      obtain ⟨vo, evo⟩ : ∃ v, v = wr := ⟨_, rfl⟩
      subst evo
      have HP := Lib.hid (show Play R v1 gr p (txtK D (n1 + 0)) vo from hp)
      obtain ⟨q0, q1⟩ := HQ.out vo hp.base
      clear hp hlt hk
      go_wp2_with fail
      go_loopw [32] (fun i wr => ∃ k : Nat, k ≤ n2 ∧ i = .int .i64 (k : Int) ∧ Play R v1 gr p (txtK D (n1 + k)) wr) (fun i _ => n2 - (intF i).toNat)
      case atStart => exact ⟨0, Nat.zero_le _, rfl, HP.out⟩
      case round =>
        obtain ⟨k, hk, rfl, hp⟩ := hrel
        clear HP
        by_cases hlt : k < n2
        · have g2 : (k : Int) < (n2 : Int) := by omega
          obtain ⟨x, hx⟩ := getD_of (L := ds) (k := k) (by rw [HN.out.2.2.1]; exact hlt)
          obtain ⟨b, o, rfl, hbB, m0, m1⟩ := id_at (HR.out wr hp.base).2 hx
          obtain ⟨v5, e5⟩ : ∃ v, v = wr.alloc (.cells #[.int .i64 x.1, .int .i64 x.2] 27) := ⟨_, rfl⟩
          obtain ⟨g5, eg5⟩ : ∃ g, g = wr.heap.size := ⟨_, rfl⟩
          have hb5 : Below wr.heap.size wr v5 := by rw [e5]; exact (Below.refl _ _).alloc (Nat.le_refl _) _
          have hd : g5 < v5.heap.size ∧ ¬ g5 < wr.heap.size ∧ v5.cell? ⟨g5, 0, none⟩ = some (.int .i64 x.1) ∧ v5.cell? ⟨g5, 1, none⟩ = some (.int .i64 x.2) := by
            rw [e5, eg5]
            simp
          obtain ⟨u1, u2, hPB, o5⟩ := hp
          obtain ⟨T0, eT0⟩ : ∃ t, t = txtK D (n1 + k) := ⟨_, rfl⟩
          have hok := HOK.out (n1 + k)
          have hst : txtK D (n1 + k + 1) = ⟨T0.L, (dropR T0.L T0.G x).1⟩ := by rw [eT0]; rw [HD.out, ← HN.out.1]; exact page_drop hx
          rw [← eT0] at hPB hok
          have HT := Lib.hid (And.intro hok hst)
          have HA := Lib.hid (playm_drop K hPB o5 hb5 hok.1 (Nat.le_trans hok.2.1 (by decide)) x)
          have E5 := Lib.hid (And.intro e5 eg5)
          have HDD := Lib.hid hd
          have HK := Lib.hid hlt
          have hl9 := HN.out.2.2.2
          obtain ⟨A3, n3', c3', A4, n4, c4, rfl, rfl⟩ := hPB.slices
          clear hbB hb5 hd o5 hPB hok hst hx hlt hk e5 eg5 eT0
          go_upto_region 11 with fail
          rw [← E5.out.1, ← E5.out.2]
          clear E5 m0 m1
          obtain ⟨_, _, m0, m1⟩ := HDD.out
          go_wp2_with fail
          go_at_call 46
          refine HA.out.mono ?_
          rintro z v6 ⟨rfl, hPM, o6, ho⟩
          clear m0 m1
          obtain ⟨m0, m1⟩ : v6.cell? ⟨g5, 0, none⟩ = some (.int .i64 x.1) ∧ v6.cell? ⟨g5, 1, none⟩ = some (.int .i64 x.2) := by
            obtain ⟨q0, q1, m0, m1⟩ := HDD.out
            exact ⟨ho.cell q0 q1 m0, ho.cell q0 q1 m1⟩
          have y0 := o6.c0
          have y1 := o6.c1
          have HB2 := Lib.hid (playm_rdrop K hPM o6 (Nat.le_trans HT.out.1.2.1 (by decide)) (Nat.le_trans HT.out.1.2.2.1 (by decide)))
          clear hPM o6 ho HA HDD
          go_wp2_with fail
          go_at_call 47
          refine HB2.out.mono ?_
          rintro z v7 ⟨A5, n5, c5, A6, n6, c6, rfl, hPB, o7⟩
          clear m0 m1 y0 y1 HB2
          have y0 := o7.c0
          have y1 := o7.c1
          have f0 := o7.f0
          have f1 := o7.f1
          have HS := Lib.hid (PlayB.store K hPB o7)
          clear hPB o7
          go_wp2_with fail
          go_roundw
          case rel => exact ⟨k + 1, HK.out, by go_num, by rw [show n1 + (k + 1) = n1 + k + 1 from rfl, HT.out.2]; exact HS.out⟩
          case measure => simp [intF]; have := HK.out; omega
        · obtain rfl : n2 = k := by omega
          obtain ⟨u1, u2, hPB, o⟩ := hp
          obtain ⟨A4, m4, c4, A5, m5, c5, rfl, rfl⟩ := hPB.slices
          obtain ⟨F, hR, hV, _, hF1, hbo⟩ := hPB
          have hok := HOK.out (n1 + n2)
          obtain ⟨T, eT⟩ : ∃ t, t = txtK D (n1 + n2) := ⟨_, rfl⟩
          rw [← eT] at hok hR hV
          have HTT := Lib.hid (HT0.out.trans eT.symm)
          have y0 := o.c0
          have y1 := o.c1
          have HN0 := Lib.hid (rnodes_any hok.1 (Nat.le_trans hok.2.1 (by decide)) (Nat.le_trans hok.2.2.1 (by decide)) wr hV (Nat.le_refl _))
          have HRR := Lib.hid (And.intro hR (And.intro hF1 (HB.out.trans (hbo.mono HB.out.size))))
          clear o hok hR hV hF1 hbo hlt hk eT
          go_wp2_with fail
          go_at_call 48
          refine HN0.out.mono ?_
          rintro z v9 ⟨A9, c9, rfl, o9, h9⟩
          have HE := Lib.hid (And.intro (K.next HRR.out.1 h9) (And.intro o9.rd (HRR.out.2.2.trans (h9.mono HRR.out.2.2.size))))
          clear o9 h9 y0 y1 HN0
          go_wp2_with fail
          go_returns
          rw [HTT.out]
          exact ⟨p, F, A9, c9, rfl, HE.out.1, fun b hb => Nat.le_trans HB.out.size (HRR.out.2.1 b hb).1, HE.out.2.1, HE.out.2.2⟩
end
end Go.Proofs.Ytpjeggbkhbghaaa
namespace Go.Proofs.Ytpjeggbkhbghaaa
open Go Go.RowKit
set_option maxRecDepth 20000
/-- The code's book at p and the document's row stand for the same marks. -/
def BookBoth (B : BookP) (w0 : World) (p : Value) (A : Option Addr) (c : Nat) (L : List Mrk) (w : World) : Prop :=
  ∃ F : Nat → Prop, B w F p L ∧ RdR mrkE w w.heap.size A c L ∧ (∀ ad, A = some ad → ad.block < w.heap.size ∧ ¬ F ad.block) ∧ (∀ b, F b → w0.heap.size ≤ b) ∧ Below w0.heap.size w0 w
section
variable {B : BookP} (M : MarkC B)
include M
theorem BookBoth.keep {w0 w w' : World} {p : Value} {A : Option Addr} {c : Nat} {L : List Mrk} (h : BookBoth B w0 p A c L w) (hb : Below w.heap.size w w') : BookBoth B w0 p A c L w' := by
  obtain ⟨F, h1, h2, h3, h4, h5⟩ := h
  exact ⟨F, M.next h1 hb, h2.next hb, fun ad e => ⟨Nat.lt_of_lt_of_le (h3 ad e).1 hb.size, (h3 ad e).2⟩, h4, h5.trans (hb.mono h5.size)⟩
/-- Adding to the code's book; the document's row stays; the book is a mark ahead. -/
def BookAhead (B : BookP) (w0 : World) (p : Value) (A : Option Addr) (c : Nat) (L L' : List Mrk) (w : World) : Prop :=
  ∃ F : Nat → Prop, B w F p L' ∧ RdR mrkE w w.heap.size A c L ∧ (∀ ad, A = some ad → ad.block < w.heap.size ∧ ¬ F ad.block) ∧ (∀ b, F b → w0.heap.size ≤ b) ∧ Below w0.heap.size w0 w
theorem both_add {w0 wr w : World} {p : Value} {A : Option Addr} {c : Nat} {L : List Mrk} (h : BookBoth B w0 p A c L wr) (hw : Below wr.heap.size wr w) (m : Mrk) :
    Calls Try.prog 15 #[p, mrkV m] w fun e w' => e = .returned (.int .i64 (maddR L m).2) ∧ BookAhead B w0 p A c L (maddR L m).1 w' ∧ OutF (fun b => b < wr.heap.size) w w' := by
  obtain ⟨F, h1, h2, h3, h4, h5⟩ := h
  have hFl := M.le h1
  refine (M.add m w (M.next h1 hw)).mono ?_
  rintro e w' ⟨he, F', r, hF, ho⟩
  refine ⟨he, ⟨F', r, (h2.next hw).outf ho (fun ad e => (h3 ad e).2), fun ad ha => ⟨Nat.lt_of_lt_of_le (h3 ad ha).1 (Nat.le_trans hw.size ho.size), fun hf => ?_⟩, fun b hb => ?_, (h5.trans (hw.mono h5.size)).trans (OutF.below ho h4 (Nat.le_trans h5.size hw.size))⟩, ⟨ho.os, ho.tape, ho.output, ho.size, fun k hk hn => ho.block k hk fun hf => hn (hFl k hf)⟩⟩
  · rcases hF _ hf with h9 | h9
    · exact (h3 ad ha).2 h9
    · have := (h3 ad ha).1
      have := hw.size
      omega
  · rcases hF b hb with h9 | h9
    · exact h4 b h9
    · exact Nat.le_trans h5.size (Nat.le_trans hw.size h9)
/-- .. and the document's row grows as the book did. -/
theorem ahead_row {w0 w : World} {p : Value} {A : Option Addr} {c : Nat} {L : List Mrk} {m : Mrk} (h : BookAhead B w0 p A c L (maddR L m).1 w) (hl : L.length ≤ 512) :
    Calls Try.prog 12 #[.slice A L.length c, mrkV m] w fun e w' => ∃ A' c', e = .returned (.tuple #[.slice A' (maddR L m).1.length c', .int .i64 (maddR L m).2]) ∧ BookBoth B w0 p A' c' (maddR L m).1 w' ∧ Below w.heap.size w w' := by
  obtain ⟨F, h1, h2, h3, h4, h5⟩ := h
  have hFl := M.le h1
  refine (madd_any m w h2 (Nat.le_refl _) rfl hl).mono ?_
  rintro e w' ⟨A', c', he, r, hA, hb⟩
  refine ⟨A', c', he, ⟨F, M.next h1 hb, r, fun ad ha => ?_, h4, h5.trans (hb.mono h5.size)⟩, hb⟩
  rcases hA ad ha with h9 | h9
  · exact ⟨Nat.lt_of_lt_of_le (h3 ad h9).1 hb.size, (h3 ad h9).2⟩
  · exact ⟨h9.2, fun hf => by have := hFl _ hf; omega⟩
set_option maxHeartbeats 6400000 in
theorem book16_any {A1 A2 A3 : Option Addr} {n1 c1 n2 c2 n3 c3 : Nat} {ms : List Mrk} (w : World) (r : RdR mrkE w w.heap.size A3 c3 ms) (hn : ms.length = n3) (hl : n3 ≤ 20) :
    Calls Try.prog 23 #[pageV A1 n1 c1 A2 n2 c2 A3 n3 c3] w fun e w' => ∃ p A c, e = .returned (.tuple #[p, .slice A (maddsL [] ms).length c]) ∧ BookBoth B w p A c (maddsL [] ms) w' := by
  obtain ⟨v1, ev⟩ : ∃ v, v = w.alloc (.cells #[.slice A1 n1 c1, .slice A2 n2 c2, .slice A3 n3 c3] 45) := ⟨_, rfl⟩
  obtain ⟨g, eg⟩ : ∃ g, g = w.heap.size := ⟨_, rfl⟩
  have hb : Below w.heap.size w v1 := by rw [ev]; exact (Below.refl _ _).alloc (Nat.le_refl _) _
  have hq : v1.cell? ⟨g, 2, none⟩ = some (.slice A3 n3 c3) := by
    rw [ev, eg]
    simp
  have hg : g < v1.heap.size := by rw [ev, eg]; simp
  have HG := Lib.hid (show ∀ k, Good (maddsL [] (ms.take k)) ∧ (maddsL [] (ms.take k)).length ≤ 512 from fun k => by
    obtain ⟨h1, _, h3⟩ := maddsL_good (ms.take k) [] Good.nil (by decide)
    exact ⟨h1, h3⟩)
  have HN := Lib.hid (And.intro hn hl)
  have HB := Lib.hid hb
  have HV := Lib.hid (And.intro ev eg)
  have HQ := Lib.hid (fun wz (hz : Below v1.heap.size v1 wz) => (hz.cell (p := ⟨g, 2, none⟩) hg).trans hq)
  have HR := Lib.hid (fun wz (hz : Below v1.heap.size v1 wz) => (r.keep (hb.trans (hz.mono hb.size)) : RdR mrkE wz w.heap.size A3 c3 ms))
  clear ev eg hb hq hg r hn
  go_enter Try.func23, Try.ntmps23
  go_upto_region 1 with fail
  rw [← HV.out.1, ← HV.out.2]
  clear HV
  go_wp2_with fail
  go_at_call 11
  refine (M.new v1).mono ?_
  rintro z v2 ⟨p, F, rfl, hB0, hF0, h2⟩
  have HP := Lib.hid (show BookBoth B v1 p none 0 (maddsL [] (ms.take 0)) v2 from ⟨F, hB0, RdR.nothing mrkE _ _, fun ad h => (by cases h), hF0, h2⟩)
  have q2 := HQ.out v2 h2
  clear hB0 hF0 h2
  go_wp2_with fail
  go_loopw [5, 12] (fun lv i wr => ∃ k : Nat, k ≤ n3 ∧ i = .int .i64 (k : Int) ∧ (∃ A c, lv = .slice A (maddsL [] (ms.take k)).length c ∧ BookBoth B v1 p A c (maddsL [] (ms.take k)) wr)) (fun _ i _ => n3 - (intF i).toNat)
  case atStart => exact ⟨0, Nat.zero_le _, rfl, none, 0, rfl, HP.out⟩
  case round =>
    obtain ⟨k, hk, rfl, A, c, rfl, hp⟩ := hrel
    clear HP
    have hgl := HG.out k
    by_cases hlt : k < n3
    · have g2 : (k : Int) < (n3 : Int) := by omega
      obtain ⟨x, hx⟩ := getD_of (L := ms) (k := k) (by rw [HN.out.1]; exact hlt)
      have hbw : Below v1.heap.size v1 wr := by obtain ⟨_, _, _, _, _, h⟩ := hp; exact h
      obtain ⟨b, o, rfl, hbB, m0, m1, m2, m3, m4, m5, m6, m7, m8, m9⟩ := mrk_at (HR.out wr hbw) hx
      obtain ⟨v5, e5⟩ : ∃ v, v = wr.alloc (.cells #[.int .i64 x.clock, .int .i64 x.author, .int .i64 x.from_.id.1, .int .i64 x.from_.id.2, .bool x.from_.behind, .int .i64 x.upto.id.1, .int .i64 x.upto.id.2, .bool x.upto.behind, .int .i64 x.name, .int .i64 x.value] 31) := ⟨_, rfl⟩
      obtain ⟨g5, eg5⟩ : ∃ g, g = wr.heap.size := ⟨_, rfl⟩
      have hb5 : Below wr.heap.size wr v5 := by rw [e5]; exact (Below.refl _ _).alloc (Nat.le_refl _) _
      have hd : g5 < v5.heap.size ∧ ¬ g5 < wr.heap.size ∧ MrkB v5 g5 x := ⟨by rw [e5, eg5]; simp, by rw [eg5]; exact Nat.lt_irrefl _, by rw [e5, eg5]; exact mrk_box wr x⟩
      obtain ⟨L0, eL0⟩ : ∃ l, l = maddsL [] (ms.take k) := ⟨_, rfl⟩
      have hst : maddsL [] (ms.take (k + 1)) = (maddR L0 x).1 := by rw [eL0, take_snoc hx, maddsL_snoc]
      rw [← eL0] at hp hgl ⊢
      have HA := Lib.hid (both_add M hp hb5 x)
      have HT := Lib.hid (And.intro hgl hst)
      have E5 := Lib.hid (And.intro e5 eg5)
      have HDD := Lib.hid hd
      have HK := Lib.hid hlt
      have hl9 := HN.out.2
      clear hbB hb5 hd hp hgl hst hx hlt hk e5 eg5 eL0 hbw
      go_upto_region 6 with fail
      rw [← E5.out.1, ← E5.out.2]
      clear E5 m0 m1 m2 m3 m4 m5 m6 m7 m8 m9
      obtain ⟨_, _, m0, m1, m2, m3, m4, m5, m6, m7, m8, m9⟩ := HDD.out
      go_wp2_with fail
      go_at_call 15
      refine HA.out.mono ?_
      rintro z v6 ⟨rfl, hPM, ho⟩
      clear m0 m1 m2 m3 m4 m5 m6 m7 m8 m9
      obtain ⟨m0, m1, m2, m3, m4, m5, m6, m7, m8, m9⟩ : MrkB v6 g5 x := by
        obtain ⟨q0, q1, m0, m1, m2, m3, m4, m5, m6, m7, m8, m9⟩ := HDD.out
        exact ⟨ho.cell q0 q1 m0, ho.cell q0 q1 m1, ho.cell q0 q1 m2, ho.cell q0 q1 m3, ho.cell q0 q1 m4, ho.cell q0 q1 m5, ho.cell q0 q1 m6, ho.cell q0 q1 m7, ho.cell q0 q1 m8, ho.cell q0 q1 m9⟩
      have HB2 := Lib.hid (ahead_row M hPM HT.out.1.2)
      clear hPM ho HA HDD
      go_wp2_with fail
      go_at_call 12
      refine HB2.out.mono ?_
      rintro z v7 ⟨A5, c5, rfl, hPB, _⟩
      clear m0 m1 m2 m3 m4 m5 m6 m7 m8 m9 HB2
      have HS := Lib.hid hPB
      clear hPB
      go_wp2_with fail
      go_roundw
      case rel => exact ⟨k + 1, HK.out, by go_num, A5, c5, by rw [HT.out.2], by rw [HT.out.2]; exact HS.out⟩
      case measure => simp [intF]; have := HK.out; omega
    · obtain rfl : n3 = k := by omega
      have htk : ms.take n3 = ms := by rw [← HN.out.1, List.take_length]
      rw [htk] at hp
      have HTK := Lib.hid htk
      have HS := Lib.hid hp
      clear hp hgl hlt hk htk
      go_wp2_with fail
      go_returns
      obtain ⟨F, h1, h2, h3, h4, h5⟩ := HS.out
      refine ⟨p, A, c, by rw [HTK.out]; rfl, F, h1, h2, h3, fun b hb => Nat.le_trans HB.out.size (h4 b hb), HB.out.trans (h5.mono HB.out.size)⟩
end
end Go.Proofs.Ytpjeggbkhbghaaa
namespace Go.Proofs.Ytpjeggbkhbghaaa
open Go Go.RowKit
set_option maxRecDepth 20000
def m16 : Mrk := ⟨1, 0, ⟨(0, 0), true⟩, ⟨(0, 0), false⟩, 1, 7⟩
def x16 : Ins := ⟨(0, 1), (0, 0), true, 97⟩
theorem awake16_facts : addR [] x16 = ([x16], 0) ∧ maddR [] m16 = ([m16], 0) ∧ nodesL [x16] = [x16] ∧ runsR [nodeOf [] x16] [m16] = [⟨⟨#[97]⟩, ⟨0, 7, 0, 0, 0⟩⟩] := by
  have hn : nodesL [x16] = [x16] := plan_only (Ok.snoc (L := []) .nil (fun y hy => nomatch hy) (by decide) (.inl ⟨rfl, rfl⟩))
  refine ⟨?_, ?_, hn, ?_⟩
  · rfl
  · rfl
  · rfl
section
variable {R : TreeP} (K : FugC R) {B : BookP} (M : MarkC B)
include K M
set_option maxHeartbeats 3200000 in
theorem awake16 (w : World) : Calls Try.prog 10 #[] w fun e w' => e = .returned (.bool true) ∧ Below w.heap.size w w' := by
  obtain ⟨a1, a2, a3, a4⟩ := awake16_facts
  have ok0 : Ok ([] : List Ins) := .nil
  have ok1 : Ok [x16] := Ok.snoc (L := []) .nil (fun y hy => nomatch hy) (by decide) (.inl ⟨rfl, rfl⟩)
  have HA := Lib.hid (And.intro a1 (And.intro a2 (And.intro a3 a4)))
  have HK := Lib.hid (And.intro ok0 ok1)
  have HN := Lib.hid (K.new w)
  clear a1 a2 a3 a4 ok0 ok1
  go_enter Try.func10, Try.ntmps10
  go_wp2_with fail
  go_at_call 36
  refine HN.out.mono ?_
  rintro e v1 ⟨p, F, rfl, r1, hF, h1⟩
  have H1 := Lib.hid (And.intro r1 (And.intro hF h1))
  have HM := Lib.hid (M.new v1)
  clear r1 hF h1 HN
  go_wp2_with fail
  go_at_call 11
  refine HM.out.mono ?_
  rintro e v2 ⟨q, G, rfl, b2, hG, h2⟩
  have H2 := Lib.hid (And.intro b2 (And.intro hG (And.intro (K.next H1.out.1 h2) (H1.out.2.2.trans (h2.mono H1.out.2.2.size)))))
  clear b2 hG h2 HM
  have HT := Lib.hid (K.add x16 v2 H2.out.2.2.1 HK.out.1 (by decide))
  go_wp2_with fail
  go_at_call 33
  refine HT.out.mono ?_
  rintro e v3 ⟨rfl, F3, r3, hF3, o3⟩
  rw [HA.out.1] at r3 ⊢
  have hdis : ∀ k, G k → ¬ F k := fun k hk hf => by
    have := H2.out.2.1 k hk
    have := K.le H1.out.1 k hf
    omega
  have H3 := Lib.hid (And.intro r3 (And.intro (M.beside H2.out.1 o3 hdis) (And.intro (H2.out.2.2.2.trans (OutF.below o3 H1.out.2.1 H2.out.2.2.2.size)) (And.intro (show ∀ k, G k → w.heap.size ≤ k from fun k hk => Nat.le_trans H1.out.2.2.size (H2.out.2.1 k hk)) (show ∀ k, F3 k → ¬ G k from fun k hk hg => by
    rcases hF3 k hk with h9 | h9
    · exact hdis k hg h9
    · have := M.le H2.out.1 k hg
      omega)))))
  clear r3 hF3 o3 hdis HT
  have HB := Lib.hid (M.add m16 v3 H3.out.2.1)
  go_wp2_with fail
  go_at_call 15
  refine HB.out.mono ?_
  rintro e v4 ⟨rfl, G4, b4, hG4, o4⟩
  rw [HA.out.2.1] at b4 ⊢
  have H4 := Lib.hid (And.intro b4 (And.intro (K.beside H3.out.1 o4 H3.out.2.2.2.2) (H3.out.2.2.1.trans (OutF.below o4 H3.out.2.2.2.1 H3.out.2.2.1.size))))
  clear b4 hG4 o4 HB
  have HR := Lib.hid (M.runs K v4 H4.out.1 H4.out.2.1 HK.out.2 (by decide))
  rw [show nodL [x16] [] = [nodeOf [] x16] by show (nodesL [x16]).map _ = _; rw [HA.out.2.2.1]; rfl, HA.out.2.2.2] at HR
  go_wp2_with fail
  go_at_call 27
  refine HR.out.mono ?_
  rintro e v5 ⟨A, c, rfl, rr, h5⟩
  obtain ⟨b, o, rfl, _, c0, c1, c2, c3, c4, c5⟩ := run_at rr (k := 0) rfl
  simp only [Nat.zero_mul, Nat.add_zero] at c0 c1 c2 c3 c4 c5
  have hq := fun wz => eqSty9999 ⟨0, 7, 0, 0, 0⟩ ⟨0, 7, 0, 0, 0⟩ wz
  rw [decide_eq_true rfl] at hq
  have H5 := Lib.hid (H4.out.2.2.trans (h5.mono H4.out.2.2.size))
  clear rr h5 HR
  go_wp2_with fail
  go_ret
  exact ⟨rfl, H5.out⟩
end
end Go.Proofs.Ytpjeggbkhbghaaa
