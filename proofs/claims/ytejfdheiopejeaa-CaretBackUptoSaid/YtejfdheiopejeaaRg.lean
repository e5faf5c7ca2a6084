/-
  Ranging over a closure that has a block of its own to walk with; regions in such a round. Of no program. By an AI agent.
-/
import Derived.Test.YtejfdheiopejeaaInv
import Derived.RangeFuncRecord
import Derived.RangeFuncLeaves
import Derived.RangeFuncSeq
import Derived.RangeFuncBound
import Derived.ScopeJumps
import Derived.WalkMore
import Derived.Shelf.Abstract
import Derived.Shelf.RegionOpen
import Derived.OwnWalkIn
import Derived.TacticsInMore
namespace Go.Proofs.Ytejfdheiopejeaa
open Go Go.RowKit
set_option maxRecDepth 20000
section
variable {P : Program}
/-- But for three blocks, two worlds are the same. -/
structure Trip (D : Nat) (w w' : World) : Prop where
  os : w'.os = w.os
  tape : w'.tape = w.tape
  output : w'.output = w.output
  size : w'.heap.size = w.heap.size
  block : ∀ k, (k < D ∨ D + 3 ≤ k) → w'.heap[k]? = w.heap[k]?
theorem Trip.put {D l : Nat} (w : World) (o : Obj) (h : D ≤ l ∧ l < D + 3) : Trip D w (w.putObj l o) :=
  ⟨rfl, rfl, rfl, World.putObj_size, fun k h1 => World.putObj_heap_other (by omega)⟩
theorem Trip.below {D B : Nat} {w w' : World} (h : Trip D w w') (hB : B ≤ D) : Below B w w' := ⟨h.os, h.tape, h.output, Nat.le_of_eq h.size.symm, fun k hk => h.block k (by omega)⟩
/-- What a round leaves. -/
def roundW {α : Type} (D : Nat) (I : List α → World → Prop) (Ix : List α → World → Prop) (xs : List α) (W : World) : Exit → Go.Act → World → Prop
  | .normal, _, W' => (W'.heap[D]? = W.heap[D]? ∧ W'.heap[D + 1]? = W.heap[D + 1]? ∧ W'.heap[D + 2]? = W.heap[D + 2]?) ∧ I xs W'
  | .ret, _, W' => (W'.heap[D]? = W.heap[D]? ∧ W'.heap[D + 1]? = W.heap[D + 1]? ∧ W'.heap[D + 2]? = W.heap[D + 2]?) ∧ Ix xs W'
  | _, _, _ => False
theorem roundW_in {α : Type} {D : Nat} {I Ix : List α → World → Prop} {xs : List α} {W : World} : ¬ LetsOut (roundW D I Ix xs W) := fun ⟨_, _, h⟩ => h
theorem inBlock_lets {id : Nat} {Q : Exit → Go.Act → World → Prop} (h : ¬ LetsOut Q) : ¬ LetsOut (Exit.inBlock id Q) := fun ⟨a, w, q⟩ => h ⟨a, w, q⟩
theorem then_lets {K : Go.Act → World → Prop} {Q : Exit → Go.Act → World → Prop} (h : ¬ LetsOut Q) : ¬ LetsOut (Exit.then K Q) := fun ⟨a, w, q⟩ => h ⟨a, w, q⟩
/-- Ranging over a closure that walks with one block of its own. -/
theorem wp_range_walk {α : Type} {g : Operand} {ps : Array Tmp} {assign body : Code} {Q : Exit → Go.Act → World → Prop} {a : Go.Act} {w : World} {gf : Nat} {caps : Array Value}
    (hg : a.eval g = .func (.func gf) #[] caps) (eg : ∀ args w, (callFunc gf args).run P w = .ok (.enter gf args) w)
    (encs : α → Array Value) (hps : ∀ x, (encs x).size = ps.size) (S : List α → Prop) (Nx : List α → α → Prop)
    (I Ix : List α → World → Prop) (hI : ∀ pre W W', I pre W → Trip w.heap.size W W' → I pre W') (hIx : ∀ pre W W', Ix pre W → Trip w.heap.size W W' → Ix pre W')
    (h0 : ∀ o1 o2 o3, I [] (((w.alloc o1).alloc o2).alloc o3)) (a₁ : α → Go.Act)
    (hseq : ∀ (l : Nat) (J Jx : List α → World → Prop) (W : World), l = w.heap.size + 1 → W.heap.size = l + 1 → (∀ pre W, J pre W → I pre W) →
      (∀ pre W o, J pre W → l + 1 < W.heap.size → J pre (W.putObj (l + 1) o)) →
      (∀ pre x W1, J pre W1 → l + 1 < W1.heap.size → Nx pre x → YieldAt Fence.wide 1 P l (encs x) W1 fun e W' => W'.heap[l + 1]? = W1.heap[l + 1]? ∧ ((e = .returned (.bool true) ∧ J (pre ++ [x]) W') ∨ (e = .returned (.bool false) ∧ Jx (pre ++ [x]) W'))) →
      (∀ o, J [] (W.alloc o)) → Calls P gf (#[.func (.yield l) #[] #[]] ++ caps) W fun e W' => (∃ v, e = .returned v) ∧ ((∃ xs, S xs ∧ J xs W') ∨ ∃ pre, Jx pre W'))
    (hassign : ∀ (l : Nat) (x : α) (W : World) (K : Go.Act → World → Prop), K (a₁ x) W →
      assign.wpIn (Fence.wide.inRound l) 1 P (Exit.then K (fun _ _ _ => False)) { tmps := (ps.zip (encs x)).foldl (fun t (p, v) => t.setIfInBounds p v) a.tmps, defers := [] } W)
    (hbody : ∀ (l : Nat) (pre : List α) (x : α) (W : World), I pre W → Nx pre x → w.heap.size + 2 < W.heap.size → body.wpIn (Fence.wide.inRound l) 1 P (roundW w.heap.size I Ix (pre ++ [x]) W) (a₁ x) W)
    (hdone : ∀ (xs : List α) (W : World), S xs → I xs W → W.heap[w.heap.size]? = some (.deferred (some [])) → Q .normal { a with defers := { target := .collected w.heap.size, args := #[] } :: a.defers } W)
    (hstop : ∀ (pre : List α) (W : World), Ix pre W → W.heap[w.heap.size]? = some (.deferred (some [])) → Q .ret { a with defers := { target := .collected w.heap.size, args := #[] } :: a.defers } W) :
    (Code.rangeFunc g ps assign body).wp P Q a w := by
  refine (wpIn_wide (n := 3)).1 (wpIn_rangeFunc ?_)
  intro fn hfn
  obtain ⟨rec, hrec⟩ : ∃ rec : LoopState → Option Code → Loop, rec = fun st pe => { state := st, pending := pe, fn, tmps := a.tmps, params := ps, assign, body, defers := w.heap.size } := ⟨_, rfl⟩
  obtain ⟨W1, hW1⟩ : ∃ W1, (w.alloc (.deferred (some []))).alloc (.loop (rec .ready none)) = W1 := ⟨_, rfl⟩
  have hL1 : W1.heap[w.heap.size + 1]? = some (.loop (rec .ready none)) := by
    rw [← hW1]; have := World.alloc_heap_new (w.alloc (.deferred (some []))) (.loop (rec .ready none)); rwa [World.size_alloc] at this
  have hK1 : W1.heap[w.heap.size]? = some (.deferred (some [])) := by
    rw [← hW1]; exact (Below.heap_alloc _ _ _ (by simp)).trans (World.alloc_heap_new w _)
  refine ⟨w.heap.size + 1, [{ target := .collected w.heap.size, args := #[] }], W1, { target := .fn (.func gf) caps, args := #[.func (.yield (w.heap.size + 1)) #[] #[]] }, W1, gf, #[.func (.yield (w.heap.size + 1)) #[] #[]] ++ caps, W1, ?_, ?_, fun _ _ => trivial, ?_, (fun h => nomatch h), ?_⟩
  · rw [← hW1, hrec]
    exact run_enterLoop_outer _ _ _ _ _
  · simp only [resolve, hg]
    simp [go_sem]
  · simp [invoke, go_sem, eg]
  · refine callsIn_wide.2 ((hseq (w.heap.size + 1)
      (fun pre W => I pre W ∧ W.heap[w.heap.size + 1]? = some (.loop (rec .ready none)) ∧ W.heap[w.heap.size]? = some (.deferred (some [])))
      (fun pre W => Ix pre W ∧ W.heap[w.heap.size + 1]? = some (.loop (rec .done (some .ret))) ∧ W.heap[w.heap.size]? = some (.deferred (some [])))
      W1 rfl (by rw [← hW1]; simp) (fun _ _ h => h.1) ?_ ?_ ?_).mono ?_)
    · rintro pre W o ⟨hi, hl, hk⟩ hlt
      exact ⟨hI _ _ _ hi (Trip.put W _ (by omega)), (World.putObj_heap_other (by omega)).trans hl, (World.putObj_heap_other (by omega)).trans hk⟩
    · rintro pre x W ⟨hi, hl, hk⟩ hlt3 hnx
      have hlt : w.heap.size + 1 < W.heap.size := (Array.getElem?_eq_some_iff.1 hl).1
      have hy := run_yield (P := P) (args := encs x) hl (by rw [hrec]; exact hps x)
      rw [hrec] at hy
      refine ⟨fn, _, assign, body, hy, roundIn_of_wpIn trivial (hassign _ x W _ ⟨_, run_beginRound hl (by rw [hrec]), ?_⟩)⟩
      obtain ⟨W2, hW2⟩ : ∃ W2, W.putObj (w.heap.size + 1) (.loop { rec .ready none with state := .busy }) = W2 := ⟨_, rfl⟩
      have hl2 : W2.heap[w.heap.size + 1]? = some (.loop { rec .ready none with state := .busy }) := by rw [← hW2]; exact World.putObj_heap_same hlt
      have hk2 : W2.heap[w.heap.size]? = some (.deferred (some [])) := by rw [← hW2]; exact (World.putObj_heap_other (by omega)).trans hk
      have hg2 : W2.heap[w.heap.size + 1 + 1]? = W.heap[w.heap.size + 1 + 1]? := by rw [← hW2]; exact World.putObj_heap_other (by omega)
      have ht2 : Trip w.heap.size W W2 := by rw [← hW2]; exact Trip.put W _ (by omega)
      have hlt2 : w.heap.size + 2 < W2.heap.size := by rw [ht2.size]; exact hlt3
      have fin : ∀ (jump : Option Code) (W3 : World), (W3.heap[w.heap.size]? = W2.heap[w.heap.size]? ∧ W3.heap[w.heap.size + 1]? = W2.heap[w.heap.size + 1]? ∧ W3.heap[w.heap.size + 2]? = W2.heap[w.heap.size + 2]?) →
          (Instr.endRound (w.heap.size + 1) jump).run P W3 = .ok (.bool jump.isNone) (W3.putObj (w.heap.size + 1) (.loop (rec (if jump.isNone then .ready else .done) jump))) ∧
          (W3.putObj (w.heap.size + 1) (.loop (rec (if jump.isNone then .ready else .done) jump))).heap[w.heap.size + 1 + 1]? = W.heap[w.heap.size + 1 + 1]? ∧
          (W3.putObj (w.heap.size + 1) (.loop (rec (if jump.isNone then .ready else .done) jump))).heap[w.heap.size + 1]? = some (.loop (rec (if jump.isNone then .ready else .done) jump)) ∧
          (W3.putObj (w.heap.size + 1) (.loop (rec (if jump.isNone then .ready else .done) jump))).heap[w.heap.size]? = some (.deferred (some [])) ∧ Trip w.heap.size W3 (W3.putObj (w.heap.size + 1) (.loop (rec (if jump.isNone then .ready else .done) jump))) := fun jump W3 hk3 => by
        have hl3 := hk3.2.1.trans hl2
        have hd3 := hk3.1.trans hk2
        have := run_endRound (P := P) jump hl3
        rw [hrec] at this ⊢
        exact ⟨this, (World.putObj_heap_other (by omega)).trans (hk3.2.2.trans hg2), World.putObj_heap_same (Array.getElem?_eq_some_iff.1 hl3).1, (World.putObj_heap_other (by omega)).trans hd3, Trip.put W3 _ (by omega)⟩
      rw [← hrec] at *
      rw [show ({ rec .ready none with state := .busy } : Loop) = { rec .ready none with state := .busy } from rfl] at *
      rw [hW2]
      refine wpIn_mono (hbody _ pre x _ (hI _ _ _ hi ht2) hnx hlt2) ?_
      rintro e a3 W3 hp
      cases e with
      | normal =>
        obtain ⟨hr, hg4, hl4, hk4, ht4⟩ := fin none W3 hp.1
        exact ⟨_, _, hr, hg4, .inl ⟨rfl, hI _ _ _ hp.2 ht4, hl4, hk4⟩⟩
      | ret =>
        obtain ⟨hr, hg4, hl4, hk4, ht4⟩ := fin (some .ret) W3 hp.1
        exact ⟨_, _, hr, hg4, .inr ⟨rfl, hIx _ _ _ hp.2 ht4, hl4, hk4⟩⟩
      | exit id => exact hp.elim
      | goto t => exact hp.elim
      | panic ch => exact hp.elim
      | outgrown => exact hp.elim
    · intro o
      rw [← hW1]
      exact ⟨h0 _ _ _, by rw [hW1]; exact (Below.heap_alloc _ _ _ (by rw [← hW1]; simp)).trans hL1, by rw [hW1]; exact (Below.heap_alloc _ _ _ (by rw [← hW1]; simp; omega)).trans hK1⟩
    · rintro e W2 ⟨⟨v, rfl⟩, (⟨xs, hS, hi, hl, hk⟩ | ⟨pre, hi, hl, hk⟩)⟩
      · have he := run_endLoop (P := P) hl (by rw [hrec]; simp)
        rw [hrec] at he
        exact ⟨none, _, he, hdone _ _ hS (hI _ _ _ hi (Trip.put W2 _ (by omega))) ((World.putObj_heap_other (by omega)).trans hk)⟩
      · have he := run_endLoop (P := P) hl (by rw [hrec]; simp)
        rw [hrec] at he
        exact ⟨some .ret, _, he, wpIn_ret (hstop _ _ (hIx _ _ _ hi (Trip.put W2 _ (by omega))) ((World.putObj_heap_other (by omega)).trans hk))⟩
end
section
variable {w : World} {b : Nat}
theorem w_free {cs : Array Value} {e : TypeId} (h : w.heap[b]? = some (.cells cs e)) (k : Nat) : w.frozen? ⟨b, k, none⟩ = false := by
  simp [World.frozen?, h]
theorem w_block {cs : Array Value} {e : TypeId} (h : w.heap[b]? = some (.cells cs e)) (k : Nat) (v : Value) : (w.setCell ⟨b, k, none⟩ v).heap[b]? = some (.cells (cs.setIfInBounds k v) e) := by
  obtain ⟨hlt, hb⟩ := Array.getElem?_eq_some_iff.1 h
  unfold World.setCell
  rw [Array.getElem?_modify]
  simp [h]
theorem w_other (w : World) {b k j : Nat} (v : Value) (h : j ≠ b) : (w.setCell ⟨b, k, none⟩ v).heap[j]? = w.heap[j]? := Below.heap_setCell w ⟨b, k, none⟩ v j h
theorem w_size (w : World) (a : Addr) (v : Value) : (w.setCell a v).heap.size = w.heap.size := by
  unfold World.setCell
  simp
theorem w_lt {b : Nat} {o : Obj} (h : w.heap[b]? = some o) : b < w.heap.size := (Array.getElem?_eq_some_iff.1 h).1
end
section
variable {P : Program} {l m : Nat} {ops : Array Oper} {Q : Exit → Go.Act → World → Prop}
theorem rows_in {row : String} {args : Array Value} {w : World} {R : Value → World → Prop} (h : Rows P row args w R) : RowsIn (Fence.wide.inRound l) m P row args w R := by
  intro c cs _
  obtain ⟨v, w', r, s⟩ := h c cs
  exact ⟨v, w', r, stepsIn_wide.2 s⟩
theorem calls_in {f : FuncId} {args : Array Value} {w : World} {R : Ending → World → Prop} (h : Calls P f args w R) : CallsIn (Fence.wide.inRound l) m P f args w R := callsIn_wide.2 h
/-- No operation is a defer statement. -/
def noDefer (ops : Array Oper) : Bool := ops.all fun o => match o.op with | .defer _ => false | _ => true
theorem op_round {o : Oper} {a : Go.Act} {w : World} {K : Go.Act → World → Prop} (hd : ∀ c, o.op ≠ .defer c) (h : o.wp P a w K Q) : o.wpIn (Fence.wide.inRound l) m P a w K Q := by
  refine ⟨fun _ _ => trivial, ?_⟩
  rw [Oper.semAt_eq _ _ _ hd]
  unfold Oper.wp at h
  generalize (execOp a.eval o).run P w = r at h
  cases r with
  | ok x w' =>
    cases x with
    | value v => exact h
    | skip => exact h
    | defer d => exact h
    | enter f args => exact ⟨(fun h => nomatch h), calls_in h⟩
    | row row args => exact ⟨(fun h => nomatch h), rows_in h⟩
    | _ => exact h.elim
  | halt x w' =>
    cases x with
    | panic v => exact h
    | _ => exact h.elim
theorem ops_round (hn : noDefer ops = true) (hQ : ¬ LetsOut Q) : ∀ (s : List Nat) (a : Go.Act) (w : World), wpOps P ops Q s a w → wpOpsIn (Fence.wide.inRound l) m P ops Q s a w
  | [], _, _, h => h
  | i :: s, a, w, h => by
    unfold wpOps at h
    unfold wpOpsIn
    cases ho : ops[i]? with
    | none =>
      rw [ho] at h
      exact ops_round hn hQ s a w h
    | some o =>
      rw [ho] at h
      simp only at h ⊢
      by_cases hw : Region.wanted o (yielded ops a.tmps) = true
      · rw [if_pos hw] at h ⊢
        have h1 := h.resolve_right fun h2 => hQ h2.2
        have hd : ∀ c, o.op ≠ .defer c := fun c e => by
          have := Array.all_eq_true.1 hn i (Array.getElem?_eq_some_iff.1 ho).1
          rw [(Array.getElem?_eq_some_iff.1 ho).2, e] at this
          cases this
        have h2 : o.wp P a w (wpOpsIn (Fence.wide.inRound l) m P ops Q s) Q := by
          unfold Oper.wp at h1 ⊢
          generalize (execOp a.eval o).run P w = r at h1
          cases r with
          | ok x w' =>
            cases x with
            | value v => exact ops_round hn hQ s _ _ h1
            | skip => exact ops_round hn hQ s _ _ h1
            | defer d => exact ops_round hn hQ s _ _ h1
            | enter f args =>
              refine Calls.mono h1 ?_
              intro e w'' h3
              cases e with
              | returned v => exact ops_round hn hQ s _ _ h3
              | panicked ch => exact h3
              | outgrown => exact h3
            | row row args => exact Rows.mono h1 fun v w'' h3 => ops_round hn hQ s _ _ h3
            | _ => exact h1.elim
          | halt x w' =>
            cases x with
            | panic v => exact h1
            | _ => exact h1.elim
        exact op_round hd h2
      · rw [if_neg hw] at h ⊢
        exact ⟨fun _ _ => trivial, ops_round hn hQ s _ w h⟩
theorem region_round {id : Nat} {a : Go.Act} {w : World} (hn : noDefer ops = true) (hQ : ¬ LetsOut Q) (h : wpList P ops Q ops.toList a w) : (Code.region id ops false).wpIn (Fence.wide.inRound l) m P Q a w := by
  refine wpIn_region (ops_round hn hQ _ a w ?_)
  rw [List.range_eq_range', ← Array.length_toList, wpOps_eq_wpList ops.toList 0 (by simp)]
  exact h
theorem region_round_draw {id : Nat} {a : Go.Act} {w : World} (hm : P.follows .mixedOrders = true) (hn : noDefer ops = true) (hQ : ¬ LetsOut Q)
    (h : wpAny P .any ops Q ops.size (Array.replicate ops.size false) a { w with drawn := w.drawn + 1 }) : (Code.region id ops true).wpIn (Fence.wide.inRound l) m P Q a w := by
  refine wpIn_region_draw fun t => ops_round hn hQ _ a _ ?_
  simp only [Region.schedule, hm, Bool.true_or, if_true]
  exact wpAny_sound ops.size t _ a _ h
theorem region_round_inv {id : Nat} {l' : List Oper} {a0 : Go.Act} {w0 : World} (n : Nat) (slots : List Nat) (D : List Know) (S : World → Prop) {mk : (Nat → Value) → Go.Act}
    (hm : P.follows .mixedOrders = true) (hd : noDefer l'.toArray = true) (hQ : ¬ LetsOut Q) (hB : invB l' n slots = true) (hSt : ∀ w w', S w → Below w.heap.size w w' → S w') (hS : S w0.drew) (hmk : ∀ u, puts a0 slots u = mk u)
    (hO : Obs P l'.toArray S D slots mk 0 (l'.take n)) (ht : ∀ u w, S w → (∀ j, j < n → (D.getD j .any).ok (uvs slots u j) w) → wpList P l'.toArray Q (l'.drop n) (mk u) w) :
    (Code.region id l'.toArray true).wpIn (Fence.wide.inRound l) m P Q a0 w0 := by
  refine region_round_draw hm hd hQ ?_
  simp only [invB, Bool.and_eq_true, decide_eq_true_eq] at hB
  obtain ⟨⟨⟨⟨⟨⟨hn, hs⟩, hc⟩, hbk⟩, hsl⟩, hnd⟩, hq⟩ := hB
  have inv0 : HeadInv .any l'.toArray n (Array.replicate l'.toArray.size false) :=
    ⟨by simp, fun j oj _ hl => (by rw [getD_replicate_false] at hl; cases hl), fun t _ ht => getD_in (by simpa using ht) (getD_replicate_false _ _)⟩
  have h := wpAny_inv (Q := Q) hn hs hc hbk hsl hnd hq hSt hmk hO ht n _ (fun s => a0.tmps.getD s undef) w0.drew inv0 (toCome_all n) hS (fun j _ hl => by rw [getD_replicate_false] at hl; cases hl)
  rw [← hmk, puts_self slots a0 _ (fun _ => rfl), show n + (l'.length - n) = l'.toArray.size by simp; omega] at h
  exact h
end
theorem run_store_float17 (P : Program) (w : World) (a : Addr) (m : Mode) (k : FloatKind) (b : Nat) : (store a (.float k b) m).run P w = stored P w a (.float k b) m := run_store P w a _ m rfl
theorem run_store_complex17 (P : Program) (w : World) (a : Addr) (m : Mode) (k : FloatKind) (b c : Nat) : (store a (.complex k b c) m).run P w = stored P w a (.complex k b c) m := run_store P w a _ m rfl
end Go.Proofs.Ytejfdheiopejeaa
