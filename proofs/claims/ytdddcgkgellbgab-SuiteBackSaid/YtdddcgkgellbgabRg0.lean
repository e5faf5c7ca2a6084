/-
  A block that a cell is set in; regions in the round of a range over a function, walked as everywhere. Of no program. By an AI agent.
-/
import Derived.Test.YtdddcgkgellbgabInv
import Derived.RangeFuncRecord
import Derived.RangeFuncLeaves
import Derived.RangeFuncSeq
import Derived.RangeFuncBound
import Derived.ScopeJumps
import Derived.WalkMore
import Derived.Shelf.Abstract
import Derived.Shelf.RegionOpen
import Derived.OwnWalkIn
import Derived.TacticsInMore
namespace Go.Proofs.Ytdddcgkgellbgab
open Go Go.RowKit
set_option maxRecDepth 20000
section
variable {w : World} {b : Nat}
theorem w_free {cs : Array Value} {e : TypeId} (h : w.heap[b]? = some (.cells cs e)) (k : Nat) : w.frozen? ⟨b, k, none⟩ = false := by
  simp [World.frozen?, h]
theorem w_block {cs : Array Value} {e : TypeId} (h : w.heap[b]? = some (.cells cs e)) (k : Nat) (v : Value) : (w.setCell ⟨b, k, none⟩ v).heap[b]? = some (.cells (cs.setIfInBounds k v) e) := by
  obtain ⟨hlt, hb⟩ := Array.getElem?_eq_some_iff.1 h
  unfold World.setCell
  rw [Array.getElem?_modify]
  simp [h]
theorem w_other (w : World) {b k j : Nat} (v : Value) (h : j ≠ b) : (w.setCell ⟨b, k, none⟩ v).heap[j]? = w.heap[j]? := Below.heap_setCell w ⟨b, k, none⟩ v j h
theorem w_size (w : World) (a : Addr) (v : Value) : (w.setCell a v).heap.size = w.heap.size := by
  unfold World.setCell
  simp
theorem w_lt {b : Nat} {o : Obj} (h : w.heap[b]? = some o) : b < w.heap.size := (Array.getElem?_eq_some_iff.1 h).1
end
section
variable {P : Program} {l m : Nat} {ops : Array Oper} {Q : Exit → Go.Act → World → Prop}
theorem rows_in {row : String} {args : Array Value} {w : World} {R : Value → World → Prop} (h : Rows P row args w R) : RowsIn (Fence.wide.inRound l) m P row args w R := by
  intro c cs _
  obtain ⟨v, w', r, s⟩ := h c cs
  exact ⟨v, w', r, stepsIn_wide.2 s⟩
theorem calls_in {f : FuncId} {args : Array Value} {w : World} {R : Ending → World → Prop} (h : Calls P f args w R) : CallsIn (Fence.wide.inRound l) m P f args w R := callsIn_wide.2 h
/-- No operation is a defer statement. -/
def noDefer (ops : Array Oper) : Bool := ops.all fun o => match o.op with | .defer _ => false | _ => true
theorem op_round {o : Oper} {a : Go.Act} {w : World} {K : Go.Act → World → Prop} (hd : ∀ c, o.op ≠ .defer c) (h : o.wp P a w K Q) : o.wpIn (Fence.wide.inRound l) m P a w K Q := by
  refine ⟨fun _ _ => trivial, ?_⟩
  rw [Oper.semAt_eq _ _ _ hd]
  unfold Oper.wp at h
  generalize (execOp a.eval o).run P w = r at h
  cases r with
  | ok x w' =>
    cases x with
    | value v => exact h
    | skip => exact h
    | defer d => exact h
    | enter f args => exact ⟨(fun h => nomatch h), calls_in h⟩
    | row row args => exact ⟨(fun h => nomatch h), rows_in h⟩
    | _ => exact h.elim
  | halt x w' =>
    cases x with
    | panic v => exact h
    | _ => exact h.elim
theorem ops_round (hn : noDefer ops = true) (hQ : ¬ LetsOut Q) : ∀ (s : List Nat) (a : Go.Act) (w : World), wpOps P ops Q s a w → wpOpsIn (Fence.wide.inRound l) m P ops Q s a w
  | [], _, _, h => h
  | i :: s, a, w, h => by
    unfold wpOps at h
    unfold wpOpsIn
    cases ho : ops[i]? with
    | none =>
      rw [ho] at h
      exact ops_round hn hQ s a w h
    | some o =>
      rw [ho] at h
      simp only at h ⊢
      by_cases hw : Region.wanted o (yielded ops a.tmps) = true
      · rw [if_pos hw] at h ⊢
        have h1 := h.resolve_right fun h2 => hQ h2.2
        have hd : ∀ c, o.op ≠ .defer c := fun c e => by
          have := Array.all_eq_true.1 hn i (Array.getElem?_eq_some_iff.1 ho).1
          rw [(Array.getElem?_eq_some_iff.1 ho).2, e] at this
          cases this
        have h2 : o.wp P a w (wpOpsIn (Fence.wide.inRound l) m P ops Q s) Q := by
          unfold Oper.wp at h1 ⊢
          generalize (execOp a.eval o).run P w = r at h1
          cases r with
          | ok x w' =>
            cases x with
            | value v => exact ops_round hn hQ s _ _ h1
            | skip => exact ops_round hn hQ s _ _ h1
            | defer d => exact ops_round hn hQ s _ _ h1
            | enter f args =>
              refine Calls.mono h1 ?_
              intro e w'' h3
              cases e with
              | returned v => exact ops_round hn hQ s _ _ h3
              | panicked ch => exact h3
              | outgrown => exact h3
            | row row args => exact Rows.mono h1 fun v w'' h3 => ops_round hn hQ s _ _ h3
            | _ => exact h1.elim
          | halt x w' =>
            cases x with
            | panic v => exact h1
            | _ => exact h1.elim
        exact op_round hd h2
      · rw [if_neg hw] at h ⊢
        exact ⟨fun _ _ => trivial, ops_round hn hQ s _ w h⟩
theorem region_round {id : Nat} {a : Go.Act} {w : World} (hn : noDefer ops = true) (hQ : ¬ LetsOut Q) (h : wpList P ops Q ops.toList a w) : (Code.region id ops false).wpIn (Fence.wide.inRound l) m P Q a w := by
  refine wpIn_region (ops_round hn hQ _ a w ?_)
  rw [List.range_eq_range', ← Array.length_toList, wpOps_eq_wpList ops.toList 0 (by simp)]
  exact h
theorem region_round_draw {id : Nat} {a : Go.Act} {w : World} (hm : P.follows .mixedOrders = true) (hn : noDefer ops = true) (hQ : ¬ LetsOut Q)
    (h : wpAny P .any ops Q ops.size (Array.replicate ops.size false) a { w with drawn := w.drawn + 1 }) : (Code.region id ops true).wpIn (Fence.wide.inRound l) m P Q a w := by
  refine wpIn_region_draw fun t => ops_round hn hQ _ a _ ?_
  simp only [Region.schedule, hm, Bool.true_or, if_true]
  exact wpAny_sound ops.size t _ a _ h
theorem region_round_inv {id : Nat} {l' : List Oper} {a0 : Go.Act} {w0 : World} (n : Nat) (slots : List Nat) (D : List Know) (S : World → Prop) {mk : (Nat → Value) → Go.Act}
    (hm : P.follows .mixedOrders = true) (hd : noDefer l'.toArray = true) (hQ : ¬ LetsOut Q) (hB : invB l' n slots = true) (hSt : ∀ w w', S w → Below w.heap.size w w' → S w') (hS : S w0.drew) (hmk : ∀ u, puts a0 slots u = mk u)
    (hO : Obs P l'.toArray S D slots mk 0 (l'.take n)) (ht : ∀ u w, S w → (∀ j, j < n → (D.getD j .any).ok (uvs slots u j) w) → wpList P l'.toArray Q (l'.drop n) (mk u) w) :
    (Code.region id l'.toArray true).wpIn (Fence.wide.inRound l) m P Q a0 w0 := by
  refine region_round_draw hm hd hQ ?_
  simp only [invB, Bool.and_eq_true, decide_eq_true_eq] at hB
  obtain ⟨⟨⟨⟨⟨⟨hn, hs⟩, hc⟩, hbk⟩, hsl⟩, hnd⟩, hq⟩ := hB
  have inv0 : HeadInv .any l'.toArray n (Array.replicate l'.toArray.size false) :=
    ⟨by simp, fun j oj _ hl => (by rw [getD_replicate_false] at hl; cases hl), fun t _ ht => getD_in (by simpa using ht) (getD_replicate_false _ _)⟩
  have h := wpAny_inv (Q := Q) hn hs hc hbk hsl hnd hq hSt hmk hO ht n _ (fun s => a0.tmps.getD s undef) w0.drew inv0 (toCome_all n) hS (fun j _ hl => by rw [getD_replicate_false] at hl; cases hl)
  rw [← hmk, puts_self slots a0 _ (fun _ => rfl), show n + (l'.length - n) = l'.toArray.size by simp; omega] at h
  exact h
end
theorem run_store_float17 (P : Program) (w : World) (a : Addr) (m : Mode) (k : FloatKind) (b : Nat) : (store a (.float k b) m).run P w = stored P w a (.float k b) m := run_store P w a _ m rfl
theorem run_store_complex17 (P : Program) (w : World) (a : Addr) (m : Mode) (k : FloatKind) (b c : Nat) : (store a (.complex k b c) m).run P w = stored P w a (.complex k b c) m := run_store P w a _ m rfl
end Go.Proofs.Ytdddcgkgellbgab
