/-
  A region that draws its order, of loads and one store that may come before a load (a swap of boxes: 'a, b, c, d = c, d, a, b'); a tail that waits for all of them. Of no program. By an AI agent.
-/
import Derived.Test.YtbofehdihflkiaaDoorBox
namespace Go.Proofs.YtbofehdihflkiaaDoor
open Go Go.RowKit
section
variable {P : Program} {ops : Array Oper}
/-- What an operation must do: a value, at the one world and at the other; or the store, from the one world to the other. -/
def GL (P : Program) (ops : Array Oper) (W : Bool → World) (v : Value) (lt : Bool) (o : Oper) (a : Act) : Prop :=
  match o.dst with
  | some _ => Region.wanted o (yielded ops a.tmps) = true ∧ ∀ b, (b = true → lt = true) → (execOp a.eval o).run P (W b) = .ok (.value v) (W b)
  | none => Region.wanted o (yielded ops a.tmps) = true ∧ (execOp a.eval o).run P (W false) = .ok .skip (W true)
def ObsL (P : Program) (ops : Array Oper) (W : Bool → World) (dsts : List (Option Nat)) (vs : List Value) (late : List Nat) (mk : (Nat → Value) → Act) : Nat → List Oper → Prop
  | _, [] => True
  | k, o :: r => (∀ u, (∀ e ∈ o.after, Region.binds .any e = true → ∀ d, dsts.getD e.on none = some d → u d = vs.getD e.on undef) → GL P ops W (vs.getD k undef) (late.contains k) o (mk u)) ∧ ObsL P ops W dsts vs late mk (k + 1) r
theorem ObsL.cons {W : Bool → World} {dsts : List (Option Nat)} {vs : List Value} {late : List Nat} {mk : (Nat → Value) → Act} {k : Nat} {o : Oper} {r : List Oper}
    (h : ∀ u, (∀ e ∈ o.after, Region.binds .any e = true → ∀ d, dsts.getD e.on none = some d → u d = vs.getD e.on undef) → GL P ops W (vs.getD k undef) (late.contains k) o (mk u)) (h' : ObsL P ops W dsts vs late mk (k + 1) r) : ObsL P ops W dsts vs late mk k (o :: r) := ⟨h, h'⟩
theorem ObsL.nil {W : Bool → World} {dsts : List (Option Nat)} {vs : List Value} {late : List Nat} {mk : (Nat → Value) → Act} {k : Nat} : ObsL P ops W dsts vs late mk k [] := trivial
theorem ObsL.at_ {W : Bool → World} {dsts : List (Option Nat)} {vs : List Value} {late : List Nat} {mk : (Nat → Value) → Act} : ∀ (l : List Oper) (k : Nat), ObsL P ops W dsts vs late mk k l → ∀ i o, l[i]? = some o →
    ∀ u, (∀ e ∈ o.after, Region.binds .any e = true → ∀ d, dsts.getD e.on none = some d → u d = vs.getD e.on undef) → GL P ops W (vs.getD (k + i) undef) (late.contains (k + i)) o (mk u)
  | [], _, _, i, o, h => by simp at h
  | o' :: r, k, hO, 0, o, h => by
    simp at h; subst h
    exact hO.1
  | o' :: r, k, hO, i + 1, o, h => by
    have := ObsL.at_ r (k + 1) hO.2 i o (by simpa using h)
    rwa [show k + 1 + i = k + (i + 1) by omega] at this
theorem depL {dsts : List (Option Nat)} {vs : List Value} {u : Nat → Value} {o : Oper} (hd : ∀ e ∈ o.after, Region.binds .any e = true → ∀ d, dsts.getD e.on none = some d → u d = vs.getD e.on undef) (k : Nat)
    (hk : (o.after.toList.any fun e => e.on == k && Region.binds .any e) = true) (d : Nat) (hdst : dsts.getD k none = some d) : u d = vs.getD k undef := by
  obtain ⟨e, he, h⟩ := List.any_eq_true.1 hk
  simp only [Bool.and_eq_true, beq_iff_eq] at h
  have := hd e (Array.mem_toList_iff.1 he) h.2
  rw [h.1] at this
  exact this d hdst
def mustL (l : List Oper) (st i : Nat) : Bool := ((l.toArray[st]?).map fun o => o.after.toList.any fun e => e.on == i && Region.binds .any e).getD false
def invL (l : List Oper) (n : Nat) (dsts : List (Option Nat)) (st : Nat) (late : List Nat) : Bool :=
  decide (n < l.length) && (Region.sinkB .any l.toArray n && Region.chainB .any l.toArray n) && backB l.toArray n && decide ((l.take n).map (·.dst) = dsts) && decide ((dsts.filterMap id).Nodup) &&
  Region.seqB .any l.toArray (l.length - n) n (Array.replicate n true ++ Array.replicate (l.length - n) false) && decide (dsts.getD st none = none) && ((List.range n).all fun i => (dsts.getD i none).isSome || i == st) && decide (st < n) && (List.range n).all fun i => i == st || late.contains i || mustL l st i
theorem wpAny_late {Q : Exit → Act → World → Prop} {l : List Oper} {n st : Nat} {dsts : List (Option Nat)} {vs : List Value} {late : List Nat} {mk : (Nat → Value) → Act} {a0 : Act} {W : Bool → World}
    (hn : n < l.length) (hs : Region.sinkB .any l.toArray n = true) (hc : Region.chainB .any l.toArray n = true) (hbk : backB l.toArray n = true) (hsl : (l.take n).map (·.dst) = dsts) (hnd : (dsts.filterMap id).Nodup)
    (hq : Region.seqB .any l.toArray (l.length - n) n (Array.replicate n true ++ Array.replicate (l.length - n) false) = true) (h1 : dsts.getD st none = none) (h2 : ∀ i, i < n → dsts.getD i none = none → i = st) (h3 : st < n) (h4 : ∀ i, i < n → i ≠ st → late.contains i = true ∨ mustL l st i = true)
    (hmk : ∀ u, puts a0 (dsts.filterMap id) u = mk u) (hO : ObsL P l.toArray W dsts vs late mk 0 (l.take n))
    (ht : ∀ u, (∀ j, j < n → ∀ d, dsts.getD j none = some d → u d = vs.getD j undef) → wpList P l.toArray Q (l.drop n) (mk u) (W true)) :
    ∀ (f : Nat) (listed : Array Bool) (u : Nat → Value), HeadInv .any l.toArray n listed → toCome listed n = f → (∀ j, j < n → listed.getD j false = true → ∀ d, dsts.getD j none = some d → u d = vs.getD j undef) →
      wpAny P .any l.toArray Q (f + (l.length - n)) listed (mk u) (W (listed.getD st false)) := by
  have hlen : dsts.length = n := by
    have := congrArg List.length hsl
    simp at this
    omega
  intro f
  induction f with
  | zero =>
    intro listed u inv h0 hD
    have hall := toCome_zero n h0
    have he : listed = Array.replicate n true ++ Array.replicate (l.length - n) false := by
      have hsz := inv.size
      simp only [List.size_toArray] at hsz
      refine Array.ext (by simp; omega) fun i h1 h2 => ?_
      by_cases hi : i < n
      · have := hall i hi
        simp [h1] at this
        rw [this, Array.getElem_append_left (by simpa using hi)]
        simp
      · have := inv.tail i (by omega) (by simp; omega)
        simp [h1] at this
        rw [this, Array.getElem_append_right (by simp; omega)]
        simp
    rw [hall st h3, he, Nat.zero_add]
    have h := wpAny_of_seq (P := P) (md := .any) (ops := l.toArray) (Q' := Q) (l.drop n) n (Array.replicate n true ++ Array.replicate (l.length - n) false) (mk u) (W true) (fun j => by simp) (by rw [List.length_drop]; exact hq)
      (ht u fun j hj => hD j hj (hall j hj))
    rw [List.length_drop] at h
    exact h
  | succ f ih =>
    intro listed u inv h0 hD
    obtain ⟨j0, hj0, hun0, hbef⟩ := toCome_pos n (by rw [h0]; omega)
    have hsz := inv.size
    simp only [List.size_toArray] at hsz
    have hun0' := getD_in (listed := listed) (i := j0) (by omega) hun0
    rw [show f + 1 + (l.length - n) = (f + (l.length - n)) + 1 by omega]
    refine ⟨fun hr => ?_, fun i hi => ?_⟩
    · obtain ⟨o0, ho0⟩ : ∃ o, l.toArray[j0]? = some o := ⟨l[j0], by simp⟩
      have : j0 ∈ Region.ready .any l.toArray listed := mem_ready.2 ⟨hun0', o0, ho0, fun e he hb => hbef _ (backB_spec hbk hj0 ho0 e he hb)⟩
      rw [hr] at this
      cases this
    · have hin : i < n := Nat.lt_of_not_le fun h => tail_waits hs hc (by simpa using hn) inv _ j0 rfl hj0 hun0' i h hi
      obtain ⟨hunl, o, ho, hall⟩ := mem_ready.1 hi
      have ho' : (l.take n)[i]? = some o := by rw [List.getElem?_take, if_pos hin]; simpa using ho
      have hdst : dsts.getD i none = o.dst := by
        have h1 : ((l.take n).map (·.dst))[i]? = dsts[i]? := by rw [hsl]
        rw [List.getElem?_map, ho'] at h1
        simp only [Option.map_some] at h1
        simp [List.getD, ← h1]
      have hG := ObsL.at_ (l.take n) 0 hO i o ho' u (fun e he hb => hD e.on (Nat.lt_trans (backB_spec hbk hin ho e he hb) hin) (hall e he hb))
      rw [Nat.zero_add] at hG
      have hcnt : toCome (listed.setIfInBounds i true) n = f := by
        have := toCome_set (by omega) (getD_both hunl) n hin
        omega
      unfold wpOp
      simp only [ho]
      unfold GL at hG
      cases hd : o.dst with
      | some d =>
        rw [hd] at hG hdst
        obtain ⟨hw, hv⟩ := hG
        have hist : i ≠ st := fun e => by subst e; rw [h1] at hdst; cases hdst
        rw [if_pos hw]
        refine .inl ?_
        unfold Oper.wp
        rw [hv (listed.getD st false) (fun hb => (h4 i hin hist).resolve_right (fun hm => by
          obtain ⟨o', ho2⟩ : ∃ o, l.toArray[st]? = some o := ⟨l[st]'(by omega), by simp⟩
          unfold mustL at hm
          rw [ho2] at hm
          obtain ⟨e, he, h⟩ := List.any_eq_true.1 (show (o'.after.toList.any fun e => e.on == i && Region.binds .any e) = true from hm)
          simp only [Bool.and_eq_true, beq_iff_eq] at h
          have := inv.closed st o' ho2 hb e (Array.mem_toList_iff.1 he) h.2
          rw [h.1, getD_both hunl] at this
          cases this))]
        have hsd : slotOf dsts i = d := by unfold slotOf; rw [hdst]; rfl
        have hput : (mk u).put o.dst (vs.getD i undef) = mk (upd u d (vs.getD i undef)) := by
          rw [hd, ← hmk, ← hmk]
          refine puts_upd _ hnd u d _ ?_ a0
          refine List.mem_filterMap.2 ⟨some d, ?_, rfl⟩
          have : dsts[i]? = some (some d) := by
            have h1 : i < dsts.length := by omega
            rw [List.getElem?_eq_getElem h1]
            simp [List.getD, List.getElem?_eq_getElem h1] at hdst
            rw [hdst]
          exact List.mem_of_getElem? this
        show wpAny P .any l.toArray Q (f + (l.length - n)) (listed.setIfInBounds i true) ((mk u).put o.dst (vs.getD i undef)) (W (listed.getD st false))
        have hkeep : (listed.setIfInBounds i true).getD st false = listed.getD st false := getD_set_ne false hist
        rw [hput, ← hkeep]
        refine ih _ _ (inv.set hi hin) hcnt ?_
        intro j hj hl d' hd'
        by_cases e : i = j
        · subst e
          rw [hdst] at hd'
          cases hd'
          simp [upd]
        · rw [getD_set_ne false e] at hl
          have hne : d' ≠ d := fun e' => by
            have hj' : slotOf dsts j = d' := by unfold slotOf; rw [hd']; rfl
            exact slot_ne hnd (by rw [hdst]; rfl) (by rw [hd']; rfl) e (by rw [hsd, hj', e'])
          unfold upd
          rw [if_neg hne]
          exact hD j hj hl d' hd'
      | none =>
        rw [hd] at hG hdst
        obtain ⟨hw, hv⟩ := hG
        obtain rfl : i = st := h2 i hin hdst
        rw [if_pos hw]
        refine .inl ?_
        unfold Oper.wp
        rw [getD_both hunl, hv]
        show wpAny P .any l.toArray Q (f + (l.length - n)) (listed.setIfInBounds i true) ((mk u).put o.dst undef) (W true)
        rw [hd]
        show wpAny P .any l.toArray Q (f + (l.length - n)) (listed.setIfInBounds i true) (mk u) (W true)
        have h6 := ih (listed.setIfInBounds i true) u (inv.set hi hin) hcnt (fun j hj hl d' hd' => by
          have e : i ≠ j := fun e => by subst e; rw [hdst] at hd'; cases hd'
          rw [getD_set_ne false e] at hl
          exact hD j hj hl d' hd')
        have h5 : (listed.setIfInBounds i true).getD i false = true := by
          have : i < listed.size := by omega
          simp [this]
        rwa [h5] at h6
theorem wp_region_late {ri : Nat} {Q : Exit → Act → World → Prop} {l : List Oper} {a0 : Act} {w0 : World} (n st : Nat) (dsts : List (Option Nat)) (vs : List Value) (late : List Nat) (W : Bool → World) {mk : (Nat → Value) → Act}
    (hm : P.follows .mixedOrders = true) (hB : invL l n dsts st late = true) (hW : W false = w0.drew) (hmk : ∀ u, puts a0 (dsts.filterMap id) u = mk u)
    (hO : ObsL P l.toArray W dsts vs late mk 0 (l.take n)) (ht : ∀ u, (∀ j, j < n → ∀ d, dsts.getD j none = some d → u d = vs.getD j undef) → wpList P l.toArray Q (l.drop n) (mk u) (W true)) :
    (Code.region ri l.toArray true).wp P Q a0 w0 := by
  simp only [invL, Bool.and_eq_true, decide_eq_true_eq, List.all_eq_true, List.mem_range, Bool.or_eq_true, beq_iff_eq] at hB
  obtain ⟨⟨⟨⟨⟨⟨⟨⟨⟨hn, hs, hc⟩, hbk⟩, hsl⟩, hnd⟩, hq⟩, h1⟩, h2⟩, h3⟩, h4⟩ := hB
  refine wp_region_any hm ?_
  have inv0 : HeadInv .any l.toArray n (Array.replicate l.toArray.size false) :=
    ⟨by simp, fun j oj _ hl => (by rw [getD_replicate_false] at hl; cases hl), fun t _ ht => getD_in (by simpa using ht) (getD_replicate_false _ _)⟩
  have h := wpAny_late (Q := Q) hn hs hc hbk hsl hnd hq h1 (fun i hi hd => (h2 i hi).resolve_left (by rw [hd]; simp)) h3 (fun i hi hne => (h4 i hi).elim (fun h => h.elim (fun h => absurd h hne) .inl) .inr) hmk hO ht n _ (fun s => a0.tmps.getD s undef) inv0 (toCome_all n) (fun j _ hl => by rw [getD_replicate_false] at hl; cases hl)
  rw [← hmk, puts_self _ a0 _ (fun _ => rfl), getD_replicate_false, hW, show n + (l.length - n) = l.toArray.size by simp; omega] at h
  exact h
end
end Go.Proofs.YtbofehdihflkiaaDoor
