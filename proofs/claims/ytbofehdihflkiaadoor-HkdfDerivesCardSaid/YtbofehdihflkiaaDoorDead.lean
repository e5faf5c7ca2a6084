/-
  A region that draws its order, as in XInv, whose last operation is a store that waits for all but one of the others: a pure one that nobody waits for, which may come behind it. Of no program. By an AI agent.
-/
import Derived.Test.YtbofehdihflkiaaDoorInv
namespace Go.Proofs.YtbofehdihflkiaaDoor
open Go Go.RowKit
section
variable {P : Program} {S : World → Prop}
def deadB (l : List Oper) (n d : Nat) (slots : List Nat) : Bool :=
  decide (l.length = n + 1) && decide (d < n) && backB l.toArray n && decide ((l.take n).map (·.dst) = slots.map some) && decide (slots.Nodup) &&
  ((List.range n).all fun i => i == d || (List.range (n + 1)).any fun j => decide (i < j) && (j != d) && (((l.toArray[j]?).map fun o => o.after.toList.any fun e => e.on == i && Region.binds .any e).getD false)) &&
  (((l.toArray[n]?).map fun o => decide (o.dst = none) && o.after.all fun e => !Region.binds .any e || decide (e.on < n)).getD false)
theorem set_get {listed : Array Bool} {i : Nat} (b : Bool) (h : i < listed.size) : (listed.setIfInBounds i true).getD i b = true := by simp [h]
/-- Is the last one ready, all others but the dead one have been. -/
theorem dead_waits {l : List Oper} {n d : Nat} (hl : l.length = n + 1)
    (hw : ∀ i, i < n → i = d ∨ ∃ j, j < n + 1 ∧ i < j ∧ j ≠ d ∧ ∃ o, l.toArray[j]? = some o ∧ ∃ e ∈ o.after, e.on = i ∧ Region.binds .any e = true)
    {listed : Array Bool} (inv : HeadInv .any l.toArray n listed) (hr : n ∈ Region.ready .any l.toArray listed) : ∀ k i, n - i = k → i < n → i ≠ d → listed.getD i false = true := by
  intro k
  induction k using Nat.strongRecOn with
  | _ k ih =>
    intro i hk hi hne
    rcases hw i hi with h | ⟨j, hj, hij, hjd, o, ho, e, he, he1, hb⟩
    · exact absurd h hne
    · by_cases hjn : j = n
      · subst hjn
        obtain ⟨_, o2, ho2, hall⟩ := mem_ready.1 hr
        rw [ho] at ho2
        cases ho2
        have := hall e he hb
        rwa [he1] at this
      · have h1 := ih (n - j) (by omega) j rfl (by omega) hjd
        have h2 := inv.closed j o ho h1 e he hb
        rwa [he1] at h2
theorem wpAny_dead {Q : Exit → Act → World → Prop} {l : List Oper} {n d : Nat} {slots : List Nat} {D : List Know} {mk : (Nat → Value) → Act} {a0 : Act} {R : World → Prop} {os od : Oper}
    (hn : l.length = n + 1) (hdn : d < n) (hbk : backB l.toArray n = true) (hsl : (l.take n).map (·.dst) = slots.map some) (hnd : slots.Nodup)
    (hw : ∀ i, i < n → i = d ∨ ∃ j, j < n + 1 ∧ i < j ∧ j ≠ d ∧ ∃ o, l.toArray[j]? = some o ∧ ∃ e ∈ o.after, e.on = i ∧ Region.binds .any e = true)
    (hos : l.toArray[n]? = some os) (hod : l.toArray[d]? = some od) (hsd : os.dst = none) (hsb : ∀ e ∈ os.after, Region.binds .any e = true → e.on < n)
    (hSt : ∀ w w', S w → Below w.heap.size w w' → S w') (hmk : ∀ u, puts a0 slots u = mk u) (hO : Obs P l.toArray S D slots mk 0 (l.take n))
    (hst : ∀ u w, S w → (∀ j, j < n → j ≠ d → (D.getD j .any).ok (uvs slots u j) w) → Region.wanted os (yielded l.toArray (mk u).tmps) = true ∧ ∃ w', (execOp (mk u).eval os).run P w = .ok .skip w' ∧ R w')
    (hdd : ∀ u w, (∀ j, j < n → j ≠ d → (D.getD j .any).ok (uvs slots u j) w) → ∀ w', Region.wanted od (yielded l.toArray (mk u).tmps) = true ∧ ∃ v, (execOp (mk u).eval od).run P w' = .ok (.value v) w')
    (hQ : ∀ u w, R w → Q .normal (mk u) w) :
    ∀ (f : Nat) (listed : Array Bool) (u : Nat → Value) (w : World), HeadInv .any l.toArray n listed → toCome listed n = f → S w → (∀ j, j < n → listed.getD j false = true → (D.getD j .any).ok (uvs slots u j) w) →
      wpAny P .any l.toArray Q (f + 1) listed (mk u) w := by
  have hlen : slots.length = n := by
    have := congrArg List.length hsl
    simp at this
    omega
  intro f
  induction f with
  | zero =>
    intro listed u w inv h0 hS hD
    have hall := toCome_zero n h0
    have hsz := inv.size
    simp only [List.size_toArray] at hsz
    have hun : listed.getD n true = false := inv.tail n (Nat.le_refl _) (by simp; omega)
    refine ⟨fun hr => ?_, fun i hi => ?_⟩
    · have : n ∈ Region.ready .any l.toArray listed := mem_ready.2 ⟨hun, os, hos, fun e he hb => hall _ (hsb e he hb)⟩
      rw [hr] at this
      cases this
    · obtain ⟨hunl, o, ho, _⟩ := mem_ready.1 hi
      have hin : i = n := by
        rcases Nat.lt_or_ge i n with h | h
        · have h1 := hall i h
          rw [getD_both hunl] at h1
          cases h1
        · have : i < l.toArray.size := (Array.getElem?_eq_some_iff.1 ho).1
          simp at this
          omega
      subst hin
      rw [hos] at ho
      cases ho
      obtain ⟨hwt, w', hrun, hR⟩ := hst u w hS fun j hj _ => hD j hj (hall j hj)
      unfold wpOp
      simp only [hos]
      rw [if_pos hwt]
      refine .inl ?_
      unfold Oper.wp
      rw [hrun]
      refine ⟨?_, ?_⟩
      · refine List.eq_nil_iff_forall_not_mem.2 fun k hk => ?_
        obtain ⟨h1, o2, ho2, _⟩ := mem_ready.1 hk
        have hks : k < l.toArray.size := (Array.getElem?_eq_some_iff.1 ho2).1
        simp at hks
        by_cases hkn : i = k
        · subst hkn
          rw [set_get true (by omega)] at h1
          cases h1
        · rw [getD_set_ne true hkn] at h1
          have h2 := hall k (by omega)
          rw [getD_both h1] at h2
          cases h2
      · show Q .normal ((mk u).put os.dst undef) w'
        rw [hsd]
        exact hQ u w' hR
  | succ f ih =>
    intro listed u w inv h0 hS hD
    obtain ⟨j0, hj0, hun0, hbef⟩ := toCome_pos n (by rw [h0]; omega)
    have hsz := inv.size
    simp only [List.size_toArray] at hsz
    have hun0' := getD_in (listed := listed) (i := j0) (by omega) hun0
    refine ⟨fun hr => ?_, fun i hi => ?_⟩
    · obtain ⟨o0, ho0⟩ : ∃ o, l.toArray[j0]? = some o := ⟨l[j0], by simp⟩
      have : j0 ∈ Region.ready .any l.toArray listed := mem_ready.2 ⟨hun0', o0, ho0, fun e he hb => hbef _ (backB_spec hbk hj0 ho0 e he hb)⟩
      rw [hr] at this
      cases this
    · by_cases hin : i < n
      case neg =>
        have hin' : i = n := by
          obtain ⟨_, o, ho, _⟩ := mem_ready.1 hi
          have : i < l.toArray.size := (Array.getElem?_eq_some_iff.1 ho).1
          simp at this
          omega
        subst hin'
        have hall := fun k hk hkd => dead_waits hn hw inv hi _ k rfl hk hkd
        have hdu : listed.getD d false = false := by
          cases hl : listed.getD d false with
          | false => rfl
          | true =>
            have : listed.getD j0 false = true := by
              by_cases e : j0 = d
              · subst e; exact hl
              · exact hall j0 hj0 e
            rw [hun0] at this
            cases this
        have hf : f = 0 := by
          have h1 : toCome (listed.setIfInBounds d true) i = 0 := by
            have : ∀ k, k ≤ i → toCome (listed.setIfInBounds d true) k = 0 := by
              intro k
              induction k with
              | zero => intro _; rfl
              | succ k ihk =>
                intro hk
                rw [toCome, ihk (by omega)]
                by_cases e : d = k
                · subst e
                  rw [set_get false (by omega)]
                  rfl
                · rw [getD_set_ne false e, hall k (by omega) (Ne.symm e)]
                  rfl
            exact this i (Nat.le_refl _)
          have h2 := toCome_set (listed := listed) (by omega) hdu i hdn
          omega
        subst hf
        obtain ⟨hwt, w', hrun, hR⟩ := hst u w hS fun j hj hjd => hD j hj (hall j hj hjd)
        have hkn : ∀ j, j < i → j ≠ d → (D.getD j .any).ok (uvs slots u j) w := fun j hj hjd => hD j hj (hall j hj hjd)
        unfold wpOp
        simp only [hos]
        rw [if_pos hwt]
        refine .inl ?_
        unfold Oper.wp
        rw [hrun]
        show wpAny P .any l.toArray Q 1 (listed.setIfInBounds i true) ((mk u).put os.dst undef) w'
        rw [hsd]
        show wpAny P .any l.toArray Q 1 (listed.setIfInBounds i true) (mk u) w'
        have hin2 : (listed.setIfInBounds i true).getD i false = true := by
          have : i < listed.size := by omega
          simp [this]
        have hdr : d ∈ Region.ready .any l.toArray (listed.setIfInBounds i true) := by
          refine mem_ready.2 ⟨?_, od, hod, fun e he hb => ?_⟩
          · rw [getD_set_ne true (by omega)]
            exact getD_in (by omega) hdu
          · have h3 := backB_spec hbk hdn hod e he hb
            rw [getD_set_ne false (by omega)]
            exact hall _ (by omega) (by omega)
        refine ⟨fun hr => (by rw [hr] at hdr; cases hdr), fun k hk => ?_⟩
        obtain ⟨hkl, ok, hok, _⟩ := mem_ready.1 hk
        have hks : k < l.toArray.size := (Array.getElem?_eq_some_iff.1 hok).1
        simp at hks
        have hkd : k = d := by
          refine Decidable.byContradiction fun hne => ?_
          by_cases e : i = k
          · subst e
            have h5 := getD_both hkl
            rw [hin2] at h5
            cases h5
          · rw [getD_set_ne true e] at hkl
            have h5 := getD_both hkl
            rw [hall k (by omega) hne] at h5
            cases h5
        subst hkd
        obtain ⟨hw2, v, hrv⟩ := hdd u w hkn w'
        obtain ⟨dd, hdd'⟩ : ∃ x, slots[k]? = some x := ⟨slots[k]'(by omega), List.getElem?_eq_getElem (by omega)⟩
        have hdst : od.dst = some dd := by
          have h1 : ((l.take i).map (·.dst))[k]? = (slots.map some)[k]? := by rw [hsl]
          have h2 : (l.take i)[k]? = some od := by rw [List.getElem?_take, if_pos hdn]; simpa using hod
          rw [List.getElem?_map, List.getElem?_map, h2, hdd'] at h1
          simpa using h1
        unfold wpOp
        simp only [hod]
        rw [if_pos hw2]
        refine .inl ?_
        unfold Oper.wp
        rw [hrv]
        refine ⟨?_, ?_⟩
        · refine List.eq_nil_iff_forall_not_mem.2 fun q hq => ?_
          obtain ⟨h1, o2, ho2, _⟩ := mem_ready.1 hq
          have hqs : q < l.toArray.size := (Array.getElem?_eq_some_iff.1 ho2).1
          simp at hqs
          by_cases hqk : k = q
          · subst hqk
            rw [set_get true (by simp; omega)] at h1
            cases h1
          · rw [getD_set_ne true hqk] at h1
            by_cases hqi : i = q
            · subst hqi
              have h5 := getD_both h1
              rw [hin2] at h5
              cases h5
            · rw [getD_set_ne true hqi] at h1
              have h5 := getD_both h1
              rw [hall q (by omega) (Ne.symm hqk)] at h5
              cases h5
        · show Q .normal ((mk u).put od.dst v) w'
          have hput : (mk u).put od.dst v = mk (upd u dd v) := by
            rw [hdst, ← hmk, ← hmk]
            exact puts_upd slots hnd u dd v (List.mem_of_getElem? hdd') a0
          rw [hput]
          exact hQ _ w' hR
      obtain ⟨hunl, o, ho, hall⟩ := mem_ready.1 hi
      have ho' : (l.take n)[i]? = some o := by rw [List.getElem?_take, if_pos hin]; simpa using ho
      obtain ⟨d, hd⟩ : ∃ d, slots[i]? = some d := ⟨slots[i]'(by omega), List.getElem?_eq_getElem (by omega)⟩
      have hdst : o.dst = some d := by
        have h1 : ((l.take n).map (·.dst))[i]? = (slots.map some)[i]? := by rw [hsl]
        rw [List.getElem?_map, List.getElem?_map, ho', hd] at h1
        simpa using h1
      have hG := Obs.at_ (l.take n) 0 hO i o ho' u w hS (fun e he hb => by
        have hl := hall e he hb
        have hlt : e.on < n := Nat.lt_trans (backB_spec hbk hin ho e he hb) hin
        exact hD e.on hlt hl)
      rw [Nat.zero_add] at hG
      have hput : ∀ v, (mk u).put o.dst v = mk (upd u d v) := fun v => by
        rw [hdst, ← hmk, ← hmk]
        exact puts_upd slots hnd u d v (List.mem_of_getElem? hd) a0
      have hK : ∀ v w', (D.getD i .any).ok v w' → (S w') → Below w.heap.size w w' → wpAny P .any l.toArray Q (f + 1) (listed.setIfInBounds i true) ((mk u).put o.dst v) w' := fun v w' hv hS' hb => by
        rw [hput v]
        refine ih _ _ _ (inv.set hi hin) ?_ hS' ?_
        · have := toCome_set (by omega) (getD_both hunl) n hin
          omega
        · intro j hj hl
          by_cases e : i = j
          · subst e
            unfold uvs
            rw [hd]
            simpa [upd] using hv
          · rw [getD_set_ne false e] at hl
            have h1 := Know.keep (hD j hj hl) hb
            have h2 : uvs slots (upd u d v) j = uvs slots u j := by
              unfold uvs
              cases hj' : slots[j]? with
              | none => rfl
              | some d' =>
                have hne : d' ≠ d := fun e' => by
                  subst e'
                  have g1 := List.getElem?_eq_some_iff.1 hd
                  have g2 := List.getElem?_eq_some_iff.1 hj'
                  obtain ⟨l1, g1⟩ := g1
                  obtain ⟨l2, g2⟩ := g2
                  rcases Nat.lt_or_gt_of_ne e with h | h
                  · exact List.pairwise_iff_getElem.1 hnd i j l1 l2 h (g1.trans g2.symm)
                  · exact List.pairwise_iff_getElem.1 hnd j i l2 l1 h (g2.trans g1.symm)
                simp [upd, hne]
            rw [h2]
            exact h1
      unfold wpOp
      simp only [ho]
      rcases hG with ⟨hw, hv⟩ | ⟨hw, hv⟩
      · rw [if_pos hw]
        refine .inl ?_
        unfold Oper.wp
        rcases hv with ⟨v, w', hv, hE, hb⟩ | ⟨g, args, hv, hcl⟩
        · rw [hv]; exact hK v w' hE (hSt _ _ hS hb) hb
        · rw [hv]
          refine hcl.mono ?_
          rintro e w' ⟨v, rfl, hE, hb⟩
          exact hK v w' hE (hSt _ _ hS hb) hb
      · rw [hw]
        exact hK undef w hv hS (Below.refl _ _)
theorem wp_region_dead {id : Nat} {Q : Exit → Act → World → Prop} {l : List Oper} {a0 : Act} {w0 : World} (n d : Nat) (slots : List Nat) (D : List Know) (S R : World → Prop) {mk : (Nat → Value) → Act}
    (hm : P.follows .mixedOrders = true) (hB : deadB l n d slots = true) (hSt : ∀ w w', S w → Below w.heap.size w w' → S w') (hS : S w0.drew) (hmk : ∀ u, puts a0 slots u = mk u)
    (hO : Obs P l.toArray S D slots mk 0 (l.take n)) (os od : Oper) (hos : l.toArray[n]? = some os) (hod : l.toArray[d]? = some od)
    (hst : ∀ u w, S w → (∀ j, j < n → j ≠ d → (D.getD j .any).ok (uvs slots u j) w) → Region.wanted os (yielded l.toArray (mk u).tmps) = true ∧ ∃ w', (execOp (mk u).eval os).run P w = .ok .skip w' ∧ R w')
    (hdd : ∀ u w, (∀ j, j < n → j ≠ d → (D.getD j .any).ok (uvs slots u j) w) → ∀ w', Region.wanted od (yielded l.toArray (mk u).tmps) = true ∧ ∃ v, (execOp (mk u).eval od).run P w' = .ok (.value v) w')
    (hQ : ∀ u w, R w → Q .normal (mk u) w) :
    (Code.region id l.toArray true).wp P Q a0 w0 := by
  simp only [deadB, Bool.and_eq_true, decide_eq_true_eq] at hB
  obtain ⟨⟨⟨⟨⟨⟨hn, hdn⟩, hbk⟩, hsl⟩, hnd⟩, hw⟩, hs⟩ := hB
  have hw' : ∀ i, i < n → i = d ∨ ∃ j, j < n + 1 ∧ i < j ∧ j ≠ d ∧ ∃ o, l.toArray[j]? = some o ∧ ∃ e ∈ o.after, e.on = i ∧ Region.binds .any e = true := fun i hi => by
    have h1 := List.all_eq_true.1 hw i (List.mem_range.2 hi)
    simp only [Bool.or_eq_true, beq_iff_eq, List.any_eq_true, List.mem_range, Bool.and_eq_true, decide_eq_true_eq, bne_iff_ne, ne_eq] at h1
    rcases h1 with h | ⟨j, hj, ⟨⟨h2, h3⟩, h4⟩⟩
    · exact .inl h
    · refine .inr ⟨j, hj, h2, h3, ?_⟩
      cases ho : l.toArray[j]? with
      | none => rw [ho] at h4; simp at h4
      | some o =>
        rw [ho] at h4
        simp only [Option.map_some, Option.getD_some, List.any_eq_true, Bool.and_eq_true, beq_iff_eq] at h4
        obtain ⟨e, he, h5, h6⟩ := h4
        exact ⟨o, rfl, e, Array.mem_toList_iff.1 he, h5, h6⟩
  rw [hos] at hs
  simp only [Option.map_some, Option.getD_some, Bool.and_eq_true, decide_eq_true_eq, Array.all_eq_true_iff_forall_mem, Bool.or_eq_true, Bool.not_eq_true'] at hs
  obtain ⟨hsd, hsb⟩ := hs
  refine wp_region_any hm ?_
  have inv0 : HeadInv .any l.toArray n (Array.replicate l.toArray.size false) :=
    ⟨by simp, fun j oj _ hl => (by rw [getD_replicate_false] at hl; cases hl), fun t _ ht => getD_in (by simpa using ht) (getD_replicate_false _ _)⟩
  have h := wpAny_dead (Q := Q) hn hdn hbk hsl hnd hw' hos hod hsd (fun e he hb => by
    rcases hsb e he with h | h
    · rw [h] at hb; cases hb
    · exact h) hSt hmk hO hst hdd hQ n _ (fun s => a0.tmps.getD s undef) w0.drew inv0 (toCome_all n) hS (fun j _ hl => by rw [getD_replicate_false] at hl; cases hl)
  rw [← hmk, puts_self slots a0 _ (fun _ => rfl), show n + 1 = l.toArray.size by simp; omega] at h
  exact h
end
end Go.Proofs.YtbofehdihflkiaaDoor
