/-
  A region in its own order, by steps that say what is known of each result (XInv's, for regions that do not draw). By an AI agent.
-/
import Derived.Test.YtmhfkabpfkoocaaDoorInv
namespace Go.Proofs.YtmhfkabpfkoocaaDoor
open Go Go.RowKit
section
variable {P : Program} {ops : Array Oper} {S : World → Prop}
def ObsS (P : Program) (ops : Array Oper) (S : World → Prop) (D : List Know) (slots : List Nat) (mk : (Nat → Value) → Act) : Nat → List Oper → Prop
  | _, [] => True
  | k, o :: r => (∀ u w, S w → (∀ j, j < k → (D.getD j .any).ok (uvs slots u j) w) → Gv P ops (D.getD k .any).ok o (mk u) w) ∧ ObsS P ops S D slots mk (k + 1) r
theorem ObsS.cons {D : List Know} {slots : List Nat} {mk : (Nat → Value) → Act} {k : Nat} {o : Oper} {r : List Oper}
    (h : ∀ u w, S w → (∀ j, j < k → (D.getD j .any).ok (uvs slots u j) w) → Gv P ops (D.getD k .any).ok o (mk u) w) (hr : ObsS P ops S D slots mk (k + 1) r) : ObsS P ops S D slots mk k (o :: r) := ⟨h, hr⟩
theorem ObsS.nil {D : List Know} {slots : List Nat} {mk : (Nat → Value) → Act} {k : Nat} : ObsS P ops S D slots mk k [] := trivial
theorem ObsS.at_ {D : List Know} {slots : List Nat} {mk : (Nat → Value) → Act} : ∀ (l : List Oper) (k : Nat), ObsS P ops S D slots mk k l → ∀ i o, l[i]? = some o →
    ∀ u w, S w → (∀ j, j < k + i → (D.getD j .any).ok (uvs slots u j) w) → Gv P ops (D.getD (k + i) .any).ok o (mk u) w
  | [], _, _, i, o, h => by simp at h
  | o0 :: r, k, hO, 0, o, h => by
    obtain rfl : o0 = o := by simpa using h
    exact hO.1
  | o0 :: r, k, hO, i + 1, o, h => by
    have := ObsS.at_ r (k + 1) hO.2 i o (by simpa using h)
    rwa [show k + 1 + i = k + (i + 1) by omega] at this
def seqB (l : List Oper) (n : Nat) (slots : List Nat) : Bool := decide (n < l.length) && decide ((l.take n).map (·.dst) = slots.map some) && decide (slots.Nodup)
theorem wpList_seq {Q : Exit → Act → World → Prop} {l : List Oper} {n : Nat} {slots : List Nat} {D : List Know} {mk : (Nat → Value) → Act} {a0 : Act}
    (hn : n < l.length) (hsl : (l.take n).map (·.dst) = slots.map some) (hnd : slots.Nodup)
    (hSt : ∀ w w', S w → Below w.heap.size w w' → S w') (hmk : ∀ u, puts a0 slots u = mk u) (hO : ObsS P l.toArray S D slots mk 0 (l.take n))
    (ht : ∀ u w, S w → (∀ j, j < n → (D.getD j .any).ok (uvs slots u j) w) → wpList P l.toArray Q (l.drop n) (mk u) w) :
    ∀ (m k : Nat) (u : Nat → Value) (w : World), m + k = n → S w → (∀ j, j < k → (D.getD j .any).ok (uvs slots u j) w) → wpList P l.toArray Q (l.drop k) (mk u) w := by
  have hlen : slots.length = n := by
    have := congrArg List.length hsl
    simp at this
    omega
  intro m
  induction m with
  | zero =>
    intro k u w hk hS hD
    obtain rfl : k = n := by omega
    exact ht u w hS hD
  | succ m ih =>
    intro k u w hk hS hD
    have hkn : k < n := by omega
    have hkl : k < l.length := by omega
    obtain ⟨o, ho⟩ : ∃ o, o = l[k] := ⟨_, rfl⟩
    have ho' : (l.take n)[k]? = some o := by rw [List.getElem?_take, if_pos hkn, ho]; simp [hkl]
    obtain ⟨d, hd⟩ : ∃ d, slots[k]? = some d := ⟨slots[k]'(by omega), List.getElem?_eq_getElem (by omega)⟩
    have hdst : o.dst = some d := by
      have h1 : ((l.take n).map (·.dst))[k]? = (slots.map some)[k]? := by rw [hsl]
      rw [List.getElem?_map, List.getElem?_map, ho', hd] at h1
      simpa using h1
    have hG := ObsS.at_ (l.take n) 0 hO k o ho' u w hS (by rw [Nat.zero_add]; exact hD)
    rw [Nat.zero_add] at hG
    rw [List.drop_eq_getElem_cons hkl, ← ho]
    have hput : ∀ v, (mk u).put o.dst v = mk (upd u d v) := fun v => by
      rw [hdst, ← hmk, ← hmk]
      exact puts_upd slots hnd u d v (List.mem_of_getElem? hd) a0
    have hK : ∀ v w', (D.getD k .any).ok v w' → (S w') → Below w.heap.size w w' → wpList P l.toArray Q (l.drop (k + 1)) ((mk u).put o.dst v) w' := fun v w' hv hS' hb => by
      rw [hput v]
      refine ih _ _ _ (by omega) hS' ?_
      intro j hj
      by_cases e : k = j
      · subst e
        unfold uvs
        rw [hd]
        simpa [upd] using hv
      · have h1 := Know.keep (hD j (by omega)) hb
        have h2 : uvs slots (upd u d v) j = uvs slots u j := by
          unfold uvs
          cases hj' : slots[j]? with
          | none => rfl
          | some d' =>
            have hne : d' ≠ d := fun e' => by
              subst e'
              have g1 := List.getElem?_eq_some_iff.1 hd
              have g2 := List.getElem?_eq_some_iff.1 hj'
              obtain ⟨l1, g1⟩ := g1
              obtain ⟨l2, g2⟩ := g2
              rcases Nat.lt_or_gt_of_ne e with h | h
              · exact List.pairwise_iff_getElem.1 hnd k j l1 l2 h (g1.trans g2.symm)
              · exact List.pairwise_iff_getElem.1 hnd j k l2 l1 h (g2.trans g1.symm)
            simp [upd, hne]
        rw [h2]
        exact h1
    unfold wpList
    rcases hG with ⟨hw, hv⟩ | ⟨hw, hv⟩
    · rw [if_pos hw]
      refine .inl ?_
      unfold Oper.wp
      rcases hv with ⟨v, w', hv, hE, hb⟩ | ⟨g, args, hv, hcl⟩
      · rw [hv]; exact hK v w' hE (hSt _ _ hS hb) hb
      · rw [hv]
        refine hcl.mono ?_
        rintro e w' ⟨v, rfl, hE, hb⟩
        exact hK v w' hE (hSt _ _ hS hb) hb
    · rw [hw]
      exact hK undef w hv hS (Below.refl _ _)
theorem wp_region_obs {id : Nat} {Q : Exit → Act → World → Prop} {l : List Oper} {a0 : Act} {w0 : World} (n : Nat) (slots : List Nat) (D : List Know) (S : World → Prop) {mk : (Nat → Value) → Act}
    (hB : seqB l n slots = true) (hSt : ∀ w w', S w → Below w.heap.size w w' → S w') (hS : S w0) (hmk : ∀ u, puts a0 slots u = mk u)
    (hO : ObsS P l.toArray S D slots mk 0 (l.take n)) (ht : ∀ u w, S w → (∀ j, j < n → (D.getD j .any).ok (uvs slots u j) w) → wpList P l.toArray Q (l.drop n) (mk u) w) :
    (Code.region id l.toArray false).wp P Q a0 w0 := by
  simp only [seqB, Bool.and_eq_true, decide_eq_true_eq] at hB
  obtain ⟨⟨hn, hsl⟩, hnd⟩ := hB
  refine wp_region_lit ?_
  have h := wpList_seq (Q := Q) hn hsl hnd hSt hmk hO ht n 0 (fun s => a0.tmps.getD s undef) w0 (by omega) hS (fun j hj => absurd hj (by omega))
  rw [← hmk, puts_self slots a0 _ (fun _ => rfl), List.drop_zero] at h
  exact h
end
end Go.Proofs.YtmhfkabpfkoocaaDoor
