/-
  A region that draws its order, one operation of which changes what was there (an append to a row of one's own): some operations come ahead of it, some behind it, some may come on either side ('late'). Of no program. By an AI agent.
-/
import Derived.Test.YtfpojgclebaffaaDoorInv
namespace Go.Proofs.YtfpojgclebaffaaDoor
open Go Go.RowKit
section
variable {P : Program} {ops : Array Oper} {S : Bool → World → Prop} {D : Nat → Bool → Value → World → Prop}
def GvM (P : Program) (ops : Array Oper) (E : Value → World → Prop) (o : Oper) (a : Act) (w : World) : Prop :=
  Region.wanted o (yielded ops a.tmps) = true ∧ ((∃ v w', (execOp a.eval o).run P w = .ok (.value v) w' ∧ E v w' ∧ Below w.heap.size w w') ∨ ∃ f args, (execOp a.eval o).run P w = .ok (.enter f args) w ∧ Calls P f args w (fun e w' => ∃ v, e = .returned v ∧ E v w' ∧ Below w.heap.size w w'))
theorem GvM.run {E : Value → World → Prop} {o : Oper} {a : Act} {w : World} (v : Value) (hg : Region.wanted o (yielded ops a.tmps) = true) (hv : (execOp a.eval o).run P w = .ok (.value v) w) (hE : E v w) : GvM P ops E o a w := ⟨hg, .inl ⟨v, w, hv, hE, Below.refl _ _⟩⟩
theorem GvM.make {E : Value → World → Prop} {o : Oper} {a : Act} {w : World} (v : Value) (w' : World) (hg : Region.wanted o (yielded ops a.tmps) = true) (hv : (execOp a.eval o).run P w = .ok (.value v) w') (hE : E v w') (hb : Below w.heap.size w w') : GvM P ops E o a w := ⟨hg, .inl ⟨v, w', hv, hE, hb⟩⟩
theorem GvM.call {E : Value → World → Prop} {o : Oper} {a : Act} {w : World} (f : FuncId) (args : Array Value) (hg : Region.wanted o (yielded ops a.tmps) = true) (hv : (execOp a.eval o).run P w = .ok (.enter f args) w)
    (hc : Calls P f args w (fun e w' => ∃ v, e = .returned v ∧ E v w' ∧ Below w.heap.size w w')) : GvM P ops E o a w := ⟨hg, .inr ⟨f, args, hv, hc⟩⟩
/-- On which side of m: ahead, behind, either. -/
inductive Side where
  | pre
  | post
  | late
deriving DecidableEq
def Side.may : Side → Bool → Prop
  | .pre, b => b = false
  | .post, b => b = true
  | .late, _ => True
def ObsM (P : Program) (ops : Array Oper) (S : Bool → World → Prop) (D : Nat → Bool → Value → World → Prop) (sides : List Side) (m : Nat) (slots : List Nat) (mk : (Nat → Value) → Act) : Nat → List Oper → Prop
  | _, [] => True
  | k, o :: r => (if k = m then ∀ u w, S false w → (∀ e ∈ o.after, Region.binds .any e = true → D e.on false (uvs slots u e.on) w) →
        Region.wanted o (yielded ops (mk u).tmps) = true ∧ ∃ v w', (execOp (mk u).eval o).run P w = .ok (.value v) w' ∧ S true w' ∧ D m true v w' ∧ ∀ j, j ≠ m → ∀ x, D j false x w → D j true x w'
      else ∀ b, (sides.getD k .late).may b → ∀ u w, S b w → (∀ e ∈ o.after, Region.binds .any e = true → D e.on b (uvs slots u e.on) w) → GvM P ops (D k b) o (mk u) w) ∧ ObsM P ops S D sides m slots mk (k + 1) r
theorem ObsM.mut {sides : List Side} {m : Nat} {slots : List Nat} {mk : (Nat → Value) → Act} {o : Oper} {r : List Oper}
    (h : ∀ u w, S false w → (∀ e ∈ o.after, Region.binds .any e = true → D e.on false (uvs slots u e.on) w) →
        Region.wanted o (yielded ops (mk u).tmps) = true ∧ ∃ v w', (execOp (mk u).eval o).run P w = .ok (.value v) w' ∧ S true w' ∧ D m true v w' ∧ ∀ j, j ≠ m → ∀ x, D j false x w → D j true x w')
    (h' : ObsM P ops S D sides m slots mk (m + 1) r) : ObsM P ops S D sides m slots mk m (o :: r) := ⟨by rw [if_pos rfl]; exact h, h'⟩
theorem ObsM.cons {sides : List Side} {m k : Nat} {slots : List Nat} {mk : (Nat → Value) → Act} {o : Oper} {r : List Oper} (hk : k ≠ m)
    (h : ∀ b, (sides.getD k .late).may b → ∀ u w, S b w → (∀ e ∈ o.after, Region.binds .any e = true → D e.on b (uvs slots u e.on) w) → GvM P ops (D k b) o (mk u) w)
    (h' : ObsM P ops S D sides m slots mk (k + 1) r) : ObsM P ops S D sides m slots mk k (o :: r) := ⟨by rw [if_neg hk]; exact h, h'⟩
theorem depM {slots : List Nat} {u : Nat → Value} {w : World} {o : Oper} {b : Bool} (hd : ∀ e ∈ o.after, Region.binds .any e = true → D e.on b (uvs slots u e.on) w) (k : Nat)
    (hk : (o.after.toList.any fun e => e.on == k && Region.binds .any e) = true) : D k b (uvs slots u k) w := by
  obtain ⟨e, he, h⟩ := List.any_eq_true.1 hk
  simp only [Bool.and_eq_true, beq_iff_eq] at h
  have := hd e (Array.mem_toList_iff.1 he) h.2
  rwa [h.1] at this
theorem ObsM.at_ {sides : List Side} {m : Nat} {slots : List Nat} {mk : (Nat → Value) → Act} : ∀ (l : List Oper) (k : Nat), ObsM P ops S D sides m slots mk k l → ∀ i o, l[i]? = some o →
    (if k + i = m then ∀ u w, S false w → (∀ e ∈ o.after, Region.binds .any e = true → D e.on false (uvs slots u e.on) w) →
        Region.wanted o (yielded ops (mk u).tmps) = true ∧ ∃ v w', (execOp (mk u).eval o).run P w = .ok (.value v) w' ∧ S true w' ∧ D m true v w' ∧ ∀ j, j ≠ m → ∀ x, D j false x w → D j true x w'
      else ∀ b, (sides.getD (k + i) .late).may b → ∀ u w, S b w → (∀ e ∈ o.after, Region.binds .any e = true → D e.on b (uvs slots u e.on) w) → GvM P ops (D (k + i) b) o (mk u) w)
  | [], _, _, i, o, h => by simp at h
  | o' :: r, k, hO, 0, o, h => by
    simp at h; subst h
    exact hO.1
  | o' :: r, k, hO, i + 1, o, h => by
    have := ObsM.at_ r (k + 1) hO.2 i o (by simpa using h)
    rwa [show k + 1 + i = k + (i + 1) by omega] at this
def aft (l : List Oper) (j i : Nat) : Bool := ((l.toArray[j]?).map fun o => o.after.toList.any fun e => e.on == i && Region.binds .any e).getD false
theorem aft_spec {l : List Oper} {j i : Nat} (h : aft l j i = true) : ∃ o, l.toArray[j]? = some o ∧ ∃ e ∈ o.after, e.on = i ∧ Region.binds .any e = true := by
  unfold aft at h
  cases ho : l.toArray[j]? with
  | none => rw [ho] at h; simp at h
  | some o =>
    rw [ho] at h
    simp only [Option.map_some, Option.getD_some, List.any_eq_true, Bool.and_eq_true, beq_iff_eq] at h
    obtain ⟨e, he, h5, h6⟩ := h
    exact ⟨o, rfl, e, Array.mem_toList_iff.1 he, h5, h6⟩
def mutB (l : List Oper) (n m : Nat) (sides : List Side) (slots : List Nat) : Bool :=
  invB l n slots && decide (m < n) &&
  ((List.range n).all fun k => k == m || (match sides.getD k .late with
    | .late => true
    | .post => aft l k m
    | .pre => decide (k < m) && (List.range (m + 1)).any fun j => decide (k < j) && (j == m || decide (sides.getD j .late = .pre)) && aft l j k))
/-- What comes ahead has come, once m has. -/
theorem pre_done {l : List Oper} {n m : Nat} {sides : List Side} (hmn : m < n)
    (hw : ∀ k, k < n → k = m ∨ sides.getD k .late ≠ .pre ∨ (k < m ∧ ∃ j, j < m + 1 ∧ k < j ∧ (j = m ∨ sides.getD j .late = .pre) ∧ aft l j k = true))
    {listed : Array Bool} (inv : HeadInv .any l.toArray n listed) (hm : listed.getD m false = true) : ∀ d k, m - k = d → k < n → k ≠ m → sides.getD k .late = .pre → listed.getD k false = true := by
  intro d
  induction d using Nat.strongRecOn with
  | _ d ih =>
    intro k hd hk hne hp
    rcases hw k hk with h | h | ⟨hkm, j, hj, hkj, hjp, ha⟩
    · exact absurd h hne
    · exact absurd hp h
    · obtain ⟨o, ho, e, he, he1, hb⟩ := aft_spec ha
      have hjl : listed.getD j false = true := by
        rcases hjp with rfl | hjp
        · exact hm
        · by_cases hjm : j = m
          · subst hjm; exact hm
          · exact ih (m - j) (by omega) j rfl (by omega) hjm hjp
      have := inv.closed j o ho hjl e he hb
      rwa [he1] at this
theorem wpAny_mut {Q : Exit → Act → World → Prop} {l : List Oper} {n m : Nat} {sides : List Side} {slots : List Nat} {mk : (Nat → Value) → Act} {a0 : Act}
    (hn : n < l.length) (hs : Region.sinkB .any l.toArray n = true) (hc : Region.chainB .any l.toArray n = true) (hbk : backB l.toArray n = true) (hsl : (l.take n).map (·.dst) = slots.map some) (hnd : slots.Nodup)
    (hq : Region.seqB .any l.toArray (l.length - n) n (Array.replicate n true ++ Array.replicate (l.length - n) false) = true) (hmn : m < n)
    (hw : ∀ k, k < n → k = m ∨ sides.getD k .late ≠ .pre ∨ (k < m ∧ ∃ j, j < m + 1 ∧ k < j ∧ (j = m ∨ sides.getD j .late = .pre) ∧ aft l j k = true))
    (hp : ∀ k, k < n → k ≠ m → sides.getD k .late = .post → aft l k m = true)
    (hSt : ∀ b w w', S b w → Below w.heap.size w w' → S b w') (hD : ∀ k b v w w', D k b v w → Below w.heap.size w w' → D k b v w') (hmk : ∀ u, puts a0 slots u = mk u) (hO : ObsM P l.toArray S D sides m slots mk 0 (l.take n))
    (ht : ∀ u w, S true w → (∀ j, j < n → D j true (uvs slots u j) w) → wpList P l.toArray Q (l.drop n) (mk u) w) :
    ∀ (f : Nat) (listed : Array Bool) (u : Nat → Value) (w : World), HeadInv .any l.toArray n listed → toCome listed n = f → S (listed.getD m false) w → (∀ j, j < n → listed.getD j false = true → D j (listed.getD m false) (uvs slots u j) w) →
      wpAny P .any l.toArray Q (f + (l.length - n)) listed (mk u) w := by
  have hlen : slots.length = n := by
    have := congrArg List.length hsl
    simp at this
    omega
  intro f
  induction f with
  | zero =>
    intro listed u w inv h0 hS hDl
    have hall := toCome_zero n h0
    rw [hall m hmn] at hS
    have he : listed = Array.replicate n true ++ Array.replicate (l.length - n) false := by
      have hsz := inv.size
      simp only [List.size_toArray] at hsz
      refine Array.ext (by simp; omega) fun i h1 h2 => ?_
      by_cases hi : i < n
      · have := hall i hi
        simp [h1] at this
        rw [this, Array.getElem_append_left (by simpa using hi)]
        simp
      · have := inv.tail i (by omega) (by simp; omega)
        simp [h1] at this
        rw [this, Array.getElem_append_right (by simp; omega)]
        simp
    have hDl' : ∀ j, j < n → D j true (uvs slots u j) w := fun j hj => by
      have := hDl j hj (hall j hj)
      rwa [hall m hmn] at this
    rw [he, Nat.zero_add]
    have h := wpAny_of_seq (P := P) (md := .any) (ops := l.toArray) (Q' := Q) (l.drop n) n (Array.replicate n true ++ Array.replicate (l.length - n) false) (mk u) w (fun j => by simp) (by rw [List.length_drop]; exact hq)
      (ht u w hS hDl')
    rw [List.length_drop] at h
    exact h
  | succ f ih =>
    intro listed u w inv h0 hS hDl
    obtain ⟨j0, hj0, hun0, hbef⟩ := toCome_pos n (by rw [h0]; omega)
    have hsz := inv.size
    simp only [List.size_toArray] at hsz
    have hun0' := getD_in (listed := listed) (i := j0) (by omega) hun0
    rw [show f + 1 + (l.length - n) = (f + (l.length - n)) + 1 by omega]
    refine ⟨fun hr => ?_, fun i hi => ?_⟩
    · obtain ⟨o0, ho0⟩ : ∃ o, l.toArray[j0]? = some o := ⟨l[j0], by simp⟩
      have : j0 ∈ Region.ready .any l.toArray listed := mem_ready.2 ⟨hun0', o0, ho0, fun e he hb => hbef _ (backB_spec hbk hj0 ho0 e he hb)⟩
      rw [hr] at this
      cases this
    · have hin : i < n := Nat.lt_of_not_le fun h => tail_waits hs hc (by simpa using hn) inv _ j0 rfl hj0 hun0' i h hi
      obtain ⟨hunl, o, ho, hall⟩ := mem_ready.1 hi
      have ho' : (l.take n)[i]? = some o := by rw [List.getElem?_take, if_pos hin]; simpa using ho
      obtain ⟨d, hd⟩ : ∃ d, slots[i]? = some d := ⟨slots[i]'(by omega), List.getElem?_eq_getElem (by omega)⟩
      have hdst : o.dst = some d := by
        have h1 : ((l.take n).map (·.dst))[i]? = (slots.map some)[i]? := by rw [hsl]
        rw [List.getElem?_map, List.getElem?_map, ho', hd] at h1
        simpa using h1
      have hG := ObsM.at_ (l.take n) 0 hO i o ho'
      rw [Nat.zero_add] at hG
      have hput : ∀ v, (mk u).put o.dst v = mk (upd u d v) := fun v => by
        rw [hdst, ← hmk, ← hmk]
        exact puts_upd slots hnd u d v (List.mem_of_getElem? hd) a0
      have hne_upd : ∀ v j, i ≠ j → uvs slots (upd u d v) j = uvs slots u j := fun v j e => by
        unfold uvs
        cases hj' : slots[j]? with
        | none => rfl
        | some d' =>
          have hne : d' ≠ d := fun e' => by
            subst e'
            have g1 := List.getElem?_eq_some_iff.1 hd
            have g2 := List.getElem?_eq_some_iff.1 hj'
            obtain ⟨l1, g1⟩ := g1
            obtain ⟨l2, g2⟩ := g2
            rcases Nat.lt_or_gt_of_ne e with h | h
            · exact List.pairwise_iff_getElem.1 hnd i j l1 l2 h (g1.trans g2.symm)
            · exact List.pairwise_iff_getElem.1 hnd j i l2 l1 h (g2.trans g1.symm)
          simp [upd, hne]
      have hself : ∀ v, uvs slots (upd u d v) i = v := fun v => by
        unfold uvs
        rw [hd]
        simp [upd]
      have hcount : toCome (listed.setIfInBounds i true) n = f := by
        have := toCome_set (by omega) (getD_both hunl) n hin
        omega
      have hseti : (listed.setIfInBounds i true).getD i false = true := by
        have : i < listed.size := by omega
        simp [this]
      have hdeps : ∀ e ∈ o.after, Region.binds .any e = true → D e.on (listed.getD m false) (uvs slots u e.on) w := fun e he hb => by
        have hl := hall e he hb
        exact hDl e.on (Nat.lt_trans (backB_spec hbk hin ho e he hb) hin) hl
      by_cases him : i = m
      · subst him
        rw [if_pos rfl] at hG
        have hf : listed.getD i false = false := getD_both hunl
        rw [hf] at hS hDl hdeps
        obtain ⟨hwt, v, w', hrun, hS', hDv, hDk⟩ := hG u w hS hdeps
        unfold wpOp
        simp only [ho]
        rw [if_pos hwt]
        refine .inl ?_
        unfold Oper.wp
        rw [hrun]
        show wpAny P .any l.toArray Q (f + (l.length - n)) (listed.setIfInBounds i true) ((mk u).put o.dst v) w'
        rw [hput v]
        refine ih _ _ _ (inv.set hi hin) hcount (by rw [hseti]; exact hS') fun j hj hl => ?_
        rw [hseti]
        by_cases e : i = j
        · subst e
          rw [hself]
          exact hDv
        · rw [getD_set_ne false e] at hl
          rw [hne_upd v j e]
          exact hDk j (Ne.symm e) _ (hDl j hj hl)
      · rw [if_neg him] at hG
        have hmset : (listed.setIfInBounds i true).getD m false = listed.getD m false := getD_set_ne false him
        have hmay : (sides.getD i .late).may (listed.getD m false) := by
          cases hsd : sides.getD i .late with
          | late => trivial
          | pre =>
            show listed.getD m false = false
            cases hml : listed.getD m false with
            | false => rfl
            | true =>
              have := pre_done hmn hw inv hml _ i rfl hin him hsd
              rw [getD_both hunl] at this
              cases this
          | post =>
            show listed.getD m false = true
            obtain ⟨o2, ho2, e, he, he1, hb⟩ := aft_spec (hp i hin him hsd)
            rw [ho] at ho2
            cases ho2
            have := hall e he hb
            rwa [he1] at this
        have hG' := hG (listed.getD m false) hmay u w hS hdeps
        have hK : ∀ v w', D i (listed.getD m false) v w' → Below w.heap.size w w' → wpAny P .any l.toArray Q (f + (l.length - n)) (listed.setIfInBounds i true) ((mk u).put o.dst v) w' := fun v w' hv hb => by
          rw [hput v]
          refine ih _ _ _ (inv.set hi hin) hcount (by rw [hmset]; exact hSt _ _ _ hS hb) fun j hj hl => ?_
          rw [hmset]
          by_cases e : i = j
          · subst e
            rw [hself]
            exact hv
          · rw [getD_set_ne false e] at hl
            rw [hne_upd v j e]
            exact hD _ _ _ _ _ (hDl j hj hl) hb
        unfold wpOp
        simp only [ho]
        obtain ⟨hwt, hv⟩ := hG'
        rw [if_pos hwt]
        refine .inl ?_
        unfold Oper.wp
        rcases hv with ⟨v, w', hv, hE, hb⟩ | ⟨g, args, hv, hcl⟩
        · rw [hv]; exact hK v w' hE hb
        · rw [hv]
          refine hcl.mono ?_
          rintro e w' ⟨v, rfl, hE, hb⟩
          exact hK v w' hE hb
theorem wp_region_mut {id : Nat} {Q : Exit → Act → World → Prop} {l : List Oper} {a0 : Act} {w0 : World} (n m : Nat) (sides : List Side) (slots : List Nat) (D : Nat → Bool → Value → World → Prop) (S : Bool → World → Prop) {mk : (Nat → Value) → Act}
    (hm : P.follows .mixedOrders = true) (hB : mutB l n m sides slots = true) (hSt : ∀ b w w', S b w → Below w.heap.size w w' → S b w') (hD : ∀ k b v w w', D k b v w → Below w.heap.size w w' → D k b v w') (hS : S false w0.drew) (hmk : ∀ u, puts a0 slots u = mk u)
    (hO : ObsM P l.toArray S D sides m slots mk 0 (l.take n)) (ht : ∀ u w, S true w → (∀ j, j < n → D j true (uvs slots u j) w) → wpList P l.toArray Q (l.drop n) (mk u) w) :
    (Code.region id l.toArray true).wp P Q a0 w0 := by
  simp only [mutB, invB, Bool.and_eq_true, decide_eq_true_eq] at hB
  obtain ⟨⟨⟨⟨⟨⟨⟨⟨hn, hs⟩, hc⟩, hbk⟩, hsl⟩, hnd⟩, hq⟩, hmn⟩, hside⟩ := hB
  have hsd : ∀ k, k < n → k = m ∨ (match sides.getD k .late with
    | .late => true
    | .post => aft l k m
    | .pre => decide (k < m) && (List.range (m + 1)).any fun j => decide (k < j) && (j == m || decide (sides.getD j .late = .pre)) && aft l j k) = true := fun k hk => by
    have h1 := List.all_eq_true.1 hside k (List.mem_range.2 hk)
    rw [Bool.or_eq_true] at h1
    rcases h1 with h | h
    · exact .inl (by simpa using h)
    · exact .inr h
  refine wp_region_any hm ?_
  have inv0 : HeadInv .any l.toArray n (Array.replicate l.toArray.size false) :=
    ⟨by simp, fun j oj _ hl => (by rw [getD_replicate_false] at hl; cases hl), fun t _ ht => getD_in (by simpa using ht) (getD_replicate_false _ _)⟩
  have h := wpAny_mut (Q := Q) (sides := sides) hn hs hc hbk hsl hnd hq hmn (fun k hk => by
    rcases hsd k hk with h | h
    · exact .inl h
    · cases hx : sides.getD k .late with
      | late => exact .inr (.inl (by simp))
      | post => exact .inr (.inl (by simp))
      | pre =>
        rw [hx] at h
        simp only [Bool.and_eq_true, decide_eq_true_eq, List.any_eq_true, List.mem_range, Bool.or_eq_true, beq_iff_eq] at h
        obtain ⟨h1, j, hj, ⟨h2, h3⟩, h4⟩ := h
        exact .inr (.inr ⟨h1, j, hj, h2, h3, h4⟩)) (fun k hk hne hx => by
    rcases hsd k hk with h | h
    · exact absurd h hne
    · rw [hx] at h; exact h) hSt hD hmk hO ht n _ (fun s => a0.tmps.getD s undef) w0.drew inv0 (toCome_all n) (by rw [getD_replicate_false]; exact hS) (fun j _ hl => by rw [getD_replicate_false] at hl; cases hl)
  rw [← hmk, puts_self slots a0 _ (fun _ => rfl), show n + (l.length - n) = l.toArray.size by simp; omega] at h
  exact h
end
end Go.Proofs.YtfpojgclebaffaaDoor
