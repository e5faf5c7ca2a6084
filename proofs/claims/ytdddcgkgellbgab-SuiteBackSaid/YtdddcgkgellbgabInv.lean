/-
  A region that draws its order, whose operations leave values of which something is known that no later call undoes (a number, a slice that reads as digits or as bytes); a tail that waits for all of them: each operation is asked once, whatever the order. Of no program. By an AI agent.
-/
import Derived.Test.YtdddcgkgellbgabMX
import Derived.StillTail
import Derived.Deep.DeepCutAuto
namespace Go.Proofs.Ytdddcgkgellbgab
open Go Go.RowKit
section
variable {P : Program} {ops : Array Oper} {S : World → Prop}
/-- What is known of a slot. -/
inductive Know where
  | val (v : Value)
  | dig (x : Nat)
  | byt (bs : List UInt8)
  | one (x : Value)
  | row (n : Nat) (f : Nat → Value)
  | tup (x : Value)
  | sat (E : Value → World → Prop) (hk : ∀ v w w', E v w → Below w.heap.size w w' → E v w')
  | any
def Know.ok : Know → Value → World → Prop
  | .val c, v, _ => v = c
  | .dig x, v, w => ∃ A c n, v = .slice A n c ∧ Dig w w.heap.size A c n x ∧ Can n x
  | .byt bs, v, w => ∃ A c, v = .slice A bs.length c ∧ Rd w w.heap.size A c bs
  | .one x, v, w => ∃ A, v = .slice A 1 1 ∧ RdF w w.heap.size A 1 1 (fun _ => x)
  | .row n f, v, w => ∃ A c, v = .slice A n c ∧ RdF w w.heap.size A c n f
  | .tup x, v, _ => ∃ y, v = .tuple #[x, y]
  | .sat E _, v, w => E v w
  | .any, _, _ => True
theorem Know.keep {k : Know} {v : Value} {w w' : World} (h : k.ok v w) (hb : Below w.heap.size w w') : k.ok v w' := by
  cases k with
  | val c => exact h
  | dig x => obtain ⟨A, c, n, e, d, hc⟩ := h; exact ⟨A, c, n, e, d.next hb, hc⟩
  | byt bs => obtain ⟨A, c, e, r⟩ := h; exact ⟨A, c, e, (r.keep hb).mono hb.size⟩
  | one x => obtain ⟨A, e, r⟩ := h; exact ⟨A, e, r.next hb⟩
  | row n f => obtain ⟨A, c, e, r⟩ := h; exact ⟨A, c, e, r.next hb⟩
  | tup x => exact h
  | sat E hk => exact hk v w w' h hb
  | any => trivial
def puts (a : Act) (l : List Nat) (u : Nat → Value) : Act := l.foldl (fun a s => a.put (some s) (u s)) a
def upd (u : Nat → Value) (d : Nat) (v : Value) : Nat → Value := fun s => if s = d then v else u s
def uvs (slots : List Nat) (u : Nat → Value) (j : Nat) : Value := match slots[j]? with
  | some d => u d
  | none => undef
theorem puts_congr (l : List Nat) {u u' : Nat → Value} (h : ∀ s ∈ l, u s = u' s) : ∀ a, puts a l u = puts a l u' := by
  induction l with
  | nil => intro a; rfl
  | cons s l ih =>
    intro a
    show puts (a.put (some s) (u s)) l u = puts (a.put (some s) (u' s)) l u'
    rw [h s (by simp), ih (fun t ht => h t (by simp [ht]))]
theorem put_out (l : List Nat) (u : Nat → Value) (d : Nat) (v : Value) (h : d ∉ l) : ∀ a, puts (a.put (some d) v) l u = (puts a l u).put (some d) v := by
  induction l with
  | nil => intro a; rfl
  | cons s l ih =>
    intro a
    have hs : s ≠ d := fun e => h (by simp [e])
    show puts ((a.put (some d) v).put (some s) (u s)) l u = (puts (a.put (some s) (u s)) l u).put (some d) v
    rw [Act.put_comm a v (u s) (by intro t ht; simp at ht ⊢; subst ht; exact hs), ih (fun hd => h (by simp [hd]))]
theorem put_put (a : Act) (d : Nat) (v v' : Value) : (a.put (some d) v).put (some d) v' = a.put (some d) v' := by
  simp [Act.put]
theorem puts_upd (l : List Nat) (hn : l.Nodup) (u : Nat → Value) (d : Nat) (v : Value) (h : d ∈ l) : ∀ a, (puts a l u).put (some d) v = puts a l (upd u d v) := by
  induction l with
  | nil => cases h
  | cons s l ih =>
    intro a
    have hn' := List.nodup_cons.1 hn
    show (puts (a.put (some s) (u s)) l u).put (some d) v = puts (a.put (some s) (upd u d v s)) l (upd u d v)
    by_cases e : s = d
    · subst e
      rw [show upd u s v s = v by simp [upd], ← put_out l u s v hn'.1, put_put]
      exact puts_congr l (fun t ht => by unfold upd; rw [if_neg (fun e : t = s => hn'.1 (e ▸ ht))]) _
    · rw [ih hn'.2 (by simpa [Ne.symm e] using h), show upd u d v s = u s by simp [upd, e]]
theorem puts_self (l : List Nat) (a : Act) (u : Nat → Value) (h : ∀ s, u s = a.tmps.getD s undef) : puts a l u = a := by
  induction l with
  | nil => rfl
  | cons s l ih =>
    have e : a.put (some s) (u s) = a := by
      rw [h s]
      unfold Act.put
      simp only
      have : a.tmps.setIfInBounds s (a.tmps.getD s undef) = a.tmps := by
        refine Array.ext (by simp) fun i h1 h2 => ?_
        rw [Array.getElem_setIfInBounds]
        split
        · rename_i h3; subst h3; simp [h2]
        · rfl
      rw [this]
    show puts (a.put (some s) (u s)) l u = a
    rw [e, ih]
def Gv (P : Program) (ops : Array Oper) (E : Value → World → Prop) (o : Oper) (a : Act) (w : World) : Prop :=
  (Region.wanted o (yielded ops a.tmps) = true ∧ ((∃ v w', (execOp a.eval o).run P w = .ok (.value v) w' ∧ E v w' ∧ Below w.heap.size w w') ∨ ∃ f args, (execOp a.eval o).run P w = .ok (.enter f args) w ∧ Calls P f args w (fun e w' => ∃ v, e = .returned v ∧ E v w' ∧ Below w.heap.size w w'))) ∨
  (Region.wanted o (yielded ops a.tmps) = false ∧ E undef w)
theorem Gv.run {E : Value → World → Prop} {o : Oper} {a : Act} {w : World} (v : Value) (hg : Region.wanted o (yielded ops a.tmps) = true) (hv : (execOp a.eval o).run P w = .ok (.value v) w) (hE : E v w) : Gv P ops E o a w := .inl ⟨hg, .inl ⟨v, w, hv, hE, Below.refl _ _⟩⟩
theorem Gv.make {E : Value → World → Prop} {o : Oper} {a : Act} {w : World} (v : Value) (w' : World) (hg : Region.wanted o (yielded ops a.tmps) = true) (hv : (execOp a.eval o).run P w = .ok (.value v) w') (hE : E v w') (hb : Below w.heap.size w w') : Gv P ops E o a w := .inl ⟨hg, .inl ⟨v, w', hv, hE, hb⟩⟩
theorem Gv.call {E : Value → World → Prop} {o : Oper} {a : Act} {w : World} (f : FuncId) (args : Array Value) (hg : Region.wanted o (yielded ops a.tmps) = true) (hv : (execOp a.eval o).run P w = .ok (.enter f args) w)
    (hc : Calls P f args w (fun e w' => ∃ v, e = .returned v ∧ E v w' ∧ Below w.heap.size w w')) : Gv P ops E o a w := .inl ⟨hg, .inr ⟨f, args, hv, hc⟩⟩
theorem Gv.skip {E : Value → World → Prop} {o : Oper} {a : Act} {w : World} (hg : Region.wanted o (yielded ops a.tmps) = false) (hE : E undef w) : Gv P ops E o a w := .inr ⟨hg, hE⟩
def Obs (P : Program) (ops : Array Oper) (S : World → Prop) (D : List Know) (slots : List Nat) (mk : (Nat → Value) → Act) : Nat → List Oper → Prop
  | _, [] => True
  | k, o :: r => (∀ u w, S w → (∀ e ∈ o.after, Region.binds .any e = true → (D.getD e.on .any).ok (uvs slots u e.on) w) → Gv P ops (D.getD k .any).ok o (mk u) w) ∧ Obs P ops S D slots mk (k + 1) r
theorem dep {D : List Know} {slots : List Nat} {u : Nat → Value} {w : World} {o : Oper} (hd : ∀ e ∈ o.after, Region.binds .any e = true → (D.getD e.on .any).ok (uvs slots u e.on) w) (k : Nat)
    (hk : (o.after.toList.any fun e => e.on == k && Region.binds .any e) = true) : (D.getD k .any).ok (uvs slots u k) w := by
  obtain ⟨e, he, h⟩ := List.any_eq_true.1 hk
  simp only [Bool.and_eq_true, beq_iff_eq] at h
  have := hd e (Array.mem_toList_iff.1 he) h.2
  rwa [h.1] at this
theorem Obs.cons {D : List Know} {slots : List Nat} {mk : (Nat → Value) → Act} {k : Nat} {o : Oper} {r : List Oper}
    (h : ∀ u w, S w → (∀ e ∈ o.after, Region.binds .any e = true → (D.getD e.on .any).ok (uvs slots u e.on) w) → Gv P ops (D.getD k .any).ok o (mk u) w) (h' : Obs P ops S D slots mk (k + 1) r) : Obs P ops S D slots mk k (o :: r) := ⟨h, h'⟩
theorem Obs.nil {D : List Know} {slots : List Nat} {mk : (Nat → Value) → Act} {k : Nat} : Obs P ops S D slots mk k [] := trivial
theorem run_conv {o : Oper} {a : Act} {w : World} {src dst : TypeId} {s : Operand} {v r : Value} (ho : o.op = .convert src dst s) (h1 : a.eval s = v) (hc : (convert src dst v).run P w = .ok r w) : (execOp a.eval o).run P w = .ok (.value r) w := by
  unfold execOp
  simp only [ho, h1, Sem.run_bind, hc, Result.andThen_ok, Sem.run_pure]
theorem Obs.at_ {D : List Know} {slots : List Nat} {mk : (Nat → Value) → Act} : ∀ (l : List Oper) (k : Nat), Obs P ops S D slots mk k l → ∀ i o, l[i]? = some o →
    ∀ u w, S w → (∀ e ∈ o.after, Region.binds .any e = true → (D.getD e.on .any).ok (uvs slots u e.on) w) → Gv P ops (D.getD (k + i) .any).ok o (mk u) w
  | [], _, _, i, o, h => by simp at h
  | o' :: r, k, hO, 0, o, h => by
    simp at h; subst h
    exact hO.1
  | o' :: r, k, hO, i + 1, o, h => by
    have := Obs.at_ r (k + 1) hO.2 i o (by simpa using h)
    rwa [show k + 1 + i = k + (i + 1) by omega] at this
/-- How many of the first k are still to come. -/
def toCome (listed : Array Bool) : Nat → Nat
  | 0 => 0
  | k + 1 => toCome listed k + if listed.getD k false = true then 0 else 1
theorem toCome_set_ge {listed : Array Bool} {i : Nat} : ∀ k, k ≤ i → toCome (listed.setIfInBounds i true) k = toCome listed k
  | 0, _ => rfl
  | k + 1, h => by
    rw [toCome, toCome, toCome_set_ge k (by omega), getD_set_ne false (by omega)]
theorem toCome_set {listed : Array Bool} {i : Nat} (hi : i < listed.size) (hf : listed.getD i false = false) : ∀ k, i < k → toCome (listed.setIfInBounds i true) k + 1 = toCome listed k
  | 0, h => by omega
  | k + 1, h => by
    rw [toCome, toCome]
    by_cases e : i = k
    · subst e
      rw [toCome_set_ge i (Nat.le_refl _), hf]
      simp [hi]
    · rw [getD_set_ne false e]
      have := toCome_set hi hf k (by omega)
      omega
theorem toCome_zero {listed : Array Bool} : ∀ k, toCome listed k = 0 → ∀ j, j < k → listed.getD j false = true
  | 0, _, j, h => by omega
  | k + 1, h, j, hj => by
    rw [toCome] at h
    by_cases e : j = k
    · subst e
      cases hl : listed.getD j false with
      | true => rfl
      | false => rw [hl] at h; simp at h
    · exact toCome_zero k (by omega) j (by omega)
theorem toCome_pos {listed : Array Bool} : ∀ k, toCome listed k ≠ 0 → ∃ j, j < k ∧ listed.getD j false = false ∧ ∀ i, i < j → listed.getD i false = true
  | 0, h => absurd rfl h
  | k + 1, h => by
    by_cases h0 : toCome listed k = 0
    · refine ⟨k, by omega, ?_, fun i hi => toCome_zero k h0 i hi⟩
      cases hl : listed.getD k false with
      | false => rfl
      | true => rw [toCome, h0, hl] at h; simp at h
    · obtain ⟨j, h1, h2, h3⟩ := toCome_pos k h0
      exact ⟨j, by omega, h2, h3⟩
theorem toCome_all {m : Nat} : ∀ k, toCome (Array.replicate m false) k = k
  | 0 => rfl
  | k + 1 => by rw [toCome, toCome_all k, getD_replicate_false]; simp
def backB (ops : Array Oper) (n : Nat) : Bool := (List.range n).all fun i => ((ops[i]?).map (·.after.all fun e => !Region.binds .any e || decide (e.on < i))).getD false
theorem backB_spec {n i : Nat} {o : Oper} (h : backB ops n = true) (hi : i < n) (ho : ops[i]? = some o) : ∀ e ∈ o.after, Region.binds .any e = true → e.on < i := by
  intro e he hb
  have h1 := List.all_eq_true.1 h i (List.mem_range.2 hi)
  rw [ho] at h1
  simp only [Option.map_some, Option.getD_some, Array.all_eq_true_iff_forall_mem] at h1
  have h2 := h1 e he
  rw [hb] at h2
  simpa using h2
def invB (l : List Oper) (n : Nat) (slots : List Nat) : Bool :=
  decide (n < l.length) && Region.sinkB .any l.toArray n && Region.chainB .any l.toArray n && backB l.toArray n && decide ((l.take n).map (·.dst) = slots.map some) && decide (slots.Nodup) &&
  Region.seqB .any l.toArray (l.length - n) n (Array.replicate n true ++ Array.replicate (l.length - n) false)
theorem wpAny_inv {Q : Exit → Act → World → Prop} {l : List Oper} {n : Nat} {slots : List Nat} {D : List Know} {mk : (Nat → Value) → Act} {a0 : Act}
    (hn : n < l.length) (hs : Region.sinkB .any l.toArray n = true) (hc : Region.chainB .any l.toArray n = true) (hbk : backB l.toArray n = true) (hsl : (l.take n).map (·.dst) = slots.map some) (hnd : slots.Nodup)
    (hq : Region.seqB .any l.toArray (l.length - n) n (Array.replicate n true ++ Array.replicate (l.length - n) false) = true)
    (hSt : ∀ w w', S w → Below w.heap.size w w' → S w') (hmk : ∀ u, puts a0 slots u = mk u) (hO : Obs P l.toArray S D slots mk 0 (l.take n))
    (ht : ∀ u w, S w → (∀ j, j < n → (D.getD j .any).ok (uvs slots u j) w) → wpList P l.toArray Q (l.drop n) (mk u) w) :
    ∀ (f : Nat) (listed : Array Bool) (u : Nat → Value) (w : World), HeadInv .any l.toArray n listed → toCome listed n = f → S w → (∀ j, j < n → listed.getD j false = true → (D.getD j .any).ok (uvs slots u j) w) →
      wpAny P .any l.toArray Q (f + (l.length - n)) listed (mk u) w := by
  have hlen : slots.length = n := by
    have := congrArg List.length hsl
    simp at this
    omega
  intro f
  induction f with
  | zero =>
    intro listed u w inv h0 hS hD
    have hall := toCome_zero n h0
    have he : listed = Array.replicate n true ++ Array.replicate (l.length - n) false := by
      have hsz := inv.size
      simp only [List.size_toArray] at hsz
      refine Array.ext (by simp; omega) fun i h1 h2 => ?_
      by_cases hi : i < n
      · have := hall i hi
        simp [h1] at this
        rw [this, Array.getElem_append_left (by simpa using hi)]
        simp
      · have := inv.tail i (by omega) (by simp; omega)
        simp [h1] at this
        rw [this, Array.getElem_append_right (by simp; omega)]
        simp
    rw [he, Nat.zero_add]
    have h := wpAny_of_seq (P := P) (md := .any) (ops := l.toArray) (Q' := Q) (l.drop n) n (Array.replicate n true ++ Array.replicate (l.length - n) false) (mk u) w (fun j => by simp) (by rw [List.length_drop]; exact hq)
      (ht u w hS fun j hj => hD j hj (hall j hj))
    rw [List.length_drop] at h
    exact h
  | succ f ih =>
    intro listed u w inv h0 hS hD
    obtain ⟨j0, hj0, hun0, hbef⟩ := toCome_pos n (by rw [h0]; omega)
    have hsz := inv.size
    simp only [List.size_toArray] at hsz
    have hun0' := getD_in (listed := listed) (i := j0) (by omega) hun0
    rw [show f + 1 + (l.length - n) = (f + (l.length - n)) + 1 by omega]
    refine ⟨fun hr => ?_, fun i hi => ?_⟩
    · obtain ⟨o0, ho0⟩ : ∃ o, l.toArray[j0]? = some o := ⟨l[j0], by simp⟩
      have : j0 ∈ Region.ready .any l.toArray listed := mem_ready.2 ⟨hun0', o0, ho0, fun e he hb => hbef _ (backB_spec hbk hj0 ho0 e he hb)⟩
      rw [hr] at this
      cases this
    · have hin : i < n := Nat.lt_of_not_le fun h => tail_waits hs hc (by simpa using hn) inv _ j0 rfl hj0 hun0' i h hi
      obtain ⟨hunl, o, ho, hall⟩ := mem_ready.1 hi
      have ho' : (l.take n)[i]? = some o := by rw [List.getElem?_take, if_pos hin]; simpa using ho
      obtain ⟨d, hd⟩ : ∃ d, slots[i]? = some d := ⟨slots[i]'(by omega), List.getElem?_eq_getElem (by omega)⟩
      have hdst : o.dst = some d := by
        have h1 : ((l.take n).map (·.dst))[i]? = (slots.map some)[i]? := by rw [hsl]
        rw [List.getElem?_map, List.getElem?_map, ho', hd] at h1
        simpa using h1
      have hG := Obs.at_ (l.take n) 0 hO i o ho' u w hS (fun e he hb => by
        have hl := hall e he hb
        have hlt : e.on < n := Nat.lt_trans (backB_spec hbk hin ho e he hb) hin
        exact hD e.on hlt hl)
      rw [Nat.zero_add] at hG
      have hput : ∀ v, (mk u).put o.dst v = mk (upd u d v) := fun v => by
        rw [hdst, ← hmk, ← hmk]
        exact puts_upd slots hnd u d v (List.mem_of_getElem? hd) a0
      have hK : ∀ v w', (D.getD i .any).ok v w' → (S w') → Below w.heap.size w w' → wpAny P .any l.toArray Q (f + (l.length - n)) (listed.setIfInBounds i true) ((mk u).put o.dst v) w' := fun v w' hv hS' hb => by
        rw [hput v]
        refine ih _ _ _ (inv.set hi hin) ?_ hS' ?_
        · have := toCome_set (by omega) (getD_both hunl) n hin
          omega
        · intro j hj hl
          by_cases e : i = j
          · subst e
            unfold uvs
            rw [hd]
            simpa [upd] using hv
          · rw [getD_set_ne false e] at hl
            have h1 := Know.keep (hD j hj hl) hb
            have h2 : uvs slots (upd u d v) j = uvs slots u j := by
              unfold uvs
              cases hj' : slots[j]? with
              | none => rfl
              | some d' =>
                have hne : d' ≠ d := fun e' => by
                  subst e'
                  have g1 := List.getElem?_eq_some_iff.1 hd
                  have g2 := List.getElem?_eq_some_iff.1 hj'
                  obtain ⟨l1, g1⟩ := g1
                  obtain ⟨l2, g2⟩ := g2
                  rcases Nat.lt_or_gt_of_ne e with h | h
                  · exact List.pairwise_iff_getElem.1 hnd i j l1 l2 h (g1.trans g2.symm)
                  · exact List.pairwise_iff_getElem.1 hnd j i l2 l1 h (g2.trans g1.symm)
                simp [upd, hne]
            rw [h2]
            exact h1
      unfold wpOp
      simp only [ho]
      rcases hG with ⟨hw, hv⟩ | ⟨hw, hv⟩
      · rw [if_pos hw]
        refine .inl ?_
        unfold Oper.wp
        rcases hv with ⟨v, w', hv, hE, hb⟩ | ⟨g, args, hv, hcl⟩
        · rw [hv]; exact hK v w' hE (hSt _ _ hS hb) hb
        · rw [hv]
          refine hcl.mono ?_
          rintro e w' ⟨v, rfl, hE, hb⟩
          exact hK v w' hE (hSt _ _ hS hb) hb
      · rw [hw]
        exact hK undef w hv hS (Below.refl _ _)
theorem wp_region_inv {id : Nat} {Q : Exit → Act → World → Prop} {l : List Oper} {a0 : Act} {w0 : World} (n : Nat) (slots : List Nat) (D : List Know) (S : World → Prop) {mk : (Nat → Value) → Act}
    (hm : P.follows .mixedOrders = true) (hB : invB l n slots = true) (hSt : ∀ w w', S w → Below w.heap.size w w' → S w') (hS : S w0.drew) (hmk : ∀ u, puts a0 slots u = mk u)
    (hO : Obs P l.toArray S D slots mk 0 (l.take n)) (ht : ∀ u w, S w → (∀ j, j < n → (D.getD j .any).ok (uvs slots u j) w) → wpList P l.toArray Q (l.drop n) (mk u) w) :
    (Code.region id l.toArray true).wp P Q a0 w0 := by
  simp only [invB, Bool.and_eq_true, decide_eq_true_eq] at hB
  obtain ⟨⟨⟨⟨⟨⟨hn, hs⟩, hc⟩, hbk⟩, hsl⟩, hnd⟩, hq⟩ := hB
  refine wp_region_any hm ?_
  have inv0 : HeadInv .any l.toArray n (Array.replicate l.toArray.size false) :=
    ⟨by simp, fun j oj _ hl => (by rw [getD_replicate_false] at hl; cases hl), fun t _ ht => getD_in (by simpa using ht) (getD_replicate_false _ _)⟩
  have h := wpAny_inv (Q := Q) hn hs hc hbk hsl hnd hq hSt hmk hO ht n _ (fun s => a0.tmps.getD s undef) w0.drew inv0 (toCome_all n) hS (fun j _ hl => by rw [getD_replicate_false] at hl; cases hl)
  rw [← hmk, puts_self slots a0 _ (fun _ => rfl), show n + (l.length - n) = l.toArray.size by simp; omega] at h
  exact h
end
end Go.Proofs.Ytdddcgkgellbgab
