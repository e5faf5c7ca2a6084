/-
  A region that draws its order, whose operations leave values of which something is known that no later call undoes (a number, a slice that reads as digits or as bytes); a tail that waits for all of them: each operation is asked once, whatever the order. Of no program. By an AI agent. A region that draws its order and lays its results into boxes of its own (allocations and stores at whatever place in the order): each operation is asked once. Of no program. By an AI agent. A region that draws its order, of loads and one store that may come before a load (a swap of boxes: 'a, b, c, d = c, d, a, b'); a tail that waits for all of them. Of no program. By an AI agent. The document's mul (layer 6), digits to the base 65536, over letters. By an AI agent. A region that draws its order, as in XInv, whose last operation is a store that waits for all but one of the others: a pure one that nobody waits for, which may come behind it. Of no program. By an AI agent. A region in its own order, by steps that say what is known of each result (XInv's, for regions that do not draw). By an AI agent.
-/
import Derived.Test.YtkbkalhcdbklkaaGreatDoorMD
import Derived.StillTail
import Derived.Deep.DeepCutAuto
import Derived.Deep.Cut
namespace Go.Proofs.YtkbkalhcdbklkaaGreatDoor
open Go Go.RowKit
section
variable {P : Program} {ops : Array Oper} {S : World → Prop}
/-- What is known of a slot. -/
inductive Know where
  | val (v : Value)
  | dig (x : Nat)
  | byt (bs : List UInt8)
  | one (x : Value)
  | row (n : Nat) (f : Nat → Value)
  | tup (x : Value)
  | sat (E : Value → World → Prop) (hk : ∀ v w w', E v w → Below w.heap.size w w' → E v w')
  | any
def Know.ok : Know → Value → World → Prop
  | .val c, v, _ => v = c
  | .dig x, v, w => ∃ A c n, v = .slice A n c ∧ Dig w w.heap.size A c n x ∧ Can n x
  | .byt bs, v, w => ∃ A c, v = .slice A bs.length c ∧ Rd w w.heap.size A c bs
  | .one x, v, w => ∃ A, v = .slice A 1 1 ∧ RdF w w.heap.size A 1 1 (fun _ => x)
  | .row n f, v, w => ∃ A c, v = .slice A n c ∧ RdF w w.heap.size A c n f
  | .tup x, v, _ => ∃ y, v = .tuple #[x, y]
  | .sat E _, v, w => E v w
  | .any, _, _ => True
theorem Know.keep {k : Know} {v : Value} {w w' : World} (h : k.ok v w) (hb : Below w.heap.size w w') : k.ok v w' := by
  cases k with
  | val c => exact h
  | dig x => obtain ⟨A, c, n, e, d, hc⟩ := h; exact ⟨A, c, n, e, d.next hb, hc⟩
  | byt bs => obtain ⟨A, c, e, r⟩ := h; exact ⟨A, c, e, (r.keep hb).mono hb.size⟩
  | one x => obtain ⟨A, e, r⟩ := h; exact ⟨A, e, r.next hb⟩
  | row n f => obtain ⟨A, c, e, r⟩ := h; exact ⟨A, c, e, r.next hb⟩
  | tup x => exact h
  | sat E hk => exact hk v w w' h hb
  | any => trivial
def puts (a : Act) (l : List Nat) (u : Nat → Value) : Act := l.foldl (fun a s => a.put (some s) (u s)) a
def upd (u : Nat → Value) (d : Nat) (v : Value) : Nat → Value := fun s => if s = d then v else u s
def uvs (slots : List Nat) (u : Nat → Value) (j : Nat) : Value := match slots[j]? with
  | some d => u d
  | none => undef
theorem puts_congr (l : List Nat) {u u' : Nat → Value} (h : ∀ s ∈ l, u s = u' s) : ∀ a, puts a l u = puts a l u' := by
  induction l with
  | nil => intro a; rfl
  | cons s l ih =>
    intro a
    show puts (a.put (some s) (u s)) l u = puts (a.put (some s) (u' s)) l u'
    rw [h s (by simp), ih (fun t ht => h t (by simp [ht]))]
theorem put_out (l : List Nat) (u : Nat → Value) (d : Nat) (v : Value) (h : d ∉ l) : ∀ a, puts (a.put (some d) v) l u = (puts a l u).put (some d) v := by
  induction l with
  | nil => intro a; rfl
  | cons s l ih =>
    intro a
    have hs : s ≠ d := fun e => h (by simp [e])
    show puts ((a.put (some d) v).put (some s) (u s)) l u = (puts (a.put (some s) (u s)) l u).put (some d) v
    rw [Act.put_comm a v (u s) (by intro t ht; simp at ht ⊢; subst ht; exact hs), ih (fun hd => h (by simp [hd]))]
theorem put_put (a : Act) (d : Nat) (v v' : Value) : (a.put (some d) v).put (some d) v' = a.put (some d) v' := by
  simp [Act.put]
theorem puts_upd (l : List Nat) (hn : l.Nodup) (u : Nat → Value) (d : Nat) (v : Value) (h : d ∈ l) : ∀ a, (puts a l u).put (some d) v = puts a l (upd u d v) := by
  induction l with
  | nil => cases h
  | cons s l ih =>
    intro a
    have hn' := List.nodup_cons.1 hn
    show (puts (a.put (some s) (u s)) l u).put (some d) v = puts (a.put (some s) (upd u d v s)) l (upd u d v)
    by_cases e : s = d
    · subst e
      rw [show upd u s v s = v by simp [upd], ← put_out l u s v hn'.1, put_put]
      exact puts_congr l (fun t ht => by unfold upd; rw [if_neg (fun e : t = s => hn'.1 (e ▸ ht))]) _
    · rw [ih hn'.2 (by simpa [Ne.symm e] using h), show upd u d v s = u s by simp [upd, e]]
theorem puts_self (l : List Nat) (a : Act) (u : Nat → Value) (h : ∀ s, u s = a.tmps.getD s undef) : puts a l u = a := by
  induction l with
  | nil => rfl
  | cons s l ih =>
    have e : a.put (some s) (u s) = a := by
      rw [h s]
      unfold Act.put
      simp only
      have : a.tmps.setIfInBounds s (a.tmps.getD s undef) = a.tmps := by
        refine Array.ext (by simp) fun i h1 h2 => ?_
        rw [Array.getElem_setIfInBounds]
        split
        · rename_i h3; subst h3; simp [h2]
        · rfl
      rw [this]
    show puts (a.put (some s) (u s)) l u = a
    rw [e, ih]
def Gv (P : Program) (ops : Array Oper) (E : Value → World → Prop) (o : Oper) (a : Act) (w : World) : Prop :=
  (Region.wanted o (yielded ops a.tmps) = true ∧ ((∃ v w', (execOp a.eval o).run P w = .ok (.value v) w' ∧ E v w' ∧ Below w.heap.size w w') ∨ ∃ f args, (execOp a.eval o).run P w = .ok (.enter f args) w ∧ Calls P f args w (fun e w' => ∃ v, e = .returned v ∧ E v w' ∧ Below w.heap.size w w'))) ∨
  (Region.wanted o (yielded ops a.tmps) = false ∧ E undef w)
theorem Gv.run {E : Value → World → Prop} {o : Oper} {a : Act} {w : World} (v : Value) (hg : Region.wanted o (yielded ops a.tmps) = true) (hv : (execOp a.eval o).run P w = .ok (.value v) w) (hE : E v w) : Gv P ops E o a w := .inl ⟨hg, .inl ⟨v, w, hv, hE, Below.refl _ _⟩⟩
theorem Gv.make {E : Value → World → Prop} {o : Oper} {a : Act} {w : World} (v : Value) (w' : World) (hg : Region.wanted o (yielded ops a.tmps) = true) (hv : (execOp a.eval o).run P w = .ok (.value v) w') (hE : E v w') (hb : Below w.heap.size w w') : Gv P ops E o a w := .inl ⟨hg, .inl ⟨v, w', hv, hE, hb⟩⟩
theorem Gv.call {E : Value → World → Prop} {o : Oper} {a : Act} {w : World} (f : FuncId) (args : Array Value) (hg : Region.wanted o (yielded ops a.tmps) = true) (hv : (execOp a.eval o).run P w = .ok (.enter f args) w)
    (hc : Calls P f args w (fun e w' => ∃ v, e = .returned v ∧ E v w' ∧ Below w.heap.size w w')) : Gv P ops E o a w := .inl ⟨hg, .inr ⟨f, args, hv, hc⟩⟩
theorem Gv.skip {E : Value → World → Prop} {o : Oper} {a : Act} {w : World} (hg : Region.wanted o (yielded ops a.tmps) = false) (hE : E undef w) : Gv P ops E o a w := .inr ⟨hg, hE⟩
def Obs (P : Program) (ops : Array Oper) (S : World → Prop) (D : List Know) (slots : List Nat) (mk : (Nat → Value) → Act) : Nat → List Oper → Prop
  | _, [] => True
  | k, o :: r => (∀ u w, S w → (∀ e ∈ o.after, Region.binds .any e = true → (D.getD e.on .any).ok (uvs slots u e.on) w) → Gv P ops (D.getD k .any).ok o (mk u) w) ∧ Obs P ops S D slots mk (k + 1) r
theorem dep {D : List Know} {slots : List Nat} {u : Nat → Value} {w : World} {o : Oper} (hd : ∀ e ∈ o.after, Region.binds .any e = true → (D.getD e.on .any).ok (uvs slots u e.on) w) (k : Nat)
    (hk : (o.after.toList.any fun e => e.on == k && Region.binds .any e) = true) : (D.getD k .any).ok (uvs slots u k) w := by
  obtain ⟨e, he, h⟩ := List.any_eq_true.1 hk
  simp only [Bool.and_eq_true, beq_iff_eq] at h
  have := hd e (Array.mem_toList_iff.1 he) h.2
  rwa [h.1] at this
theorem Obs.cons {D : List Know} {slots : List Nat} {mk : (Nat → Value) → Act} {k : Nat} {o : Oper} {r : List Oper}
    (h : ∀ u w, S w → (∀ e ∈ o.after, Region.binds .any e = true → (D.getD e.on .any).ok (uvs slots u e.on) w) → Gv P ops (D.getD k .any).ok o (mk u) w) (h' : Obs P ops S D slots mk (k + 1) r) : Obs P ops S D slots mk k (o :: r) := ⟨h, h'⟩
theorem Obs.nil {D : List Know} {slots : List Nat} {mk : (Nat → Value) → Act} {k : Nat} : Obs P ops S D slots mk k [] := trivial
theorem run_conv {o : Oper} {a : Act} {w : World} {src dst : TypeId} {s : Operand} {v r : Value} (ho : o.op = .convert src dst s) (h1 : a.eval s = v) (hc : (convert src dst v).run P w = .ok r w) : (execOp a.eval o).run P w = .ok (.value r) w := by
  unfold execOp
  simp only [ho, h1, Sem.run_bind, hc, Result.andThen_ok, Sem.run_pure]
theorem Obs.at_ {D : List Know} {slots : List Nat} {mk : (Nat → Value) → Act} : ∀ (l : List Oper) (k : Nat), Obs P ops S D slots mk k l → ∀ i o, l[i]? = some o →
    ∀ u w, S w → (∀ e ∈ o.after, Region.binds .any e = true → (D.getD e.on .any).ok (uvs slots u e.on) w) → Gv P ops (D.getD (k + i) .any).ok o (mk u) w
  | [], _, _, i, o, h => by simp at h
  | o' :: r, k, hO, 0, o, h => by
    simp at h; subst h
    exact hO.1
  | o' :: r, k, hO, i + 1, o, h => by
    have := Obs.at_ r (k + 1) hO.2 i o (by simpa using h)
    rwa [show k + 1 + i = k + (i + 1) by omega] at this
/-- How many of the first k are still to come. -/
def toCome (listed : Array Bool) : Nat → Nat
  | 0 => 0
  | k + 1 => toCome listed k + if listed.getD k false = true then 0 else 1
theorem toCome_set_ge {listed : Array Bool} {i : Nat} : ∀ k, k ≤ i → toCome (listed.setIfInBounds i true) k = toCome listed k
  | 0, _ => rfl
  | k + 1, h => by
    rw [toCome, toCome, toCome_set_ge k (by omega), getD_set_ne false (by omega)]
theorem toCome_set {listed : Array Bool} {i : Nat} (hi : i < listed.size) (hf : listed.getD i false = false) : ∀ k, i < k → toCome (listed.setIfInBounds i true) k + 1 = toCome listed k
  | 0, h => by omega
  | k + 1, h => by
    rw [toCome, toCome]
    by_cases e : i = k
    · subst e
      rw [toCome_set_ge i (Nat.le_refl _), hf]
      simp [hi]
    · rw [getD_set_ne false e]
      have := toCome_set hi hf k (by omega)
      omega
theorem toCome_zero {listed : Array Bool} : ∀ k, toCome listed k = 0 → ∀ j, j < k → listed.getD j false = true
  | 0, _, j, h => by omega
  | k + 1, h, j, hj => by
    rw [toCome] at h
    by_cases e : j = k
    · subst e
      cases hl : listed.getD j false with
      | true => rfl
      | false => rw [hl] at h; simp at h
    · exact toCome_zero k (by omega) j (by omega)
theorem toCome_pos {listed : Array Bool} : ∀ k, toCome listed k ≠ 0 → ∃ j, j < k ∧ listed.getD j false = false ∧ ∀ i, i < j → listed.getD i false = true
  | 0, h => absurd rfl h
  | k + 1, h => by
    by_cases h0 : toCome listed k = 0
    · refine ⟨k, by omega, ?_, fun i hi => toCome_zero k h0 i hi⟩
      cases hl : listed.getD k false with
      | false => rfl
      | true => rw [toCome, h0, hl] at h; simp at h
    · obtain ⟨j, h1, h2, h3⟩ := toCome_pos k h0
      exact ⟨j, by omega, h2, h3⟩
theorem toCome_all {m : Nat} : ∀ k, toCome (Array.replicate m false) k = k
  | 0 => rfl
  | k + 1 => by rw [toCome, toCome_all k, getD_replicate_false]; simp
def backB (ops : Array Oper) (n : Nat) : Bool := (List.range n).all fun i => ((ops[i]?).map (·.after.all fun e => !Region.binds .any e || decide (e.on < i))).getD false
theorem backB_spec {n i : Nat} {o : Oper} (h : backB ops n = true) (hi : i < n) (ho : ops[i]? = some o) : ∀ e ∈ o.after, Region.binds .any e = true → e.on < i := by
  intro e he hb
  have h1 := List.all_eq_true.1 h i (List.mem_range.2 hi)
  rw [ho] at h1
  simp only [Option.map_some, Option.getD_some, Array.all_eq_true_iff_forall_mem] at h1
  have h2 := h1 e he
  rw [hb] at h2
  simpa using h2
def invB (l : List Oper) (n : Nat) (slots : List Nat) : Bool :=
  decide (n < l.length) && Region.sinkB .any l.toArray n && Region.chainB .any l.toArray n && backB l.toArray n && decide ((l.take n).map (·.dst) = slots.map some) && decide (slots.Nodup) &&
  Region.seqB .any l.toArray (l.length - n) n (Array.replicate n true ++ Array.replicate (l.length - n) false)
theorem wpAny_inv {Q : Exit → Act → World → Prop} {l : List Oper} {n : Nat} {slots : List Nat} {D : List Know} {mk : (Nat → Value) → Act} {a0 : Act}
    (hn : n < l.length) (hs : Region.sinkB .any l.toArray n = true) (hc : Region.chainB .any l.toArray n = true) (hbk : backB l.toArray n = true) (hsl : (l.take n).map (·.dst) = slots.map some) (hnd : slots.Nodup)
    (hq : Region.seqB .any l.toArray (l.length - n) n (Array.replicate n true ++ Array.replicate (l.length - n) false) = true)
    (hSt : ∀ w w', S w → Below w.heap.size w w' → S w') (hmk : ∀ u, puts a0 slots u = mk u) (hO : Obs P l.toArray S D slots mk 0 (l.take n))
    (ht : ∀ u w, S w → (∀ j, j < n → (D.getD j .any).ok (uvs slots u j) w) → wpList P l.toArray Q (l.drop n) (mk u) w) :
    ∀ (f : Nat) (listed : Array Bool) (u : Nat → Value) (w : World), HeadInv .any l.toArray n listed → toCome listed n = f → S w → (∀ j, j < n → listed.getD j false = true → (D.getD j .any).ok (uvs slots u j) w) →
      wpAny P .any l.toArray Q (f + (l.length - n)) listed (mk u) w := by
  have hlen : slots.length = n := by
    have := congrArg List.length hsl
    simp at this
    omega
  intro f
  induction f with
  | zero =>
    intro listed u w inv h0 hS hD
    have hall := toCome_zero n h0
    have he : listed = Array.replicate n true ++ Array.replicate (l.length - n) false := by
      have hsz := inv.size
      simp only [List.size_toArray] at hsz
      refine Array.ext (by simp; omega) fun i h1 h2 => ?_
      by_cases hi : i < n
      · have := hall i hi
        simp [h1] at this
        rw [this, Array.getElem_append_left (by simpa using hi)]
        simp
      · have := inv.tail i (by omega) (by simp; omega)
        simp [h1] at this
        rw [this, Array.getElem_append_right (by simp; omega)]
        simp
    rw [he, Nat.zero_add]
    have h := wpAny_of_seq (P := P) (md := .any) (ops := l.toArray) (Q' := Q) (l.drop n) n (Array.replicate n true ++ Array.replicate (l.length - n) false) (mk u) w (fun j => by simp) (by rw [List.length_drop]; exact hq)
      (ht u w hS fun j hj => hD j hj (hall j hj))
    rw [List.length_drop] at h
    exact h
  | succ f ih =>
    intro listed u w inv h0 hS hD
    obtain ⟨j0, hj0, hun0, hbef⟩ := toCome_pos n (by rw [h0]; omega)
    have hsz := inv.size
    simp only [List.size_toArray] at hsz
    have hun0' := getD_in (listed := listed) (i := j0) (by omega) hun0
    rw [show f + 1 + (l.length - n) = (f + (l.length - n)) + 1 by omega]
    refine ⟨fun hr => ?_, fun i hi => ?_⟩
    · obtain ⟨o0, ho0⟩ : ∃ o, l.toArray[j0]? = some o := ⟨l[j0], by simp⟩
      have : j0 ∈ Region.ready .any l.toArray listed := mem_ready.2 ⟨hun0', o0, ho0, fun e he hb => hbef _ (backB_spec hbk hj0 ho0 e he hb)⟩
      rw [hr] at this
      cases this
    · have hin : i < n := Nat.lt_of_not_le fun h => tail_waits hs hc (by simpa using hn) inv _ j0 rfl hj0 hun0' i h hi
      obtain ⟨hunl, o, ho, hall⟩ := mem_ready.1 hi
      have ho' : (l.take n)[i]? = some o := by rw [List.getElem?_take, if_pos hin]; simpa using ho
      obtain ⟨d, hd⟩ : ∃ d, slots[i]? = some d := ⟨slots[i]'(by omega), List.getElem?_eq_getElem (by omega)⟩
      have hdst : o.dst = some d := by
        have h1 : ((l.take n).map (·.dst))[i]? = (slots.map some)[i]? := by rw [hsl]
        rw [List.getElem?_map, List.getElem?_map, ho', hd] at h1
        simpa using h1
      have hG := Obs.at_ (l.take n) 0 hO i o ho' u w hS (fun e he hb => by
        have hl := hall e he hb
        have hlt : e.on < n := Nat.lt_trans (backB_spec hbk hin ho e he hb) hin
        exact hD e.on hlt hl)
      rw [Nat.zero_add] at hG
      have hput : ∀ v, (mk u).put o.dst v = mk (upd u d v) := fun v => by
        rw [hdst, ← hmk, ← hmk]
        exact puts_upd slots hnd u d v (List.mem_of_getElem? hd) a0
      have hK : ∀ v w', (D.getD i .any).ok v w' → (S w') → Below w.heap.size w w' → wpAny P .any l.toArray Q (f + (l.length - n)) (listed.setIfInBounds i true) ((mk u).put o.dst v) w' := fun v w' hv hS' hb => by
        rw [hput v]
        refine ih _ _ _ (inv.set hi hin) ?_ hS' ?_
        · have := toCome_set (by omega) (getD_both hunl) n hin
          omega
        · intro j hj hl
          by_cases e : i = j
          · subst e
            unfold uvs
            rw [hd]
            simpa [upd] using hv
          · rw [getD_set_ne false e] at hl
            have h1 := Know.keep (hD j hj hl) hb
            have h2 : uvs slots (upd u d v) j = uvs slots u j := by
              unfold uvs
              cases hj' : slots[j]? with
              | none => rfl
              | some d' =>
                have hne : d' ≠ d := fun e' => by
                  subst e'
                  have g1 := List.getElem?_eq_some_iff.1 hd
                  have g2 := List.getElem?_eq_some_iff.1 hj'
                  obtain ⟨l1, g1⟩ := g1
                  obtain ⟨l2, g2⟩ := g2
                  rcases Nat.lt_or_gt_of_ne e with h | h
                  · exact List.pairwise_iff_getElem.1 hnd i j l1 l2 h (g1.trans g2.symm)
                  · exact List.pairwise_iff_getElem.1 hnd j i l2 l1 h (g2.trans g1.symm)
                simp [upd, hne]
            rw [h2]
            exact h1
      unfold wpOp
      simp only [ho]
      rcases hG with ⟨hw, hv⟩ | ⟨hw, hv⟩
      · rw [if_pos hw]
        refine .inl ?_
        unfold Oper.wp
        rcases hv with ⟨v, w', hv, hE, hb⟩ | ⟨g, args, hv, hcl⟩
        · rw [hv]; exact hK v w' hE (hSt _ _ hS hb) hb
        · rw [hv]
          refine hcl.mono ?_
          rintro e w' ⟨v, rfl, hE, hb⟩
          exact hK v w' hE (hSt _ _ hS hb) hb
      · rw [hw]
        exact hK undef w hv hS (Below.refl _ _)
theorem wp_region_inv {id : Nat} {Q : Exit → Act → World → Prop} {l : List Oper} {a0 : Act} {w0 : World} (n : Nat) (slots : List Nat) (D : List Know) (S : World → Prop) {mk : (Nat → Value) → Act}
    (hm : P.follows .mixedOrders = true) (hB : invB l n slots = true) (hSt : ∀ w w', S w → Below w.heap.size w w' → S w') (hS : S w0.drew) (hmk : ∀ u, puts a0 slots u = mk u)
    (hO : Obs P l.toArray S D slots mk 0 (l.take n)) (ht : ∀ u w, S w → (∀ j, j < n → (D.getD j .any).ok (uvs slots u j) w) → wpList P l.toArray Q (l.drop n) (mk u) w) :
    (Code.region id l.toArray true).wp P Q a0 w0 := by
  simp only [invB, Bool.and_eq_true, decide_eq_true_eq] at hB
  obtain ⟨⟨⟨⟨⟨⟨hn, hs⟩, hc⟩, hbk⟩, hsl⟩, hnd⟩, hq⟩ := hB
  refine wp_region_any hm ?_
  have inv0 : HeadInv .any l.toArray n (Array.replicate l.toArray.size false) :=
    ⟨by simp, fun j oj _ hl => (by rw [getD_replicate_false] at hl; cases hl), fun t _ ht => getD_in (by simpa using ht) (getD_replicate_false _ _)⟩
  have h := wpAny_inv (Q := Q) hn hs hc hbk hsl hnd hq hSt hmk hO ht n _ (fun s => a0.tmps.getD s undef) w0.drew inv0 (toCome_all n) hS (fun j _ hl => by rw [getD_replicate_false] at hl; cases hl)
  rw [← hmk, puts_self slots a0 _ (fun _ => rfl), show n + (l.length - n) = l.toArray.size by simp; omega] at h
  exact h
end
end Go.Proofs.YtkbkalhcdbklkaaGreatDoor
namespace Go.Proofs.YtkbkalhcdbklkaaGreatDoor
open Go Go.RowKit
section
variable {P : Program} {ops : Array Oper} {S : World → Prop}
/-- Another world, in which the block g alone is another one. -/
structure Only (g : Nat) (w w' : World) : Prop where
  os : w'.os = w.os
  tape : w'.tape = w.tape
  output : w'.output = w.output
  size : w'.heap.size = w.heap.size
  block : ∀ k, k ≠ g → w'.heap[k]? = w.heap[k]?
theorem Only.refl (g : Nat) (w : World) : Only g w w := ⟨rfl, rfl, rfl, rfl, fun _ _ => rfl⟩
theorem Only.trans {g : Nat} {a b c : World} (h : Only g a b) (k : Only g b c) : Only g a c := ⟨k.os.trans h.os, k.tape.trans h.tape, k.output.trans h.output, k.size.trans h.size, fun i hi => (k.block i hi).trans (h.block i hi)⟩
theorem Only.below {g B : Nat} {w w' : World} (h : Only g w w') (hB : B ≤ g) : Below B w w' := ⟨h.os, h.tape, h.output, Nat.le_of_eq h.size.symm, fun k hk => h.block k (by omega)⟩
theorem Only.setCell (w : World) (p : Addr) (v : Value) : Only p.block w (w.setCell p v) := by
  have hb := (Below.refl p.block w).setCell (Nat.le_refl _) v
  exact ⟨hb.os, hb.tape, hb.output, by simp, fun k hk => Below.heap_setCell w p v k (Ne.symm hk |>.symm)⟩
theorem OwnF.only {w w' : World} {B c n g g' : Nat} {e : TypeId} {f : Nat → Value} (h : OwnF w B e (some ⟨g, 0, none⟩) c n f) (ho : Only g' w w') (hg : g' ≠ g) : OwnF w' B e (some ⟨g, 0, none⟩) c n f := by
  obtain ⟨hl, h2⟩ := h
  refine ⟨hl, ?_⟩
  rcases h2 with h | ⟨g1, cap, cur, hv, hB, hh, r⟩
  · exact .inl h
  · have e1 : g = g1 := by simp only [Value.slice.injEq, Option.some.injEq, Addr.mk.injEq] at hv; exact hv.1.1
    subst e1
    exact .inr ⟨g, cap, cur, hv, hB, (ho.block g (Ne.symm hg)).trans hh, r⟩
/-- What is known of an operation's result: a value; a box of the region's own (an allocation); the box of operation i holds these cells (a store into it). -/
inductive Fact where
  | val (v : Value)
  | box (e : TypeId) (n : Nat)
  | holds (i : Nat) (e : TypeId) (n : Nat) (f : Nat → Value)
  | dig (x k : Nat)
def Fact.till : Fact → Option Nat
  | .dig _ k => some k
  | _ => none
def Fact.isBox : Fact → Bool
  | .box _ _ => true
  | _ => false
def Fact.at_ : Fact → Option Nat
  | .holds i _ _ _ => some i
  | _ => none
def slotOf (dsts : List (Option Nat)) (j : Nat) : Nat := (dsts.getD j none).getD 0
def Fact.ok (B : Nat) (dsts : List (Option Nat)) (j : Nat) (u : Nat → Value) (w : World) (L : Nat → Bool) : Fact → Prop
  | .val c => u (slotOf dsts j) = c
  | .box e n => ∃ g f, u (slotOf dsts j) = .pointer (some ⟨g, 0, none⟩) ∧ OwnF w B e (some ⟨g, 0, none⟩) n n f
  | .holds i e n f => ∃ g, u (slotOf dsts i) = .pointer (some ⟨g, 0, none⟩) ∧ OwnF w B e (some ⟨g, 0, none⟩) n n f
  | .dig x k => L k = true ∨ ∃ A c n, u (slotOf dsts j) = .slice A n c ∧ Dig w w.heap.size A c n x ∧ Can n x
variable {B : Nat} {dsts : List (Option Nat)} {u : Nat → Value} {w w' : World} {L : Nat → Bool}
theorem Fact.keep {j : Nat} {F : Fact} (h : F.ok B dsts j u w L) (hb : Below w.heap.size w w') : F.ok B dsts j u w' L := by
  cases F with
  | val c => exact h
  | box e n => obtain ⟨g, f, h1, h2⟩ := h; exact ⟨g, f, h1, OwnF.keep h2 hb⟩
  | holds i e n f => obtain ⟨g, h1, h2⟩ := h; exact ⟨g, h1, OwnF.keep h2 hb⟩
  | dig x k =>
    rcases h with h | ⟨A, c, n, h1, h2, h3⟩
    · exact .inl h
    · exact .inr ⟨A, c, n, h1, h2.next hb, h3⟩
theorem Fact.mono {j : Nat} {F : Fact} {L' : Nat → Bool} (h : F.ok B dsts j u w L) (hL : ∀ k, L k = true → L' k = true) : F.ok B dsts j u w L' := by
  cases F with
  | val c => exact h
  | box e n => exact h
  | holds i e n f => exact h
  | dig x k => exact h.imp (hL k) id
theorem Fact.upd {j d : Nat} {v : Value} {F : Fact} (h : F.ok B dsts j u w L) (h1 : slotOf dsts j ≠ d ∨ F.at_ ≠ none) (h2 : ∀ i, F.at_ = some i → slotOf dsts i ≠ d) : F.ok B dsts j (upd u d v) w L := by
  cases F with
  | val c => have : slotOf dsts j ≠ d := h1.resolve_right (by simp [Fact.at_]); show Go.Proofs.YtkbkalhcdbklkaaGreatDoor.upd u d v _ = c; unfold Go.Proofs.YtkbkalhcdbklkaaGreatDoor.upd; rw [if_neg this]; exact h
  | box e n =>
    have : slotOf dsts j ≠ d := h1.resolve_right (by simp [Fact.at_])
    obtain ⟨g, f, e1, e2⟩ := h
    exact ⟨g, f, by unfold Go.Proofs.YtkbkalhcdbklkaaGreatDoor.upd; rw [if_neg this]; exact e1, e2⟩
  | holds i e n f =>
    obtain ⟨g, e1, e2⟩ := h
    exact ⟨g, by unfold Go.Proofs.YtkbkalhcdbklkaaGreatDoor.upd; rw [if_neg (h2 i rfl)]; exact e1, e2⟩
  | dig x k =>
    have : slotOf dsts j ≠ d := h1.resolve_right (by simp [Fact.at_])
    rcases h with h | ⟨A, c, n, e1, e2, e3⟩
    · exact .inl h
    · exact .inr ⟨A, c, n, by unfold Go.Proofs.YtkbkalhcdbklkaaGreatDoor.upd; rw [if_neg this]; exact e1, e2, e3⟩
/-- What an operation must do. -/
def GB (P : Program) (ops : Array Oper) (B : Nat) (dsts : List (Option Nat)) (Fs : List Fact) (k : Nat) (o : Oper) (a : Act) (u : Nat → Value) (w : World) (L : Nat → Bool) : Prop :=
  match o.dst with
  | some d => (Region.wanted o (yielded ops a.tmps) = true ∧
      ((∃ v w', (execOp a.eval o).run P w = .ok (.value v) w' ∧ (Fs.getD k (.val undef)).ok B dsts k (upd u d v) w' L ∧ Below w.heap.size w w' ∧ ((Fs.getD k (.val undef)).isBox = true → v = .pointer (some ⟨w.heap.size, 0, none⟩))) ∨
       (∃ f args, (execOp a.eval o).run P w = .ok (.enter f args) w ∧ (Fs.getD k (.val undef)).isBox = false ∧ Calls P f args w fun e w' => ∃ v, e = .returned v ∧ (Fs.getD k (.val undef)).ok B dsts k (upd u d v) w' L ∧ Below w.heap.size w w'))) ∨
      (Region.wanted o (yielded ops a.tmps) = false ∧ (Fs.getD k (.val undef)).isBox = false ∧ (Fs.getD k (.val undef)).ok B dsts k (upd u d undef) w L)
  | none => Region.wanted o (yielded ops a.tmps) = true ∧ ∃ i g w', (Fs.getD k (.val undef)).at_ = some i ∧ u (slotOf dsts i) = .pointer (some ⟨g, 0, none⟩) ∧ (execOp a.eval o).run P w = .ok .skip w' ∧ Only g w w' ∧ B ≤ g ∧
      (Fs.getD k (.val undef)).ok B dsts k u w' L ∧ (Fs.getD i (.val undef)).ok B dsts i u w' L
def ObsB (P : Program) (ops : Array Oper) (S : World → Prop) (B : Nat) (dsts : List (Option Nat)) (Fs : List Fact) (mk : (Nat → Value) → Act) : Nat → List Oper → Prop
  | _, [] => True
  | k, o :: r => (∀ u w L, L k = false → S w → B ≤ w.heap.size → (∀ e ∈ o.after, Region.binds .any e = true → (Fs.getD e.on (.val undef)).ok B dsts e.on u w L) → GB P ops B dsts Fs k o (mk u) u w L) ∧ ObsB P ops S B dsts Fs mk (k + 1) r
theorem ObsB.cons {Fs : List Fact} {mk : (Nat → Value) → Act} {k : Nat} {o : Oper} {r : List Oper}
    (h : ∀ u w L, L k = false → S w → B ≤ w.heap.size → (∀ e ∈ o.after, Region.binds .any e = true → (Fs.getD e.on (.val undef)).ok B dsts e.on u w L) → GB P ops B dsts Fs k o (mk u) u w L) (h' : ObsB P ops S B dsts Fs mk (k + 1) r) : ObsB P ops S B dsts Fs mk k (o :: r) := ⟨h, h'⟩
theorem ObsB.nil {Fs : List Fact} {mk : (Nat → Value) → Act} {k : Nat} : ObsB P ops S B dsts Fs mk k [] := trivial
theorem ObsB.at_ {Fs : List Fact} {mk : (Nat → Value) → Act} : ∀ (l : List Oper) (k : Nat), ObsB P ops S B dsts Fs mk k l → ∀ i o, l[i]? = some o →
    ∀ u w L, L (k + i) = false → S w → B ≤ w.heap.size → (∀ e ∈ o.after, Region.binds .any e = true → (Fs.getD e.on (.val undef)).ok B dsts e.on u w L) → GB P ops B dsts Fs (k + i) o (mk u) u w L
  | [], _, _, i, o, h => by simp at h
  | o' :: r, k, hO, 0, o, h => by
    simp at h; subst h
    exact hO.1
  | o' :: r, k, hO, i + 1, o, h => by
    have := ObsB.at_ r (k + 1) hO.2 i o (by simpa using h)
    rwa [show k + 1 + i = k + (i + 1) by omega] at this
theorem GB.run {Fs : List Fact} {k : Nat} {o : Oper} {a : Act} (d : Nat) (hdst : o.dst = some d) (v : Value) (hg : Region.wanted o (yielded ops a.tmps) = true) (hv : (execOp a.eval o).run P w = .ok (.value v) w) (hb : (Fs.getD k (.val undef)).isBox = false)
    (hE : (Fs.getD k (.val undef)).ok B dsts k (upd u d v) w L) : GB P ops B dsts Fs k o a u w L := by
  unfold GB; rw [hdst]
  exact .inl ⟨hg, .inl ⟨v, w, hv, hE, Below.refl _ _, fun h => by rw [hb] at h; cases h⟩⟩
theorem GB.call {Fs : List Fact} {k : Nat} {o : Oper} {a : Act} (d : Nat) (hdst : o.dst = some d) (f : FuncId) (args : Array Value) (hg : Region.wanted o (yielded ops a.tmps) = true) (hv : (execOp a.eval o).run P w = .ok (.enter f args) w) (hb : (Fs.getD k (.val undef)).isBox = false)
    (hc : Calls P f args w fun e w' => ∃ v, e = .returned v ∧ (Fs.getD k (.val undef)).ok B dsts k (upd u d v) w' L ∧ Below w.heap.size w w') : GB P ops B dsts Fs k o a u w L := by
  unfold GB; rw [hdst]
  exact .inl ⟨hg, .inr ⟨f, args, hv, hb, hc⟩⟩
theorem GB.alloc {Fs : List Fact} {k : Nat} {o : Oper} {a : Act} (d : Nat) (hdst : o.dst = some d) (hsl : slotOf dsts k = d) (cs : Array Value) (e : TypeId) (n : Nat) (f : Nat → Value) (hF : Fs.getD k (.val undef) = .box e n) (hg : Region.wanted o (yielded ops a.tmps) = true)
    (hv : (execOp a.eval o).run P w = .ok (.value (.pointer (some ⟨w.heap.size, 0, none⟩))) (w.alloc (.cells cs e))) (hB : B ≤ w.heap.size) (hn : n ≤ maxLen) (hcs : cs.toList = (List.range n).map f) : GB P ops B dsts Fs k o a u w L := by
  unfold GB; rw [hdst, hF]
  refine .inl ⟨hg, .inl ⟨_, _, hv, ⟨w.heap.size, f, by rw [hsl]; simp [upd], OwnF.lit e hB cs n f hn hcs⟩, (Below.refl _ w).alloc (Nat.le_refl _) _, fun _ => rfl⟩⟩
theorem GB.store {Fs : List Fact} {k : Nat} {o : Oper} {a : Act} (hdst : o.dst = none) (i g : Nat) (e : TypeId) (n : Nat) (f : Nat → Value) (hF : Fs.getD k (.val undef) = .holds i e n f) (hI : Fs.getD i (.val undef) = .box e n) (hg : Region.wanted o (yielded ops a.tmps) = true)
    (hp : u (slotOf dsts i) = .pointer (some ⟨g, 0, none⟩)) {w' : World} (hv : (execOp a.eval o).run P w = .ok .skip w') (ho : Only g w w') (hO : OwnF w' B e (some ⟨g, 0, none⟩) n n f) : GB P ops B dsts Fs k o a u w L := by
  unfold GB; rw [hdst]
  refine ⟨hg, i, g, w', by rw [hF]; rfl, hp, hv, ho, OwnF.ge hO, by rw [hF]; exact ⟨g, hp, hO⟩, by rw [hI]; exact ⟨g, f, hp, hO⟩⟩
theorem depB {Fs : List Fact} {o : Oper} (hd : ∀ e ∈ o.after, Region.binds .any e = true → (Fs.getD e.on (.val undef)).ok B dsts e.on u w L) (k : Nat)
    (hk : (o.after.toList.any fun e => e.on == k && Region.binds .any e) = true) : (Fs.getD k (.val undef)).ok B dsts k u w L := by
  obtain ⟨e, he, h⟩ := List.any_eq_true.1 hk
  simp only [Bool.and_eq_true, beq_iff_eq] at h
  have := hd e (Array.mem_toList_iff.1 he) h.2
  rwa [h.1] at this
/-- What may be asked of the facts by their look alone. -/
def boxB (l : List Oper) (n : Nat) (dsts : List (Option Nat)) (Fs : List Fact) : Bool :=
  (List.range n).all fun j => match (Fs.getD j (.val undef)).at_ with
    | none => (dsts.getD j none).isSome
    | some i => decide (i < n) && (dsts.getD j none).isNone && (dsts.getD i none).isSome && (Fs.getD i (.val undef)).isBox && ((l[j]?).map fun o => o.after.toList.any fun e => e.on == i && Region.binds .any e).getD false &&
      ((List.range n).all fun k => decide (k = j) || match (Fs.getD k (.val undef)).at_ with | none => true | some i' => decide (i' ≠ i))
def reachB (ops : Array Oper) : Nat → Nat → Nat → Bool
  | 0, _, _ => false
  | f + 1, i, k => match ops[i]? with
    | some o => o.after.toList.any fun e => Region.binds .any e && (e.on == k || reachB ops f e.on k)
    | none => false
theorem reach_listed {listed : Array Bool} (hcl : ∀ j oj, ops[j]? = some oj → listed.getD j false = true → ∀ e ∈ oj.after, Region.binds .any e = true → listed.getD e.on false = true) {k : Nat} : ∀ (f i : Nat) (o : Oper), ops[i]? = some o →
    (∀ e ∈ o.after, Region.binds .any e = true → listed.getD e.on false = true) → reachB ops f i k = true → listed.getD k false = true
  | 0, i, o, _, _, h => by simp [reachB] at h
  | f + 1, i, o, ho, hall, h => by
    unfold reachB at h
    rw [ho] at h
    obtain ⟨e, he, h1⟩ := List.any_eq_true.1 h
    simp only [Bool.and_eq_true, Bool.or_eq_true, beq_iff_eq] at h1
    have hle := hall e (Array.mem_toList_iff.1 he) h1.1
    rcases h1.2 with h2 | h2
    · rwa [h2] at hle
    · cases ho2 : ops[e.on]? with
      | none =>
        cases f with
        | zero => simp [reachB] at h2
        | succ f => unfold reachB at h2; rw [ho2] at h2; cases h2
      | some o2 => exact reach_listed hcl f e.on o2 ho2 (fun e' he' hb' => hcl e.on o2 ho2 hle e' he' hb') h2
def digB (l : List Oper) (n : Nat) (dsts : List (Option Nat)) (Fs : List Fact) : Bool :=
  (List.range n).all fun j => match (Fs.getD j (.val undef)).till with
    | none => true
    | some k => (List.range n).all fun i => (dsts.getD i none).isSome || reachB l.toArray n i k
theorem dig_spec {l : List Oper} {n : Nat} {dsts : List (Option Nat)} {Fs : List Fact} (h : digB l n dsts Fs = true) {i j k : Nat} (hj : j < n) (hi : i < n) (hk : (Fs.getD j (.val undef)).till = some k) (hd : dsts.getD i none = none) : reachB l.toArray n i k = true := by
  have h1 := List.all_eq_true.1 h j (List.mem_range.2 hj)
  rw [hk] at h1
  have h2 := List.all_eq_true.1 h1 i (List.mem_range.2 hi)
  rw [hd] at h2
  simpa using h2
def invB2 (l : List Oper) (n : Nat) (dsts : List (Option Nat)) (Fs : List Fact) : Bool :=
  decide (n ≤ l.length) && (decide (n = l.length) || (Region.sinkB .any l.toArray n && Region.chainB .any l.toArray n)) && backB l.toArray n && decide ((l.take n).map (·.dst) = dsts) && decide ((dsts.filterMap id).Nodup) &&
  Region.seqB .any l.toArray (l.length - n) n (Array.replicate n true ++ Array.replicate (l.length - n) false) && boxB l n dsts Fs && digB l n dsts Fs
theorem slot_ne {dsts : List (Option Nat)} (hnd : (dsts.filterMap id).Nodup) {i j : Nat} (hi : (dsts.getD i none).isSome = true) (hj : (dsts.getD j none).isSome = true) (h : i ≠ j) : slotOf dsts i ≠ slotOf dsts j := by
  induction dsts generalizing i j with
  | nil => simp at hi
  | cons x r ih =>
    cases x with
    | none =>
      have hnd' : (r.filterMap id).Nodup := by simpa using hnd
      cases i with
      | zero => simp at hi
      | succ i =>
        cases j with
        | zero => simp at hj
        | succ j =>
          have := ih hnd' (i := i) (j := j) (by simpa using hi) (by simpa using hj) (by omega)
          simpa [slotOf] using this
    | some d =>
      have hnd' : d ∉ r.filterMap id ∧ (r.filterMap id).Nodup := by simpa using hnd
      have mem : ∀ k, (r.getD k none).isSome = true → slotOf r k ∈ r.filterMap id := fun k hk => by
        cases hr : r[k]? with
        | none => simp [List.getD, hr] at hk
        | some y =>
          cases y with
          | none => simp [List.getD, hr] at hk
          | some z =>
            simp only [slotOf, List.getD, hr, Option.getD_some]
            exact List.mem_filterMap.2 ⟨some z, List.mem_of_getElem? hr, rfl⟩
      cases i with
      | zero =>
        cases j with
        | zero => exact absurd rfl h
        | succ j =>
          intro e
          have := mem j (by simpa using hj)
          have e' : d = slotOf r j := by simpa [slotOf] using e
          exact hnd'.1 (e' ▸ this)
      | succ i =>
        cases j with
        | zero =>
          intro e
          have := mem i (by simpa using hi)
          have e' : slotOf r i = d := by simpa [slotOf] using e
          exact hnd'.1 (e' ▸ this)
        | succ j =>
          have := ih hnd'.2 (i := i) (j := j) (by simpa using hi) (by simpa using hj) (by omega)
          simpa [slotOf] using this
theorem box_spec {l : List Oper} {n : Nat} {dsts : List (Option Nat)} {Fs : List Fact} (h : boxB l n dsts Fs = true) {j : Nat} (hj : j < n) :
    ((Fs.getD j (.val undef)).at_ = none → (dsts.getD j none).isSome = true) ∧
    (∀ i, (Fs.getD j (.val undef)).at_ = some i → i < n ∧ (dsts.getD j none).isNone = true ∧ (dsts.getD i none).isSome = true ∧ (Fs.getD i (.val undef)).isBox = true ∧
      (∃ o e, l[j]? = some o ∧ e ∈ o.after ∧ e.on = i ∧ Region.binds .any e = true) ∧ ∀ k, k < n → k ≠ j → (Fs.getD k (.val undef)).at_ ≠ some i) := by
  have h1 := List.all_eq_true.1 h j (List.mem_range.2 hj)
  cases ha : (Fs.getD j (.val undef)).at_ with
  | none => rw [ha] at h1; exact ⟨fun _ => h1, fun i hi => (nomatch hi)⟩
  | some i =>
    rw [ha] at h1
    simp only [Bool.and_eq_true, decide_eq_true_eq] at h1
    obtain ⟨⟨⟨⟨⟨h2, h3⟩, h4⟩, h5⟩, h6⟩, h7⟩ := h1
    refine ⟨fun h => (nomatch h), fun i' hi' => ?_⟩
    obtain rfl : i = i' := Option.some.inj hi'
    refine ⟨h2, h3, h4, h5, ?_, fun k hk hkj => ?_⟩
    · cases ho : l[j]? with
      | none => rw [ho] at h6; simp at h6
      | some o =>
        rw [ho] at h6
        simp only [Option.map_some, Option.getD_some] at h6
        obtain ⟨e, he, hb⟩ := List.any_eq_true.1 h6
        simp only [Bool.and_eq_true, beq_iff_eq] at hb
        exact ⟨o, e, rfl, Array.mem_toList_iff.1 he, hb.1, hb.2⟩
    · have h8 := List.all_eq_true.1 h7 k (List.mem_range.2 hk)
      simp only [Bool.or_eq_true, decide_eq_true_eq] at h8
      rcases h8 with h8 | h8
      · exact absurd h8 hkj
      · intro e
        rw [e] at h8
        simp at h8
theorem box_at {F : Fact} (h : F.isBox = true) : F.at_ = none := by cases F <;> simp_all [Fact.isBox, Fact.at_]
theorem box_ok {F : Fact} {B : Nat} {dsts : List (Option Nat)} {j : Nat} {u : Nat → Value} {w : World} {L : Nat → Bool} (h : F.isBox = true) (hk : F.ok B dsts j u w L) : ∃ g e n f, F = .box e n ∧ u (slotOf dsts j) = .pointer (some ⟨g, 0, none⟩) ∧ OwnF w B e (some ⟨g, 0, none⟩) n n f := by
  cases F with
  | val c => cases h
  | box e n => obtain ⟨g, f, h1, h2⟩ := hk; exact ⟨g, e, n, f, rfl, h1, h2⟩
  | holds i e n f => cases h
  | dig x k => cases h
theorem wpAny_box {Q : Exit → Act → World → Prop} {l : List Oper} {n : Nat} {dsts : List (Option Nat)} {Fs : List Fact} {mk : (Nat → Value) → Act} {a0 : Act} {B : Nat} {S : World → Prop}
    (hn : n ≤ l.length) (htl : n = l.length ∨ (Region.sinkB .any l.toArray n = true ∧ Region.chainB .any l.toArray n = true)) (hbk : backB l.toArray n = true) (hsl : (l.take n).map (·.dst) = dsts) (hnd : (dsts.filterMap id).Nodup)
    (hq : Region.seqB .any l.toArray (l.length - n) n (Array.replicate n true ++ Array.replicate (l.length - n) false) = true) (hbx : boxB l n dsts Fs = true) (hdg : digB l n dsts Fs = true)
    (hSt : ∀ w w', S w → B ≤ w.heap.size → Below B w w' → S w') (hmk : ∀ u, puts a0 (dsts.filterMap id) u = mk u) (hO : ObsB P l.toArray S B dsts Fs mk 0 (l.take n))
    (ht : ∀ u w, S w → (∀ j, j < n → (Fs.getD j (.val undef)).ok B dsts j u w fun _ => true) → (∀ i j, i < n → j < n → i ≠ j → (Fs.getD i (.val undef)).isBox = true → (Fs.getD j (.val undef)).isBox = true → u (slotOf dsts i) ≠ u (slotOf dsts j)) → wpList P l.toArray Q (l.drop n) (mk u) w) :
    ∀ (f : Nat) (listed : Array Bool) (u : Nat → Value) (w : World), HeadInv .any l.toArray n listed → toCome listed n = f → S w → B ≤ w.heap.size → (∀ j, j < n → listed.getD j false = true → (Fs.getD j (.val undef)).ok B dsts j u w fun k => listed.getD k false) →
      (∀ i j, i < n → j < n → i ≠ j → listed.getD i false = true → listed.getD j false = true → (Fs.getD i (.val undef)).isBox = true → (Fs.getD j (.val undef)).isBox = true → u (slotOf dsts i) ≠ u (slotOf dsts j)) →
      wpAny P .any l.toArray Q (f + (l.length - n)) listed (mk u) w := by
  have hlen : dsts.length = n := by
    have := congrArg List.length hsl
    simp at this
    omega
  intro f
  induction f with
  | zero =>
    intro listed u w inv h0 hS hBw hD hdist
    have hall := toCome_zero n h0
    have he : listed = Array.replicate n true ++ Array.replicate (l.length - n) false := by
      have hsz := inv.size
      simp only [List.size_toArray] at hsz
      refine Array.ext (by simp; omega) fun i h1 h2 => ?_
      by_cases hi : i < n
      · have := hall i hi
        simp [h1] at this
        rw [this, Array.getElem_append_left (by simpa using hi)]
        simp
      · have := inv.tail i (by omega) (by simp; omega)
        simp [h1] at this
        rw [this, Array.getElem_append_right (by simp; omega)]
        simp
    rw [he, Nat.zero_add]
    have h := wpAny_of_seq (P := P) (md := .any) (ops := l.toArray) (Q' := Q) (l.drop n) n (Array.replicate n true ++ Array.replicate (l.length - n) false) (mk u) w (fun j => by simp) (by rw [List.length_drop]; exact hq)
      (ht u w hS (fun j hj => Fact.mono (hD j hj (hall j hj)) fun _ _ => rfl) fun i j hi hj hne b1 b2 => hdist i j hi hj hne (hall i hi) (hall j hj) b1 b2)
    rw [List.length_drop] at h
    exact h
  | succ f ih =>
    intro listed u w inv h0 hS hBw hD hdist
    obtain ⟨j0, hj0, hun0, hbef⟩ := toCome_pos n (by rw [h0]; omega)
    have hsz := inv.size
    simp only [List.size_toArray] at hsz
    have hun0' := getD_in (listed := listed) (i := j0) (by omega) hun0
    rw [show f + 1 + (l.length - n) = (f + (l.length - n)) + 1 by omega]
    refine ⟨fun hr => ?_, fun i hi => ?_⟩
    · obtain ⟨o0, ho0⟩ : ∃ o, l.toArray[j0]? = some o := ⟨l[j0], by simp⟩
      have : j0 ∈ Region.ready .any l.toArray listed := mem_ready.2 ⟨hun0', o0, ho0, fun e he hb => hbef _ (backB_spec hbk hj0 ho0 e he hb)⟩
      rw [hr] at this
      cases this
    · obtain ⟨hunl, o, ho, hall⟩ := mem_ready.1 hi
      have hin : i < n := by
        rcases htl with h | ⟨hs, hc⟩
        · have := (Array.getElem?_eq_some_iff.1 ho).1
          simp at this
          omega
        · exact Nat.lt_of_not_le fun h => by
            have hil := (Array.getElem?_eq_some_iff.1 ho).1
            simp at hil
            exact tail_waits hs hc (by simp; omega) inv _ j0 rfl hj0 hun0' i h hi
      have ho' : (l.take n)[i]? = some o := by rw [List.getElem?_take, if_pos hin]; simpa using ho
      have hdst : dsts.getD i none = o.dst := by
        have h1 : ((l.take n).map (·.dst))[i]? = dsts[i]? := by rw [hsl]
        rw [List.getElem?_map, ho'] at h1
        simp only [Option.map_some] at h1
        simp [List.getD, ← h1]
      have hdeps : ∀ e ∈ o.after, Region.binds .any e = true → e.on < n ∧ listed.getD e.on false = true := fun e he hb => ⟨Nat.lt_trans (backB_spec hbk hin ho e he hb) hin, hall e he hb⟩
      have hG := ObsB.at_ (l.take n) 0 hO i o ho' u w (fun k => listed.getD k false) (by rw [Nat.zero_add]; exact getD_both hunl) hS hBw (fun e he hb => hD e.on (hdeps e he hb).1 (hdeps e he hb).2)
      rw [Nat.zero_add] at hG
      have hcnt : toCome (listed.setIfInBounds i true) n = f := by
        have := toCome_set (by omega) (getD_both hunl) n hin
        omega
      have hLm : ∀ k, listed.getD k false = true → (listed.setIfInBounds i true).getD k false = true := fun k hk => getD_set_true hk
      have hother : ∀ j, j < n → listed.getD j false = true → (∀ d, o.dst = some d → (slotOf dsts j ≠ d ∨ (Fs.getD j (.val undef)).at_ ≠ none) ∧ ∀ i', (Fs.getD j (.val undef)).at_ = some i' → slotOf dsts i' ≠ d) := fun j hj hl d hd => by
        have hij : j ≠ i := fun e => by subst e; rw [getD_both hunl] at hl; cases hl
        have hsi : (dsts.getD i none).isSome = true := by rw [hdst, hd]; rfl
        have hsd : slotOf dsts i = d := by unfold slotOf; rw [hdst, hd]; rfl
        obtain ⟨b1, b2⟩ := box_spec hbx hj
        cases ha : (Fs.getD j (.val undef)).at_ with
        | none => exact ⟨.inl (hsd ▸ slot_ne hnd (b1 ha) hsi hij), fun i' h => (nomatch h)⟩
        | some i' =>
          obtain ⟨c1, c2, c3, c4, ⟨o', e', ho'', he', hon, hb'⟩, c6⟩ := b2 i' ha
          refine ⟨.inr (by simp), fun i'' h => ?_⟩
          obtain rfl : i' = i'' := Option.some.inj h
          have hl' : listed.getD i' false = true := by
            have := inv.closed j o' (by simpa using ho'') hl e' he' hb'
            rwa [hon] at this
          have hne : i' ≠ i := fun e => by subst e; rw [getD_both hunl] at hl'; cases hl'
          exact hsd ▸ slot_ne hnd c3 hsi hne
      have hK : ∀ d v w', o.dst = some d → ((Fs.getD i (.val undef)).ok B dsts i (upd u d v) w' fun k => listed.getD k false) → Below w.heap.size w w' → ((Fs.getD i (.val undef)).isBox = true → v = .pointer (some ⟨w.heap.size, 0, none⟩)) →
          wpAny P .any l.toArray Q (f + (l.length - n)) (listed.setIfInBounds i true) ((mk u).put o.dst v) w' := fun d v w' hd hv hb hp => by
        have hput : (mk u).put o.dst v = mk (upd u d v) := by
          rw [hd, ← hmk, ← hmk]
          refine puts_upd _ hnd u d v ?_ a0
          refine List.mem_filterMap.2 ⟨some d, ?_, rfl⟩
          have : dsts[i]? = some (some d) := by
            have h1 : i < dsts.length := by omega
            rw [List.getElem?_eq_getElem h1]
            rw [hd] at hdst
            simp [List.getD, List.getElem?_eq_getElem h1] at hdst
            rw [hdst]
          exact List.mem_of_getElem? this
        have hsd : slotOf dsts i = d := by unfold slotOf; rw [hdst, hd]; rfl
        rw [hput]
        refine ih _ _ _ (inv.set hi hin) hcnt (hSt _ _ hS hBw (hb.mono hBw)) (Nat.le_trans hBw hb.size) ?_ ?_
        · intro j hj hl
          by_cases e : i = j
          · subst e; exact Fact.mono hv hLm
          · rw [getD_set_ne false e] at hl
            exact Fact.mono (Fact.upd (Fact.keep (hD j hj hl) hb) (hother j hj hl d hd).1 (hother j hj hl d hd).2) hLm
        · intro i1 j1 h1 h2 hne l1 l2 b1 b2
          have hsome : ∀ k, k < n → (Fs.getD k (.val undef)).isBox = true → (dsts.getD k none).isSome = true := fun k hk hb => (box_spec hbx hk).1 (box_at hb)
          have hisom : (dsts.getD i none).isSome = true := by rw [hdst, hd]; rfl
          have old : ∀ k, k < n → i ≠ k → (Fs.getD k (.val undef)).isBox = true → upd u d v (slotOf dsts k) = u (slotOf dsts k) := fun k hk hne hb => by
            unfold upd
            rw [if_neg (hsd ▸ slot_ne hnd (hsome k hk hb) hisom (Ne.symm hne))]
          have new : upd u d v (slotOf dsts i) = v := by rw [hsd]; simp [upd]
          by_cases e1 : i = i1
          · subst e1
            have e2 : i ≠ j1 := hne
            rw [getD_set_ne false e2] at l2
            rw [new, old j1 h2 e2 b2, hp b1]
            obtain ⟨g, e', n', f', _, hg, hO⟩ := box_ok b2 (hD j1 h2 l2)
            rw [hg]
            intro h
            have := OwnF.lt hO
            simp at h <;> omega
          · rw [getD_set_ne false e1] at l1
            by_cases e2 : i = j1
            · subst e2
              rw [new, old i1 h1 e1 b1, hp b2]
              obtain ⟨g, e', n', f', _, hg, hO⟩ := box_ok b1 (hD i1 h1 l1)
              rw [hg]
              intro h
              have := OwnF.lt hO
              simp at h <;> omega
            · rw [getD_set_ne false e2] at l2
              rw [old i1 h1 e1 b1, old j1 h2 e2 b2]
              exact hdist i1 j1 h1 h2 hne l1 l2 b1 b2
      unfold wpOp
      simp only [ho]
      cases hd : o.dst with
      | some d =>
        unfold GB at hG
        rw [hd] at hG
        rcases hG with ⟨hw, hv⟩ | ⟨hw, hbx', hv⟩
        · rw [if_pos hw]
          refine .inl ?_
          unfold Oper.wp
          rcases hv with ⟨v, w', hv, hE, hb, hp⟩ | ⟨g, args, hv, hbx', hcl⟩
          · rw [hv]; exact hK d v w' hd hE hb hp
          · rw [hv]
            refine hcl.mono ?_
            rintro e w' ⟨v, rfl, hE, hb⟩
            exact hK d v w' hd hE hb (fun h => by rw [hbx'] at h; cases h)
        · rw [hw]
          have := hK d undef w hd hv (Below.refl _ _) (fun h => by rw [hbx'] at h; cases h)
          rw [hd] at this
          exact this
      | none =>
        unfold GB at hG
        rw [hd] at hG
        obtain ⟨hw, i', g, w', hat, hp, hv, ho1, hBg, hE, hI⟩ := hG
        rw [if_pos hw]
        refine .inl ?_
        unfold Oper.wp
        rw [hv]
        show wpAny P .any l.toArray Q (f + (l.length - n)) (listed.setIfInBounds i true) ((mk u).put o.dst undef) w'
        rw [hd]
        show wpAny P .any l.toArray Q (f + (l.length - n)) (listed.setIfInBounds i true) (mk u) w'
        obtain ⟨c1, c2, c3, c4, ⟨o', e', ho'', he', hon, hb'⟩, c6⟩ := (box_spec hbx hin).2 i' hat
        obtain rfl : o' = o := Option.some.inj (ho''.symm.trans (by simpa using ho))
        have hli : listed.getD i' false = true := by have := hall e' he' hb'; rwa [hon] at this
        refine ih _ _ _ (inv.set hi hin) hcnt (hSt _ _ hS hBw (ho1.below hBg)) (by rw [ho1.size]; exact hBw) ?_ ?_
        · intro j hj hl
          by_cases e : i = j
          · subst e; exact Fact.mono hE hLm
          · rw [getD_set_ne false e] at hl
            by_cases e2 : j = i'
            · subst e2; exact Fact.mono hI hLm
            · have hk := hD j hj hl
              generalize hF : Fs.getD j (.val undef) = F at hk
              cases F with
              | val c => exact hk
              | box te n' =>
                obtain ⟨g1, f1, h1, h2⟩ := hk
                have hne := hdist j i' hj c1 e2 hl hli (by rw [hF]; rfl) c4
                rw [h1, hp] at hne
                exact ⟨g1, f1, h1, OwnF.only h2 ho1 (fun h => hne (by rw [h]))⟩
              | holds k te n' f1 =>
                obtain ⟨g1, h1, h2⟩ := hk
                obtain ⟨d1, d2, d3, d4, ⟨o2, e3, ho2, he3, hon3, hb3⟩, d6⟩ := (box_spec hbx hj).2 k (by rw [hF]; rfl)
                have hlk : listed.getD k false = true := by have := inv.closed j o2 (by simpa using ho2) hl e3 he3 hb3; rwa [hon3] at this
                have hki : k ≠ i' := fun h => by subst h; exact d6 i hin e hat
                have hne := hdist k i' d1 c1 hki hlk hli d4 c4
                rw [h1, hp] at hne
                exact ⟨g1, h1, OwnF.only h2 ho1 (fun h => hne (by rw [h]))⟩
              | dig x k =>
                have hr := dig_spec hdg hj hin (by rw [hF]; rfl) (by rw [hdst, hd])
                exact .inl (hLm k (reach_listed (ops := l.toArray) inv.closed n i o' (by simpa using ho'') (fun e he hb => (hdeps e he hb).2) hr))
        · intro i1 j1 h1 h2 hne l1 l2 b1 b2
          have e1 : i ≠ i1 := fun h => by subst h; rw [box_at b1] at hat; cases hat
          have e2 : i ≠ j1 := fun h => by subst h; rw [box_at b2] at hat; cases hat
          rw [getD_set_ne false e1] at l1
          rw [getD_set_ne false e2] at l2
          exact hdist i1 j1 h1 h2 hne l1 l2 b1 b2
/-- The same, behind which it is known, too, that no two boxes are one. -/
theorem wp_region_box2 {ri : Nat} {Q : Exit → Act → World → Prop} {l : List Oper} {a0 : Act} {w0 : World} (n : Nat) (dsts : List (Option Nat)) (Fs : List Fact) (B : Nat) (S : World → Prop) {mk : (Nat → Value) → Act}
    (hm : P.follows .mixedOrders = true) (hB : invB2 l n dsts Fs = true) (hSt : ∀ w w', S w → B ≤ w.heap.size → Below B w w' → S w') (hS : S w0.drew) (hBw : B ≤ w0.heap.size) (hmk : ∀ u, puts a0 (dsts.filterMap id) u = mk u)
    (hO : ObsB P l.toArray S B dsts Fs mk 0 (l.take n)) (ht : ∀ u w, S w → (∀ j, j < n → (Fs.getD j (.val undef)).ok B dsts j u w fun _ => true) → (∀ i j, i < n → j < n → i ≠ j → (Fs.getD i (.val undef)).isBox = true → (Fs.getD j (.val undef)).isBox = true → u (slotOf dsts i) ≠ u (slotOf dsts j)) → wpList P l.toArray Q (l.drop n) (mk u) w) :
    (Code.region ri l.toArray true).wp P Q a0 w0 := by
  simp only [invB2, Bool.and_eq_true, Bool.or_eq_true, decide_eq_true_eq] at hB
  obtain ⟨⟨⟨⟨⟨⟨⟨hn, htl⟩, hbk⟩, hsl⟩, hnd⟩, hq⟩, hbx⟩, hdg⟩ := hB
  refine wp_region_any hm ?_
  have inv0 : HeadInv .any l.toArray n (Array.replicate l.toArray.size false) :=
    ⟨by simp, fun j oj _ hl => (by rw [getD_replicate_false] at hl; cases hl), fun t _ ht => getD_in (by simpa using ht) (getD_replicate_false _ _)⟩
  have h := wpAny_box (Q := Q) hn htl hbk hsl hnd hq hbx hdg hSt hmk hO ht n _ (fun s => a0.tmps.getD s undef) w0.drew inv0 (toCome_all n) hS hBw (fun j _ hl => by rw [getD_replicate_false] at hl; cases hl) (fun i j _ _ _ hl => by rw [getD_replicate_false] at hl; cases hl)
  rw [← hmk, puts_self _ a0 _ (fun _ => rfl), show n + (l.length - n) = l.toArray.size by simp; omega] at h
  exact h
theorem wp_region_box {ri : Nat} {Q : Exit → Act → World → Prop} {l : List Oper} {a0 : Act} {w0 : World} (n : Nat) (dsts : List (Option Nat)) (Fs : List Fact) (B : Nat) (S : World → Prop) {mk : (Nat → Value) → Act}
    (hm : P.follows .mixedOrders = true) (hB : invB2 l n dsts Fs = true) (hSt : ∀ w w', S w → B ≤ w.heap.size → Below B w w' → S w') (hS : S w0.drew) (hBw : B ≤ w0.heap.size) (hmk : ∀ u, puts a0 (dsts.filterMap id) u = mk u)
    (hO : ObsB P l.toArray S B dsts Fs mk 0 (l.take n)) (ht : ∀ u w, S w → (∀ j, j < n → (Fs.getD j (.val undef)).ok B dsts j u w fun _ => true) → wpList P l.toArray Q (l.drop n) (mk u) w) :
    (Code.region ri l.toArray true).wp P Q a0 w0 :=
  wp_region_box2 n dsts Fs B S hm hB hSt hS hBw hmk hO fun u w h1 h2 _ => ht u w h1 h2
end
end Go.Proofs.YtkbkalhcdbklkaaGreatDoor
namespace Go.Proofs.YtkbkalhcdbklkaaGreatDoor
open Go Go.RowKit
section
variable {P : Program} {ops : Array Oper}
/-- What an operation must do: a value, at the one world and at the other; or the store, from the one world to the other. -/
def GL (P : Program) (ops : Array Oper) (W : Bool → World) (v : Value) (lt : Bool) (o : Oper) (a : Act) : Prop :=
  match o.dst with
  | some _ => Region.wanted o (yielded ops a.tmps) = true ∧ ∀ b, (b = true → lt = true) → (execOp a.eval o).run P (W b) = .ok (.value v) (W b)
  | none => Region.wanted o (yielded ops a.tmps) = true ∧ (execOp a.eval o).run P (W false) = .ok .skip (W true)
def ObsL (P : Program) (ops : Array Oper) (W : Bool → World) (dsts : List (Option Nat)) (vs : List Value) (late : List Nat) (mk : (Nat → Value) → Act) : Nat → List Oper → Prop
  | _, [] => True
  | k, o :: r => (∀ u, (∀ e ∈ o.after, Region.binds .any e = true → ∀ d, dsts.getD e.on none = some d → u d = vs.getD e.on undef) → GL P ops W (vs.getD k undef) (late.contains k) o (mk u)) ∧ ObsL P ops W dsts vs late mk (k + 1) r
theorem ObsL.cons {W : Bool → World} {dsts : List (Option Nat)} {vs : List Value} {late : List Nat} {mk : (Nat → Value) → Act} {k : Nat} {o : Oper} {r : List Oper}
    (h : ∀ u, (∀ e ∈ o.after, Region.binds .any e = true → ∀ d, dsts.getD e.on none = some d → u d = vs.getD e.on undef) → GL P ops W (vs.getD k undef) (late.contains k) o (mk u)) (h' : ObsL P ops W dsts vs late mk (k + 1) r) : ObsL P ops W dsts vs late mk k (o :: r) := ⟨h, h'⟩
theorem ObsL.nil {W : Bool → World} {dsts : List (Option Nat)} {vs : List Value} {late : List Nat} {mk : (Nat → Value) → Act} {k : Nat} : ObsL P ops W dsts vs late mk k [] := trivial
theorem ObsL.at_ {W : Bool → World} {dsts : List (Option Nat)} {vs : List Value} {late : List Nat} {mk : (Nat → Value) → Act} : ∀ (l : List Oper) (k : Nat), ObsL P ops W dsts vs late mk k l → ∀ i o, l[i]? = some o →
    ∀ u, (∀ e ∈ o.after, Region.binds .any e = true → ∀ d, dsts.getD e.on none = some d → u d = vs.getD e.on undef) → GL P ops W (vs.getD (k + i) undef) (late.contains (k + i)) o (mk u)
  | [], _, _, i, o, h => by simp at h
  | o' :: r, k, hO, 0, o, h => by
    simp at h; subst h
    exact hO.1
  | o' :: r, k, hO, i + 1, o, h => by
    have := ObsL.at_ r (k + 1) hO.2 i o (by simpa using h)
    rwa [show k + 1 + i = k + (i + 1) by omega] at this
theorem depL {dsts : List (Option Nat)} {vs : List Value} {u : Nat → Value} {o : Oper} (hd : ∀ e ∈ o.after, Region.binds .any e = true → ∀ d, dsts.getD e.on none = some d → u d = vs.getD e.on undef) (k : Nat)
    (hk : (o.after.toList.any fun e => e.on == k && Region.binds .any e) = true) (d : Nat) (hdst : dsts.getD k none = some d) : u d = vs.getD k undef := by
  obtain ⟨e, he, h⟩ := List.any_eq_true.1 hk
  simp only [Bool.and_eq_true, beq_iff_eq] at h
  have := hd e (Array.mem_toList_iff.1 he) h.2
  rw [h.1] at this
  exact this d hdst
def mustL (l : List Oper) (st i : Nat) : Bool := ((l.toArray[st]?).map fun o => o.after.toList.any fun e => e.on == i && Region.binds .any e).getD false
def invL (l : List Oper) (n : Nat) (dsts : List (Option Nat)) (st : Nat) (late : List Nat) : Bool :=
  decide (n < l.length) && (Region.sinkB .any l.toArray n && Region.chainB .any l.toArray n) && backB l.toArray n && decide ((l.take n).map (·.dst) = dsts) && decide ((dsts.filterMap id).Nodup) &&
  Region.seqB .any l.toArray (l.length - n) n (Array.replicate n true ++ Array.replicate (l.length - n) false) && decide (dsts.getD st none = none) && ((List.range n).all fun i => (dsts.getD i none).isSome || i == st) && decide (st < n) && (List.range n).all fun i => i == st || late.contains i || mustL l st i
theorem wpAny_late {Q : Exit → Act → World → Prop} {l : List Oper} {n st : Nat} {dsts : List (Option Nat)} {vs : List Value} {late : List Nat} {mk : (Nat → Value) → Act} {a0 : Act} {W : Bool → World}
    (hn : n < l.length) (hs : Region.sinkB .any l.toArray n = true) (hc : Region.chainB .any l.toArray n = true) (hbk : backB l.toArray n = true) (hsl : (l.take n).map (·.dst) = dsts) (hnd : (dsts.filterMap id).Nodup)
    (hq : Region.seqB .any l.toArray (l.length - n) n (Array.replicate n true ++ Array.replicate (l.length - n) false) = true) (h1 : dsts.getD st none = none) (h2 : ∀ i, i < n → dsts.getD i none = none → i = st) (h3 : st < n) (h4 : ∀ i, i < n → i ≠ st → late.contains i = true ∨ mustL l st i = true)
    (hmk : ∀ u, puts a0 (dsts.filterMap id) u = mk u) (hO : ObsL P l.toArray W dsts vs late mk 0 (l.take n))
    (ht : ∀ u, (∀ j, j < n → ∀ d, dsts.getD j none = some d → u d = vs.getD j undef) → wpList P l.toArray Q (l.drop n) (mk u) (W true)) :
    ∀ (f : Nat) (listed : Array Bool) (u : Nat → Value), HeadInv .any l.toArray n listed → toCome listed n = f → (∀ j, j < n → listed.getD j false = true → ∀ d, dsts.getD j none = some d → u d = vs.getD j undef) →
      wpAny P .any l.toArray Q (f + (l.length - n)) listed (mk u) (W (listed.getD st false)) := by
  have hlen : dsts.length = n := by
    have := congrArg List.length hsl
    simp at this
    omega
  intro f
  induction f with
  | zero =>
    intro listed u inv h0 hD
    have hall := toCome_zero n h0
    have he : listed = Array.replicate n true ++ Array.replicate (l.length - n) false := by
      have hsz := inv.size
      simp only [List.size_toArray] at hsz
      refine Array.ext (by simp; omega) fun i h1 h2 => ?_
      by_cases hi : i < n
      · have := hall i hi
        simp [h1] at this
        rw [this, Array.getElem_append_left (by simpa using hi)]
        simp
      · have := inv.tail i (by omega) (by simp; omega)
        simp [h1] at this
        rw [this, Array.getElem_append_right (by simp; omega)]
        simp
    rw [hall st h3, he, Nat.zero_add]
    have h := wpAny_of_seq (P := P) (md := .any) (ops := l.toArray) (Q' := Q) (l.drop n) n (Array.replicate n true ++ Array.replicate (l.length - n) false) (mk u) (W true) (fun j => by simp) (by rw [List.length_drop]; exact hq)
      (ht u fun j hj => hD j hj (hall j hj))
    rw [List.length_drop] at h
    exact h
  | succ f ih =>
    intro listed u inv h0 hD
    obtain ⟨j0, hj0, hun0, hbef⟩ := toCome_pos n (by rw [h0]; omega)
    have hsz := inv.size
    simp only [List.size_toArray] at hsz
    have hun0' := getD_in (listed := listed) (i := j0) (by omega) hun0
    rw [show f + 1 + (l.length - n) = (f + (l.length - n)) + 1 by omega]
    refine ⟨fun hr => ?_, fun i hi => ?_⟩
    · obtain ⟨o0, ho0⟩ : ∃ o, l.toArray[j0]? = some o := ⟨l[j0], by simp⟩
      have : j0 ∈ Region.ready .any l.toArray listed := mem_ready.2 ⟨hun0', o0, ho0, fun e he hb => hbef _ (backB_spec hbk hj0 ho0 e he hb)⟩
      rw [hr] at this
      cases this
    · have hin : i < n := Nat.lt_of_not_le fun h => tail_waits hs hc (by simpa using hn) inv _ j0 rfl hj0 hun0' i h hi
      obtain ⟨hunl, o, ho, hall⟩ := mem_ready.1 hi
      have ho' : (l.take n)[i]? = some o := by rw [List.getElem?_take, if_pos hin]; simpa using ho
      have hdst : dsts.getD i none = o.dst := by
        have h1 : ((l.take n).map (·.dst))[i]? = dsts[i]? := by rw [hsl]
        rw [List.getElem?_map, ho'] at h1
        simp only [Option.map_some] at h1
        simp [List.getD, ← h1]
      have hG := ObsL.at_ (l.take n) 0 hO i o ho' u (fun e he hb => hD e.on (Nat.lt_trans (backB_spec hbk hin ho e he hb) hin) (hall e he hb))
      rw [Nat.zero_add] at hG
      have hcnt : toCome (listed.setIfInBounds i true) n = f := by
        have := toCome_set (by omega) (getD_both hunl) n hin
        omega
      unfold wpOp
      simp only [ho]
      unfold GL at hG
      cases hd : o.dst with
      | some d =>
        rw [hd] at hG hdst
        obtain ⟨hw, hv⟩ := hG
        have hist : i ≠ st := fun e => by subst e; rw [h1] at hdst; cases hdst
        rw [if_pos hw]
        refine .inl ?_
        unfold Oper.wp
        rw [hv (listed.getD st false) (fun hb => (h4 i hin hist).resolve_right (fun hm => by
          obtain ⟨o', ho2⟩ : ∃ o, l.toArray[st]? = some o := ⟨l[st]'(by omega), by simp⟩
          unfold mustL at hm
          rw [ho2] at hm
          obtain ⟨e, he, h⟩ := List.any_eq_true.1 (show (o'.after.toList.any fun e => e.on == i && Region.binds .any e) = true from hm)
          simp only [Bool.and_eq_true, beq_iff_eq] at h
          have := inv.closed st o' ho2 hb e (Array.mem_toList_iff.1 he) h.2
          rw [h.1, getD_both hunl] at this
          cases this))]
        have hsd : slotOf dsts i = d := by unfold slotOf; rw [hdst]; rfl
        have hput : (mk u).put o.dst (vs.getD i undef) = mk (upd u d (vs.getD i undef)) := by
          rw [hd, ← hmk, ← hmk]
          refine puts_upd _ hnd u d _ ?_ a0
          refine List.mem_filterMap.2 ⟨some d, ?_, rfl⟩
          have : dsts[i]? = some (some d) := by
            have h1 : i < dsts.length := by omega
            rw [List.getElem?_eq_getElem h1]
            simp [List.getD, List.getElem?_eq_getElem h1] at hdst
            rw [hdst]
          exact List.mem_of_getElem? this
        show wpAny P .any l.toArray Q (f + (l.length - n)) (listed.setIfInBounds i true) ((mk u).put o.dst (vs.getD i undef)) (W (listed.getD st false))
        have hkeep : (listed.setIfInBounds i true).getD st false = listed.getD st false := getD_set_ne false hist
        rw [hput, ← hkeep]
        refine ih _ _ (inv.set hi hin) hcnt ?_
        intro j hj hl d' hd'
        by_cases e : i = j
        · subst e
          rw [hdst] at hd'
          cases hd'
          simp [upd]
        · rw [getD_set_ne false e] at hl
          have hne : d' ≠ d := fun e' => by
            have hj' : slotOf dsts j = d' := by unfold slotOf; rw [hd']; rfl
            exact slot_ne hnd (by rw [hdst]; rfl) (by rw [hd']; rfl) e (by rw [hsd, hj', e'])
          unfold upd
          rw [if_neg hne]
          exact hD j hj hl d' hd'
      | none =>
        rw [hd] at hG hdst
        obtain ⟨hw, hv⟩ := hG
        obtain rfl : i = st := h2 i hin hdst
        rw [if_pos hw]
        refine .inl ?_
        unfold Oper.wp
        rw [getD_both hunl, hv]
        show wpAny P .any l.toArray Q (f + (l.length - n)) (listed.setIfInBounds i true) ((mk u).put o.dst undef) (W true)
        rw [hd]
        show wpAny P .any l.toArray Q (f + (l.length - n)) (listed.setIfInBounds i true) (mk u) (W true)
        have h6 := ih (listed.setIfInBounds i true) u (inv.set hi hin) hcnt (fun j hj hl d' hd' => by
          have e : i ≠ j := fun e => by subst e; rw [hdst] at hd'; cases hd'
          rw [getD_set_ne false e] at hl
          exact hD j hj hl d' hd')
        have h5 : (listed.setIfInBounds i true).getD i false = true := by
          have : i < listed.size := by omega
          simp [this]
        rwa [h5] at h6
theorem wp_region_late {ri : Nat} {Q : Exit → Act → World → Prop} {l : List Oper} {a0 : Act} {w0 : World} (n st : Nat) (dsts : List (Option Nat)) (vs : List Value) (late : List Nat) (W : Bool → World) {mk : (Nat → Value) → Act}
    (hm : P.follows .mixedOrders = true) (hB : invL l n dsts st late = true) (hW : W false = w0.drew) (hmk : ∀ u, puts a0 (dsts.filterMap id) u = mk u)
    (hO : ObsL P l.toArray W dsts vs late mk 0 (l.take n)) (ht : ∀ u, (∀ j, j < n → ∀ d, dsts.getD j none = some d → u d = vs.getD j undef) → wpList P l.toArray Q (l.drop n) (mk u) (W true)) :
    (Code.region ri l.toArray true).wp P Q a0 w0 := by
  simp only [invL, Bool.and_eq_true, decide_eq_true_eq, List.all_eq_true, List.mem_range, Bool.or_eq_true, beq_iff_eq] at hB
  obtain ⟨⟨⟨⟨⟨⟨⟨⟨⟨hn, hs, hc⟩, hbk⟩, hsl⟩, hnd⟩, hq⟩, h1⟩, h2⟩, h3⟩, h4⟩ := hB
  refine wp_region_any hm ?_
  have inv0 : HeadInv .any l.toArray n (Array.replicate l.toArray.size false) :=
    ⟨by simp, fun j oj _ hl => (by rw [getD_replicate_false] at hl; cases hl), fun t _ ht => getD_in (by simpa using ht) (getD_replicate_false _ _)⟩
  have h := wpAny_late (Q := Q) hn hs hc hbk hsl hnd hq h1 (fun i hi hd => (h2 i hi).resolve_left (by rw [hd]; simp)) h3 (fun i hi hne => (h4 i hi).elim (fun h => h.elim (fun h => absurd h hne) .inl) .inr) hmk hO ht n _ (fun s => a0.tmps.getD s undef) inv0 (toCome_all n) (fun j _ hl => by rw [getD_replicate_false] at hl; cases hl)
  rw [← hmk, puts_self _ a0 _ (fun _ => rfl), getD_replicate_false, hW, show n + (l.length - n) = l.toArray.size by simp; omega] at h
  exact h
end
end Go.Proofs.YtkbkalhcdbklkaaGreatDoor
namespace Go.Proofs.YtkbkalhcdbklkaaGreatDoor
open Go Go.RowKit
def d6 (x k : Nat) : Nat := dgt 65536 x k
def dv6 (x k : Nat) : Value := .int .u64 (d6 x k : Int)
theorem d6_lt (x k : Nat) : d6 x k < 65536 := dgt_lt (by decide) x k
theorem d6_top {x n k : Nat} (h : x < 65536 ^ n) (hk : n ≤ k) : d6 x k = 0 := dgt_zero_of_lt (Nat.lt_of_lt_of_le h (Nat.pow_le_pow_right (by decide) hk))
def tT (x y i : Nat) : Nat := mT 65536 x y i
def tS (x y i k : Nat) : Nat := mS 65536 x y i k
def tO (x y i k : Nat) : Nat := mO 65536 x y i k
def tc (x y i k j : Nat) : Value := .int .u64 ((if j < i + k then d6 (tS x y i k) j else d6 (tT x y i) j : Nat) : Int)
def tp (x y i k : Nat) : Nat := d6 x i * d6 y k
def tu (x y i k : Nat) : Nat := d6 (tT x y i) (i + k) + tp x y i k
def tt6 (x y i k : Nat) : Nat := tu x y i k + tO x y i k
theorem tc_start (x y i j : Nat) : tc x y i 0 j = dv6 (tT x y i) j := by
  unfold tc dv6
  by_cases h : j < i + 0
  · rw [if_pos h]
    unfold tS d6; rw [mS_zero, dgt_mod (n := i) _ h]; rfl
  · rw [if_neg h]
theorem tc_at (x y i k : Nat) : tc x y i k (i + k) = .int .u64 (d6 (tT x y i) (i + k) : Int) := by
  unfold tc; rw [if_neg (by omega)]
theorem tO_lt (x y i k : Nat) : tO x y i k < 65536 := mO_lt (by decide)
theorem tt6_eq (x y i k : Nat) : tt6 x y i k = dgt 65536 x i * dgt 65536 y k + dgt 65536 (mT 65536 x y i) (i + k) + mO 65536 x y i k := by
  unfold tt6 tu tp d6 tT tO; omega
theorem tt6_div (x y i k : Nat) : tt6 x y i k / 65536 = tO x y i (k + 1) := by
  rw [tt6_eq]; exact (mO_succ (b := 65536) (by decide)).symm
theorem tt6_mod (x y i k : Nat) : tt6 x y i k % 65536 = d6 (tS x y i (k + 1)) (i + k) := by
  rw [tt6_eq]; exact (mS_new (b := 65536) (by decide)).symm
theorem tp_le (x y i k : Nat) : tp x y i k ≤ 4294836225 := Nat.mul_le_mul (show d6 x i ≤ 65535 by have := d6_lt x i; omega) (show d6 y k ≤ 65535 by have := d6_lt y k; omega)
theorem tc_set (x y i k j : Nat) : (if j = i + k then .int .u64 (d6 (tS x y i (k + 1)) (i + k) : Int) else tc x y i k j) = tc x y i (k + 1) j := by
  by_cases h : j = i + k
  · subst h
    rw [if_pos rfl]
    unfold tc
    rw [if_pos (by omega)]
  · rw [if_neg h]
    unfold tc
    by_cases h2 : j < i + k
    · rw [if_pos h2, if_pos (by omega), show d6 (tS x y i (k + 1)) j = d6 (tS x y i k) j from mS_old h2]
    · rw [if_neg h2, if_neg (by omega)]
theorem tS_full {x y i n : Nat} (hy : y < 65536 ^ n) : tS x y i n = tT x y (i + 1) := mS_full (by decide) hy
theorem tT_lt {x y i n : Nat} (hy : y < 65536 ^ n) : tT x y i < 65536 ^ (i + n) := mT_lt (by decide) hy
theorem tO_full {x y i n : Nat} (hy : y < 65536 ^ n) : tO x y i n = d6 (tT x y (i + 1)) (i + n) := by
  have h : tO x y i n = tS x y i n / 65536 ^ (i + n) := rfl
  rw [h, tS_full hy]
  unfold d6 dgt
  have h1 := tT_lt (x := x) (i := i + 1) hy
  rw [Nat.mod_eq_of_lt]
  refine Nat.div_lt_of_lt_mul ?_
  rw [← Nat.pow_succ, show (i + n).succ = i + 1 + n by omega]
  exact h1
theorem tc_end {x y i n : Nat} (hy : y < 65536 ^ n) (j : Nat) : (if j = i + n then .int .u64 (tO x y i n : Int) else tc x y i n j) = dv6 (tT x y (i + 1)) j := by
  unfold dv6
  by_cases h : j = i + n
  · subst h; rw [if_pos rfl, tO_full hy]
  · rw [if_neg h]
    unfold tc
    by_cases h2 : j < i + n
    · rw [if_pos h2, tS_full hy]
    · rw [if_neg h2, d6_top (tT_lt hy) (show i + n ≤ j by omega), d6_top (tT_lt (i := i + 1) hy) (by omega)]
theorem tT_zero (x y : Nat) : tT x y 0 = 0 := mT_zero _ _ _
theorem tT_full {x n : Nat} (y : Nat) (hx : x < 65536 ^ n) : tT x y n = x * y := mT_full hx
theorem dv6_zero (j : Nat) : dv6 0 j = .int .u64 0 := by unfold dv6 d6 dgt; simp
theorem wrap6 (x y i k : Nat) : IntKind.u64.wrap ((d6 x i : Int) * (d6 y k : Int)) = (tp x y i k : Int) ∧ IntKind.u64.wrap ((d6 (tT x y i) (i + k) : Int) + (tp x y i k : Int)) = (tu x y i k : Int) ∧ IntKind.u64.wrap ((tu x y i k : Int) + (tO x y i k : Int)) = (tt6 x y i k : Int) := by
  have h1 := tp_le x y i k
  have h2 := d6_lt (tT x y i) (i + k)
  have h3 := tO_lt x y i k
  have e1 : (d6 x i : Int) * (d6 y k : Int) = (tp x y i k : Int) := by unfold tp; rw [Int.natCast_mul]
  rw [e1]
  unfold tt6 tu
  generalize tp x y i k = p at *
  generalize d6 (tT x y i) (i + k) = q at *
  generalize tO x y i k = r at *
  refine ⟨?_, ?_, ?_⟩ <;> (rw [IntKind.wrap_u64]; omega)
theorem nmod6 {a b : Nat} (h : a % 65536 = b) : (a : Int).tmod 65536 = (b : Int) ∧ (a : Int) % 65536 = (b : Int) := by
  have e : (a : Int) % 65536 = (b : Int) := by omega
  exact ⟨by rw [Int.tmod_eq_emod_of_nonneg (by omega)]; exact e, e⟩
theorem ndiv6 {a b : Nat} (h : a / 65536 = b) : (a : Int).tdiv 65536 = (b : Int) ∧ (a : Int) / 65536 = (b : Int) := by
  have e : (a : Int) / 65536 = (b : Int) := by omega
  exact ⟨by rw [Int.tdiv_eq_ediv_of_nonneg (by omega)]; exact e, e⟩
attribute [local irreducible] d6 tS tT tO tp tu tt6
set_option maxRecDepth 20000 in
set_option maxHeartbeats 800000 in
theorem mul6_any {A A' : Option Addr} {B c c' n n' x y : Nat} (w : World) (h : RdF w B A c n (dv6 x)) (hx : x < 65536 ^ n) (h' : RdF w B A' c' n' (dv6 y)) (hy : y < 65536 ^ n') (hB : B ≤ w.heap.size) (hn : n ≤ 1000) (hn' : n' ≤ 1000) :
    Calls Tryz.prog 151 #[.slice A n c, .slice A' n' c'] w fun e w' => e = .returned (.slice (some ⟨w.heap.size, 0, none⟩) (n + n') (n + n')) ∧ OwnF w' w.heap.size 33 (some ⟨w.heap.size, 0, none⟩) (n + n') (n + n') (dv6 (x * y)) ∧ Below w.heap.size w w' := by
  obtain ⟨i0, hi, hz0, hz1, hz2⟩ := info_parts infoU64
  obtain ⟨L, hL⟩ : ∃ L, L = n + n' := ⟨_, rfl⟩
  have hl2 : IntKind.i64.wrap ((n : Int) + (n' : Int)) = (L : Int) := by rw [IntKind.wrap_i64]; omega
  have hLb : L ≤ 2001 := by omega
  have hmk := run_mkF (P := Tryz.prog) 117 33 i0 Tryz.underlying117 hi hz0 rfl hz1 hz2 (l := (L : Int)) (n := L) rfl (by omega) (by omega)
  have hm := OwnF.made (w := w) (B := w.heap.size) 33 (.int .u64 0) (n := L) (Nat.le_refl _) (by unfold maxLen; omega)
  have hb0 : Below w.heap.size w (w.alloc (.cells (madeCells #[.int .u64 0] L) 33)) := (Below.refl _ w).alloc (Nat.le_refl _) _
  rw [← hL]
  have HL := Lib.hid hL
  clear hL
  go_enter Tryz.func151, Tryz.ntmps151
  go_wp2_with fail
  go_loopw [6] (fun i wr => ∃ k : Nat, k ≤ n ∧ i = .int .i64 k ∧ OwnF wr w.heap.size 33 (some ⟨w.heap.size, 0, none⟩) L L (dv6 (tT x y k)) ∧ Below w.heap.size w wr)
    (fun i _ => n - (intOf i).toNat)
  case atStart => exact ⟨0, by omega, rfl, hm.congr (fun j _ => by rw [tT_zero, dv6_zero]), hb0⟩
  case round =>
    obtain ⟨i, hi', rfl, os, hb⟩ := hrel
    clear hmk hm hb0
    by_cases hlt : i < n
    · have g1 : (i : Int) < (n : Int) := by omega
      go_wp2_with fail
      obtain ⟨w0, e0⟩ : ∃ w0 : World, w0 = wr := ⟨_, rfl⟩
      subst e0
      go_loopw [7, 8] (fun cc kk wr => ∃ k : Nat, k ≤ n' ∧ kk = .int .i64 k ∧ cc = .int .u64 (tO x y i k : Int) ∧ OwnF wr w.heap.size 33 (some ⟨w.heap.size, 0, none⟩) L L (tc x y i k) ∧ Below w.heap.size w wr)
        (fun _ kk _ => n' - (intOf kk).toNat)
      case atStart => exact ⟨0, by omega, rfl, by rw [show tO x y i 0 = 0 from by unfold tO; exact mO_zero (by decide)]; rfl, os.congr (fun j _ => (tc_start _ _ _ _).symm), hb⟩
      case round =>
        clear os hb
        obtain ⟨k, hk, rfl, rfl, os, hb⟩ := hrel
        by_cases hkn : k < n'
        · have g2 : (k : Int) < (n' : Int) := by omega
          have ha := h.keep (hb.mono hB)
          have ha' := h'.keep (hb.mono hB)
          obtain ⟨b1, o1, rfl, hb1, c1⟩ := ha.at_ hlt
          obtain ⟨b2, o2, rfl, hb2, c3⟩ := ha'.at_ hkn
          unfold dv6 at c1 c3
          have c2 := os.cell (k := i + k) (by have := HL.out; omega)
          rw [tc_at] at c2
          have f2 := os.free (i + k)
          have q1 : IntKind.i64.wrap ((i : Int) + (k : Int)) = (i : Int) + (k : Int) := by rw [IntKind.wrap_i64]; omega
          have q2 : (i : Int) + (k : Int) < (L : Int) := by have := HL.out; omega
          have q3 : 0 ≤ (i : Int) + (k : Int) := by omega
          have q4 : ((i : Int) + (k : Int)).toNat = i + k := by omega
          obtain ⟨p1, p2, p3⟩ := wrap6 x y i k
          obtain ⟨e1, e1'⟩ := nmod6 (tt6_mod x y i k)
          obtain ⟨e2, e2'⟩ := ndiv6 (tt6_div x y i k)
          have gw6 : IntKind.u64.wrap (tO x y i (k + 1) : Int) = (tO x y i (k + 1) : Int) := by have := tO_lt x y i (k + 1); rw [IntKind.wrap_u64]; omega
          have hset : ∀ w1 : World, Below w.heap.size w1 (w1.setCell ⟨w.heap.size, i + k, none⟩ (.int .u64 (d6 (tS x y i (k + 1)) (i + k) : Int))) := fun w1 => (Below.refl w.heap.size w1).setCell (Nat.le_refl w.heap.size) _
          have HS := Lib.hid hset
          clear hset ha ha'
          go_upto_region 9 with fail
          refine wp_region_still_tail 18 (by kernel_rfl) (by kernel_rfl) ?_
          simp only [List.take_succ_cons, List.take_zero, List.drop_succ_cons, List.drop_zero]
          repeat still_step
          refine wpStill_nil ?_
          change wpList _ _ _ _ _ wr.drew
          obtain ⟨w1, hw1⟩ : ∃ w1, w1 = wr.drew := ⟨_, rfl⟩
          have os1 := os.drew
          have hb1' := hb.drew
          rw [← hw1] at os1 hb1' ⊢
          clear os hb c1 c2 c3 f2 hw1 hb1
          have c2 := os1.cell (k := i + k) (by have := HL.out; omega)
          rw [tc_at] at c2
          have f2 := os1.free (i + k)
          go_wp2_with fail
          refine ⟨⟨k + 1, by omega, by go_num, rfl, ?_, hb1'.trans (HS.out w1)⟩, by simp [intOf]; omega⟩
          exact (os1.set_ (i + k) (.int .u64 (d6 (tS x y i (k + 1)) (i + k) : Int))).congr fun j _ => tc_set _ _ _ _ _
        · obtain rfl : k = n' := by omega
          have g2 : ¬ (k : Int) < (k : Int) := by omega
          have q1 : IntKind.i64.wrap ((i : Int) + (k : Int)) = (i : Int) + (k : Int) := by rw [IntKind.wrap_i64]; omega
          have q2 : (i : Int) + (k : Int) < (L : Int) := by have := HL.out; omega
          have q3 : 0 ≤ (i : Int) + (k : Int) := by omega
          have q4 : ((i : Int) + (k : Int)).toNat = i + k := by omega
          have c2 := os.cell (k := i + k) (by have := HL.out; omega)
          have f2 := os.free (i + k)
          have os' := (os.set_ (i + k) (.int .u64 (tO x y i k : Int))).congr (g := dv6 (tT x y (i + 1))) fun j _ => tc_end hy j
          have hb' : Below w.heap.size w (wr.setCell ⟨w.heap.size, i + k, none⟩ (.int .u64 (tO x y i k : Int))) := hb.setCell (p := ⟨w.heap.size, i + k, none⟩) (Nat.le_refl _) _
          go_wp2_with fail
          go_roundw
          case rel => exact ⟨i + 1, by omega, by go_num, os', hb'⟩
          case measure => simp [intOf]; omega
    · have hk' : i = n := by omega
      subst hk'
      rw [tT_full y hx] at os
      go_wp2_with fail
      go_ret
      exact ⟨rfl, os, hb⟩
end Go.Proofs.YtkbkalhcdbklkaaGreatDoor
namespace Go.Proofs.YtkbkalhcdbklkaaGreatDoor
open Go Go.RowKit
section
variable {P : Program} {S : World → Prop}
def deadB (l : List Oper) (n d : Nat) (slots : List Nat) : Bool :=
  decide (l.length = n + 1) && decide (d < n) && backB l.toArray n && decide ((l.take n).map (·.dst) = slots.map some) && decide (slots.Nodup) &&
  ((List.range n).all fun i => i == d || (List.range (n + 1)).any fun j => decide (i < j) && (j != d) && (((l.toArray[j]?).map fun o => o.after.toList.any fun e => e.on == i && Region.binds .any e).getD false)) &&
  (((l.toArray[n]?).map fun o => decide (o.dst = none) && o.after.all fun e => !Region.binds .any e || decide (e.on < n)).getD false)
theorem set_get {listed : Array Bool} {i : Nat} (b : Bool) (h : i < listed.size) : (listed.setIfInBounds i true).getD i b = true := by simp [h]
/-- Is the last one ready, all others but the dead one have been. -/
theorem dead_waits {l : List Oper} {n d : Nat} (hl : l.length = n + 1)
    (hw : ∀ i, i < n → i = d ∨ ∃ j, j < n + 1 ∧ i < j ∧ j ≠ d ∧ ∃ o, l.toArray[j]? = some o ∧ ∃ e ∈ o.after, e.on = i ∧ Region.binds .any e = true)
    {listed : Array Bool} (inv : HeadInv .any l.toArray n listed) (hr : n ∈ Region.ready .any l.toArray listed) : ∀ k i, n - i = k → i < n → i ≠ d → listed.getD i false = true := by
  intro k
  induction k using Nat.strongRecOn with
  | _ k ih =>
    intro i hk hi hne
    rcases hw i hi with h | ⟨j, hj, hij, hjd, o, ho, e, he, he1, hb⟩
    · exact absurd h hne
    · by_cases hjn : j = n
      · subst hjn
        obtain ⟨_, o2, ho2, hall⟩ := mem_ready.1 hr
        rw [ho] at ho2
        cases ho2
        have := hall e he hb
        rwa [he1] at this
      · have h1 := ih (n - j) (by omega) j rfl (by omega) hjd
        have h2 := inv.closed j o ho h1 e he hb
        rwa [he1] at h2
theorem wpAny_dead {Q : Exit → Act → World → Prop} {l : List Oper} {n d : Nat} {slots : List Nat} {D : List Know} {mk : (Nat → Value) → Act} {a0 : Act} {R : World → Prop} {os od : Oper}
    (hn : l.length = n + 1) (hdn : d < n) (hbk : backB l.toArray n = true) (hsl : (l.take n).map (·.dst) = slots.map some) (hnd : slots.Nodup)
    (hw : ∀ i, i < n → i = d ∨ ∃ j, j < n + 1 ∧ i < j ∧ j ≠ d ∧ ∃ o, l.toArray[j]? = some o ∧ ∃ e ∈ o.after, e.on = i ∧ Region.binds .any e = true)
    (hos : l.toArray[n]? = some os) (hod : l.toArray[d]? = some od) (hsd : os.dst = none) (hsb : ∀ e ∈ os.after, Region.binds .any e = true → e.on < n)
    (hSt : ∀ w w', S w → Below w.heap.size w w' → S w') (hmk : ∀ u, puts a0 slots u = mk u) (hO : Obs P l.toArray S D slots mk 0 (l.take n))
    (hst : ∀ u w, S w → (∀ j, j < n → j ≠ d → (D.getD j .any).ok (uvs slots u j) w) → Region.wanted os (yielded l.toArray (mk u).tmps) = true ∧ ∃ w', (execOp (mk u).eval os).run P w = .ok .skip w' ∧ R w')
    (hdd : ∀ u w, (∀ j, j < n → j ≠ d → (D.getD j .any).ok (uvs slots u j) w) → ∀ w', Region.wanted od (yielded l.toArray (mk u).tmps) = true ∧ ∃ v, (execOp (mk u).eval od).run P w' = .ok (.value v) w')
    (hQ : ∀ u w, R w → Q .normal (mk u) w) :
    ∀ (f : Nat) (listed : Array Bool) (u : Nat → Value) (w : World), HeadInv .any l.toArray n listed → toCome listed n = f → S w → (∀ j, j < n → listed.getD j false = true → (D.getD j .any).ok (uvs slots u j) w) →
      wpAny P .any l.toArray Q (f + 1) listed (mk u) w := by
  have hlen : slots.length = n := by
    have := congrArg List.length hsl
    simp at this
    omega
  intro f
  induction f with
  | zero =>
    intro listed u w inv h0 hS hD
    have hall := toCome_zero n h0
    have hsz := inv.size
    simp only [List.size_toArray] at hsz
    have hun : listed.getD n true = false := inv.tail n (Nat.le_refl _) (by simp; omega)
    refine ⟨fun hr => ?_, fun i hi => ?_⟩
    · have : n ∈ Region.ready .any l.toArray listed := mem_ready.2 ⟨hun, os, hos, fun e he hb => hall _ (hsb e he hb)⟩
      rw [hr] at this
      cases this
    · obtain ⟨hunl, o, ho, _⟩ := mem_ready.1 hi
      have hin : i = n := by
        rcases Nat.lt_or_ge i n with h | h
        · have h1 := hall i h
          rw [getD_both hunl] at h1
          cases h1
        · have : i < l.toArray.size := (Array.getElem?_eq_some_iff.1 ho).1
          simp at this
          omega
      subst hin
      rw [hos] at ho
      cases ho
      obtain ⟨hwt, w', hrun, hR⟩ := hst u w hS fun j hj _ => hD j hj (hall j hj)
      unfold wpOp
      simp only [hos]
      rw [if_pos hwt]
      refine .inl ?_
      unfold Oper.wp
      rw [hrun]
      refine ⟨?_, ?_⟩
      · refine List.eq_nil_iff_forall_not_mem.2 fun k hk => ?_
        obtain ⟨h1, o2, ho2, _⟩ := mem_ready.1 hk
        have hks : k < l.toArray.size := (Array.getElem?_eq_some_iff.1 ho2).1
        simp at hks
        by_cases hkn : i = k
        · subst hkn
          rw [set_get true (by omega)] at h1
          cases h1
        · rw [getD_set_ne true hkn] at h1
          have h2 := hall k (by omega)
          rw [getD_both h1] at h2
          cases h2
      · show Q .normal ((mk u).put os.dst undef) w'
        rw [hsd]
        exact hQ u w' hR
  | succ f ih =>
    intro listed u w inv h0 hS hD
    obtain ⟨j0, hj0, hun0, hbef⟩ := toCome_pos n (by rw [h0]; omega)
    have hsz := inv.size
    simp only [List.size_toArray] at hsz
    have hun0' := getD_in (listed := listed) (i := j0) (by omega) hun0
    refine ⟨fun hr => ?_, fun i hi => ?_⟩
    · obtain ⟨o0, ho0⟩ : ∃ o, l.toArray[j0]? = some o := ⟨l[j0], by simp⟩
      have : j0 ∈ Region.ready .any l.toArray listed := mem_ready.2 ⟨hun0', o0, ho0, fun e he hb => hbef _ (backB_spec hbk hj0 ho0 e he hb)⟩
      rw [hr] at this
      cases this
    · by_cases hin : i < n
      case neg =>
        have hin' : i = n := by
          obtain ⟨_, o, ho, _⟩ := mem_ready.1 hi
          have : i < l.toArray.size := (Array.getElem?_eq_some_iff.1 ho).1
          simp at this
          omega
        subst hin'
        have hall := fun k hk hkd => dead_waits hn hw inv hi _ k rfl hk hkd
        have hdu : listed.getD d false = false := by
          cases hl : listed.getD d false with
          | false => rfl
          | true =>
            have : listed.getD j0 false = true := by
              by_cases e : j0 = d
              · subst e; exact hl
              · exact hall j0 hj0 e
            rw [hun0] at this
            cases this
        have hf : f = 0 := by
          have h1 : toCome (listed.setIfInBounds d true) i = 0 := by
            have : ∀ k, k ≤ i → toCome (listed.setIfInBounds d true) k = 0 := by
              intro k
              induction k with
              | zero => intro _; rfl
              | succ k ihk =>
                intro hk
                rw [toCome, ihk (by omega)]
                by_cases e : d = k
                · subst e
                  rw [set_get false (by omega)]
                  rfl
                · rw [getD_set_ne false e, hall k (by omega) (Ne.symm e)]
                  rfl
            exact this i (Nat.le_refl _)
          have h2 := toCome_set (listed := listed) (by omega) hdu i hdn
          omega
        subst hf
        obtain ⟨hwt, w', hrun, hR⟩ := hst u w hS fun j hj hjd => hD j hj (hall j hj hjd)
        have hkn : ∀ j, j < i → j ≠ d → (D.getD j .any).ok (uvs slots u j) w := fun j hj hjd => hD j hj (hall j hj hjd)
        unfold wpOp
        simp only [hos]
        rw [if_pos hwt]
        refine .inl ?_
        unfold Oper.wp
        rw [hrun]
        show wpAny P .any l.toArray Q 1 (listed.setIfInBounds i true) ((mk u).put os.dst undef) w'
        rw [hsd]
        show wpAny P .any l.toArray Q 1 (listed.setIfInBounds i true) (mk u) w'
        have hin2 : (listed.setIfInBounds i true).getD i false = true := by
          have : i < listed.size := by omega
          simp [this]
        have hdr : d ∈ Region.ready .any l.toArray (listed.setIfInBounds i true) := by
          refine mem_ready.2 ⟨?_, od, hod, fun e he hb => ?_⟩
          · rw [getD_set_ne true (by omega)]
            exact getD_in (by omega) hdu
          · have h3 := backB_spec hbk hdn hod e he hb
            rw [getD_set_ne false (by omega)]
            exact hall _ (by omega) (by omega)
        refine ⟨fun hr => (by rw [hr] at hdr; cases hdr), fun k hk => ?_⟩
        obtain ⟨hkl, ok, hok, _⟩ := mem_ready.1 hk
        have hks : k < l.toArray.size := (Array.getElem?_eq_some_iff.1 hok).1
        simp at hks
        have hkd : k = d := by
          refine Decidable.byContradiction fun hne => ?_
          by_cases e : i = k
          · subst e
            have h5 := getD_both hkl
            rw [hin2] at h5
            cases h5
          · rw [getD_set_ne true e] at hkl
            have h5 := getD_both hkl
            rw [hall k (by omega) hne] at h5
            cases h5
        subst hkd
        obtain ⟨hw2, v, hrv⟩ := hdd u w hkn w'
        obtain ⟨dd, hdd'⟩ : ∃ x, slots[k]? = some x := ⟨slots[k]'(by omega), List.getElem?_eq_getElem (by omega)⟩
        have hdst : od.dst = some dd := by
          have h1 : ((l.take i).map (·.dst))[k]? = (slots.map some)[k]? := by rw [hsl]
          have h2 : (l.take i)[k]? = some od := by rw [List.getElem?_take, if_pos hdn]; simpa using hod
          rw [List.getElem?_map, List.getElem?_map, h2, hdd'] at h1
          simpa using h1
        unfold wpOp
        simp only [hod]
        rw [if_pos hw2]
        refine .inl ?_
        unfold Oper.wp
        rw [hrv]
        refine ⟨?_, ?_⟩
        · refine List.eq_nil_iff_forall_not_mem.2 fun q hq => ?_
          obtain ⟨h1, o2, ho2, _⟩ := mem_ready.1 hq
          have hqs : q < l.toArray.size := (Array.getElem?_eq_some_iff.1 ho2).1
          simp at hqs
          by_cases hqk : k = q
          · subst hqk
            rw [set_get true (by simp; omega)] at h1
            cases h1
          · rw [getD_set_ne true hqk] at h1
            by_cases hqi : i = q
            · subst hqi
              have h5 := getD_both h1
              rw [hin2] at h5
              cases h5
            · rw [getD_set_ne true hqi] at h1
              have h5 := getD_both h1
              rw [hall q (by omega) (Ne.symm hqk)] at h5
              cases h5
        · show Q .normal ((mk u).put od.dst v) w'
          have hput : (mk u).put od.dst v = mk (upd u dd v) := by
            rw [hdst, ← hmk, ← hmk]
            exact puts_upd slots hnd u dd v (List.mem_of_getElem? hdd') a0
          rw [hput]
          exact hQ _ w' hR
      obtain ⟨hunl, o, ho, hall⟩ := mem_ready.1 hi
      have ho' : (l.take n)[i]? = some o := by rw [List.getElem?_take, if_pos hin]; simpa using ho
      obtain ⟨d, hd⟩ : ∃ d, slots[i]? = some d := ⟨slots[i]'(by omega), List.getElem?_eq_getElem (by omega)⟩
      have hdst : o.dst = some d := by
        have h1 : ((l.take n).map (·.dst))[i]? = (slots.map some)[i]? := by rw [hsl]
        rw [List.getElem?_map, List.getElem?_map, ho', hd] at h1
        simpa using h1
      have hG := Obs.at_ (l.take n) 0 hO i o ho' u w hS (fun e he hb => by
        have hl := hall e he hb
        have hlt : e.on < n := Nat.lt_trans (backB_spec hbk hin ho e he hb) hin
        exact hD e.on hlt hl)
      rw [Nat.zero_add] at hG
      have hput : ∀ v, (mk u).put o.dst v = mk (upd u d v) := fun v => by
        rw [hdst, ← hmk, ← hmk]
        exact puts_upd slots hnd u d v (List.mem_of_getElem? hd) a0
      have hK : ∀ v w', (D.getD i .any).ok v w' → (S w') → Below w.heap.size w w' → wpAny P .any l.toArray Q (f + 1) (listed.setIfInBounds i true) ((mk u).put o.dst v) w' := fun v w' hv hS' hb => by
        rw [hput v]
        refine ih _ _ _ (inv.set hi hin) ?_ hS' ?_
        · have := toCome_set (by omega) (getD_both hunl) n hin
          omega
        · intro j hj hl
          by_cases e : i = j
          · subst e
            unfold uvs
            rw [hd]
            simpa [upd] using hv
          · rw [getD_set_ne false e] at hl
            have h1 := Know.keep (hD j hj hl) hb
            have h2 : uvs slots (upd u d v) j = uvs slots u j := by
              unfold uvs
              cases hj' : slots[j]? with
              | none => rfl
              | some d' =>
                have hne : d' ≠ d := fun e' => by
                  subst e'
                  have g1 := List.getElem?_eq_some_iff.1 hd
                  have g2 := List.getElem?_eq_some_iff.1 hj'
                  obtain ⟨l1, g1⟩ := g1
                  obtain ⟨l2, g2⟩ := g2
                  rcases Nat.lt_or_gt_of_ne e with h | h
                  · exact List.pairwise_iff_getElem.1 hnd i j l1 l2 h (g1.trans g2.symm)
                  · exact List.pairwise_iff_getElem.1 hnd j i l2 l1 h (g2.trans g1.symm)
                simp [upd, hne]
            rw [h2]
            exact h1
      unfold wpOp
      simp only [ho]
      rcases hG with ⟨hw, hv⟩ | ⟨hw, hv⟩
      · rw [if_pos hw]
        refine .inl ?_
        unfold Oper.wp
        rcases hv with ⟨v, w', hv, hE, hb⟩ | ⟨g, args, hv, hcl⟩
        · rw [hv]; exact hK v w' hE (hSt _ _ hS hb) hb
        · rw [hv]
          refine hcl.mono ?_
          rintro e w' ⟨v, rfl, hE, hb⟩
          exact hK v w' hE (hSt _ _ hS hb) hb
      · rw [hw]
        exact hK undef w hv hS (Below.refl _ _)
theorem wp_region_dead {id : Nat} {Q : Exit → Act → World → Prop} {l : List Oper} {a0 : Act} {w0 : World} (n d : Nat) (slots : List Nat) (D : List Know) (S R : World → Prop) {mk : (Nat → Value) → Act}
    (hm : P.follows .mixedOrders = true) (hB : deadB l n d slots = true) (hSt : ∀ w w', S w → Below w.heap.size w w' → S w') (hS : S w0.drew) (hmk : ∀ u, puts a0 slots u = mk u)
    (hO : Obs P l.toArray S D slots mk 0 (l.take n)) (os od : Oper) (hos : l.toArray[n]? = some os) (hod : l.toArray[d]? = some od)
    (hst : ∀ u w, S w → (∀ j, j < n → j ≠ d → (D.getD j .any).ok (uvs slots u j) w) → Region.wanted os (yielded l.toArray (mk u).tmps) = true ∧ ∃ w', (execOp (mk u).eval os).run P w = .ok .skip w' ∧ R w')
    (hdd : ∀ u w, (∀ j, j < n → j ≠ d → (D.getD j .any).ok (uvs slots u j) w) → ∀ w', Region.wanted od (yielded l.toArray (mk u).tmps) = true ∧ ∃ v, (execOp (mk u).eval od).run P w' = .ok (.value v) w')
    (hQ : ∀ u w, R w → Q .normal (mk u) w) :
    (Code.region id l.toArray true).wp P Q a0 w0 := by
  simp only [deadB, Bool.and_eq_true, decide_eq_true_eq] at hB
  obtain ⟨⟨⟨⟨⟨⟨hn, hdn⟩, hbk⟩, hsl⟩, hnd⟩, hw⟩, hs⟩ := hB
  have hw' : ∀ i, i < n → i = d ∨ ∃ j, j < n + 1 ∧ i < j ∧ j ≠ d ∧ ∃ o, l.toArray[j]? = some o ∧ ∃ e ∈ o.after, e.on = i ∧ Region.binds .any e = true := fun i hi => by
    have h1 := List.all_eq_true.1 hw i (List.mem_range.2 hi)
    simp only [Bool.or_eq_true, beq_iff_eq, List.any_eq_true, List.mem_range, Bool.and_eq_true, decide_eq_true_eq, bne_iff_ne, ne_eq] at h1
    rcases h1 with h | ⟨j, hj, ⟨⟨h2, h3⟩, h4⟩⟩
    · exact .inl h
    · refine .inr ⟨j, hj, h2, h3, ?_⟩
      cases ho : l.toArray[j]? with
      | none => rw [ho] at h4; simp at h4
      | some o =>
        rw [ho] at h4
        simp only [Option.map_some, Option.getD_some, List.any_eq_true, Bool.and_eq_true, beq_iff_eq] at h4
        obtain ⟨e, he, h5, h6⟩ := h4
        exact ⟨o, rfl, e, Array.mem_toList_iff.1 he, h5, h6⟩
  rw [hos] at hs
  simp only [Option.map_some, Option.getD_some, Bool.and_eq_true, decide_eq_true_eq, Array.all_eq_true_iff_forall_mem, Bool.or_eq_true, Bool.not_eq_true'] at hs
  obtain ⟨hsd, hsb⟩ := hs
  refine wp_region_any hm ?_
  have inv0 : HeadInv .any l.toArray n (Array.replicate l.toArray.size false) :=
    ⟨by simp, fun j oj _ hl => (by rw [getD_replicate_false] at hl; cases hl), fun t _ ht => getD_in (by simpa using ht) (getD_replicate_false _ _)⟩
  have h := wpAny_dead (Q := Q) hn hdn hbk hsl hnd hw' hos hod hsd (fun e he hb => by
    rcases hsb e he with h | h
    · rw [h] at hb; cases hb
    · exact h) hSt hmk hO hst hdd hQ n _ (fun s => a0.tmps.getD s undef) w0.drew inv0 (toCome_all n) hS (fun j _ hl => by rw [getD_replicate_false] at hl; cases hl)
  rw [← hmk, puts_self slots a0 _ (fun _ => rfl), show n + 1 = l.toArray.size by simp; omega] at h
  exact h
end
end Go.Proofs.YtkbkalhcdbklkaaGreatDoor
namespace Go.Proofs.YtkbkalhcdbklkaaGreatDoor
open Go Go.RowKit
section
variable {P : Program} {ops : Array Oper} {S : World → Prop}
def ObsS (P : Program) (ops : Array Oper) (S : World → Prop) (D : List Know) (slots : List Nat) (mk : (Nat → Value) → Act) : Nat → List Oper → Prop
  | _, [] => True
  | k, o :: r => (∀ u w, S w → (∀ j, j < k → (D.getD j .any).ok (uvs slots u j) w) → Gv P ops (D.getD k .any).ok o (mk u) w) ∧ ObsS P ops S D slots mk (k + 1) r
theorem ObsS.cons {D : List Know} {slots : List Nat} {mk : (Nat → Value) → Act} {k : Nat} {o : Oper} {r : List Oper}
    (h : ∀ u w, S w → (∀ j, j < k → (D.getD j .any).ok (uvs slots u j) w) → Gv P ops (D.getD k .any).ok o (mk u) w) (hr : ObsS P ops S D slots mk (k + 1) r) : ObsS P ops S D slots mk k (o :: r) := ⟨h, hr⟩
theorem ObsS.nil {D : List Know} {slots : List Nat} {mk : (Nat → Value) → Act} {k : Nat} : ObsS P ops S D slots mk k [] := trivial
theorem ObsS.at_ {D : List Know} {slots : List Nat} {mk : (Nat → Value) → Act} : ∀ (l : List Oper) (k : Nat), ObsS P ops S D slots mk k l → ∀ i o, l[i]? = some o →
    ∀ u w, S w → (∀ j, j < k + i → (D.getD j .any).ok (uvs slots u j) w) → Gv P ops (D.getD (k + i) .any).ok o (mk u) w
  | [], _, _, i, o, h => by simp at h
  | o0 :: r, k, hO, 0, o, h => by
    obtain rfl : o0 = o := by simpa using h
    exact hO.1
  | o0 :: r, k, hO, i + 1, o, h => by
    have := ObsS.at_ r (k + 1) hO.2 i o (by simpa using h)
    rwa [show k + 1 + i = k + (i + 1) by omega] at this
def seqB (l : List Oper) (n : Nat) (slots : List Nat) : Bool := decide (n < l.length) && decide ((l.take n).map (·.dst) = slots.map some) && decide (slots.Nodup)
theorem wpList_seq {Q : Exit → Act → World → Prop} {l : List Oper} {n : Nat} {slots : List Nat} {D : List Know} {mk : (Nat → Value) → Act} {a0 : Act}
    (hn : n < l.length) (hsl : (l.take n).map (·.dst) = slots.map some) (hnd : slots.Nodup)
    (hSt : ∀ w w', S w → Below w.heap.size w w' → S w') (hmk : ∀ u, puts a0 slots u = mk u) (hO : ObsS P l.toArray S D slots mk 0 (l.take n))
    (ht : ∀ u w, S w → (∀ j, j < n → (D.getD j .any).ok (uvs slots u j) w) → wpList P l.toArray Q (l.drop n) (mk u) w) :
    ∀ (m k : Nat) (u : Nat → Value) (w : World), m + k = n → S w → (∀ j, j < k → (D.getD j .any).ok (uvs slots u j) w) → wpList P l.toArray Q (l.drop k) (mk u) w := by
  have hlen : slots.length = n := by
    have := congrArg List.length hsl
    simp at this
    omega
  intro m
  induction m with
  | zero =>
    intro k u w hk hS hD
    obtain rfl : k = n := by omega
    exact ht u w hS hD
  | succ m ih =>
    intro k u w hk hS hD
    have hkn : k < n := by omega
    have hkl : k < l.length := by omega
    obtain ⟨o, ho⟩ : ∃ o, o = l[k] := ⟨_, rfl⟩
    have ho' : (l.take n)[k]? = some o := by rw [List.getElem?_take, if_pos hkn, ho]; simp [hkl]
    obtain ⟨d, hd⟩ : ∃ d, slots[k]? = some d := ⟨slots[k]'(by omega), List.getElem?_eq_getElem (by omega)⟩
    have hdst : o.dst = some d := by
      have h1 : ((l.take n).map (·.dst))[k]? = (slots.map some)[k]? := by rw [hsl]
      rw [List.getElem?_map, List.getElem?_map, ho', hd] at h1
      simpa using h1
    have hG := ObsS.at_ (l.take n) 0 hO k o ho' u w hS (by rw [Nat.zero_add]; exact hD)
    rw [Nat.zero_add] at hG
    rw [List.drop_eq_getElem_cons hkl, ← ho]
    have hput : ∀ v, (mk u).put o.dst v = mk (upd u d v) := fun v => by
      rw [hdst, ← hmk, ← hmk]
      exact puts_upd slots hnd u d v (List.mem_of_getElem? hd) a0
    have hK : ∀ v w', (D.getD k .any).ok v w' → (S w') → Below w.heap.size w w' → wpList P l.toArray Q (l.drop (k + 1)) ((mk u).put o.dst v) w' := fun v w' hv hS' hb => by
      rw [hput v]
      refine ih _ _ _ (by omega) hS' ?_
      intro j hj
      by_cases e : k = j
      · subst e
        unfold uvs
        rw [hd]
        simpa [upd] using hv
      · have h1 := Know.keep (hD j (by omega)) hb
        have h2 : uvs slots (upd u d v) j = uvs slots u j := by
          unfold uvs
          cases hj' : slots[j]? with
          | none => rfl
          | some d' =>
            have hne : d' ≠ d := fun e' => by
              subst e'
              have g1 := List.getElem?_eq_some_iff.1 hd
              have g2 := List.getElem?_eq_some_iff.1 hj'
              obtain ⟨l1, g1⟩ := g1
              obtain ⟨l2, g2⟩ := g2
              rcases Nat.lt_or_gt_of_ne e with h | h
              · exact List.pairwise_iff_getElem.1 hnd k j l1 l2 h (g1.trans g2.symm)
              · exact List.pairwise_iff_getElem.1 hnd j k l2 l1 h (g2.trans g1.symm)
            simp [upd, hne]
        rw [h2]
        exact h1
    unfold wpList
    rcases hG with ⟨hw, hv⟩ | ⟨hw, hv⟩
    · rw [if_pos hw]
      refine .inl ?_
      unfold Oper.wp
      rcases hv with ⟨v, w', hv, hE, hb⟩ | ⟨g, args, hv, hcl⟩
      · rw [hv]; exact hK v w' hE (hSt _ _ hS hb) hb
      · rw [hv]
        refine hcl.mono ?_
        rintro e w' ⟨v, rfl, hE, hb⟩
        exact hK v w' hE (hSt _ _ hS hb) hb
    · rw [hw]
      exact hK undef w hv hS (Below.refl _ _)
theorem wp_region_obs {id : Nat} {Q : Exit → Act → World → Prop} {l : List Oper} {a0 : Act} {w0 : World} (n : Nat) (slots : List Nat) (D : List Know) (S : World → Prop) {mk : (Nat → Value) → Act}
    (hB : seqB l n slots = true) (hSt : ∀ w w', S w → Below w.heap.size w w' → S w') (hS : S w0) (hmk : ∀ u, puts a0 slots u = mk u)
    (hO : ObsS P l.toArray S D slots mk 0 (l.take n)) (ht : ∀ u w, S w → (∀ j, j < n → (D.getD j .any).ok (uvs slots u j) w) → wpList P l.toArray Q (l.drop n) (mk u) w) :
    (Code.region id l.toArray false).wp P Q a0 w0 := by
  simp only [seqB, Bool.and_eq_true, decide_eq_true_eq] at hB
  obtain ⟨⟨hn, hsl⟩, hnd⟩ := hB
  refine wp_region_lit ?_
  have h := wpList_seq (Q := Q) hn hsl hnd hSt hmk hO ht n 0 (fun s => a0.tmps.getD s undef) w0 (by omega) hS (fun j hj => absurd hj (by omega))
  rw [← hmk, puts_self slots a0 _ (fun _ => rfl), List.drop_zero] at h
  exact h
end
end Go.Proofs.YtkbkalhcdbklkaaGreatDoor
