/-
  A region that draws its order, some of whose operations turn something in memory that others read (calls of one object, one behind the other): these ('hard' ones) stand in a chain, each waits for the one ahead; all others only read what nobody turns. Each operation is asked once, whatever the order. Of no program. By an AI agent.
-/
import Derived.Test.YtdddcgkgellbgabInv
namespace Go.Proofs.Ytdddcgkgellbgab
open Go Go.RowKit
section
variable {P : Program} {ops : Array Oper}
def StepC (P : Program) (ops : Array Oper) (E : Value → World → Prop) (o : Oper) (a : Act) (w : World) : Prop :=
  (Region.wanted o (yielded ops a.tmps) = true ∧ ((∃ v w', (execOp a.eval o).run P w = .ok (.value v) w' ∧ E v w') ∨ ∃ f args, (execOp a.eval o).run P w = .ok (.enter f args) w ∧ Calls P f args w (fun e w' => ∃ v, e = .returned v ∧ E v w'))) ∨
  (Region.wanted o (yielded ops a.tmps) = false ∧ E undef w)
theorem StepC.run {E : Value → World → Prop} {o : Oper} {a : Act} {w : World} (v : Value) (w' : World) (hg : Region.wanted o (yielded ops a.tmps) = true) (hv : (execOp a.eval o).run P w = .ok (.value v) w') (hE : E v w') : StepC P ops E o a w := .inl ⟨hg, .inl ⟨v, w', hv, hE⟩⟩
theorem StepC.call {E : Value → World → Prop} {o : Oper} {a : Act} {w : World} (f : FuncId) (args : Array Value) (hg : Region.wanted o (yielded ops a.tmps) = true) (hv : (execOp a.eval o).run P w = .ok (.enter f args) w)
    (hc : Calls P f args w (fun e w' => ∃ v, e = .returned v ∧ E v w')) : StepC P ops E o a w := .inl ⟨hg, .inr ⟨f, args, hv, hc⟩⟩
theorem StepC.skip {E : Value → World → Prop} {o : Oper} {a : Act} {w : World} (hg : Region.wanted o (yielded ops a.tmps) = false) (hE : E undef w) : StepC P ops E o a w := .inr ⟨hg, hE⟩
/-- What the last hard operation left. -/
def lastv (slots hards : List Nat) (u : Nat → Value) : Nat → Value
  | 0 => undef
  | k + 1 => uvs slots u (hards.getD k 0)
/-- What a listed operation has left, where that is fixed. -/
def DepC (D : List (Option Value)) (slots : List Nat) (u : Nat → Value) (o : Oper) : Prop := ∀ e ∈ o.after, Region.binds .any e = true → ∀ c, D.getD e.on none = some c → uvs slots u e.on = c
theorem DepC.at_ {D : List (Option Value)} {slots : List Nat} {u : Nat → Value} {o : Oper} (hd : DepC D slots u o) (k : Nat) (c : Value)
    (hk : (o.after.toList.any fun e => e.on == k && Region.binds .any e) = true) (hc : D.getD k none = some c) : uvs slots u k = c := by
  obtain ⟨e, he, h⟩ := List.any_eq_true.1 hk
  simp only [Bool.and_eq_true, beq_iff_eq] at h
  have := hd e (Array.mem_toList_iff.1 he) h.2
  rw [h.1] at this
  exact this c hc
def Chn (P : Program) (ops : Array Oper) (S : World → Prop) (St : Nat → Value → World → Prop) (D : List (Option Value)) (slots hards : List Nat) (mk : (Nat → Value) → Act) : Nat → Nat → List Oper → Prop
  | _, _, [] => True
  | i, k, o :: r =>
    (if hards.getD k (i + 1) = i then
      (∀ u w, S w → St k (lastv slots hards u k) w → DepC D slots u o → StepC P ops (fun v w' => (∀ c, D.getD i none = some c → v = c) ∧ S w' ∧ St (k + 1) v w') o (mk u) w) ∧ Chn P ops S St D slots hards mk (i + 1) (k + 1) r
    else (∀ u w, S w → DepC D slots u o → ∃ c, D.getD i none = some c ∧ ((Region.wanted o (yielded ops (mk u).tmps) = true ∧ (execOp (mk u).eval o).run P w = .ok (.value c) w) ∨ (Region.wanted o (yielded ops (mk u).tmps) = false ∧ c = undef))) ∧ Chn P ops S St D slots hards mk (i + 1) k r)
variable {S : World → Prop} {St : Nat → Value → World → Prop} {D : List (Option Value)} {slots hards : List Nat} {mk : (Nat → Value) → Act}
theorem Chn.hard {i k : Nat} {o : Oper} {r : List Oper} (hk : hards.getD k (i + 1) = i)
    (h : ∀ u w, S w → St k (lastv slots hards u k) w → DepC D slots u o → StepC P ops (fun v w' => (∀ c, D.getD i none = some c → v = c) ∧ S w' ∧ St (k + 1) v w') o (mk u) w) (h' : Chn P ops S St D slots hards mk (i + 1) (k + 1) r) : Chn P ops S St D slots hards mk i k (o :: r) := by
  unfold Chn
  rw [if_pos hk]
  exact ⟨h, h'⟩
theorem Chn.soft {i k : Nat} {o : Oper} {r : List Oper} (hk : hards.getD k (i + 1) ≠ i) (c : Value) (hc : D.getD i none = some c)
    (h : ∀ u w, S w → DepC D slots u o → (Region.wanted o (yielded ops (mk u).tmps) = true ∧ (execOp (mk u).eval o).run P w = .ok (.value c) w)) (h' : Chn P ops S St D slots hards mk (i + 1) k r) : Chn P ops S St D slots hards mk i k (o :: r) := by
  unfold Chn
  rw [if_neg hk]
  exact ⟨fun u w hS hd => ⟨c, hc, .inl (h u w hS hd)⟩, h'⟩
theorem Chn.skip {i k : Nat} {o : Oper} {r : List Oper} (hk : hards.getD k (i + 1) ≠ i) (hc : D.getD i none = some undef)
    (h : ∀ u w, S w → DepC D slots u o → Region.wanted o (yielded ops (mk u).tmps) = false) (h' : Chn P ops S St D slots hards mk (i + 1) k r) : Chn P ops S St D slots hards mk i k (o :: r) := by
  unfold Chn
  rw [if_neg hk]
  exact ⟨fun u w hS hd => ⟨undef, hc, .inr ⟨h u w hS hd, rfl⟩⟩, h'⟩
theorem Chn.nil {i k : Nat} : Chn P ops S St D slots hards mk i k [] := trivial
/-- How many hard operations stand ahead of the i-th operation. -/
def ahead (hards : List Nat) (i : Nat) : Nat := (hards.filter fun h => decide (h < i)).length
/-- What is asked of one operation. -/
def Asked (P : Program) (ops : Array Oper) (S : World → Prop) (St : Nat → Value → World → Prop) (D : List (Option Value)) (slots hards : List Nat) (mk : (Nat → Value) → Act) (i k : Nat) (o : Oper) : Prop :=
  (hards.getD k (i + 1) = i ∧ ∀ u w, S w → St k (lastv slots hards u k) w → DepC D slots u o → StepC P ops (fun v w' => (∀ c, D.getD i none = some c → v = c) ∧ S w' ∧ St (k + 1) v w') o (mk u) w) ∨
  (hards.getD k (i + 1) ≠ i ∧ ∀ u w, S w → DepC D slots u o → ∃ c, D.getD i none = some c ∧ ((Region.wanted o (yielded ops (mk u).tmps) = true ∧ (execOp (mk u).eval o).run P w = .ok (.value c) w) ∨ (Region.wanted o (yielded ops (mk u).tmps) = false ∧ c = undef)))
/-- The stage of the i-th operation of those that begin with the b-th one at stage k. -/
def stageOf (hards : List Nat) (b k : Nat) : Nat → Nat
  | 0 => k
  | i + 1 => stageOf hards (b + 1) (if hards.getD k (b + 1) = b then k + 1 else k) i
theorem Chn.at_ : ∀ (l : List Oper) (b k : Nat), Chn P ops S St D slots hards mk b k l → ∀ i o, l[i]? = some o → Asked P ops S St D slots hards mk (b + i) (stageOf hards b k i) o
  | [], _, _, _, i, o, h => by simp at h
  | o' :: r, b, k, hO, 0, o, h => by
    simp at h; subst h
    unfold Chn at hO
    by_cases hk : hards.getD k (b + 1) = b
    · rw [if_pos hk] at hO
      exact .inl ⟨hk, hO.1⟩
    · rw [if_neg hk] at hO
      exact .inr ⟨hk, hO.1⟩
  | o' :: r, b, k, hO, i + 1, o, h => by
    unfold Chn at hO
    have e : b + 1 + i = b + (i + 1) := by omega
    rw [← e]
    unfold stageOf
    by_cases hk : hards.getD k (b + 1) = b
    · rw [if_pos hk] at hO ⊢
      exact Chn.at_ r (b + 1) (k + 1) hO.2 i o (by simpa using h)
    · rw [if_neg hk] at hO ⊢
      exact Chn.at_ r (b + 1) k hO.2 i o (by simpa using h)
/-- Is the j-th operation waited for by the i-th, by way of others? -/
def chnR (ops : Array Oper) (j : Nat) : Nat → Nat → Bool
  | 0, i => i == j
  | f + 1, i => i == j || ((ops[i]?).map fun o => o.after.toList.any fun e => Region.binds .any e && chnR ops j f e.on).getD false
def Closed (ops : Array Oper) (L : Array Bool) : Prop := ∀ i o, ops[i]? = some o → L.getD i false = true → ∀ e ∈ o.after, Region.binds .any e = true → L.getD e.on false = true
theorem chn_reach {L : Array Bool} (hcl : Closed ops L) {j : Nat} : ∀ f i, chnR ops j f i = true → L.getD i false = true → L.getD j false = true
  | 0, i, h, hi => by
    simp only [chnR, beq_iff_eq] at h
    rw [← h]; exact hi
  | f + 1, i, h, hi => by
    simp only [chnR, Bool.or_eq_true, beq_iff_eq] at h
    rcases h with h | h
    · rw [← h]; exact hi
    · cases ho : ops[i]? with
      | none => rw [ho] at h; simp at h
      | some o =>
        rw [ho] at h
        simp only [Option.map_some, Option.getD_some] at h
        obtain ⟨e, he, h2⟩ := List.any_eq_true.1 h
        simp only [Bool.and_eq_true] at h2
        exact chn_reach hcl f e.on h2.2 (hcl i o ho hi e (Array.mem_toList_iff.1 he) h2.1)
/-- Each hard operation waits for the one ahead. -/
def chnB (ops : Array Oper) (f : Nat) : List Nat → Bool
  | [] => true
  | [_] => true
  | a :: b :: r => ((ops[b]?).map fun o => o.after.toList.any fun e => Region.binds .any e && chnR ops a f e.on).getD false && chnB ops f (b :: r)
theorem chnB_at {f : Nat} : ∀ (l : List Nat), chnB ops f l = true → ∀ k a b, l[k]? = some a → l[k + 1]? = some b → ((ops[b]?).map fun o => o.after.toList.any fun e => Region.binds .any e && chnR ops a f e.on).getD false = true
  | [], _, k, a, b, h, _ => by simp at h
  | [_], _, k, a, b, _, h => by simp at h
  | x :: y :: r, h, 0, a, b, h1, h2 => by
    simp only [chnB, Bool.and_eq_true] at h
    simp at h1 h2
    subst h1 h2
    exact h.1
  | x :: y :: r, h, k + 1, a, b, h1, h2 => by
    simp only [chnB, Bool.and_eq_true] at h
    exact chnB_at (y :: r) h.2 k a b (by simpa using h1) (by simpa using h2)
/-- The hard ones that are listed: the first k of them. -/
def Stage (hards : List Nat) (L : Array Bool) (k : Nat) : Prop := k ≤ hards.length ∧ (∀ j h, j < k → hards[j]? = some h → L.getD h false = true) ∧ ∀ j h, k ≤ j → hards[j]? = some h → L.getD h false = false
theorem Stage.soft {hards : List Nat} {L : Array Bool} {k i : Nat} (h : Stage hards L k) (hi : i ∉ hards) : Stage hards (L.setIfInBounds i true) k :=
  ⟨h.1, fun j x hj hx => by
    have hne : i ≠ x := fun e => hi (e ▸ List.mem_of_getElem? hx)
    rw [getD_set_ne false hne]; exact h.2.1 j x hj hx,
   fun j x hj hx => by
    have hne : i ≠ x := fun e => hi (e ▸ List.mem_of_getElem? hx)
    rw [getD_set_ne false hne]; exact h.2.2 j x hj hx⟩
theorem Stage.hard {hards : List Nat} {L : Array Bool} {k i : Nat} (h : Stage hards L k) (hi : hards[k]? = some i) (hnd : hards.Nodup) (hlt : i < L.size) : Stage hards (L.setIfInBounds i true) (k + 1) := by
  have hk := (List.getElem?_eq_some_iff.1 hi)
  obtain ⟨hkl, hke⟩ := hk
  refine ⟨by omega, fun j x hj hx => ?_, fun j x hj hx => ?_⟩
  · by_cases e : j = k
    · subst e
      rw [hi] at hx
      cases hx
      simp [hlt]
    · have := h.2.1 j x (by omega) hx
      by_cases e2 : i = x
      · subst e2; simp [hlt]
      · rw [getD_set_ne false e2]; exact this
  · have hne : i ≠ x := fun e => by
      obtain ⟨hjl, hje⟩ := List.getElem?_eq_some_iff.1 hx
      exact List.pairwise_iff_getElem.1 hnd k j hkl hjl (by omega) (by rw [hke, hje, e])
    rw [getD_set_ne false hne]
    exact h.2.2 j x (by omega) hx
theorem Closed.set {L : Array Bool} {i : Nat} {o : Oper} (h : Closed ops L) (ho : ops[i]? = some o) (hall : ∀ e ∈ o.after, Region.binds .any e = true → L.getD e.on false = true) : Closed ops (L.setIfInBounds i true) := by
  have hm : ∀ x, L.getD x false = true → (L.setIfInBounds i true).getD x false = true := fun x hx => by
    by_cases e : i = x
    · subst e
      have : i < L.size := by
        by_cases hs : i < L.size
        · exact hs
        · simp [hs] at hx
      simp [this]
    · rw [getD_set_ne false e]; exact hx
  intro x ox hx hl e he hb
  by_cases e2 : i = x
  · subst e2
    rw [ho] at hx
    cases hx
    exact hm _ (hall e he hb)
  · rw [getD_set_ne false e2] at hl
    exact hm _ (h x ox hx hl e he hb)
def softB (hards : List Nat) (n : Nat) : Bool := (List.range n).all fun i => (hards.getD (stageOf hards 0 0 i) (i + 1) == i) || !(hards.contains i)
def chainC (l : List Oper) (n f : Nat) (slots hards : List Nat) : Bool :=
  invB l n slots && chnB l.toArray f hards && softB hards n && decide (hards.Nodup) && hards.all fun h => decide (h < n)
theorem wpAny_chain {Q : Exit → Act → World → Prop} {l : List Oper} {n f0 : Nat} {a0 : Act}
    (hn : n < l.length) (hs : Region.sinkB .any l.toArray n = true) (hc : Region.chainB .any l.toArray n = true) (hbk : backB l.toArray n = true) (hsl : (l.take n).map (·.dst) = slots.map some) (hnd : slots.Nodup)
    (hq : Region.seqB .any l.toArray (l.length - n) n (Array.replicate n true ++ Array.replicate (l.length - n) false) = true)
    (hch : chnB l.toArray f0 hards = true) (hso : softB hards n = true) (hhn : hards.Nodup) (hhl : ∀ h ∈ hards, h < n)
    (hmk : ∀ u, puts a0 slots u = mk u) (hO : Chn P l.toArray S St D slots hards mk 0 0 (l.take n))
    (ht : ∀ u w, S w → St hards.length (lastv slots hards u hards.length) w → (∀ j c, j < n → D.getD j none = some c → uvs slots u j = c) → wpList P l.toArray Q (l.drop n) (mk u) w) :
    ∀ (f : Nat) (listed : Array Bool) (k : Nat) (u : Nat → Value) (w : World), HeadInv .any l.toArray n listed → toCome listed n = f → Closed l.toArray listed → Stage hards listed k → S w → St k (lastv slots hards u k) w → (∀ j c, j < n → listed.getD j false = true → D.getD j none = some c → uvs slots u j = c) →
      wpAny P .any l.toArray Q (f + (l.length - n)) listed (mk u) w := by
  have hlen : slots.length = n := by
    have := congrArg List.length hsl
    simp at this
    omega
  intro f
  induction f with
  | zero =>
    intro listed k u w inv h0 hcl hst hS hSt hD
    have hall := toCome_zero n h0
    have hkl : k = hards.length := by
      rcases Nat.lt_or_ge k hards.length with h | h
      · have := hst.2.2 k _ (Nat.le_refl _) (List.getElem?_eq_getElem h)
        rw [hall _ (hhl _ (List.getElem_mem h))] at this
        cases this
      · have := hst.1; omega
    subst hkl
    have he : listed = Array.replicate n true ++ Array.replicate (l.length - n) false := by
      have hsz := inv.size
      simp only [List.size_toArray] at hsz
      refine Array.ext (by simp; omega) fun i h1 h2 => ?_
      by_cases hi : i < n
      · have := hall i hi
        simp [h1] at this
        rw [this, Array.getElem_append_left (by simpa using hi)]
        simp
      · have := inv.tail i (by omega) (by simp; omega)
        simp [h1] at this
        rw [this, Array.getElem_append_right (by simp; omega)]
        simp
    rw [he, Nat.zero_add]
    have h := wpAny_of_seq (P := P) (md := .any) (ops := l.toArray) (Q' := Q) (l.drop n) n (Array.replicate n true ++ Array.replicate (l.length - n) false) (mk u) w (fun j => by simp) (by rw [List.length_drop]; exact hq)
      (ht u w hS hSt fun j c hj hc => hD j c hj (hall j hj) hc)
    rw [List.length_drop] at h
    exact h
  | succ f ih =>
    intro listed k u w inv h0 hcl hst hS hSt hD
    obtain ⟨j0, hj0, hun0, hbef⟩ := toCome_pos n (by rw [h0]; omega)
    have hsz := inv.size
    simp only [List.size_toArray] at hsz
    have hun0' := getD_in (listed := listed) (i := j0) (by omega) hun0
    rw [show f + 1 + (l.length - n) = (f + (l.length - n)) + 1 by omega]
    refine ⟨fun hr => ?_, fun i hi => ?_⟩
    · obtain ⟨o0, ho0⟩ : ∃ o, l.toArray[j0]? = some o := ⟨l[j0], by simp⟩
      have : j0 ∈ Region.ready .any l.toArray listed := mem_ready.2 ⟨hun0', o0, ho0, fun e he hb => hbef _ (backB_spec hbk hj0 ho0 e he hb)⟩
      rw [hr] at this
      cases this
    · have hin : i < n := Nat.lt_of_not_le fun h => tail_waits hs hc (by simpa using hn) inv _ j0 rfl hj0 hun0' i h hi
      obtain ⟨hunl, o, ho, hall⟩ := mem_ready.1 hi
      have ho' : (l.take n)[i]? = some o := by rw [List.getElem?_take, if_pos hin]; simpa using ho
      obtain ⟨d, hd⟩ : ∃ d, slots[i]? = some d := ⟨slots[i]'(by omega), List.getElem?_eq_getElem (by omega)⟩
      have hdst : o.dst = some d := by
        have h1 : ((l.take n).map (·.dst))[i]? = (slots.map some)[i]? := by rw [hsl]
        rw [List.getElem?_map, List.getElem?_map, ho', hd] at h1
        simpa using h1
      have hdep : DepC D slots u o := fun e he hb c hc => hD e.on c (Nat.lt_trans (backB_spec hbk hin ho e he hb) hin) (hall e he hb) hc
      have hput : ∀ v, (mk u).put o.dst v = mk (upd u d v) := fun v => by
        rw [hdst, ← hmk, ← hmk]
        exact puts_upd slots hnd u d v (List.mem_of_getElem? hd) a0
      have huo : ∀ v j, j ≠ i → uvs slots (upd u d v) j = uvs slots u j := fun v j e => by
        unfold uvs
        cases hj' : slots[j]? with
        | none => rfl
        | some d' =>
          have hne : d' ≠ d := fun e' => by
            subst e'
            obtain ⟨l1, g1⟩ := List.getElem?_eq_some_iff.1 hd
            obtain ⟨l2, g2⟩ := List.getElem?_eq_some_iff.1 hj'
            rcases Nat.lt_or_gt_of_ne e with h | h
            · exact List.pairwise_iff_getElem.1 hnd j i l2 l1 h (g2.trans g1.symm)
            · exact List.pairwise_iff_getElem.1 hnd i j l1 l2 h (g1.trans g2.symm)
          simp [upd, hne]
      have hui : ∀ v, uvs slots (upd u d v) i = v := fun v => by
        unfold uvs
        rw [hd]
        simp [upd]
      have hlisted : listed.getD i false = false := getD_both hunl
      have hisz : i < listed.size := by omega
      have hval : ∀ v, (∀ c, D.getD i none = some c → v = c) → ∀ j c, j < n → (listed.setIfInBounds i true).getD j false = true → D.getD j none = some c → uvs slots (upd u d v) j = c := fun v hv j c hj hl hcj => by
        by_cases e : j = i
        · subst e
          rw [hui]
          exact hv c hcj
        · rw [huo v j e]
          rw [getD_set_ne false (Ne.symm e)] at hl
          exact hD j c hj hl hcj
      have hcl' := hcl.set ho hall
      have hto : toCome (listed.setIfInBounds i true) n = f := by
        have := toCome_set (by omega) hlisted n hin
        omega
      have hask := Chn.at_ (l.take n) 0 0 hO i o ho'
      rw [Nat.zero_add] at hask
      unfold wpOp
      simp only [ho]
      rcases hask with ⟨hk, hask⟩ | ⟨hk, hask⟩
      · obtain ⟨ks, eks⟩ : ∃ ks, ks = stageOf hards 0 0 i := ⟨_, rfl⟩
        rw [← eks] at hk hask
        have hki : hards[ks]? = some i := by
          rw [List.getD_eq_getElem?_getD] at hk
          cases hq' : hards[ks]? with
          | none => rw [hq'] at hk; simp at hk
          | some x => rw [hq'] at hk; simp at hk; rw [hk]
        have hks : ks = k := by
          have h1 : ¬ ks < k := fun h => by
            have := hst.2.1 ks i h hki
            rw [hlisted] at this
            cases this
          rcases Nat.eq_zero_or_pos ks with h2 | h2
          · omega
          · obtain ⟨k1, rfl⟩ : ∃ k1, ks = k1 + 1 := ⟨ks - 1, by omega⟩
            have hk1 : k1 < hards.length := by
              have := (List.getElem?_eq_some_iff.1 hki).1
              omega
            have hr := chnB_at hards hch k1 _ i (List.getElem?_eq_getElem hk1) hki
            rw [ho] at hr
            simp only [Option.map_some, Option.getD_some] at hr
            obtain ⟨e, he, h3⟩ := List.any_eq_true.1 hr
            simp only [Bool.and_eq_true] at h3
            have hli := chn_reach hcl f0 e.on h3.2 (hall e (Array.mem_toList_iff.1 he) h3.1)
            have h4 : ¬ k ≤ k1 := fun h => by
              have := hst.2.2 k1 _ h (List.getElem?_eq_getElem hk1)
              rw [hli] at this
              cases this
            omega
        subst hks
        have hst' := hst.hard hki hhn hisz
        have hK : ∀ v w', (∀ c, D.getD i none = some c → v = c) → S w' → St (ks + 1) v w' → wpAny P .any l.toArray Q (f + (l.length - n)) (listed.setIfInBounds i true) ((mk u).put o.dst v) w' := fun v w' hv hS' hSt' => by
          rw [hput v]
          refine ih _ (ks + 1) _ _ (inv.set hi hin) hto hcl' hst' hS' ?_ (hval v hv)
          show St (ks + 1) (uvs slots (upd u d v) (hards.getD ks 0)) w'
          rw [List.getD_eq_getElem?_getD, hki, Option.getD_some, hui]
          exact hSt'
        rcases hask u w hS hSt hdep with ⟨hw, hv⟩ | ⟨hw, hv⟩
        · rw [if_pos hw]
          refine .inl ?_
          unfold Oper.wp
          rcases hv with ⟨v, w', hv, h1, h2, h3⟩ | ⟨g, args, hv, hcall⟩
          · rw [hv]; exact hK v w' h1 h2 h3
          · rw [hv]
            refine hcall.mono ?_
            rintro e w' ⟨v, rfl, h1, h2, h3⟩
            exact hK v w' h1 h2 h3
        · rw [hw]
          exact hK undef w hv.1 hv.2.1 hv.2.2
      · have hni : i ∉ hards := fun hm => by
          have := List.all_eq_true.1 hso i (List.mem_range.2 hin)
          simp only [Bool.or_eq_true, beq_iff_eq, Bool.not_eq_true', List.contains_eq_mem, decide_eq_false_iff_not] at this
          rcases this with h | h
          · exact hk h
          · exact h hm
        have hst' := hst.soft hni
        have hlast : ∀ v, lastv slots hards (upd u d v) k = lastv slots hards u k := fun v => by
          cases k with
          | zero => rfl
          | succ k1 =>
            refine huo v _ fun e => ?_
            have hk1 : k1 < hards.length := by have := hst.1; omega
            rw [List.getD_eq_getElem?_getD, List.getElem?_eq_getElem hk1, Option.getD_some] at e
            exact hni (e ▸ List.getElem_mem hk1)
        obtain ⟨c, hcD, hrun⟩ := hask u w hS hdep
        have hK : wpAny P .any l.toArray Q (f + (l.length - n)) (listed.setIfInBounds i true) ((mk u).put o.dst c) w := by
          rw [hput c]
          refine ih _ k _ _ (inv.set hi hin) hto hcl' hst' hS ?_ (hval c fun c' hc' => by rw [hcD] at hc'; exact Option.some.inj hc')
          rw [hlast]
          exact hSt
        rcases hrun with ⟨hw, hv⟩ | ⟨hw, rfl⟩
        · rw [if_pos hw]
          refine .inl ?_
          unfold Oper.wp
          rw [hv]
          exact hK
        · rw [hw]
          exact hK
theorem wp_region_chain {id : Nat} {Q : Exit → Act → World → Prop} {l : List Oper} {a0 : Act} {w0 : World} (n f0 : Nat) (slots hards : List Nat) (D : List (Option Value)) (S : World → Prop) (St : Nat → Value → World → Prop) {mk : (Nat → Value) → Act}
    (hm : P.follows .mixedOrders = true) (hB : chainC l n f0 slots hards = true) (hS : S w0.drew) (hSt : St 0 undef w0.drew) (hmk : ∀ u, puts a0 slots u = mk u)
    (hO : Chn P l.toArray S St D slots hards mk 0 0 (l.take n))
    (ht : ∀ u w, S w → St hards.length (lastv slots hards u hards.length) w → (∀ j c, j < n → D.getD j none = some c → uvs slots u j = c) → wpList P l.toArray Q (l.drop n) (mk u) w) :
    (Code.region id l.toArray true).wp P Q a0 w0 := by
  simp only [chainC, invB, Bool.and_eq_true, decide_eq_true_eq] at hB
  obtain ⟨⟨⟨⟨⟨⟨⟨⟨⟨⟨hn, hs⟩, hc⟩, hbk⟩, hsl⟩, hnd⟩, hq⟩, hch⟩, hso⟩, hhn⟩, hhl⟩ := hB
  refine wp_region_any hm ?_
  have inv0 : HeadInv .any l.toArray n (Array.replicate l.toArray.size false) :=
    ⟨by simp, fun j oj _ hl => (by rw [getD_replicate_false] at hl; cases hl), fun t _ ht => getD_in (by simpa using ht) (getD_replicate_false _ _)⟩
  have h := wpAny_chain (Q := Q) hn hs hc hbk hsl hnd hq hch hso hhn (fun h hh => by simpa using List.all_eq_true.1 hhl h hh) hmk hO ht n _ 0 (fun s => a0.tmps.getD s undef) w0.drew inv0 (toCome_all n)
    (fun i o _ hl => by rw [getD_replicate_false] at hl; cases hl) ⟨Nat.zero_le _, fun j _ hj => by omega, fun j x _ _ => getD_replicate_false _ _⟩ hS hSt (fun j c _ hl => by rw [getD_replicate_false] at hl; cases hl)
  rw [← hmk, puts_self slots a0 _ (fun _ => rfl), show n + (l.length - n) = l.toArray.size by simp; omega] at h
  exact h
end
end Go.Proofs.Ytdddcgkgellbgab
