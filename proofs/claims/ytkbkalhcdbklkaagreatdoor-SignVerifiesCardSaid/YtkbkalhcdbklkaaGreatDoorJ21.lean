/-
  A region that draws its order, as in XInv, whose last operation is a store that waits for all but one of the others: a pure one that nobody waits for, which may come behind it. Of no program. By an AI agent. (and more)
-/
import Derived.Test.YtkbkalhcdbklkaaGreatDoorJ03
import Derived.Test.YtkbkalhcdbklkaaGreatDoorN26
namespace Go.Proofs.YtkbkalhcdbklkaaGreatDoor
section
open Go Go.RowKit
section
variable {P : Program} {S : World → Prop}
def deadB (l : List Oper) (n d : Nat) (slots : List Nat) : Bool :=
 decide (l.length = n + 1) && decide (d < n) && backB l.toArray n && decide ((l.take n).map (·.dst) = slots.map some) && decide (slots.Nodup) &&
 ((List.range n).all fun i => i == d || (List.range (n + 1)).any fun j => decide (i < j) && (j != d) && (((l.toArray[j]?).map fun o => o.after.toList.any fun e => e.on == i && Region.binds .any e).getD false)) &&
 (((l.toArray[n]?).map fun o => decide (o.dst = none) && o.after.all fun e => !Region.binds .any e || decide (e.on < n)).getD false)
theorem set_get {listed : Array Bool} {i : Nat} (b : Bool) (h : i < listed.size) : (listed.setIfInBounds i true).getD i b = true := by simp [h]
theorem dead_waits {l : List Oper} {n d : Nat} (hl : l.length = n + 1)
  (hw : ∀ i, i < n → i = d ∨ ∃ j, j < n + 1 ∧ i < j ∧ j ≠ d ∧ ∃ o, l.toArray[j]? = some o ∧ ∃ e ∈ o.after, e.on = i ∧ Region.binds .any e = true)
  {listed : Array Bool} (inv : HeadInv .any l.toArray n listed) (hr : n ∈ Region.ready .any l.toArray listed) : ∀ k i, n - i = k → i < n → i ≠ d → listed.getD i false = true := by
 intro k
 induction k using Nat.strongRecOn with
 | _ k ih =>
  intro i hk hi hne
  rcases hw i hi with h | ⟨j, hj, hij, hjd, o, ho, e, he, he1, hb⟩
  ·exact absurd h hne
  ·by_cases hjn : j = n
   ·subst hjn
    obtain ⟨_, o2, ho2, hall⟩ := mem_ready.1 hr
    rw [ho] at ho2
    cases ho2
    have := hall e he hb
    rwa [he1] at this
   ·have h1 := ih (n - j) (by omega) j rfl (by omega) hjd
    have h2 := inv.closed j o ho h1 e he hb
    rwa [he1] at h2
theorem wpAny_dead {Q : Exit → Act → World → Prop} {l : List Oper} {n d : Nat} {slots : List Nat} {D : List Know} {mk : (Nat → Value) → Act} {a0 : Act} {R : World → Prop} {os od : Oper}
  (hn : l.length = n + 1) (hdn : d < n) (hbk : backB l.toArray n = true) (hsl : (l.take n).map (·.dst) = slots.map some) (hnd : slots.Nodup)
  (hw : ∀ i, i < n → i = d ∨ ∃ j, j < n + 1 ∧ i < j ∧ j ≠ d ∧ ∃ o, l.toArray[j]? = some o ∧ ∃ e ∈ o.after, e.on = i ∧ Region.binds .any e = true)
  (hos : l.toArray[n]? = some os) (hod : l.toArray[d]? = some od) (hsd : os.dst = none) (hsb : ∀ e ∈ os.after, Region.binds .any e = true → e.on < n)
  (hSt : ∀ w w', S w → Below w.heap.size w w' → S w') (hmk : ∀ u, puts a0 slots u = mk u) (hO : Obs P l.toArray S D slots mk 0 (l.take n))
  (hst : ∀ u w, S w → (∀ j, j < n → j ≠ d → (D.getD j .any).ok (uvs slots u j) w) → Region.wanted os (yielded l.toArray (mk u).tmps) = true ∧ ∃ w', (execOp (mk u).eval os).run P w = .ok .skip w' ∧ R w')
  (hdd : ∀ u w, (∀ j, j < n → j ≠ d → (D.getD j .any).ok (uvs slots u j) w) → ∀ w', Region.wanted od (yielded l.toArray (mk u).tmps) = true ∧ ∃ v, (execOp (mk u).eval od).run P w' = .ok (.value v) w')
  (hQ : ∀ u w, R w → Q .normal (mk u) w) :
  ∀ (f : Nat) (listed : Array Bool) (u : Nat → Value) (w : World), HeadInv .any l.toArray n listed → toCome listed n = f → S w → (∀ j, j < n → listed.getD j false = true → (D.getD j .any).ok (uvs slots u j) w) →
   wpAny P .any l.toArray Q (f + 1) listed (mk u) w := by
 have hlen : slots.length = n := by
  have := congrArg List.length hsl
  simp at this
  omega
 intro f
 induction f with
 | zero =>
  intro listed u w inv h0 hS hD
  have hall := toCome_zero n h0
  have hsz := inv.size
  simp only [List.size_toArray] at hsz
  have hun : listed.getD n true = false := inv.tail n (Nat.le_refl _) (by simp; omega)
  refine ⟨fun hr => ?_, fun i hi => ?_⟩
  ·have : n ∈ Region.ready .any l.toArray listed := mem_ready.2 ⟨hun, os, hos, fun e he hb => hall _ (hsb e he hb)⟩
   rw [hr] at this
   cases this
  ·obtain ⟨hunl, o, ho, _⟩ := mem_ready.1 hi
   have hin : i = n := by
    rcases Nat.lt_or_ge i n with h | h
    ·have h1 := hall i h
     rw [getD_both hunl] at h1
     cases h1
    ·have : i < l.toArray.size := (Array.getElem?_eq_some_iff.1 ho).1
     simp at this
     omega
   subst hin
   rw [hos] at ho
   cases ho
   obtain ⟨hwt, w', hrun, hR⟩ := hst u w hS fun j hj _ => hD j hj (hall j hj)
   unfold wpOp
   simp only [hos]
   rw [if_pos hwt]
   refine .inl ?_
   unfold Oper.wp
   rw [hrun]
   refine ⟨?_, ?_⟩
   ·refine List.eq_nil_iff_forall_not_mem.2 fun k hk => ?_
    obtain ⟨h1, o2, ho2, _⟩ := mem_ready.1 hk
    have hks : k < l.toArray.size := (Array.getElem?_eq_some_iff.1 ho2).1
    simp at hks
    by_cases hkn : i = k
    ·subst hkn
     rw [set_get true (by omega)] at h1
     cases h1
    ·rw [getD_set_ne true hkn] at h1
     have h2 := hall k (by omega)
     rw [getD_both h1] at h2
     cases h2
   ·show Q .normal ((mk u).put os.dst undef) w'
    rw [hsd]
    exact hQ u w' hR
 | succ f ih =>
  intro listed u w inv h0 hS hD
  obtain ⟨j0, hj0, hun0, hbef⟩ := toCome_pos n (by rw [h0]; omega)
  have hsz := inv.size
  simp only [List.size_toArray] at hsz
  have hun0' := getD_in (listed := listed) (i := j0) (by omega) hun0
  refine ⟨fun hr => ?_, fun i hi => ?_⟩
  ·obtain ⟨o0, ho0⟩ : ∃ o, l.toArray[j0]? = some o := ⟨l[j0], by simp⟩
   have : j0 ∈ Region.ready .any l.toArray listed := mem_ready.2 ⟨hun0', o0, ho0, fun e he hb => hbef _ (backB_spec hbk hj0 ho0 e he hb)⟩
   rw [hr] at this
   cases this
  ·by_cases hin : i < n
   case neg =>
    have hin' : i = n := by
     obtain ⟨_, o, ho, _⟩ := mem_ready.1 hi
     have : i < l.toArray.size := (Array.getElem?_eq_some_iff.1 ho).1
     simp at this
     omega
    subst hin'
    have hall := fun k hk hkd => dead_waits hn hw inv hi _ k rfl hk hkd
    have hdu : listed.getD d false = false := by
     cases hl : listed.getD d false with
     | false => rfl
     | true =>
      have : listed.getD j0 false = true := by
       by_cases e : j0 = d
       ·subst e; exact hl
       ·exact hall j0 hj0 e
      rw [hun0] at this
      cases this
    have hf : f = 0 := by
     have h1 : toCome (listed.setIfInBounds d true) i = 0 := by
      have : ∀ k, k ≤ i → toCome (listed.setIfInBounds d true) k = 0 := by
       intro k
       induction k with
       | zero => intro _; rfl
       | succ k ihk =>
        intro hk
        rw [toCome, ihk (by omega)]
        by_cases e : d = k
        ·subst e
         rw [set_get false (by omega)]
         rfl
        ·rw [getD_set_ne false e, hall k (by omega) (Ne.symm e)]
         rfl
      exact this i (Nat.le_refl _)
     have h2 := toCome_set (listed := listed) (by omega) hdu i hdn
     omega
    subst hf
    obtain ⟨hwt, w', hrun, hR⟩ := hst u w hS fun j hj hjd => hD j hj (hall j hj hjd)
    have hkn : ∀ j, j < i → j ≠ d → (D.getD j .any).ok (uvs slots u j) w := fun j hj hjd => hD j hj (hall j hj hjd)
    unfold wpOp
    simp only [hos]
    rw [if_pos hwt]
    refine .inl ?_
    unfold Oper.wp
    rw [hrun]
    show wpAny P .any l.toArray Q 1 (listed.setIfInBounds i true) ((mk u).put os.dst undef) w'
    rw [hsd]
    show wpAny P .any l.toArray Q 1 (listed.setIfInBounds i true) (mk u) w'
    have hin2 : (listed.setIfInBounds i true).getD i false = true := by
     have : i < listed.size := by omega
     simp [this]
    have hdr : d ∈ Region.ready .any l.toArray (listed.setIfInBounds i true) := by
     refine mem_ready.2 ⟨?_, od, hod, fun e he hb => ?_⟩
     ·rw [getD_set_ne true (by omega)]
      exact getD_in (by omega) hdu
     ·have h3 := backB_spec hbk hdn hod e he hb
      rw [getD_set_ne false (by omega)]
      exact hall _ (by omega) (by omega)
    refine ⟨fun hr => (by rw [hr] at hdr; cases hdr), fun k hk => ?_⟩
    obtain ⟨hkl, ok, hok, _⟩ := mem_ready.1 hk
    have hks : k < l.toArray.size := (Array.getElem?_eq_some_iff.1 hok).1
    simp at hks
    have hkd : k = d := by
     refine Decidable.byContradiction fun hne => ?_
     by_cases e : i = k
     ·subst e
      have h5 := getD_both hkl
      rw [hin2] at h5
      cases h5
     ·rw [getD_set_ne true e] at hkl
      have h5 := getD_both hkl
      rw [hall k (by omega) hne] at h5
      cases h5
    subst hkd
    obtain ⟨hw2, v, hrv⟩ := hdd u w hkn w'
    obtain ⟨dd, hdd'⟩ : ∃ x, slots[k]? = some x := ⟨slots[k]'(by omega), List.getElem?_eq_getElem (by omega)⟩
    have hdst : od.dst = some dd := by
     have h1 : ((l.take i).map (·.dst))[k]? = (slots.map some)[k]? := by rw [hsl]
     have h2 : (l.take i)[k]? = some od := by rw [List.getElem?_take, if_pos hdn]; simpa using hod
     rw [List.getElem?_map, List.getElem?_map, h2, hdd'] at h1
     simpa using h1
    unfold wpOp
    simp only [hod]
    rw [if_pos hw2]
    refine .inl ?_
    unfold Oper.wp
    rw [hrv]
    refine ⟨?_, ?_⟩
    ·refine List.eq_nil_iff_forall_not_mem.2 fun q hq => ?_
     obtain ⟨h1, o2, ho2, _⟩ := mem_ready.1 hq
     have hqs : q < l.toArray.size := (Array.getElem?_eq_some_iff.1 ho2).1
     simp at hqs
     by_cases hqk : k = q
     ·subst hqk
      rw [set_get true (by simp; omega)] at h1
      cases h1
     ·rw [getD_set_ne true hqk] at h1
      by_cases hqi : i = q
      ·subst hqi
       have h5 := getD_both h1
       rw [hin2] at h5
       cases h5
      ·rw [getD_set_ne true hqi] at h1
       have h5 := getD_both h1
       rw [hall q (by omega) (Ne.symm hqk)] at h5
       cases h5
    ·show Q .normal ((mk u).put od.dst v) w'
     have hput : (mk u).put od.dst v = mk (upd u dd v) := by
      rw [hdst, ← hmk, ← hmk]
      exact puts_upd slots hnd u dd v (List.mem_of_getElem? hdd') a0
     rw [hput]
     exact hQ _ w' hR
   obtain ⟨hunl, o, ho, hall⟩ := mem_ready.1 hi
   have ho' : (l.take n)[i]? = some o := by rw [List.getElem?_take, if_pos hin]; simpa using ho
   obtain ⟨d, hd⟩ : ∃ d, slots[i]? = some d := ⟨slots[i]'(by omega), List.getElem?_eq_getElem (by omega)⟩
   have hdst : o.dst = some d := by
    have h1 : ((l.take n).map (·.dst))[i]? = (slots.map some)[i]? := by rw [hsl]
    rw [List.getElem?_map, List.getElem?_map, ho', hd] at h1
    simpa using h1
   have hG := Obs.at_ (l.take n) 0 hO i o ho' u w hS (fun e he hb => by
    have hl := hall e he hb
    have hlt : e.on < n := Nat.lt_trans (backB_spec hbk hin ho e he hb) hin
    exact hD e.on hlt hl)
   rw [Nat.zero_add] at hG
   have hput : ∀ v, (mk u).put o.dst v = mk (upd u d v) := fun v => by
    rw [hdst, ← hmk, ← hmk]
    exact puts_upd slots hnd u d v (List.mem_of_getElem? hd) a0
   have hK : ∀ v w', (D.getD i .any).ok v w' → (S w') → Below w.heap.size w w' → wpAny P .any l.toArray Q (f + 1) (listed.setIfInBounds i true) ((mk u).put o.dst v) w' := fun v w' hv hS' hb => by
    rw [hput v]
    refine ih _ _ _ (inv.set hi hin) ?_ hS' ?_
    ·have := toCome_set (by omega) (getD_both hunl) n hin
     omega
    ·intro j hj hl
     by_cases e : i = j
     ·subst e
      unfold uvs
      rw [hd]
      simpa [upd] using hv
     ·rw [getD_set_ne false e] at hl
      have h1 := Know.keep (hD j hj hl) hb
      have h2 : uvs slots (upd u d v) j = uvs slots u j := by
       unfold uvs
       cases hj' : slots[j]? with
       | none => rfl
       | some d' =>
        have hne : d' ≠ d := fun e' => by
         subst e'
         have g1 := List.getElem?_eq_some_iff.1 hd
         have g2 := List.getElem?_eq_some_iff.1 hj'
         obtain ⟨l1, g1⟩ := g1
         obtain ⟨l2, g2⟩ := g2
         rcases Nat.lt_or_gt_of_ne e with h | h
         ·exact List.pairwise_iff_getElem.1 hnd i j l1 l2 h (g1.trans g2.symm)
         ·exact List.pairwise_iff_getElem.1 hnd j i l2 l1 h (g2.trans g1.symm)
        simp [upd, hne]
      rw [h2]
      exact h1
   unfold wpOp
   simp only [ho]
   rcases hG with ⟨hw, hv⟩ | ⟨hw, hv⟩
   ·rw [if_pos hw]
    refine .inl ?_
    unfold Oper.wp
    rcases hv with ⟨v, w', hv, hE, hb⟩ | ⟨g, args, hv, hcl⟩
    ·rw [hv]; exact hK v w' hE (hSt _ _ hS hb) hb
    ·rw [hv]
     refine hcl.mono ?_
     rintro e w' ⟨v, rfl, hE, hb⟩
     exact hK v w' hE (hSt _ _ hS hb) hb
   ·rw [hw]
    exact hK undef w hv hS (Below.refl _ _)
theorem wp_region_dead {id : Nat} {Q : Exit → Act → World → Prop} {l : List Oper} {a0 : Act} {w0 : World} (n d : Nat) (slots : List Nat) (D : List Know) (S R : World → Prop) {mk : (Nat → Value) → Act}
  (hm : P.follows .mixedOrders = true) (hB : deadB l n d slots = true) (hSt : ∀ w w', S w → Below w.heap.size w w' → S w') (hS : S w0.drew) (hmk : ∀ u, puts a0 slots u = mk u)
  (hO : Obs P l.toArray S D slots mk 0 (l.take n)) (os od : Oper) (hos : l.toArray[n]? = some os) (hod : l.toArray[d]? = some od)
  (hst : ∀ u w, S w → (∀ j, j < n → j ≠ d → (D.getD j .any).ok (uvs slots u j) w) → Region.wanted os (yielded l.toArray (mk u).tmps) = true ∧ ∃ w', (execOp (mk u).eval os).run P w = .ok .skip w' ∧ R w')
  (hdd : ∀ u w, (∀ j, j < n → j ≠ d → (D.getD j .any).ok (uvs slots u j) w) → ∀ w', Region.wanted od (yielded l.toArray (mk u).tmps) = true ∧ ∃ v, (execOp (mk u).eval od).run P w' = .ok (.value v) w')
  (hQ : ∀ u w, R w → Q .normal (mk u) w) :
  (Code.region id l.toArray true).wp P Q a0 w0 := by
 simp only [deadB, Bool.and_eq_true, decide_eq_true_eq] at hB
 obtain ⟨⟨⟨⟨⟨⟨hn, hdn⟩, hbk⟩, hsl⟩, hnd⟩, hw⟩, hs⟩ := hB
 have hw' : ∀ i, i < n → i = d ∨ ∃ j, j < n + 1 ∧ i < j ∧ j ≠ d ∧ ∃ o, l.toArray[j]? = some o ∧ ∃ e ∈ o.after, e.on = i ∧ Region.binds .any e = true := fun i hi => by
  have h1 := List.all_eq_true.1 hw i (List.mem_range.2 hi)
  simp only [Bool.or_eq_true, beq_iff_eq, List.any_eq_true, List.mem_range, Bool.and_eq_true, decide_eq_true_eq, bne_iff_ne, ne_eq] at h1
  rcases h1 with h | ⟨j, hj, ⟨⟨h2, h3⟩, h4⟩⟩
  ·exact .inl h
  ·refine .inr ⟨j, hj, h2, h3, ?_⟩
   cases ho : l.toArray[j]? with
   | none => rw [ho] at h4; simp at h4
   | some o =>
    rw [ho] at h4
    simp only [Option.map_some, Option.getD_some, List.any_eq_true, Bool.and_eq_true, beq_iff_eq] at h4
    obtain ⟨e, he, h5, h6⟩ := h4
    exact ⟨o, rfl, e, Array.mem_toList_iff.1 he, h5, h6⟩
 rw [hos] at hs
 simp only [Option.map_some, Option.getD_some, Bool.and_eq_true, decide_eq_true_eq, Array.all_eq_true_iff_forall_mem, Bool.or_eq_true, Bool.not_eq_true'] at hs
 obtain ⟨hsd, hsb⟩ := hs
 refine wp_region_any hm ?_
 have inv0 : HeadInv .any l.toArray n (Array.replicate l.toArray.size false) :=
  ⟨by simp, fun j oj _ hl => (by rw [getD_replicate_false] at hl; cases hl), fun t _ ht => getD_in (by simpa using ht) (getD_replicate_false _ _)⟩
 have h := wpAny_dead (Q := Q) hn hdn hbk hsl hnd hw' hos hod hsd (fun e he hb => by
  rcases hsb e he with h | h
  ·rw [h] at hb; cases hb
  ·exact h) hSt hmk hO hst hdd hQ n _ (fun s => a0.tmps.getD s undef) w0.drew inv0 (toCome_all n) hS (fun j _ hl => by rw [getD_replicate_false] at hl; cases hl)
 rw [← hmk, puts_self slots a0 _ (fun _ => rfl), show n + 1 = l.toArray.size by simp; omega] at h
 exact h
end
end
section
open Go Go.RowKit
set_option maxRecDepth 20000
def oc32 (O : List UInt8) (i j : Nat) : Value := if j < i * 4 then .int .u8 ((nth O j : Nat) : Int) else .int .u8 0
section
attribute [local irreducible] rl setA subA bvf padR bput fput runs oc32 sumR
end
def oc64 (O : List UInt8) (i j : Nat) : Value := if j < i * 8 then .int .u8 ((nth O j : Nat) : Int) else .int .u8 0
theorem oc64_zero (O : List UInt8) : oc64 O 0 = fun _ => .int .u8 0 := by funext j; unfold oc64; rw [if_neg (by omega)]
theorem oc64_all {O : List UInt8} {j : Nat} (h : j < 64) : oc64 O 8 j = bvf O j := by unfold oc64 bvf; rw [if_pos (by omega)]
theorem oc64_succ (V : Nat → Nat) {i L : Nat} (hi : i < 8) (hL : L = i * 8) (j : Nat) : bput (oc64 (gen (outB greatS V) 64) i) L 8 (V i) 8 j = oc64 (gen (outB greatS V) 64) (i + 1) j := by
 unfold bput oc64
 by_cases h1 : L + 8 ≤ j + 8 ∧ j < L + 8
 ·rw [if_pos h1, if_pos (by omega), nth_gen (by omega), outB_nat]
  unfold bb
  show Value.int .u8 ((V i / 2 ^ (8 * (L + 8 - 1 - j)) % 256 : Nat) : Int) = .int .u8 ((V (j / 8) / 2 ^ (64 - 8 - 8 * (j % 8)) % 256 : Nat) : Int)
  rw [show j / 8 = i by omega, show 64 - 8 - 8 * (j % 8) = 8 * (L + 8 - 1 - j) by omega]
 ·rw [if_neg h1]
  by_cases h2 : j < i * 8
  ·rw [if_pos h2, if_pos (by omega)]
  ·rw [if_neg h2, if_neg (by omega)]
section
attribute [local irreducible] rl setA subA bvf padR bput fput runs oc64 sumR
set_option maxHeartbeats 3200000 in
theorem sum_64 {V : Nat → Nat} {A0 : Option Addr} {B c0 all : Nat} {bs : List UInt8} (hV : ∀ i, V i < 18446744073709551616) (hlen : bs.length ≤ 140737488355328) (ha : all ≤ 281474976710656) (w : World) (hG : GlbS w) (hr : Rd w B A0 c0 bs) (hB : B ≤ w.heap.size) :
  Calls Tryz.prog 86 #[av 8 (iv64 V), .slice A0 bs.length c0, .int .u64 (all : Int)] w fun e w' => ∃ g, e = .returned (.slice (some ⟨g, 0, none⟩) 64 64) ∧ OwnF w' w.heap.size 5 (some ⟨g, 0, none⟩) 64 64 (bvf (sumR greatS V bs all)) ∧ Below w.heap.size w w' := by
 obtain ⟨i0, hi0', hz0, hz1, hz2⟩ := info_parts infoB6
 have hwl : bs.length / 128 * 128 ≤ bs.length := Nat.div_mul_le_self _ _
 have hrest : (bs.drop (bs.length / 128 * 128)).length = bs.length - bs.length / 128 * 128 := List.length_drop
 have hrest2 : (bs.drop (bs.length / 128 * 128)).length < 128 := by rw [hrest]; omega
 have hsum : sumR greatS V bs all = gen (outB greatS (runs greatS (runs greatS V bs (bs.length / 128)) (padR greatS (bs.drop (bs.length / 128 * 128)) all) ((padR greatS (bs.drop (bs.length / 128 * 128)) all).length / 128))) 64 := by unfold sumR; rfl
 have hr2 : Rd w B (subA A0 c0 (bs.length / 128 * 128)) (c0 - bs.length / 128 * 128) (bs.drop (bs.length / 128 * 128)) := hr.drop_ hwl
 have hV1 : ∀ i, runs greatS V bs (bs.length / 128) i < 18446744073709551616 := fun i => runs_lt (S := greatS) hV bs _ i
 have KT1 := Lib.hid (fun w hG hr hB => take_64 (A0 := A0) (B := B) (c0 := c0) (bs := bs) hV hlen w hG hr hB)
 rw [← hrest] at KT1
 generalize runs greatS V bs (bs.length / 128) = V1 at *
 generalize subA A0 c0 (bs.length / 128 * 128) = A1 at *
 generalize c0 - bs.length / 128 * 128 = c1 at *
 generalize bs.drop (bs.length / 128 * 128) = rs at *
 have hPl : (padR greatS rs all).length ≤ 140737488355328 := by rw [pad_len_64 hrest2]; split <;> omega
 have hV2 : ∀ i, runs greatS V1 (padR greatS rs all) ((padR greatS rs all).length / 128) i < 18446744073709551616 := fun i => runs_lt (S := greatS) hV1 _ _ i
 have KP := Lib.hid (fun w hr hB => pad_64 (A0 := A1) (B := B) (c0 := c1) (rest := rs) hrest2 ha w hr hB)
 have KT2 := Lib.hid (fun A c B w hG hr hB => take_64 (V := V1) (A0 := A) (B := B) (c0 := c) (bs := padR greatS rs all) hV1 hPl w hG hr hB)
 generalize padR greatS rs all = PD at *
 generalize runs greatS V1 PD (PD.length / 128) = V2 at *
 have HSU := Lib.hid hsum
 have HV2 := Lib.hid hV2
 have HR2 := Lib.hid hr2
 clear hsum hV2 hr2 hrest hrest2 hwl hV1 hPl hV hlen ha
 have oa := OwnF.lit (w := w) (B := w.heap.size) 86 (Nat.le_refl _) (rl 8 (iv64 V)).toArray 8 (iv64 V) (by decide) (by unfold rl; simp)
 have hc := (Below.refl w.heap.size w).alloc (Nat.le_refl _) (.cells (rl 8 (iv64 V)).toArray 86)
 obtain ⟨v1, e1⟩ : ∃ v, v = w.alloc (.cells (rl 8 (iv64 V)).toArray 86) := ⟨_, rfl⟩
 rw [← e1] at oa hc
 obtain ⟨gA, hgA⟩ : ∃ g, g = w.heap.size := ⟨_, rfl⟩
 replace oa : OwnF v1 w.heap.size 86 (some ⟨gA, 0, none⟩) 8 8 (iv64 V) := by rw [hgA]; exact oa
 have hcl := Lib.hid (OwnF.cl (off := 0) (n := 8) oa (by decide) (fun k hk => by rw [Nat.zero_add]))
 have E1 := Lib.hid e1.symm
 have HGA := Lib.hid hgA
 clear e1 hgA
 go_enter Tryz.func86, Tryz.ntmps86
 go_upto_region 1 with fail
 rw [E1.out]
 rw [show (Value.pointer (some ⟨w.heap.size, 0, none⟩)) = .pointer (some ⟨gA, 0, none⟩) by rw [HGA.out]]
 clear E1 HGA
 go_wp2_with ((with_reducible refine av_load hcl.out ty8_64 ?_ ?_); rfl)
 go_at_call 119
 refine (KT1.out _ (hG.next hc) (hr.keep (hc.mono hB)) (Nat.le_trans hB hc.size)).mono ?_
 rintro e v2 ⟨rfl, h0⟩
 replace oa := OwnF.keep oa h0
 replace hc := bnx hc h0
 clear h0 KT1 hcl
 have hcs := Lib.hid (hc.trans ((av_only v2 gA 0 8 (iv64 V1)).below (OwnF.ge oa)))
 have oas := Lib.hid (av_all oa (iv64 V1))
 go_upto_region 2 with ((with_reducible refine av_store (off := 0) oa ty8_64 (by decide) (iv64 V1) (fun k _ => rfl) ?_ ?_ ?_); rfl; rfl)
 obtain ⟨v3, e3⟩ : ∃ v, v = setA v2 gA 0 8 (iv64 V1) := ⟨_, rfl⟩
 have oa3 := oas.out
 have hc3 := hcs.out
 rw [← e3] at oa3 hc3 ⊢
 clear e3 oas hcs oa hc
 have HCL := Lib.hid (fun w1 (hz : Below v3.heap.size v3 w1) => OwnF.cl (off := 0) (n := 8) (OwnF.keep oa3 hz) (by decide) (fun k hk => by rw [Nat.zero_add]))
 have KP3 := Lib.hid (fun w1 (hz : Below v3.heap.size v3 w1) => KP.out w1 ((HR2.out.keep (hc3.mono hB)).keep (hz.mono (Nat.le_trans hB hc3.size))) (Nat.le_trans hB (Nat.le_trans hc3.size hz.size)))
 have KT3 := Lib.hid (fun A c w1 (hz : Below v3.heap.size v3 w1) (h : Rd w1 w1.heap.size A c PD) => KT2.out A c w1.heap.size w1 (hG.next (bnx hc3 hz)) h (Nat.le_refl _))
 clear KP KT2 HR2
 refine wp_region_dead 8 7 [18, 19, 20, 21, 22, 17, 23, 24] [.val (av 8 (iv64 V1)), .val (.slice A1 rs.length c1), .val (.int .u64 (all : Int)), .byt PD, .tup (av 8 (iv64 V2)), .tup (av 8 (iv64 V2)), .val (av 8 (iv64 V2)), .any]
  (fun wz => Below v3.heap.size v3 wz) (fun wz => ∃ w9, Below v3.heap.size v3 w9 ∧ wz = setA w9 gA 0 8 (iv64 V2)) (by kernel_rfl) (by kernel_rfl) (fun wz wz' hz hb => bnx hz hb) ((Below.refl _ _).drew) (fun u => by simp only [puts, List.foldl_cons, List.foldl_nil]; go_simp; exact rfl) ?_ _ _ rfl rfl ?_ ?_ ?_
 ·simp only [List.take_succ_cons, List.take_zero]
  refine .cons (fun u w hS hd => ?_) ?_
  ·exact Gv.run (av 8 (iv64 V1)) rfl (av_run rfl rfl (HCL.out w hS) ty8_64) rfl
  refine .cons (fun u w hS hd => ?_) ?_
  ·exact Gv.run (.slice A1 rs.length c1) rfl (by go_simp) rfl
  refine .cons (fun u w hS hd => ?_) ?_
  ·exact Gv.run (.int .u64 (all : Int)) rfl (by go_simp) rfl
  refine .cons (fun u w hS hd => ?_) ?_
  ·have d19 : u 19 = .slice A1 rs.length c1 := dep hd 1 rfl
   have d20 : u 20 = .int .u64 (all : Int) := dep hd 2 rfl
   rw [d19, d20]
   refine Gv.call 120 #[.slice A1 rs.length c1, .int .u64 (all : Int)] rfl (by go_simp) ((KP3.out w hS).mono ?_)
   rintro e w' ⟨g, rfl, R, hb⟩
   exact ⟨_, rfl, ⟨_, _, rfl, R⟩, hb⟩
  refine .cons (fun u w hS hd => ?_) ?_
  ·have d18 : u 18 = av 8 (iv64 V1) := dep hd 0 rfl
   obtain ⟨A, c, d21, g21⟩ : (Know.byt PD).ok (u 21) w := dep hd 3 rfl
   rw [d18, d21]
   refine Gv.call 119 #[av 8 (iv64 V1), .slice A PD.length c] rfl (by go_simp) ((KT3.out A c w hS g21).mono ?_)
   rintro e w' ⟨rfl, hb⟩
   exact ⟨_, rfl, ⟨_, rfl⟩, hb⟩
  refine .cons (fun u w hS hd => ?_) ?_
  ·obtain ⟨y, d22⟩ : (Know.tup (av 8 (iv64 V2))).ok (u 22) w := dep hd 4 rfl
   rw [d22]
   exact Gv.run (.tuple #[av 8 (iv64 V2), y]) rfl (by go_simp) ⟨y, rfl⟩
  refine .cons (fun u w hS hd => ?_) ?_
  ·obtain ⟨y, d17⟩ : (Know.tup (av 8 (iv64 V2))).ok (u 17) w := dep hd 5 rfl
   rw [d17]
   exact Gv.run (av 8 (iv64 V2)) rfl (by go_simp) rfl
  refine .cons (fun u w hS hd => ?_) ?_
  ·obtain ⟨y, d17⟩ : (Know.tup (av 8 (iv64 V2))).ok (u 17) w := dep hd 5 rfl
   rw [d17]
   exact Gv.run y rfl (by go_simp) trivial
  exact Obs.nil
 ·intro u w hS hd
  have d23 : u 23 = av 8 (iv64 V2) := hd 6 (by decide) (by decide)
  rw [d23]
  exact ⟨rfl, _, av_sets (off := 0) rfl (OwnF.keep oa3 hS) ty8_64 (by decide) (iv64 V2) (fun k _ => rfl) rfl rfl, w, hS, rfl⟩
 ·intro u w hd w'
  obtain ⟨y, d17⟩ : (Know.tup (av 8 (iv64 V2))).ok (u 17) w := hd 5 (by decide) (by decide)
  rw [d17]
  exact ⟨rfl, y, by go_simp⟩
 rintro u w5 ⟨wz, hS, rfl⟩
 have oa5 := av_all (OwnF.keep oa3 hS) (iv64 V2)
 have hc5 := (bnx hc3 hS).trans ((av_only wz gA 0 8 (iv64 V2)).below (OwnF.ge oa3))
 have hgl := OwnF.lt oa5
 obtain ⟨v6, e6⟩ : ∃ v, v = setA wz gA 0 8 (iv64 V2) := ⟨_, rfl⟩
 rw [← e6] at oa5 hc5 hgl ⊢
 have HAO := Lib.hid (fun (n g : Nat) (h : g = v6.heap.size) => show gA ≠ g by omega)
 clear hgl
 clear e6 oa3 hc3 hS HCL KP3 KT3
 go_wp2_with fail
 go_at_call 121
 refine (size_64 _).mono ?_
 rintro e v7 ⟨rfl, e7⟩
 subst v7
 have hmk := run_mk (P := Tryz.prog) 22 5 i0 Tryz.underlying22 hi0' hz0 hz1 hz2 (l := 64) (n := 64) rfl (by omega)
 have hw1 : IntKind.i64.wrap 64 = 64 := rfl
 have oO := OwnF.made (w := v6) (B := w.heap.size) 5 (.int .u8 0) (n := 64) hc5.size (by decide)
 have hcA := (Below.refl v6.heap.size v6).alloc (Nat.le_refl _) (.cells (madeCells #[.int .u8 0] 64) 5)
 replace oa5 := OwnF.keep oa5 hcA
 replace hc5 := bnx hc5 hcA
 have hne := OwnF.lt oa5
 go_wp2_with fail
 obtain ⟨v8, e8⟩ : ∃ v, v = v6.alloc (.cells (madeCells #[.int .u8 0] 64) 5) := ⟨_, rfl⟩
 rw [← e8] at oa5 oO hc5 ⊢
 obtain ⟨gO, eg⟩ : ∃ g, g = v6.heap.size := ⟨_, rfl⟩
 replace oO : OwnF v8 w.heap.size 5 (some ⟨gO, 0, none⟩) 64 64 (fun _ => .int .u8 0) := by rw [eg]; exact oO
 rw [show Value.slice (some ⟨v6.heap.size, 0, none⟩) 64 64 = .slice (some ⟨gO, 0, none⟩) 64 64 by rw [eg]]
 have hAO : gA ≠ gO := HAO.out 0 gO eg
 clear e8 eg hmk hcA hne
 go_loopw [29] (fun c wr => ∃ i : Nat, i ≤ 8 ∧ c = .int .i64 (i : Int) ∧ OwnF wr w.heap.size 5 (some ⟨gO, 0, none⟩) 64 64 (oc64 (gen (outB greatS V2) 64) i) ∧ OwnF wr w.heap.size 86 (some ⟨gA, 0, none⟩) 8 8 (iv64 V2) ∧ Below w.heap.size w wr)
  (fun c _ => 8 - (intOf c).toNat)
 case atStart => exact ⟨0, by omega, rfl, by rw [oc64_zero]; exact oO, oa5, hc5⟩
 case round =>
  clear oO oa5 hc5
  obtain ⟨i, hi, rfl, oO, oa, hc⟩ := hrel
  by_cases hlt : i < 8
  ·have g1 : (i : Int) < 8 := by omega
   obtain ⟨L, hL⟩ : ∃ L, L = i * 8 := ⟨_, rfl⟩
   obtain ⟨H, hH⟩ : ∃ H, H = L + 8 := ⟨_, rfl⟩
   obtain ⟨i1, hi1⟩ : ∃ x, x = i + 1 := ⟨_, rfl⟩
   have E1 := Lib.hid (show IntKind.i64.wrap ((i : Int) * 8) = (L : Int) by rw [IntKind.wrap_i64]; omega)
   have E0 := Lib.hid (show IntKind.i64.wrap ((i : Int) + 1) = (i1 : Int) by rw [IntKind.wrap_i64]; omega)
   have E2 := Lib.hid (show IntKind.i64.wrap ((i1 : Int) * 8) = (H : Int) by rw [IntKind.wrap_i64]; omega)
   have HLH := Lib.hid (show L ≤ H ∧ H ≤ 64 ∧ H - L = 8 ∧ 64 ≠ L by omega)
   have I8 := Lib.hid (show (0 : Int) ≤ (i : Int) ∧ (i : Int) < 8 by omega)
   have HLe := Lib.hid (show L + 8 ≤ 64 by omega)
   have HOC := Lib.hid (fun j => oc64_succ V2 (i := i) (L := L) hlt hL j)
   have hvc : ∀ wz, Below wr.heap.size wr wz → wz.cell? ⟨gA, i, none⟩ = some (.int .u64 ((V2 i : Nat) : Int)) := fun wz hz => OwnF.cell (OwnF.keep oa hz) hlt
   generalize V2 i = vi at *
   have HVC := Lib.hid hvc
   have HI := Lib.hid hi1
   clear hvc hL hH hi1
   go_upto_region 8 with fail
   refine wp_region_inv 12 [32, 33, 34, 35, 36, 37, 38, 39, 40, 41, 42, 43] [.val (.slice (some ⟨gO, 0, none⟩) 64 64), .val (.int .i64 (i : Int)), .val (.int .i64 8), .val (.int .i64 (L : Int)), .val (.int .i64 (i : Int)), .val (.int .i64 (i1 : Int)), .val (.int .i64 8), .val (.int .i64 (H : Int)), .val (.slice (some ⟨gO, L, none⟩) 8 (64 - L)), .val (.int .i64 (i : Int)), .val (.pointer (some ⟨gA, i, none⟩)), .val (.int .u64 (vi : Int))] (fun wz => Below wr.heap.size wr wz) (by kernel_rfl) (by kernel_rfl) (fun wz wz' hz hb => bnx hz hb) ((Below.refl _ _).drew) (fun u => by simp only [puts, List.foldl_cons, List.foldl_nil]; go_simp; exact rfl) ?_ ?_
   ·simp only [List.take_succ_cons, List.take_zero]
    refine .cons (fun u w hS hd => ?_) ?_
    ·exact Gv.run (.slice (some ⟨gO, 0, none⟩) 64 64) rfl (by go_simp) rfl
    refine .cons (fun u w hS hd => ?_) ?_
    ·exact Gv.run (.int .i64 (i : Int)) rfl (by go_simp) rfl
    refine .cons (fun u w hS hd => ?_) ?_
    ·exact Gv.run (.int .i64 8) rfl (by go_simp) rfl
    refine .cons (fun u w hS hd => ?_) ?_
    ·have d33 : u 33 = .int .i64 (i : Int) := dep hd 1 rfl
     have d34 : u 34 = .int .i64 8 := dep hd 2 rfl
     rw [d33, d34]
     have hq := E1.out
     exact Gv.run (.int .i64 (L : Int)) rfl (by go_simp) rfl
    refine .cons (fun u w hS hd => ?_) ?_
    ·exact Gv.run (.int .i64 (i : Int)) rfl (by go_simp) rfl
    refine .cons (fun u w hS hd => ?_) ?_
    ·have d36 : u 36 = .int .i64 (i : Int) := dep hd 4 rfl
     rw [d36]
     have hq := E0.out
     exact Gv.run (.int .i64 (i1 : Int)) rfl (by go_simp) rfl
    refine .cons (fun u w hS hd => ?_) ?_
    ·exact Gv.run (.int .i64 8) rfl (by go_simp) rfl
    refine .cons (fun u w hS hd => ?_) ?_
    ·have d37 : u 37 = .int .i64 (i1 : Int) := dep hd 5 rfl
     have d38 : u 38 = .int .i64 8 := dep hd 6 rfl
     rw [d37, d38]
     have hq := E2.out
     exact Gv.run (.int .i64 (H : Int)) rfl (by go_simp) rfl
    refine .cons (fun u w hS hd => ?_) ?_
    ·have d32 : u 32 = .slice (some ⟨gO, 0, none⟩) 64 64 := dep hd 0 rfl
     have d35 : u 35 = .int .i64 (L : Int) := dep hd 3 rfl
     have d39 : u 39 = .int .i64 (H : Int) := dep hd 7 rfl
     rw [d32, d35, d39]
     exact Gv.run (.slice (some ⟨gO, L, none⟩) 8 (64 - L)) rfl (slice_op_at rfl rfl rfl rfl HLH.out.1 HLH.out.2.1 HLH.out.2.2.1 HLH.out.2.2.2) rfl
    refine .cons (fun u w hS hd => ?_) ?_
    ·exact Gv.run (.int .i64 (i : Int)) rfl (by go_simp) rfl
    refine .cons (fun u w hS hd => ?_) ?_
    ·have d41 : u 41 = .int .i64 (i : Int) := dep hd 9 rfl
     rw [d41]
     exact Gv.run (.pointer (some ⟨gA, i, none⟩)) rfl (by obtain ⟨h1, h2⟩ := I8.out; go_simp) rfl
    refine .cons (fun u w hS hd => ?_) ?_
    ·have d42 : u 42 = .pointer (some ⟨gA, i, none⟩) := dep hd 10 rfl
     rw [d42]
     exact Gv.run (.int .u64 (vi : Int)) rfl (by have h1 := HVC.out w hS; go_simp) rfl
    exact Obs.nil
   intro u wz hS hd
   have d40 : u 40 = .slice (some ⟨gO, L, none⟩) 8 (64 - L) := hd 8 (by decide)
   have d43 : u 43 = .int .u64 (vi : Int) := hd 11 (by decide)
   rw [d40, d43]
   clear hd d40 d43 HVC E0 E1 E2 HLH I8
   simp only [List.drop_succ_cons, List.drop_zero]
   go_wp2_with fail
   go_at_call 122
   refine (put_64 (o := L) (N := 64) HLe.out wz (OwnF.keep oO hS)).mono ?_
   rintro e w9 ⟨rfl, o9, h9⟩
   go_wp2_with fail
   exact ⟨⟨i + 1, by omega, by go_num, OwnF.congr o9 fun j _ => HOC.out j, OwnF.only (OwnF.keep oa hS) h9 (Ne.symm hAO), (bnx hc hS).trans (h9.below (OwnF.ge oO))⟩, by simp [intOf]; omega⟩
  ·obtain rfl : i = 8 := by omega
   simp only [Int.cast_ofNat_Int]
   go_wp2_with fail
   go_ret
   exact ⟨gO, rfl, by rw [HSU.out]; exact OwnF.congr oO fun j hj => oc64_all hj, hc⟩
end
end
section
open Go Go.RowKit
set_option maxRecDepth 20000
theorem fst_great (i : Nat) : fst greatS i < 18446744073709551616 := greatOk.first.2 i
section
attribute [local irreducible] rl setA bvf sumR sumN fst runs
set_option maxHeartbeats 1600000 in
theorem code512 {A0 : Option Addr} {B c0 : Nat} {bs : List UInt8} (hlen : bs.length ≤ 140737488355328) (w : World) (hG : GlbS w) (hr : Rd w B A0 c0 bs) (hB : B ≤ w.heap.size) :
  Calls Tryz.prog 43 #[.slice A0 bs.length c0] w fun e w' => ∃ g, e = .returned (.slice (some ⟨g, 0, none⟩) 64 64) ∧ OwnF w' w.heap.size 5 (some ⟨g, 0, none⟩) 64 64 (bvf (sumN greatS bs)) ∧ Below w.heap.size w w' := by
 have hk := sum_64 (V := fst greatS) (A0 := A0) (B := B) (c0 := c0) (all := bs.length) (bs := bs) fst_great hlen (by omega) w hG hr hB
 rw [sumR_all (S := greatS) (.inr rfl)] at hk
 have KS := Lib.hid hk
 have hcl : Cl w 1 0 8 (iv64 (fst greatS)) := fun k hk => by rw [Nat.zero_add]; exact hG.b k hk
 have HCL := Lib.hid hcl
 have hw1 : IntKind.u64.wrap (bs.length : Int) = (bs.length : Int) := by rw [IntKind.wrap_u64]; omega
 clear hk hcl hr hG
 go_enter Tryz.func43, Tryz.ntmps43
 go_wp2_with ((with_reducible refine av_load HCL.out ty8_64 ?_ ?_); rfl)
 go_at_call 86
 refine KS.out.mono ?_
 rintro e v1 ⟨g, rfl, o, hb⟩
 go_wp2_with fail
 go_ret
 exact ⟨g, rfl, o, hb⟩
end
end
end Go.Proofs.YtkbkalhcdbklkaaGreatDoor
