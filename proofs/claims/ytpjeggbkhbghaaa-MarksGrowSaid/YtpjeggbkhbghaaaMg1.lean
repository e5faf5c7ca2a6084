/-
  Layer 16: what MarksGrow hangs on: the newest of all stands last; what is put between two that it covers is covered. By an AI agent.
-/
import Derived.Test.YtpjeggbkhbghaaaTP
import Derived.Test.YtpjeggbkhbghaaaFl3
import Derived.Test.YtpjeggbkhbghaaaTL
namespace Go.Proofs.Ytpjeggbkhbghaaa
open Go Go.RowKit
set_option maxRecDepth 20000
theorem rightB_id {y : Ins} (h : rightB y = true) : y.id ≠ (0, 0) ∧ elB y.id = true := by
  unfold rightB idOk at h
  simp only [Bool.and_eq_true, decide_eq_true_eq] at h
  obtain ⟨⟨h1, h2, h3, h4⟩, _⟩ := h
  refine ⟨fun e => ?_, ?_⟩
  · rw [e] at h3
    exact absurd h3 (by decide)
  · unfold elB elP
    exact decide_eq_true (.inr ⟨h1, by omega, h3, h4⟩)
theorem lastM_pos {L : List Mrk} (h : Good L) : 0 ≤ lastM L := by
  rcases snoc_cases L with rfl | ⟨o, z, rfl⟩
  · exact Int.le_refl _
  · rw [lastM_snoc]
    have := (right_parts (h.right z (by simp))).1
    omega
/-- The mark that MarksGrow adds. -/
def mkG (L : List Mrk) (a b : IDt) : Mrk := ⟨lastM L + 1, 0, ⟨a, false⟩, ⟨b, true⟩, 2, 9⟩
theorem mkG_add {L : List Mrk} (h : Good L) (hl : L.length ≤ 20) {a b : IDt} (ha : elB a = true) (hb : elB b = true) (hm : lastM L < 1099511627776) : maddR L (mkG L a b) = (L ++ [mkG L a b], 0) := by
  have h0 := lastM_pos h
  have hr : rightM (mkG L a b) = true := by
    have hp : rightP (mkG L a b) := ⟨by show 1 ≤ lastM L + 1; omega, by show lastM L + 1 ≤ _; omega, (by decide : (0 : Int) ≤ 0), (by decide : (0 : Int) ≤ 4), (by decide : (1 : Int) ≤ 2), (by decide : (2 : Int) ≤ 4), (by decide : (0 : Int) ≤ 9), (by decide : (9 : Int) ≤ 1099511627776)⟩
    unfold rightM
    rw [decide_eq_true hp, Bool.true_and]
    show (elB a && elB b) = true
    rw [ha, hb]
    rfl
  have hlt : ∀ y ∈ L, y.clock < (mkG L a b).clock := fun y hy => by
    have := lastM_le h.ord y hy
    show y.clock < lastM L + 1
    omega
  have hno : ¬ mhasB L (mkG L a b).clock (mkG L a b).author = true := fun e => by
    obtain ⟨y, hy, e1⟩ := mhasB_iff.1 e
    have h1 := hlt y hy
    have h2 : y.clock = (mkG L a b).clock := congrArg Prod.fst e1
    omega
  have hnew : ∀ y ∈ L, newB (mkG L a b) y = true := fun y hy => by
    have := hlt y hy
    unfold newB
    rw [if_pos (by omega)]
    exact decide_eq_true (by omega)
  unfold maddR
  rw [if_neg (by rw [hr]; exact fun e => absurd e (by decide)), if_neg hno, if_neg (by omega), maddL_eq]
  have e1 : L.filter (fun y => newB (mkG L a b) y) = L := List.filter_eq_self.2 hnew
  have e2 : L.filter (fun y => !newB (mkG L a b) y) = [] := List.filter_eq_nil_iff.2 fun y hy => by rw [hnew y hy]; decide
  rw [e1, e2]
theorem nod_first {M : List Ins} (hd : Distinct M) (G : List IDt) {j : Nat} {y : Ins} (h : M[j]? = some y) : plN (M.map (nodeOf G)) y.id = some j := by
  refine plN_at (y := nodeOf G y) (by rw [List.getElem?_map, h]; rfl) rfl fun z hz => ?_
  rw [← List.map_take] at hz
  obtain ⟨u, hu, rfl⟩ := List.mem_map.1 hz
  obtain ⟨i, hi, e⟩ := List.mem_take_iff_getElem.1 hu
  obtain ⟨hj, ej⟩ := List.getElem?_eq_some_iff.1 h
  have := List.pairwise_iff_getElem.1 hd i j (by omega) hj (by omega)
  rw [e, ej] at this
  exact this
/-- Where the new one stands; the mark covers it. -/
theorem grow_at {L : List Ins} {G : List IDt} {i : Nat} {x a b : Ins} (h : Ok (L ++ [x])) (h1 : 1 ≤ i) (ha : (liveL G (nodesL L))[i - 1]? = some a) (hb : (liveL G (nodesL L))[i]? = some b) (hp : planL L G i = (x.par, x.right)) (ha0 : a.id ≠ (0, 0)) (hb0 : b.id ≠ (0, 0)) {m : Mrk} (hmf : m.from_ = ⟨a.id, false⟩) (hmt : m.upto = ⟨b.id, true⟩) :
    ∃ k : Nat, (nodesL (L ++ [x]))[k]? = some x ∧ coversB (nodL (L ++ [x]) G) m (k : Int) = true := by
  have hil := (List.getElem?_eq_some_iff.1 hb).1
  obtain ⟨pre, post, e1, e2, e3⟩ := plan_where h (Nat.le_of_lt hil) hp
  have hd := nodes_distinct h
  have hap : a ∈ pre := by
    have : a ∈ liveL G pre := by
      rw [e2, List.mem_take_iff_getElem]
      obtain ⟨q, e⟩ := List.getElem?_eq_some_iff.1 ha
      exact ⟨i - 1, by omega, e⟩
    exact (List.mem_filter.1 this).1
  have hbp : b ∈ post := by
    have : b ∈ liveL G post := by
      rw [e3]
      refine List.mem_iff_getElem?.2 ⟨0, ?_⟩
      rw [List.getElem?_drop]
      exact hb
    exact (List.mem_filter.1 this).1
  obtain ⟨ja, ea⟩ := List.mem_iff_getElem?.1 hap
  obtain ⟨jb, eb⟩ := List.mem_iff_getElem?.1 hbp
  have hja := (List.getElem?_eq_some_iff.1 ea).1
  have ea' : (nodesL (L ++ [x]))[ja]? = some a := by rw [e1, List.getElem?_append_left hja]; exact ea
  have eb' : (nodesL (L ++ [x]))[pre.length + 1 + jb]? = some b := by
    rw [e1, List.getElem?_append_right (by omega), show pre.length + 1 + jb - pre.length = jb + 1 by omega, List.getElem?_cons_succ]
    exact eb
  have ex' : (nodesL (L ++ [x]))[pre.length]? = some x := by rw [e1, List.getElem?_append_right (Nat.le_refl _), Nat.sub_self, List.getElem?_cons_zero]
  have na := nod_first hd G ea'
  have nb := nod_first hd G eb'
  have hk : pre.length < (nodL (L ++ [x]) G).length := by rw [List.length_map]; exact (List.getElem?_eq_some_iff.1 ex').1
  refine ⟨pre.length, ex', ?_⟩
  rw [covers_pl hk, hmf, hmt]
  have t1 : thereB (nodL (L ++ [x]) G) ⟨a.id, false⟩ = true := by
    unfold thereB
    rw [show plN (nodL (L ++ [x]) G) a.id = some ja from na]
    exact Bool.or_true _
  have t2 : thereB (nodL (L ++ [x]) G) ⟨b.id, true⟩ = true := by
    unfold thereB
    rw [show plN (nodL (L ++ [x]) G) b.id = some (pre.length + 1 + jb) from nb]
    exact Bool.or_true _
  have p1 : plA (nodL (L ++ [x]) G) ⟨a.id, false⟩ = ja := by
    unfold plA
    rw [if_neg ha0, show plN (nodL (L ++ [x]) G) a.id = some ja from na]
    rfl
  have p2 : plA (nodL (L ++ [x]) G) ⟨b.id, true⟩ = pre.length + 1 + jb + 1 := by
    unfold plA
    rw [if_neg hb0, show plN (nodL (L ++ [x]) G) b.id = some (pre.length + 1 + jb) from nb]
    rfl
  rw [t1, t2, p1, p2, decide_eq_true (show ja ≤ pre.length by omega), decide_eq_true (show pre.length < pre.length + 1 + jb + 1 by omega)]
  rfl
theorem grow_style (N : List Nod) (L : List Mrk) {a b : IDt} {k : Nat} (h : coversB N (mkG L a b) (k : Int) = true) : (stR N (L ++ [mkG L a b]) (k : Int)).a2 = 9 := by
  rw [stR_snoc]
  unfold styS
  rw [if_pos h]
  rfl
theorem grow_one {M : List Ins} (hd : Distinct M) {j k : Nat} {z x : Ins} (h1 : M[j]? = some z) (h2 : M[k]? = some x) (he : z.id = x.id) : j = k := by
  have a1 := nod_first hd [] h1
  have a2 := nod_first hd [] h2
  rw [he, a2] at a1
  exact (Option.some.inj a1).symm
end Go.Proofs.Ytpjeggbkhbghaaa
