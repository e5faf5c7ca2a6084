/-
  A region that draws its order, some of whose operations ('hard' ones: calls, stores, what reads their work) turn the world: an invariant over which of the hard ones have been, what they left, and the world; all others leave a fixed value and turn nothing. Each operation is asked once, whatever the order. Of no program. By an AI agent.
-/
import Derived.Test.YtdddcgkgellbgabChn
namespace Go.Proofs.Ytdddcgkgellbgab
open Go Go.RowKit
section
variable {P : Program} {ops : Array Oper}
/-- The value of the j-th operation, by the slots that they write. -/
def uvo (ds : List (Option Nat)) (u : Nat → Value) (j : Nat) : Value := match ds[j]? with
  | some (some d) => u d
  | _ => undef
def HardL (hards : List Nat) (L : Array Bool) (j : Nat) : Bool := hards.contains j && L.getD j false
def HardV (ds : List (Option Nat)) (hards : List Nat) (u : Nat → Value) (j : Nat) : Value := if hards.contains j then uvo ds u j else undef
/-- The i-th hard operation has been. -/
def lset (L : Nat → Bool) (i : Nat) (j : Nat) : Bool := if j = i then true else L j
def vset (V : Nat → Value) (i : Nat) (v : Value) (j : Nat) : Value := if j = i then v else V j
/-- What the kernel's edges say of an operation that is at hand: what it waits for has been; what waits for it has not. -/
structure Hand (ops : Array Oper) (f0 : Nat) (hards : List Nat) (D : List (Option Value)) (ds : List (Option Nat)) (u : Nat → Value) (L : Nat → Bool) (V : Nat → Value) (i : Nat) (o : Oper) : Prop where
  been : ∀ j, (o.after.toList.any fun e => Region.binds .any e && chnR ops j f0 e.on) = true → hards.contains j = true → L j = true
  not_ : ∀ j, chnR ops i f0 j = true → L j = false
  val : ∀ j c, (o.after.toList.any fun e => e.on == j && Region.binds .any e) = true → D.getD j none = some c → uvo ds u j = c
  hv : ∀ j, hards.contains j = true → V j = uvo ds u j
def StepP (P : Program) (ops : Array Oper) (E : Value → World → Prop) (o : Oper) (a : Act) (w : World) : Prop :=
  match o.dst with
  | some _ => StepC P ops E o a w
  | none => Region.wanted o (yielded ops a.tmps) = true ∧ ∃ w', (execOp a.eval o).run P w = .ok .skip w' ∧ E undef w'
theorem StepP.store {E : Value → World → Prop} {o : Oper} {a : Act} {w : World} (w' : World) (hd : o.dst = none) (hg : Region.wanted o (yielded ops a.tmps) = true) (hv : (execOp a.eval o).run P w = .ok .skip w') (hE : E undef w') : StepP P ops E o a w := by
  unfold StepP
  rw [hd]
  exact ⟨hg, w', hv, hE⟩
theorem StepP.of {E : Value → World → Prop} {o : Oper} {a : Act} {w : World} (hd : o.dst.isSome = true) (h : StepC P ops E o a w) : StepP P ops E o a w := by
  obtain ⟨d, e⟩ := Option.isSome_iff_exists.1 hd
  unfold StepP
  rw [e]
  exact h
/-- What is asked of the i-th operation. -/
def AskP (P : Program) (ops : Array Oper) (f0 : Nat) (T : (Nat → Bool) → (Nat → Value) → World → Prop) (D : List (Option Value)) (ds : List (Option Nat)) (hards : List Nat) (mk : (Nat → Value) → Act) (i : Nat) (o : Oper) : Prop :=
  ∀ u w L V, T L V w → Hand ops f0 hards D ds u L V i o →
    if hards.contains i then StepP P ops (fun v w' => (∀ c, D.getD i none = some c → v = c) ∧ T (lset L i) (vset V i v) w') o (mk u) w
    else o.dst.isSome = true ∧ ∃ c, D.getD i none = some c ∧ ((Region.wanted o (yielded ops (mk u).tmps) = true ∧ (execOp (mk u).eval o).run P w = .ok (.value c) w) ∨ (Region.wanted o (yielded ops (mk u).tmps) = false ∧ c = undef))
def Par (P : Program) (ops : Array Oper) (f0 : Nat) (T : (Nat → Bool) → (Nat → Value) → World → Prop) (D : List (Option Value)) (ds : List (Option Nat)) (hards : List Nat) (mk : (Nat → Value) → Act) : Nat → List Oper → Prop
  | _, [] => True
  | i, o :: r => AskP P ops f0 T D ds hards mk i o ∧ Par P ops f0 T D ds hards mk (i + 1) r
variable {f0 : Nat} {T : (Nat → Bool) → (Nat → Value) → World → Prop} {D : List (Option Value)} {ds : List (Option Nat)} {hards : List Nat} {mk : (Nat → Value) → Act}
theorem Par.hard {i : Nat} {o : Oper} {r : List Oper} (hk : hards.contains i = true)
    (h : ∀ u w L V, T L V w → Hand ops f0 hards D ds u L V i o → StepP P ops (fun v w' => (∀ c, D.getD i none = some c → v = c) ∧ T (lset L i) (vset V i v) w') o (mk u) w) (h' : Par P ops f0 T D ds hards mk (i + 1) r) : Par P ops f0 T D ds hards mk i (o :: r) :=
  ⟨fun u w L V hT hh => by rw [if_pos hk]; exact h u w L V hT hh, h'⟩
theorem Par.soft {i : Nat} {o : Oper} {r : List Oper} (hk : hards.contains i = false) (hd : o.dst.isSome = true) (c : Value) (hc : D.getD i none = some c)
    (h : ∀ u w L V, T L V w → Hand ops f0 hards D ds u L V i o → (Region.wanted o (yielded ops (mk u).tmps) = true ∧ (execOp (mk u).eval o).run P w = .ok (.value c) w)) (h' : Par P ops f0 T D ds hards mk (i + 1) r) : Par P ops f0 T D ds hards mk i (o :: r) :=
  ⟨fun u w L V hT hh => by rw [if_neg (by rw [hk]; decide)]; exact ⟨hd, c, hc, .inl (h u w L V hT hh)⟩, h'⟩
theorem Par.skip {i : Nat} {o : Oper} {r : List Oper} (hk : hards.contains i = false) (hd : o.dst.isSome = true) (hc : D.getD i none = some undef)
    (h : ∀ u w L V, T L V w → Hand ops f0 hards D ds u L V i o → Region.wanted o (yielded ops (mk u).tmps) = false) (h' : Par P ops f0 T D ds hards mk (i + 1) r) : Par P ops f0 T D ds hards mk i (o :: r) :=
  ⟨fun u w L V hT hh => by rw [if_neg (by rw [hk]; decide)]; exact ⟨hd, undef, hc, .inr ⟨h u w L V hT hh, rfl⟩⟩, h'⟩
theorem Par.nil {i : Nat} : Par P ops f0 T D ds hards mk i [] := trivial
theorem Par.at_ : ∀ (l : List Oper) (b : Nat), Par P ops f0 T D ds hards mk b l → ∀ i o, l[i]? = some o → AskP P ops f0 T D ds hards mk (b + i) o
  | [], _, _, i, o, h => by simp at h
  | o' :: r, b, hO, 0, o, h => by simp at h; subst h; exact hO.1
  | o' :: r, b, hO, i + 1, o, h => by
    have := Par.at_ r (b + 1) hO.2 i o (by simpa using h)
    rwa [show b + 1 + i = b + (i + 1) by omega] at this
def parB (l : List Oper) (n : Nat) (ds : List (Option Nat)) : Bool :=
  decide (n < l.length) && Region.sinkB .any l.toArray n && Region.chainB .any l.toArray n && backB l.toArray n && decide ((l.take n).map (·.dst) = ds) && decide ((ds.filterMap id).Nodup) &&
  Region.seqB .any l.toArray (l.length - n) n (Array.replicate n true ++ Array.replicate (l.length - n) false)
theorem uvo_out {ds : List (Option Nat)} (hnd : (ds.filterMap id).Nodup) {i j d : Nat} (hi : ds[i]? = some (some d)) (hne : j ≠ i) (u : Nat → Value) (v : Value) : uvo ds (upd u d v) j = uvo ds u j := by
  unfold uvo
  cases hj : ds[j]? with
  | none => rfl
  | some x =>
    cases x with
    | none => rfl
    | some d' =>
      have hd : d' ≠ d := fun e => by
        subst e
        have key : ∀ (l : List (Option Nat)), (l.filterMap id).Nodup → ∀ a b : Nat, l[a]? = some (some d') → l[b]? = some (some d') → a = b := by
          intro l
          induction l with
          | nil => intro _ a b h; simp at h
          | cons x r ih =>
            intro hn a b ha hb
            have hmem : ∀ k, r[k]? = some (some d') → d' ∈ r.filterMap id := fun k hk => List.mem_filterMap.2 ⟨some d', List.mem_of_getElem? hk, rfl⟩
            cases x with
            | none =>
              have hn' : (r.filterMap id).Nodup := by simpa using hn
              cases a with
              | zero => simp at ha
              | succ a =>
                cases b with
                | zero => simp at hb
                | succ b => rw [ih hn' a b (by simpa using ha) (by simpa using hb)]
            | some y =>
              have hn' : y ∉ r.filterMap id ∧ (r.filterMap id).Nodup := by simpa using hn
              cases a with
              | zero =>
                cases b with
                | zero => rfl
                | succ b =>
                  simp at ha
                  subst ha
                  exact absurd (hmem b (by simpa using hb)) hn'.1
              | succ a =>
                cases b with
                | zero =>
                  simp at hb
                  subst hb
                  exact absurd (hmem a (by simpa using ha)) hn'.1
                | succ b => rw [ih hn'.2 a b (by simpa using ha) (by simpa using hb)]
        exact hne (key ds hnd j i hj hi)
      simp [upd, hd]
theorem uvo_in {ds : List (Option Nat)} {i d : Nat} (hi : ds[i]? = some (some d)) (u : Nat → Value) (v : Value) : uvo ds (upd u d v) i = v := by
  unfold uvo
  rw [hi]
  simp [upd]
theorem hardL_soft {L : Array Bool} {i : Nat} (hi : hards.contains i = false) : HardL hards (L.setIfInBounds i true) = HardL hards L := by
  funext j
  unfold HardL
  by_cases e : j = i
  · subst e; rw [hi]; rfl
  · rw [getD_set_ne false (Ne.symm e)]
theorem hardL_hard {L : Array Bool} {i : Nat} (hi : hards.contains i = true) (hlt : i < L.size) : HardL hards (L.setIfInBounds i true) = lset (HardL hards L) i := by
  funext j
  unfold HardL lset
  by_cases e : j = i
  · subst e; rw [hi, if_pos rfl]; simp [hlt]
  · rw [getD_set_ne false (Ne.symm e), if_neg e]
theorem wpAny_par {Q : Exit → Act → World → Prop} {l : List Oper} {n : Nat} {a0 : Act}
    (hn : n < l.length) (hs : Region.sinkB .any l.toArray n = true) (hc : Region.chainB .any l.toArray n = true) (hbk : backB l.toArray n = true) (hsl : (l.take n).map (·.dst) = ds) (hnd : (ds.filterMap id).Nodup)
    (hq : Region.seqB .any l.toArray (l.length - n) n (Array.replicate n true ++ Array.replicate (l.length - n) false) = true)
    (hmk : ∀ u, puts a0 (ds.filterMap id) u = mk u) (hO : Par P l.toArray f0 T D ds hards mk 0 (l.take n))
    (ht : ∀ u w, (∀ j c, j < n → D.getD j none = some c → uvo ds u j = c) → (∃ L V, T L V w ∧ (∀ j, j < n → hards.contains j = true → L j = true ∧ V j = uvo ds u j)) → wpList P l.toArray Q (l.drop n) (mk u) w) :
    ∀ (f : Nat) (listed : Array Bool) (u : Nat → Value) (w : World), HeadInv .any l.toArray n listed → toCome listed n = f → Closed l.toArray listed → T (HardL hards listed) (HardV ds hards u) w → (∀ j c, j < n → listed.getD j false = true → D.getD j none = some c → uvo ds u j = c) →
      wpAny P .any l.toArray Q (f + (l.length - n)) listed (mk u) w := by
  have hlen : ds.length = n := by
    have := congrArg List.length hsl
    simp at this
    omega
  intro f
  induction f with
  | zero =>
    intro listed u w inv h0 hcl hT hD
    have hall := toCome_zero n h0
    have he : listed = Array.replicate n true ++ Array.replicate (l.length - n) false := by
      have hsz := inv.size
      simp only [List.size_toArray] at hsz
      refine Array.ext (by simp; omega) fun i h1 h2 => ?_
      by_cases hi : i < n
      · have := hall i hi
        simp [h1] at this
        rw [this, Array.getElem_append_left (by simpa using hi)]
        simp
      · have := inv.tail i (by omega) (by simp; omega)
        simp [h1] at this
        rw [this, Array.getElem_append_right (by simp; omega)]
        simp
    have ht' := ht u w (fun j c hj hc => hD j c hj (hall j hj) hc) ⟨_, _, hT, fun j hj hh => ⟨by unfold HardL; rw [hh, hall j hj]; rfl, by unfold HardV; rw [if_pos hh]⟩⟩
    rw [he, Nat.zero_add]
    have h := wpAny_of_seq (P := P) (md := .any) (ops := l.toArray) (Q' := Q) (l.drop n) n (Array.replicate n true ++ Array.replicate (l.length - n) false) (mk u) w (fun j => by simp) (by rw [List.length_drop]; exact hq) ht'
    rw [List.length_drop] at h
    exact h
  | succ f ih =>
    intro listed u w inv h0 hcl hT hD
    obtain ⟨j0, hj0, hun0, hbef⟩ := toCome_pos n (by rw [h0]; omega)
    have hsz := inv.size
    simp only [List.size_toArray] at hsz
    have hun0' := getD_in (listed := listed) (i := j0) (by omega) hun0
    rw [show f + 1 + (l.length - n) = (f + (l.length - n)) + 1 by omega]
    refine ⟨fun hr => ?_, fun i hi => ?_⟩
    · obtain ⟨o0, ho0⟩ : ∃ o, l.toArray[j0]? = some o := ⟨l[j0], by simp⟩
      have : j0 ∈ Region.ready .any l.toArray listed := mem_ready.2 ⟨hun0', o0, ho0, fun e he hb => hbef _ (backB_spec hbk hj0 ho0 e he hb)⟩
      rw [hr] at this
      cases this
    · have hin : i < n := Nat.lt_of_not_le fun h => tail_waits hs hc (by simpa using hn) inv _ j0 rfl hj0 hun0' i h hi
      obtain ⟨hunl, o, ho, hall⟩ := mem_ready.1 hi
      have ho' : (l.take n)[i]? = some o := by rw [List.getElem?_take, if_pos hin]; simpa using ho
      have hdi : ds[i]? = some o.dst := by
        rw [← hsl, List.getElem?_map, ho']
        rfl
      have hlisted : listed.getD i false = false := getD_both hunl
      have hisz : i < listed.size := by omega
      have hHand : Hand l.toArray f0 hards D ds u (HardL hards listed) (HardV ds hards u) i o := by
        refine ⟨fun j hj hh => ?_, fun j hj => ?_, fun j c hj hcj => ?_, fun j hh => ?_⟩
        · obtain ⟨e, he, h3⟩ := List.any_eq_true.1 hj
          simp only [Bool.and_eq_true] at h3
          unfold HardL
          rw [hh, chn_reach hcl f0 e.on h3.2 (hall e (Array.mem_toList_iff.1 he) h3.1)]
          rfl
        · unfold HardL
          cases hl : listed.getD j false with
          | false => simp
          | true =>
            have := chn_reach hcl f0 j hj hl
            rw [hlisted] at this
            cases this
        · obtain ⟨e, he, h⟩ := List.any_eq_true.1 hj
          simp only [Bool.and_eq_true, beq_iff_eq] at h
          have he' := Array.mem_toList_iff.1 he
          rw [← h.1] at hcj ⊢
          exact hD e.on c (Nat.lt_trans (backB_spec hbk hin ho e he' h.2) hin) (hall e he' h.2) hcj
        · unfold HardV
          rw [if_pos hh]
      have hval : ∀ d v, o.dst = some d → (∀ c, D.getD i none = some c → v = c) → ∀ j c, j < n → (listed.setIfInBounds i true).getD j false = true → D.getD j none = some c → uvo ds (upd u d v) j = c := fun d v hd hv j c hj hl hcj => by
        rw [hd] at hdi
        by_cases e : j = i
        · subst e
          rw [uvo_in hdi]
          exact hv c hcj
        · rw [uvo_out hnd hdi e]
          rw [getD_set_ne false (Ne.symm e)] at hl
          exact hD j c hj hl hcj
      have hput : ∀ d v, o.dst = some d → (mk u).put o.dst v = mk (upd u d v) := fun d v hd => by
        rw [hd] at hdi ⊢
        rw [← hmk, ← hmk]
        exact puts_upd _ hnd u d v (List.mem_filterMap.2 ⟨some d, List.mem_of_getElem? hdi, rfl⟩) a0
      have hcl' := hcl.set ho hall
      have hto : toCome (listed.setIfInBounds i true) n = f := by
        have := toCome_set (by omega) hlisted n hin
        omega
      have hask := Par.at_ (l.take n) 0 hO i o ho'
      rw [Nat.zero_add] at hask
      replace hask := hask u w _ _ hT hHand
      unfold wpOp
      simp only [ho]
      by_cases hh : hards.contains i = true
      · rw [if_pos hh] at hask
        have hLs := hardL_hard (hards := hards) hh hisz
        cases hd : o.dst with
        | some d =>
          unfold StepP at hask
          rw [hd] at hask
          simp only at hask
          have hVs : ∀ v, HardV ds hards (upd u d v) = vset (HardV ds hards u) i v := fun v => by
            rw [hd] at hdi
            funext j
            by_cases e : j = i
            · subst e
              simp only [HardV, vset, hh, if_true, uvo_in hdi]
            · simp only [HardV, vset, if_neg e]
              split
              · exact uvo_out hnd hdi e u v
              · rfl
          have hK : ∀ v w', ((∀ c, D.getD i none = some c → v = c) ∧ T (lset (HardL hards listed) i) (vset (HardV ds hards u) i v) w') → wpAny P .any l.toArray Q (f + (l.length - n)) (listed.setIfInBounds i true) ((mk u).put o.dst v) w' := fun v w' hE => by
            rw [hput d v hd]
            refine ih _ _ _ (inv.set hi hin) hto hcl' ?_ (hval d v hd hE.1)
            rw [hLs, hVs]
            exact hE.2
          rw [← hd]
          rcases hask with ⟨hw, hv⟩ | ⟨hw, hv⟩
          · rw [if_pos hw]
            refine .inl ?_
            unfold Oper.wp
            rcases hv with ⟨v, w', hv, hE⟩ | ⟨g, args, hv, hcall⟩
            · rw [hv]; exact hK v w' hE
            · rw [hv]
              refine hcall.mono ?_
              rintro e w' ⟨v, rfl, hE⟩
              exact hK v w' hE
          · rw [hw]
            exact hK undef w hv
        | none =>
          unfold StepP at hask
          rw [hd] at hask
          simp only at hask
          obtain ⟨hw, w', hv, hE1, hE2⟩ := hask
          have hVs : HardV ds hards u = vset (HardV ds hards u) i undef := by
            rw [hd] at hdi
            funext j
            by_cases e : j = i
            · subst e
              simp only [HardV, vset, hh, if_true]
              unfold uvo
              rw [hdi]
            · simp only [HardV, vset, if_neg e]
          rw [if_pos hw]
          refine .inl ?_
          unfold Oper.wp
          rw [hv]
          unfold Oper.upon
          rw [hd]
          refine ih _ _ _ (inv.set hi hin) hto hcl' ?_ ?_
          · rw [hLs, hVs]
            exact hE2
          · intro j c hj hl hcj
            by_cases e : j = i
            · subst e
              rw [← hE1 c hcj]
              rw [hd] at hdi
              unfold uvo
              rw [hdi]
            · rw [getD_set_ne false (Ne.symm e)] at hl
              exact hD j c hj hl hcj
      · have hh' : hards.contains i = false := by simpa using hh
        rw [if_neg hh] at hask
        obtain ⟨hsome, c, hcD, hrun⟩ := hask
        obtain ⟨d, hd⟩ := Option.isSome_iff_exists.1 hsome
        have hK : wpAny P .any l.toArray Q (f + (l.length - n)) (listed.setIfInBounds i true) ((mk u).put o.dst c) w := by
          rw [hput d c hd]
          refine ih _ _ _ (inv.set hi hin) hto hcl' ?_ (hval d c hd fun c' hc' => by rw [hcD] at hc'; exact Option.some.inj hc')
          rw [hardL_soft hh', show HardV ds hards (upd u d c) = HardV ds hards u from ?_]
          · exact hT
          · funext j
            simp only [HardV]
            split
            · rename_i hj
              rw [hd] at hdi
              exact uvo_out hnd hdi (fun e => by rw [e, hh'] at hj; cases hj) u c
            · rfl
        rcases hrun with ⟨hw, hv⟩ | ⟨hw, rfl⟩
        · rw [if_pos hw]
          refine .inl ?_
          unfold Oper.wp
          rw [hv]
          exact hK
        · rw [hw]
          exact hK
theorem wp_region_par {id : Nat} {Q : Exit → Act → World → Prop} {l : List Oper} {a0 : Act} {w0 : World} (n f0 : Nat) (ds : List (Option Nat)) (hards : List Nat) (D : List (Option Value)) (T : (Nat → Bool) → (Nat → Value) → World → Prop) {mk : (Nat → Value) → Act}
    (hm : P.follows .mixedOrders = true) (hB : parB l n ds = true) (hT : ∀ V, T (fun _ => false) V w0.drew) (hmk : ∀ u, puts a0 (ds.filterMap (fun x => x)) u = mk u)
    (hO : Par P l.toArray f0 T D ds hards mk 0 (l.take n))
    (ht : ∀ u w, (∀ j c, j < n → D.getD j none = some c → uvo ds u j = c) → (∃ L V, T L V w ∧ (∀ j, j < n → hards.contains j = true → L j = true ∧ V j = uvo ds u j)) → wpList P l.toArray Q (l.drop n) (mk u) w) :
    (Code.region id l.toArray true).wp P Q a0 w0 := by
  simp only [parB, Bool.and_eq_true, decide_eq_true_eq] at hB
  obtain ⟨⟨⟨⟨⟨⟨hn, hs⟩, hc⟩, hbk⟩, hsl⟩, hnd⟩, hq⟩ := hB
  refine wp_region_any hm ?_
  have inv0 : HeadInv .any l.toArray n (Array.replicate l.toArray.size false) :=
    ⟨by simp, fun j oj _ hl => (by rw [getD_replicate_false] at hl; cases hl), fun t _ ht => getD_in (by simpa using ht) (getD_replicate_false _ _)⟩
  have e0 : HardL hards (Array.replicate l.toArray.size false) = fun _ => false := by
    funext j
    unfold HardL
    rw [getD_replicate_false, Bool.and_false]
  have h := wpAny_par (Q := Q) (f0 := f0) hn hs hc hbk hsl hnd hq hmk hO ht n _ (fun s => a0.tmps.getD s undef) w0.drew inv0 (toCome_all n)
    (fun i o _ hl => by rw [getD_replicate_false] at hl; cases hl) (by rw [e0]; exact hT _) (fun j c _ hl => by rw [getD_replicate_false] at hl; cases hl)
  rw [← hmk, puts_self (ds.filterMap fun x => x) a0 _ (fun _ => rfl), show n + (l.length - n) = l.toArray.size by simp; omega] at h
  exact h
end
end Go.Proofs.Ytdddcgkgellbgab
