/-
  Layer 15, the landed code: what an element that is hung turns in memory. By an AI agent. Layer 15, the landed code: Add. By an AI agent.
-/
import Derived.Test.YtpjeggbkhbghaaaTV
namespace Go.Proofs.Ytpjeggbkhbghaaa
open Go Go.RowKit
set_option maxRecDepth 20000
section
variable {ad : IDt → Nat} {L A B : List Ins} {x : Ins} {be : Nat}
theorem ptO_set {o : Option Ins} (h : ∀ y, o = some y → y.id ≠ x.id) : ptO (adSet ad x.id be) o = ptO ad o := by
  cases o with
  | none => rfl
  | some y =>
    show pB (adSet ad x.id be y.id) = pB (ad y.id)
    rw [adSet_other (h y rfl)]
theorem kids_new (hk : kidsL L x.par x.right = A ++ B) (hA : ∀ y ∈ A, idLt y.id x.id = true) (hB : ∀ y ∈ B, idLt y.id x.id = false) {n : IDt} {s : Bool} (hh : hangs n s x = true) : kidsL (L ++ [x]) n s = A ++ x :: B := by
  obtain ⟨h1, h2⟩ := hangs_iff.1 hh
  rw [kidsL_snoc, if_pos hh, ← h1, ← h2, hk, insK_cut hA hB]
theorem kids_old {n : IDt} {s : Bool} (hh : ¬ hangs n s x = true) : kidsL (L ++ [x]) n s = kidsL L n s := by rw [kidsL_snoc, if_neg hh]
theorem place_none (bp : Nat) (s : Bool) (hA : A = []) : placeOf ad bp s A = ⟨bp, if s then 8 else 7, none⟩ := by subst hA; rfl
theorem place_head (hinj : ∀ i j, (i = (0, 0) ∨ hasL L i) → (j = (0, 0) ∨ hasL L j) → ad i = ad j → i = j) (hp : x.par = (0, 0) ∨ hasL L x.par) (hn : ∀ y ∈ L, y.id ≠ x.id)
    (hk : kidsL L x.par x.right = A ++ B) (hA : ∀ y ∈ A, idLt y.id x.id = true) (hB : ∀ y ∈ B, idLt y.id x.id = false) {n : IDt} (hnn : n = (0, 0) ∨ hasL L n) (s : Bool) :
    ptO (adSet ad x.id be) (kidsL (L ++ [x]) n s).head? = if placeOf ad (ad x.par) x.right A = ⟨ad n, if s then 8 else 7, none⟩ then pB be else ptO ad (kidsL L n s).head? := by
  have hold : ∀ m t, ∀ y, (kidsL L m t).head? = some y → y.id ≠ x.id := fun m t y hy => hn y ((mem_kids m t).1 (List.mem_of_mem_head? hy)).1
  by_cases hh : hangs n s x = true
  · obtain ⟨h1, h2⟩ := hangs_iff.1 hh
    rw [kids_new hk hA hB hh]
    cases hAe : A with
    | nil =>
      rw [place_none _ _ rfl, h1, h2, if_pos rfl]
      show pB (adSet ad x.id be x.id) = pB be
      rw [adSet_same]
    | cons z A' =>
      have hne : ¬ placeOf ad (ad x.par) x.right (z :: A') = ⟨ad n, if s then 8 else 7, none⟩ := by
        unfold placeOf
        rw [List.getLast?_cons]
        intro e
        simp only [Addr.mk.injEq] at e
        have := e.2.1
        cases s <;> simp at this
      rw [if_neg hne]
      have hk2 : (kidsL L n s).head? = some z := by rw [← h1, ← h2, hk, hAe]; rfl
      rw [hk2]
      exact ptO_set fun y hy => hold n s y (by rw [hk2]; exact hy)
  · rw [kids_old hh, ptO_set (hold n s)]
    have hne : ¬ placeOf ad (ad x.par) x.right A = ⟨ad n, if s then 8 else 7, none⟩ := by
      intro e
      cases hAe : A.getLast? with
      | none =>
        have : A = [] := by simpa using hAe
        rw [place_none _ _ this] at e
        simp only [Addr.mk.injEq, and_true] at e
        refine hh (hangs_iff.2 ⟨hinj _ _ hp hnn e.1, ?_⟩)
        have h2 := e.2
        cases hs : s <;> cases hx : x.right <;> simp_all
      | some z =>
        unfold placeOf at e
        rw [hAe] at e
        simp only [Addr.mk.injEq, and_true] at e
        have h2 := e.2
        cases s <;> simp at h2
    rw [if_neg hne]
theorem place_next (hd : Distinct L) (hinj : ∀ i j, (i = (0, 0) ∨ hasL L i) → (j = (0, 0) ∨ hasL L j) → ad i = ad j → i = j) (hn : ∀ y ∈ L, y.id ≠ x.id)
    (hk : kidsL L x.par x.right = A ++ B) (hA : ∀ y ∈ A, idLt y.id x.id = true) (hB : ∀ y ∈ B, idLt y.id x.id = false) {y : Ins} (hy : y ∈ L) :
    ptO (adSet ad x.id be) (nextIn (kidsL (L ++ [x]) y.par y.right) y.id) = if placeOf ad (ad x.par) x.right A = ⟨ad y.id, 6, none⟩ then pB be else ptO ad (nextIn (kidsL L y.par y.right) y.id) := by
  have hmem : ∀ z ∈ A ++ B, z ∈ L := fun z hz => ((mem_kids x.par x.right).1 (by rw [hk]; exact hz)).1
  have hnx : ∀ (K : List Ins) i z, (∀ u ∈ K, u ∈ L) → nextIn K i = some z → z.id ≠ x.id := by
    intro K
    induction K with
    | nil => intro i z _ h; cases h
    | cons u K ih =>
      intro i z hK h
      unfold nextIn at h
      split at h
      · exact hn z (hK z (List.mem_cons.2 (.inr (List.mem_of_mem_head? h))))
      · exact ih i z (fun v hv => hK v (List.mem_cons.2 (.inr hv))) h
  have hsub : ∀ m t, ∀ u ∈ kidsL L m t, u ∈ L := fun m t u hu => ((mem_kids m t).1 hu).1
  have hds : Distinct (A ++ B) := by rw [← hk]; exact sorted_distinct (kids_sorted _ _ hd)
  by_cases hh : hangs y.par y.right x = true
  · obtain ⟨h1, h2⟩ := hangs_iff.1 hh
    have hk2 : kidsL L y.par y.right = A ++ B := by rw [← h1, ← h2, hk]
    have hyk : y ∈ A ++ B := by rw [← hk2]; exact (mem_kids _ _).2 ⟨hy, hangs_iff.2 ⟨rfl, rfl⟩⟩
    rw [kids_new hk hA hB hh, hk2]
    cases hAe : A.getLast? with
    | none =>
      have eA : A = [] := by simpa using hAe
      have hne : ¬ placeOf ad (ad x.par) x.right A = ⟨ad y.id, 6, none⟩ := by
        rw [place_none _ _ eA]
        intro e
        simp only [Addr.mk.injEq, and_true] at e
        have h2 := e.2
        cases hx : x.right <;> simp [hx] at h2
      rw [if_neg hne]
      subst eA
      have e1 : nextIn ([] ++ x :: B) y.id = nextIn B y.id := if_neg fun e => hn y hy e.symm
      rw [e1]
      exact ptO_set fun z hz => hnx B y.id z (fun u hu => hmem u (by simpa using hu)) hz
    | some z =>
      obtain ⟨A', eA⟩ := List.getLast?_eq_some_iff.1 hAe
      have hpl : placeOf ad (ad x.par) x.right A = ⟨ad z.id, 6, none⟩ := by unfold placeOf; rw [hAe]
      have hzL : z ∈ L := hmem z (by rw [eA]; simp)
      rw [hpl]
      by_cases hyz : y = z
      · subst hyz
        rw [if_pos rfl, eA, List.append_assoc, List.singleton_append]
        rw [eA, List.append_assoc, List.singleton_append] at hds
        rw [nextIn_at (distinct_mid hds).1]
        show pB (adSet ad x.id be x.id) = pB be
        rw [adSet_same]
      · have hid : y.id ≠ z.id := fun e => hyz (hd.eq hy hzL e)
        have hne : ¬ (⟨ad z.id, 6, none⟩ : Addr) = ⟨ad y.id, 6, none⟩ := by
          intro e
          simp only [Addr.mk.injEq, and_true] at e
          exact hid (hinj _ _ (.inr ⟨y, hy, rfl⟩) (.inr ⟨z, hzL, rfl⟩) e.symm)
        rw [if_neg hne]
        have e1 : nextIn (A ++ x :: B) y.id = nextIn (A ++ B) y.id := by
          rcases List.mem_append.1 hyk with h3 | h3
          · exact nextIn_out ⟨y, h3, rfl⟩ (by rw [hAe]; exact fun e => hid (Option.some.inj e).symm)
          · have hnA : ∀ u ∈ A, u.id ≠ y.id := fun u hu e => (List.pairwise_append.1 hds).2.2 u hu y h3 e
            rw [nextIn_in hnA, nextIn_in hnA]
            exact if_neg fun e => hn y hy e.symm
        rw [e1]
        exact ptO_set fun u hu => hnx _ y.id u hmem hu
  · have hne : ¬ placeOf ad (ad x.par) x.right A = ⟨ad y.id, 6, none⟩ := by
      intro e
      cases hAe : A.getLast? with
      | none =>
        have eA : A = [] := by simpa using hAe
        rw [place_none _ _ eA] at e
        simp only [Addr.mk.injEq, and_true] at e
        have h2 := e.2
        cases hx : x.right <;> simp [hx] at h2
      | some z =>
        unfold placeOf at e
        rw [hAe] at e
        simp only [Addr.mk.injEq, and_true] at e
        have hz : z ∈ A ++ B := by
          obtain ⟨A', eA⟩ := List.getLast?_eq_some_iff.1 hAe
          rw [eA]
          simp
        have hzL := hmem z hz
        have : z = y := hd.eq hzL hy (hinj _ _ (.inr ⟨z, hzL, rfl⟩) (.inr ⟨y, hy, rfl⟩) e)
        subst this
        have h3 := (mem_kids x.par x.right).1 (show z ∈ kidsL L x.par x.right by rw [hk]; exact hz)
        exact hh (hangs_iff.2 ⟨(hangs_iff.1 h3.2).1.symm, (hangs_iff.1 h3.2).2.symm⟩)
    rw [if_neg hne, kids_old hh]
    exact ptO_set fun z hz => hnx _ y.id z (hsub _ _) hz
end
/-- A block of an element, a pointer laid into it or not. -/
theorem el_turn {w w' : World} {b : Nat} {pl : Addr} {v : Value} {i : IDt} {r : Int} {g : Bool} {pa nx lf rg : Value} {rt : Bool} (h : w.heap[b]? = some (elC i r g pa rt nx lf rg)) (hs : pl.spot = none) (h6 : pl.off = 6 ∨ pl.off = 7 ∨ pl.off = 8)
    (hw : w'.heap[b]? = (w.setCell pl v).heap[b]?) :
    w'.heap[b]? = some (elC i r g pa rt (if pl = ⟨b, 6, none⟩ then v else nx) (if pl = ⟨b, 7, none⟩ then v else lf) (if pl = ⟨b, 8, none⟩ then v else rg)) := by
  obtain ⟨pb, po, sp⟩ := pl
  replace hs : sp = none := hs
  subst hs
  replace h6 : po = 6 ∨ po = 7 ∨ po = 8 := h6
  rw [hw]
  by_cases e : pb = b
  · subst e
    rw [set_block h po v]
    rcases h6 with rfl | rfl | rfl <;> simp
  · rw [set_other w v (fun e2 => e e2.symm), h]
    simp
end Go.Proofs.Ytpjeggbkhbghaaa
namespace Go.Proofs.Ytpjeggbkhbghaaa
open Go Go.RowKit
set_option maxRecDepth 20000
theorem TreeH.inj_all {w : World} {T M : Nat} {ad : IDt → Nat} {L : List Ins} {G : List IDt} (h : TreeH w T M ad L G) : ∀ i j, (i = (0, 0) ∨ hasL L i) → (j = (0, 0) ∨ hasL L j) → ad i = ad j → i = j := by
  rintro i j (rfl | ⟨y, hy, rfl⟩) (rfl | ⟨z, hz, rfl⟩) e
  · rfl
  · exact absurd e.symm (h.inj0 hz)
  · exact absurd e (h.inj0 hy)
  · rw [h.inj hy hz e]
theorem placeOf_off (ad : IDt → Nat) (bp : Nat) (s : Bool) (A : List Ins) : (placeOf ad bp s A).spot = none ∧ ((placeOf ad bp s A).off = 6 ∨ (placeOf ad bp s A).off = 7 ∨ (placeOf ad bp s A).off = 8) := by
  unfold placeOf
  split
  · cases s <;> simp
  · simp
theorem TreeH.added {w w' : World} {T M : Nat} {ad : IDt → Nat} {L : List Ins} {G : List IDt} (h : TreeH w T M ad L G) {x : Ins} (hn : ∀ y ∈ L, y.id ≠ x.id) (h0 : x.id ≠ (0, 0)) (hp : x.par = (0, 0) ∧ x.right = true ∨ ∃ y ∈ L, y.id = x.par)
    {A B : List Ins} (hk : kidsL L x.par x.right = A ++ B) (hA : ∀ y ∈ A, idLt y.id x.id = true) (hB : ∀ y ∈ B, idLt y.id x.id = false) {be : Nat}
    {ps : List (IDt × Nat)} {clk : Nat} (hm : MapIs w M ad ps clk) (hps : ∀ i, i ∈ ps.map Prod.fst ↔ i = (0, 0) ∨ hasL L i) (hlen : ps.length = L.length + 1)
    (hT : w'.heap[T]? = some (.cells #[.map (some M), .int .i64 (((liveL G L).length : Int) + 1)] 113))
    (hM : w'.heap[M]? = some (.map ((ps ++ [(x.id, clk)]).map (entE (adSet ad x.id be))).toArray (clk + 1)))
    (hE : w'.heap[be]? = some (elC x.id x.rune false (pB (ad x.par)) x.right (ptO ad B.head?) (.pointer none) (.pointer none)))
    (hO : ∀ k, k < w.heap.size → k ≠ T → k ≠ M → w'.heap[k]? = (w.setCell (placeOf ad (ad x.par) x.right A) (pB be)).heap[k]?) :
    TreeH w' T M (adSet ad x.id be) (L ++ [x]) G := by
  have hok : Ok (L ++ [x]) := .snoc h.ok hn h0 hp
  obtain ⟨a1, a2, a3, a4⟩ := h.apart
  have hpp : x.par = (0, 0) ∨ hasL L x.par := hp.imp (fun h => h.1) (fun h => h)
  obtain ⟨po1, po2⟩ := placeOf_off ad (ad x.par) x.right A
  have hxG : x.id ∉ G := fun hg => by obtain ⟨y, hy, e⟩ := h.gone _ hg; exact hn y hy e
  have hxk : x.id ∉ ps.map Prod.fst := fun hi => by
    rcases (hps x.id).1 hi with e | ⟨y, hy, e⟩
    · exact h0 e
    · exact hn y hy e
  have hmem : ∀ z ∈ A ++ B, z ∈ L := fun z hz => ((mem_kids x.par x.right).1 (by rw [hk]; exact hz)).1
  have e00 : adSet ad x.id be (0, 0) = ad (0, 0) := adSet_other fun e => h0 e.symm
  have head := fun {n : IDt} (hnn : n = (0, 0) ∨ hasL L n) (s : Bool) => place_head (be := be) h.inj_all hpp hn hk hA hB hnn s
  refine ⟨hok, ?_, ⟨ps ++ [(x.id, clk)], clk + 1, hm.store hxk be hM, fun i => ?_, by simp [hlen]⟩, ?_, fun y hy => ?_, fun i hi => ?_, h.once⟩
  · rw [hT, live_app, List.length_append, live_on hxG, List.length_cons]
    rfl
  · rw [List.map_append, List.mem_append, hps i, List.map_singleton, List.mem_singleton]
    constructor
    · rintro ((h1 | ⟨y, hy, e⟩) | h1)
      · exact .inl h1
      · exact .inr ⟨y, List.mem_append.2 (.inl hy), e⟩
      · exact .inr ⟨x, List.mem_append.2 (.inr (List.mem_singleton.2 rfl)), h1.symm⟩
    · rintro (h1 | ⟨y, hy, e⟩)
      · exact .inl (.inl h1)
      · rcases List.mem_append.1 hy with h2 | h2
        · exact .inl (.inr ⟨y, h2, e⟩)
        · rw [List.mem_singleton.1 h2] at e
          exact .inr e.symm
  · have := el_turn h.root po1 po2 (hO _ (lt_of_heap h.root) (fun e => a2 e.symm) (fun e => a3 e.symm))
    rw [e00, this, head (.inl rfl) false, head (.inl rfl) true]
    have n6 : ¬ placeOf ad (ad x.par) x.right A = ⟨ad (0, 0), 6, none⟩ := by
      intro e
      unfold placeOf at e
      split at e
      · simp only [Addr.mk.injEq, and_true] at e
        have h2 := e.2
        cases hx : x.right <;> simp [hx] at h2
      · rename_i z hz
        simp only [Addr.mk.injEq, and_true] at e
        obtain ⟨A', eA⟩ := List.getLast?_eq_some_iff.1 hz
        exact h.inj0 (hmem z (by rw [eA]; simp)) e
    rw [if_neg n6]
    rfl
  · rcases List.mem_append.1 hy with h2 | h2
    · have hyx : y.id ≠ x.id := hn y h2
      have hyp : adSet ad x.id be y.par = ad y.par := adSet_other fun e => by
        rcases h.ok.par y h2 with h3 | ⟨z, hz, h3⟩
        · exact h0 (by rw [← e, h3])
        · exact hn z hz (h3.trans e)
      have := el_turn (h.el y h2) po1 po2 (hO _ (lt_of_heap (h.el y h2)) (a4 y h2).1 (a4 y h2).2)
      rw [adSet_other hyx, this, head (.inr ⟨y, h2, rfl⟩) false, head (.inr ⟨y, h2, rfl⟩) true, hyp, place_next (be := be) h.ok.distinct h.inj_all hn hk hA hB h2]
      rfl
    · rw [List.mem_singleton.1 h2, adSet_same, hE]
      have e1 : nextIn (kidsL (L ++ [x]) x.par x.right) x.id = B.head? := by
        rw [kids_new hk hA hB (hangs_iff.2 ⟨rfl, rfl⟩)]
        exact nextIn_at fun z hz => hn z (hmem z (List.mem_append.2 (.inl hz)))
      have e2 : ∀ s, kidsL (L ++ [x]) x.id s = [] := kids_none hok.leaf
      have e3 : adSet ad x.id be x.par = ad x.par := adSet_other fun e => by
        rcases hpp with h3 | ⟨z, hz, h3⟩
        · exact h0 (by rw [← e, h3])
        · exact hn z hz (h3.trans e)
      have e4 : goneB G x.id = false := by rw [goneB_eq]; exact decide_eq_false hxG
      rw [e1, e2, e2, e3, e4, ptO_set fun z hz => hn z (hmem z (List.mem_append.2 (.inr (List.mem_of_mem_head? hz))))]
      rfl
  · obtain ⟨z, hz, e⟩ := h.gone i hi
    exact ⟨z, List.mem_append.2 (.inl hz), e⟩
theorem set_congr {w w2 : World} {k : Nat} (h : w.heap[k]? = w2.heap[k]?) (a : Addr) (v : Value) : (w.setCell a v).heap[k]? = (w2.setCell a v).heap[k]? := by
  unfold World.setCell
  simp only [Array.getElem?_modify, h]
theorem place_in {ad : IDt → Nat} {L A B : List Ins} {x : Ins} (hp : x.par = (0, 0) ∨ hasL L x.par) (hk : kidsL L x.par x.right = A ++ B) : ∃ n, (n = (0, 0) ∨ hasL L n) ∧ (placeOf ad (ad x.par) x.right A).block = ad n := by
  unfold placeOf
  split
  · exact ⟨x.par, hp, rfl⟩
  · rename_i z hz
    obtain ⟨A', eA⟩ := List.getLast?_eq_some_iff.1 hz
    exact ⟨z.id, .inr ⟨z, ((mem_kids x.par x.right).1 (by rw [hk, eA]; simp)).1, rfl⟩, rfl⟩
theorem TreeH.at_ {w : World} {T M : Nat} {ad : IDt → Nat} {L : List Ins} {G : List IDt} (h : TreeH w T M ad L G) {n : IDt} (hn : n = (0, 0) ∨ hasL L n) : inT T M ad L (ad n) ∧ ad n ≠ T ∧ ad n ≠ M := by
  obtain ⟨a1, a2, a3, a4⟩ := h.apart
  rcases hn with rfl | ⟨y, hy, rfl⟩
  · exact ⟨.inr (.inr (.inl rfl)), fun e => a2 e.symm, fun e => a3 e.symm⟩
  · exact ⟨.inr (.inr (.inr ⟨y, hy, rfl⟩)), a4 y hy⟩
theorem TreeH.hangs {w : World} {T M : Nat} {ad : IDt → Nat} {L : List Ins} {G : List IDt} (h : TreeH w T M ad L G) {x : Ins} (hp : x.par = (0, 0) ∨ hasL L x.par) {be : Nat} (hbe : ∀ k, inT T M ad L k → k ≠ be)
    (he : w.heap[be]? = some (elC x.id x.rune false (pB (ad x.par)) x.right (.pointer none) (.pointer none) (.pointer none))) : Hangs w ad be (ad x.par) x (kidsL L x.par x.right) := by
  refine ⟨⟨_, _, _, _, _, he⟩, ?_, fun y hy => ?_, kids_sorted _ _ h.ok.distinct, hbe _ (h.at_ hp).1, fun y hy => hbe _ (.inr (.inr (.inr ⟨y, ((mem_kids _ _).1 hy).1, rfl⟩)))⟩
  · rcases hp with e | ⟨y, hy, e⟩
    · rw [e]
      refine ⟨_, _, _, _, _, _, _, _, h.root, ?_⟩
      cases x.right <;> rfl
    · rw [← e]
      refine ⟨_, _, _, _, _, _, _, _, h.el y hy, ?_⟩
      cases x.right <;> rfl
  · obtain ⟨h1, h2⟩ := (mem_kids _ _).1 hy
    obtain ⟨h3, h4⟩ := hangs_iff.1 h2
    have := h.el y h1
    rw [h3, h4] at this
    exact ⟨_, _, _, _, _, _, this⟩
theorem add_nil (x : Ins) (w : World) : Calls Try.prog 33 #[.pointer none, insV x] w fun e w' => e = .returned (.int .i64 13) ∧ Below w.heap.size w w' := by
  have hb : Below w.heap.size w (w.alloc (.cells #[.int .i64 x.id.1, .int .i64 x.id.2, .int .i64 x.par.1, .int .i64 x.par.2, .bool x.right, .int .i32 x.rune] 74)) := (Below.refl _ _).alloc (Nat.le_refl _) _
  have HB := Lib.hid hb
  clear hb
  go_enter Try.func33, Try.ntmps33
  go_wp2_with (go_at_call 55; refine (beginning_nil _).mono ?_; rintro e w' ⟨rfl, hw⟩; subst hw)
  go_ret
  exact ⟨rfl, HB.out⟩
set_option maxHeartbeats 6400000 in
theorem add_any {w : World} {T M : Nat} {ad : IDt → Nat} {L : List Ins} {G : List IDt} (h : TreeH w T M ad L G) (hl : L.length ≤ 4096) (x : Ins) :
    Calls Try.prog 33 #[pB T, insV x] w fun e w' => e = .returned (.int .i64 (addR L x).2) ∧ ∃ ad', TreeH w' T M ad' (addR L x).1 G ∧ (∀ k, inT T M ad' (addR L x).1 k → inT T M ad L k ∨ w.heap.size ≤ k) ∧ OutF (inT T M ad L) w w' := by
  obtain ⟨v1, ev⟩ : ∃ v, v = w.alloc (.cells #[.int .i64 x.id.1, .int .i64 x.id.2, .int .i64 x.par.1, .int .i64 x.par.2, .bool x.right, .int .i32 x.rune] 74) := ⟨_, rfl⟩
  obtain ⟨g, eg⟩ : ∃ g, g = w.heap.size := ⟨_, rfl⟩
  have hb : Below w.heap.size w v1 := by rw [ev]; exact (Below.refl _ _).alloc (Nat.le_refl _) _
  have hs : v1.heap.size = g + 1 := by rw [ev, eg]; simp
  have hq : v1.cell? ⟨g, 0, none⟩ = some (.int .i64 x.id.1) ∧ v1.cell? ⟨g, 1, none⟩ = some (.int .i64 x.id.2) ∧ v1.cell? ⟨g, 2, none⟩ = some (.int .i64 x.par.1) ∧ v1.cell? ⟨g, 3, none⟩ = some (.int .i64 x.par.2) ∧ v1.cell? ⟨g, 4, none⟩ = some (.bool x.right) ∧ v1.cell? ⟨g, 5, none⟩ = some (.int .i32 x.rune) := by
    rw [ev, eg]
    simp
  have HT := Lib.hid h
  have H1 := Lib.hid (h.below hb)
  have HB := Lib.hid hb
  have HV := Lib.hid (And.intro ev (And.intro eg hs))
  have HL := Lib.hid hl
  have HC := Lib.hid (fun wz (hz : Below v1.heap.size v1 wz) => show wz.cell? ⟨g, 0, none⟩ = some (.int .i64 x.id.1) ∧ wz.cell? ⟨g, 1, none⟩ = some (.int .i64 x.id.2) ∧ wz.cell? ⟨g, 2, none⟩ = some (.int .i64 x.par.1) ∧ wz.cell? ⟨g, 3, none⟩ = some (.int .i64 x.par.2) ∧ wz.cell? ⟨g, 4, none⟩ = some (.bool x.right) ∧ wz.cell? ⟨g, 5, none⟩ = some (.int .i32 x.rune) ∧ TreeH wz T M ad L G from by
    have hg : g < v1.heap.size := by omega
    obtain ⟨q0, q1, q2, q3, q4, q5⟩ := hq
    exact ⟨(hz.cell (p := ⟨g, 0, none⟩) hg).trans q0, (hz.cell (p := ⟨g, 1, none⟩) hg).trans q1, (hz.cell (p := ⟨g, 2, none⟩) hg).trans q2, (hz.cell (p := ⟨g, 3, none⟩) hg).trans q3, (hz.cell (p := ⟨g, 4, none⟩) hg).trans q4, (hz.cell (p := ⟨g, 5, none⟩) hg).trans q5, (h.below hb).below hz⟩)
  obtain ⟨q0, q1, q2, q3, q4, q5⟩ := hq
  clear hb hs ev eg h hl
  go_enter Try.func33, Try.ntmps33
  go_upto_region 1 with fail
  rw [← HV.out.1, ← HV.out.2.1]
  go_upto_region 3 with (go_at_call 55; refine (beginning_any H1.out).mono ?_; rintro e w' ⟨rfl, hw⟩; rw [hw]; clear hw w')
  by_cases hr : rightB x = false
  · have HD := Lib.hid (show addR L x = (L, 1) by unfold addR; rw [if_pos hr])
    have HR := Lib.hid hr
    clear hr
    go_wp2_with (go_at_call 56; refine (may_any x v1).mono ?_; rintro e v2 ⟨rfl, hb2⟩; rw [HR.out]; have HB2 := Lib.hid (HB.out.trans (hb2.mono HB.out.size)); clear hb2)
    go_ret
    rw [HD.out]
    exact ⟨rfl, ad, HT.out.below HB2.out, fun k hk => .inl hk, OutF.of HB2.out⟩
  have HR := Lib.hid (show rightB x = true by cases h : rightB x <;> simp_all)
  clear hr
  go_upto_region 5 with (go_at_call 56; refine (may_any x v1).mono ?_; rintro e v2 ⟨rfl, hb2⟩; rw [HR.out]; have HB2 := Lib.hid hb2; clear hb2)
  obtain ⟨p0, p1, p2, p3, p4, p5, _⟩ := HC.out v2 HB2.out
  clear q0 q1 q2 q3 q4 q5
  by_cases hh : hasB L x.id = true
  · have HD := Lib.hid (show addR L x = (L, 12) by unfold addR; rw [if_neg (by rw [HR.out]; decide), if_pos hh])
    have HF := Lib.hid hh
    clear hh
    go_wp2_with (go_at_call 57; refine (has_any (HC.out v2 HB2.out).2.2.2.2.2.2 x.id).mono ?_; rintro e v3 ⟨rfl, hb3⟩; rw [HF.out]; have HB3 := Lib.hid (HB.out.trans ((HB2.out.trans (hb3.mono HB2.out.size)).mono HB.out.size)); clear hb3)
    go_ret
    rw [HD.out]
    exact ⟨rfl, ad, HT.out.below HB3.out, fun k hk => .inl hk, OutF.of HB3.out⟩
  have HF := Lib.hid (show hasB L x.id = false by cases h : hasB L x.id <;> simp_all)
  clear hh
  go_upto_region 7 with (go_at_call 57; refine (has_any (HC.out v2 HB2.out).2.2.2.2.2.2 x.id).mono ?_; rintro e v3 ⟨rfl, hb3⟩; rw [HF.out]; have HB3 := Lib.hid (HB2.out.trans (hb3.mono HB2.out.size)); clear hb3)
  clear p0 p1 p2 p3 p4 p5
  obtain ⟨q, eq⟩ : ∃ q, q = ptL ad L x.par := ⟨_, rfl⟩
  have HQ := Lib.hid eq
  clear eq
  have HS := Lib.hid (fun wz (hz : Below v3.heap.size v3 wz) => show wz.cell? ⟨T, 0, none⟩ = some (.map (some M)) ∧ wz.cell? ⟨g, 0, none⟩ = some (.int .i64 x.id.1) ∧ wz.cell? ⟨g, 1, none⟩ = some (.int .i64 x.id.2) ∧ wz.cell? ⟨g, 2, none⟩ = some (.int .i64 x.par.1) ∧ wz.cell? ⟨g, 3, none⟩ = some (.int .i64 x.par.2) ∧ wz.cell? ⟨g, 4, none⟩ = some (.bool x.right) ∧ wz.cell? ⟨g, 5, none⟩ = some (.int .i32 x.rune) ∧ (Instr.lookup 111 (.map (some M)) (idV x.par) false).run Try.prog wz = .ok q wz ∧ True from by
    obtain ⟨p0, p1, p2, p3, p4, p5, ht⟩ := HC.out wz (HB3.out.trans (hz.mono HB3.out.size))
    have hk := ht.look x.par
    rw [← HQ.out] at hk
    exact ⟨ht.cells.1, p0, p1, p2, p3, p4, p5, hk, trivial⟩)
  refine wp_region_inv 7 [17, 18, 19, 20, 21, 22, 23] [.val (.pointer (some ⟨T, 0, none⟩)), .val (.pointer (some ⟨T, 0, none⟩)), .val (.pointer (some ⟨T, 0, none⟩)), .val (.map (some M)), .val (.pointer (some ⟨g, 2, none⟩)), .val (.agg #[.int .i64 x.par.1, .int .i64 x.par.2]), .val (q)] (fun wz => Below v3.heap.size v3 wz) (by kernel_rfl) (by kernel_rfl) (fun wz wz' hz hb => hz.trans (hb.mono hz.size)) ((Below.refl _ _).drew) (fun u => by simp only [puts, List.foldl_cons, List.foldl_nil]; go_simp; exact rfl) ?_ ?_
  · simp only [List.take_succ_cons, List.take_zero]
    refine Obs.cons (fun u w hS hd => ?_) ?_
    · exact Gv.run (.pointer (some ⟨T, 0, none⟩)) rfl (by go_simp) rfl
    refine Obs.cons (fun u w hS hd => ?_) ?_
    · have d17 : u 17 = .pointer (some ⟨T, 0, none⟩) := dep hd 0 rfl
      rw [d17]
      exact Gv.run (.pointer (some ⟨T, 0, none⟩)) rfl (by go_simp) rfl
    refine Obs.cons (fun u w hS hd => ?_) ?_
    · have d18 : u 18 = .pointer (some ⟨T, 0, none⟩) := dep hd 1 rfl
      rw [d18]
      exact Gv.run (.pointer (some ⟨T, 0, none⟩)) rfl (by go_simp) rfl
    refine Obs.cons (fun u w hS hd => ?_) ?_
    · have d19 : u 19 = .pointer (some ⟨T, 0, none⟩) := dep hd 2 rfl
      rw [d19]
      exact Gv.run (.map (some M)) rfl (by obtain ⟨k0, k1, k2, k3, k4, k5, k6, k7, k8⟩ := HS.out w hS; go_simp) rfl
    refine Obs.cons (fun u w hS hd => ?_) ?_
    · exact Gv.run (.pointer (some ⟨g, 2, none⟩)) rfl (by go_simp) rfl
    refine Obs.cons (fun u w hS hd => ?_) ?_
    · have d21 : u 21 = .pointer (some ⟨g, 2, none⟩) := dep hd 4 rfl
      rw [d21]
      exact Gv.run (.agg #[.int .i64 x.par.1, .int .i64 x.par.2]) rfl (by obtain ⟨k0, k1, k2, k3, k4, k5, k6, k7, k8⟩ := HS.out w hS; go_simp) rfl
    refine Obs.cons (fun u w hS hd => ?_) ?_
    · have d20 : u 20 = .map (some M) := dep hd 3 rfl
      have d22 : u 22 = .agg #[.int .i64 x.par.1, .int .i64 x.par.2] := dep hd 5 rfl
      rw [d20, d22]
      exact Gv.run (q) rfl (by obtain ⟨k0, k1, k2, k3, k4, k5, k6, k7, k8⟩ := HS.out w hS; go_simp) rfl
    exact Obs.nil
  intro u v4 hS hd
  have d23 : u 23 = q := hd 6 (by decide)
  rw [d23]
  simp only [List.drop_succ_cons, List.drop_zero]
  have HB4 := Lib.hid (HB3.out.trans (hS.mono HB3.out.size))
  clear hS hd d23 HS
  obtain ⟨p0, p1, p2, p3, p4, p5, ht⟩ := HC.out v4 HB4.out
  have HH4 := Lib.hid ht
  by_cases hpar : x.par ≠ (0, 0) ∧ hasB L x.par = false
  · have HD := Lib.hid (show addR L x = (L, 13) by unfold addR; rw [if_neg (by rw [HR.out]; decide), if_neg (by rw [HF.out]; decide), if_pos hpar])
    have hqn : q = .pointer none := by
      rw [HQ.out]
      unfold ptL
      rw [if_neg (fun h => by rcases h with h | h; exact hpar.1 h; rw [hpar.2] at h; cases h)]
    subst hqn
    clear hpar ht
    go_wp2_with fail
    go_ret
    rw [HD.out]
    have hbb := HB.out.trans (HB4.out.mono HB.out.size)
    exact ⟨rfl, ad, HT.out.below hbb, fun k hk => .inl hk, OutF.of hbb⟩
  have hpar' : x.par = (0, 0) ∨ hasB L x.par = true := by
    by_cases h1 : x.par = (0, 0)
    · exact .inl h1
    · exact .inr (by cases h2 : hasB L x.par with | true => rfl | false => exact absurd ⟨h1, h2⟩ hpar)
  have hqs : q = pB (ad x.par) := by rw [HQ.out]; unfold ptL; rw [if_pos hpar']
  have HP := Lib.hid (And.intro hpar hpar')
  clear hpar hpar'
  obtain ⟨bp, ebp⟩ : ∃ b, b = ad x.par := ⟨_, rfl⟩
  rw [← ebp] at hqs
  subst hqs
  have HBP := Lib.hid ebp
  clear ebp
  obtain ⟨ps, clk, hm, hps, hlen⟩ := ht.map
  have hml := map_len hm
  have c0 := ht.cells.1
  have hlt := HL.out
  obtain ⟨m, em⟩ : ∃ m, m = ps.length := ⟨_, rfl⟩
  have hm1 : m ≤ 4097 ∧ 1 ≤ m := by omega
  rw [← em] at hml
  have HM := Lib.hid (And.intro hm (And.intro hps (And.intro hlen em)))
  clear hm hps hlen em ht hlt
  by_cases hfull : m = 4097
  · have HD := Lib.hid (show addR L x = (L, 14) by
      have : L.length = 4096 := by have := HM.out.2.2.1; have := HM.out.2.2.2; omega
      unfold addR
      rw [if_neg (by rw [HR.out]; decide), if_neg (by rw [HF.out]; decide), if_neg HP.out.1, if_pos this])
    subst hfull
    clear hm1
    go_wp2_with fail
    go_ret
    rw [HD.out]
    have hbb := HB.out.trans (HB4.out.mono HB.out.size)
    exact ⟨rfl, ad, HT.out.below hbb, fun k hk => .inl hk, OutF.of hbb⟩
  have HD := Lib.hid (show addR L x = (L ++ [x], 0) by
    have : ¬ L.length = 4096 := by have := HM.out.2.2.1; have := HM.out.2.2.2; omega
    unfold addR
    rw [if_neg (by rw [HR.out]; decide), if_neg (by rw [HF.out]; decide), if_neg HP.out.1, if_neg this])
  have hm2 : m ≤ 4096 := by omega
  clear hm1 hfull
  go_upto_region 13 with fail
  obtain ⟨v5, ev5⟩ : ∃ v, v = v4.alloc (.cells #[.int .i64 x.id.1, .int .i64 x.id.2, .int .i32 x.rune, .bool false, .pointer (some ⟨bp, 0, none⟩), .bool x.right, .pointer none, .pointer none, .pointer none] 106) := ⟨_, rfl⟩
  obtain ⟨be, ebe⟩ : ∃ b, b = v4.heap.size := ⟨_, rfl⟩
  rw [← ev5, ← ebe]
  have hb5 : Below v4.heap.size v4 v5 := by rw [ev5]; exact (Below.refl _ _).alloc (Nat.le_refl _) _
  have hpp : x.par = (0, 0) ∨ hasL L x.par := HP.out.2.imp id (fun h => hasB_iff.1 h)
  have hin : ∀ k, inT T M ad L k → k < w.heap.size := fun k hk => HT.out.lt hk
  have hw4 : w.heap.size ≤ v4.heap.size := Nat.le_trans HB.out.size HB4.out.size
  have hhang := ((HH4.out.below hb5).hangs (x := x) hpp (be := be) (fun k hk => by have := hin k hk; omega) (by rw [ev5, ebe, ← HBP.out]; exact (MapKept.heap_alloc v4 _).1))
  have hce := hang_any hhang
  have H5 := Lib.hid (And.intro ev5 (And.intro ebe (And.intro hb5 (And.intro hpp (And.intro hin hw4)))))
  clear ev5 ebe hb5 hpp hin hw4 hhang c0 hml p0 p1 p2 p3 p4 p5
  go_upto_region 14 with (go_at_call 58; refine hce.mono ?_; rintro e v6 ⟨⟨vr, rfl⟩, A, B, w1, hk, hA, hB, hb1, e6⟩; have H6 := Lib.hid (And.intro hk (And.intro hA (And.intro hB (And.intro hb1 e6)))); clear hk hA hB hb1 e6 hce)
  rw [← HBP.out] at H6
  obtain ⟨pl, epl⟩ : ∃ q, q = placeOf ad bp x.right A := ⟨_, rfl⟩
  have h5 := H5.out
  have h6 := H6.out
  obtain ⟨np, hnp, hnb⟩ := place_in (ad := ad) (x := x) h5.2.2.2.1 h6.1
  rw [← HBP.out, ← epl] at hnb
  rw [← epl] at h6
  have hnn := HT.out.at_ hnp
  rw [← hnb] at hnn
  have hplt : pl.block < w.heap.size := h5.2.2.2.2.1 _ hnn.1
  have hbig : w.heap.size ≤ be := by rw [h5.2.1]; exact h5.2.2.2.2.2
  have hs5 : v5.heap.size = be + 1 := by rw [h5.1, h5.2.1]; simp
  have hs1 : be + 1 ≤ w1.heap.size := by have := h6.2.2.2.1.size; omega
  have hoth : ∀ k, k < be → k ≠ pl.block → v6.heap[k]? = v4.heap[k]? := fun k h1 h2 => by
    rw [h6.2.2.2.2, Below.heap_setCell _ pl _ _ h2, set_other _ _ (show k ≠ be by omega), h6.2.2.2.1.block k (by omega), h5.2.2.1.block k (by omega)]
  have hpb : v6.heap[pl.block]? = (v4.setCell pl (pB be)).heap[pl.block]? := by
    rw [h6.2.2.2.2]
    refine set_congr ?_ _ _
    rw [set_other _ _ (show pl.block ≠ be by omega), h6.2.2.2.1.block _ (by omega), h5.2.2.1.block _ (by omega)]
  have hebe : v6.heap[be]? = some (elC x.id x.rune false (pB bp) x.right (ptO ad B.head?) (.pointer none) (.pointer none)) := by
    have h0 : w1.heap[be]? = some (elC x.id x.rune false (pB bp) x.right (.pointer none) (.pointer none) (.pointer none)) := by
      rw [h6.2.2.2.1.block _ (by omega), h5.1, h5.2.1]
      exact (MapKept.heap_alloc v4 _).1
    rw [h6.2.2.2.2, Below.heap_setCell _ pl _ _ (show be ≠ pl.block by omega), set_block h0 6]
    rfl
  have hs6 : v6.heap.size = w1.heap.size := by rw [h6.2.2.2.2, set_size, set_size]
  have hTl : T < be := Nat.lt_of_lt_of_le (h5.2.2.2.2.1 T (.inl rfl)) hbig
  have hMl : M < be := Nat.lt_of_lt_of_le (h5.2.2.2.2.1 M (.inr (.inl rfl))) hbig
  have htree6 : v6.heap[T]? = some (.cells #[.map (some M), .int .i64 ((liveL G L).length : Int)] 113) := (hoth T hTl (fun e => hnn.2.1 e.symm)).trans HH4.out.tree
  have hgl : g < be ∧ g ≠ pl.block := by have := HV.out.2.1; have := HV.out.2.2; have := HB4.out.size; have := h5.2.1; omega
  have hg6 := hoth g hgl.1 hgl.2
  obtain ⟨p0, p1, _⟩ := HC.out v4 HB4.out
  have hq0 : v6.cell? ⟨g, 0, none⟩ = some (.int .i64 x.id.1) := (World.cell?_of_block hg6).trans p0
  have hq1 : v6.cell? ⟨g, 1, none⟩ = some (.int .i64 x.id.2) := (World.cell?_of_block hg6).trans p1
  have hM6 : MapIs v6 M ad ps clk := HM.out.1.keep (hoth M hMl (fun e => hnn.2.2 e.symm))
  have HS := Lib.hid (fun wz (hz : Below v6.heap.size v6 wz) => show wz.cell? ⟨T, 0, none⟩ = some (.map (some M)) ∧ wz.cell? ⟨g, 0, none⟩ = some (.int .i64 x.id.1) ∧ wz.cell? ⟨g, 1, none⟩ = some (.int .i64 x.id.2) from
    ⟨(hz.cell (p := ⟨T, 0, none⟩) (show T < v6.heap.size by omega)).trans (by simp [World.cell?, htree6]), (hz.cell (p := ⟨g, 0, none⟩) (show g < v6.heap.size by omega)).trans hq0, (hz.cell (p := ⟨g, 1, none⟩) (show g < v6.heap.size by omega)).trans hq1⟩)
  have H7 := Lib.hid (And.intro hoth (And.intro hpb (And.intro hebe (And.intro htree6 (And.intro hM6 (And.intro hs6 (And.intro hTl hMl)))))))
  have H8 := Lib.hid (And.intro epl (And.intro hnn (And.intro hplt (And.intro hbig (And.intro hs5 hs1)))))
  clear h5 h6 hnp hnb hnn hplt hbig hs5 hs1 hoth hpb hebe hs6 hTl hMl htree6 hgl hg6 p0 p1 hq0 hq1 hM6 epl
  refine wp_region_inv 7 [45, 46, 47, 48, 49, 50, 51] [.val (.pointer (some ⟨T, 0, none⟩)), .val (.pointer (some ⟨T, 0, none⟩)), .val (.pointer (some ⟨T, 0, none⟩)), .val (.map (some M)), .val (.pointer (some ⟨g, 0, none⟩)), .val (.agg #[.int .i64 x.id.1, .int .i64 x.id.2]), .val (.pointer (some ⟨be, 0, none⟩))] (fun wz => Below v6.heap.size v6 wz) (by kernel_rfl) (by kernel_rfl) (fun wz wz' hz hb => hz.trans (hb.mono hz.size)) ((Below.refl _ _).drew) (fun u => by simp only [puts, List.foldl_cons, List.foldl_nil]; go_simp; exact rfl) ?_ ?_
  · simp only [List.take_succ_cons, List.take_zero]
    refine Obs.cons (fun u w hS hd => ?_) ?_
    · exact Gv.run (.pointer (some ⟨T, 0, none⟩)) rfl (by go_simp) rfl
    refine Obs.cons (fun u w hS hd => ?_) ?_
    · have d45 : u 45 = .pointer (some ⟨T, 0, none⟩) := dep hd 0 rfl
      rw [d45]
      exact Gv.run (.pointer (some ⟨T, 0, none⟩)) rfl (by go_simp) rfl
    refine Obs.cons (fun u w hS hd => ?_) ?_
    · have d46 : u 46 = .pointer (some ⟨T, 0, none⟩) := dep hd 1 rfl
      rw [d46]
      exact Gv.run (.pointer (some ⟨T, 0, none⟩)) rfl (by go_simp) rfl
    refine Obs.cons (fun u w hS hd => ?_) ?_
    · have d47 : u 47 = .pointer (some ⟨T, 0, none⟩) := dep hd 2 rfl
      rw [d47]
      exact Gv.run (.map (some M)) rfl (by obtain ⟨k0, k1, k2⟩ := HS.out w hS; go_simp) rfl
    refine Obs.cons (fun u w hS hd => ?_) ?_
    · exact Gv.run (.pointer (some ⟨g, 0, none⟩)) rfl (by go_simp) rfl
    refine Obs.cons (fun u w hS hd => ?_) ?_
    · have d49 : u 49 = .pointer (some ⟨g, 0, none⟩) := dep hd 4 rfl
      rw [d49]
      exact Gv.run (.agg #[.int .i64 x.id.1, .int .i64 x.id.2]) rfl (by obtain ⟨k0, k1, k2⟩ := HS.out w hS; go_simp) rfl
    refine Obs.cons (fun u w hS hd => ?_) ?_
    · exact Gv.run (.pointer (some ⟨be, 0, none⟩)) rfl (by go_simp) rfl
    exact Obs.nil
  intro u v7 hS hd
  have d48 : u 48 = .map (some M) := hd 3 (by decide)
  have d50 : u 50 = .agg #[.int .i64 x.id.1, .int .i64 x.id.2] := hd 5 (by decide)
  have d51 : u 51 = .pointer (some ⟨be, 0, none⟩) := hd 6 (by decide)
  rw [d48, d50, d51]
  simp only [List.drop_succ_cons, List.drop_zero]
  have hxk : x.id ∉ ps.map Prod.fst := fun hi => by
    rcases (HM.out.2.1 x.id).1 hi with e | ⟨y, hy, e⟩
    · exact (right_fair x HR.out).1 e
    · have := hasB_iff.2 ⟨y, hy, e⟩
      rw [HF.out] at this
      cases this
  have h7 := H7.out
  have h8 := H8.out
  have hm7 : MapIs v7 M ad ps clk := h7.2.2.2.2.1.keep (hS.block M (lt_of_heap h7.2.2.2.2.1.here))
  have hst := store_run hm7 hxk be
  obtain ⟨v8, ev8⟩ : ∃ v, v = putB v7 M (.map ((ps ++ [(x.id, clk)]).map (entE (adSet ad x.id be))).toArray (clk + 1)) := ⟨_, rfl⟩
  rw [← ev8] at hst
  have hTM : T ≠ M := HT.out.apart.1
  have ht8 : v8.heap[T]? = some (.cells #[.map (some M), .int .i64 ((liveL G L).length : Int)] 113) := by
    rw [ev8, putB_other hTM, hS.block T (lt_of_heap h7.2.2.2.1)]
    exact h7.2.2.2.1
  have hnl : (liveL G L).length ≤ 4096 := Nat.le_trans (List.length_filter_le _ _) HL.out
  obtain ⟨nl, enl⟩ : ∃ n, n = (liveL G L).length := ⟨_, rfl⟩
  rw [← enl] at ht8 hnl
  have t1 : v8.cell? ⟨T, 1, none⟩ = some (.int .i64 (nl : Int)) := by simp [World.cell?, ht8]
  have ft := cells_free ht8 1
  have H9 := Lib.hid (And.intro ev8 (And.intro ht8 (And.intro enl (And.intro hS (And.intro hm7 hTM)))))
  clear h7 h8 hm7 ev8 ht8 hTM enl hS hd d48 d50 d51 HS hxk
  go_wp2_with fail
  go_ret
  rw [HD.out]
  have h5 := H5.out
  have h6 := H6.out
  have h7 := H7.out
  have h8 := H8.out
  have h9 := H9.out
  rw [← h8.1] at h6
  have hMlt : M < v7.heap.size := lt_of_heap h9.2.2.2.2.1.here
  have hx7 : ∀ k, k < v6.heap.size → k ≠ T → k ≠ M → (v8.setCell ⟨T, 1, none⟩ (.int .i64 ((nl : Int) + 1))).heap[k]? = v6.heap[k]? := fun k h1 h2 h3 => by
    rw [set_other _ _ h2, h9.1, putB_other h3, h9.2.2.2.1.block k h1]
  have hv64 : be < v6.heap.size := by rw [h7.2.2.2.2.2.1]; omega
  refine ⟨rfl, adSet ad x.id be, HH4.out.added (fun y hy e => ?_) (right_fair x HR.out).1 ?_ h6.1 h6.2.1 h6.2.2.1 (clk := clk) HM.out.1 HM.out.2.1 HM.out.2.2.1 ?_ ?_ ?_ (fun k h1 h2 h3 => ?_), fun k hk => ?_, ?_⟩
  · have := hasB_iff.2 ⟨y, hy, e⟩
    rw [HF.out] at this
    cases this
  · exact h5.2.2.2.1.imp (fun e => ⟨e, (right_fair x HR.out).2 e⟩) id
  · rw [set_block h9.2.1 1, h9.2.2.1]
    rfl
  · rw [set_other _ _ (fun e => h9.2.2.2.2.2 e.symm), h9.1]
    exact putB_same hMlt
  · rw [hx7 be hv64 (fun e => by have := h7.2.2.2.2.2.2.1; omega) (fun e => by have := h7.2.2.2.2.2.2.2; omega), h7.2.2.1, HBP.out]
  · rw [hx7 k (by have := h5.2.1; omega) h2 h3, ← HBP.out, ← h8.1]
    by_cases e : k = pl.block
    · rw [e]
      exact h7.2.1
    · rw [h7.1 k (by have := h5.2.1; omega) e, Below.heap_setCell _ pl _ _ e]
  · rcases hk with e | e | e | ⟨y, hy, e⟩
    · exact .inl (.inl e)
    · exact .inl (.inr (.inl e))
    · rw [adSet_other (fun e0 => (right_fair x HR.out).1 e0.symm)] at e
      exact .inl (.inr (.inr (.inl e)))
    · rcases List.mem_append.1 hy with h1 | h1
      · rw [adSet_other (fun e0 => by have := hasB_iff.2 ⟨y, h1, e0⟩; rw [HF.out] at this; cases this)] at e
        exact .inl (.inr (.inr (.inr ⟨y, h1, e⟩)))
      · rw [List.mem_singleton.1 h1, adSet_same] at e
        exact .inr (by rw [e]; exact h8.2.2.2.1)
  · have hbw := HB.out.trans (HB4.out.mono HB.out.size)
    have e8 : v8.os = v7.os ∧ v8.tape = v7.tape ∧ v8.output = v7.output ∧ v8.heap.size = v7.heap.size := by rw [h9.1]; exact ⟨rfl, rfl, rfl, putB_size⟩
    have e6 : v6.os = w1.os ∧ v6.tape = w1.tape ∧ v6.output = w1.output := by rw [h6.2.2.2.2]; exact ⟨rfl, rfl, rfl⟩
    refine ⟨?_, ?_, ?_, ?_, fun k hk hn => ?_⟩
    · exact (((((show (v8.setCell ⟨T, 1, none⟩ (.int .i64 ((nl : Int) + 1))).os = v8.os from rfl).trans e8.1).trans h9.2.2.2.1.os).trans e6.1).trans h6.2.2.2.1.os).trans (h5.2.2.1.os.trans hbw.os)
    · exact (((((show (v8.setCell ⟨T, 1, none⟩ (.int .i64 ((nl : Int) + 1))).tape = v8.tape from rfl).trans e8.2.1).trans h9.2.2.2.1.tape).trans e6.2.1).trans h6.2.2.2.1.tape).trans (h5.2.2.1.tape.trans hbw.tape)
    · exact (((((show (v8.setCell ⟨T, 1, none⟩ (.int .i64 ((nl : Int) + 1))).output = v8.output from rfl).trans e8.2.2.1).trans h9.2.2.2.1.output).trans e6.2.2).trans h6.2.2.2.1.output).trans (h5.2.2.1.output.trans hbw.output)
    · rw [set_size, e8.2.2.2]
      have := h9.2.2.2.1.size
      have := h8.2.2.2.1
      omega
    · rw [hx7 k (by have := h8.2.2.2.1; omega) (fun e => hn (.inl e)) (fun e => hn (.inr (.inl e))), h7.1 k (by have := h8.2.2.2.1; omega) (fun e => hn (by rw [e]; exact h8.2.1.1))]
      exact hbw.block k hk
end Go.Proofs.Ytpjeggbkhbghaaa
