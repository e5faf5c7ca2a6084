/-
  Layer 15, the landed code: what an element that is hung turns in memory. By an AI agent.
-/
import Derived.Test.YtljciakgdpihdaaFu7
namespace Go.Proofs.Ytljciakgdpihdaa
open Go Go.RowKit
set_option maxRecDepth 20000
section
variable {ad : IDt → Nat} {L A B : List Ins} {x : Ins} {be : Nat}
theorem ptO_set {o : Option Ins} (h : ∀ y, o = some y → y.id ≠ x.id) : ptO (adSet ad x.id be) o = ptO ad o := by
  cases o with
  | none => rfl
  | some y =>
    show pB (adSet ad x.id be y.id) = pB (ad y.id)
    rw [adSet_other (h y rfl)]
theorem kids_new (hk : kidsL L x.par x.right = A ++ B) (hA : ∀ y ∈ A, idLt y.id x.id = true) (hB : ∀ y ∈ B, idLt y.id x.id = false) {n : IDt} {s : Bool} (hh : hangs n s x = true) : kidsL (L ++ [x]) n s = A ++ x :: B := by
  obtain ⟨h1, h2⟩ := hangs_iff.1 hh
  rw [kidsL_snoc, if_pos hh, ← h1, ← h2, hk, insK_cut hA hB]
theorem kids_old {n : IDt} {s : Bool} (hh : ¬ hangs n s x = true) : kidsL (L ++ [x]) n s = kidsL L n s := by rw [kidsL_snoc, if_neg hh]
theorem place_none (bp : Nat) (s : Bool) (hA : A = []) : placeOf ad bp s A = ⟨bp, if s then 8 else 7, none⟩ := by subst hA; rfl
theorem place_head (hinj : ∀ i j, (i = (0, 0) ∨ hasL L i) → (j = (0, 0) ∨ hasL L j) → ad i = ad j → i = j) (hp : x.par = (0, 0) ∨ hasL L x.par) (hn : ∀ y ∈ L, y.id ≠ x.id)
    (hk : kidsL L x.par x.right = A ++ B) (hA : ∀ y ∈ A, idLt y.id x.id = true) (hB : ∀ y ∈ B, idLt y.id x.id = false) {n : IDt} (hnn : n = (0, 0) ∨ hasL L n) (s : Bool) :
    ptO (adSet ad x.id be) (kidsL (L ++ [x]) n s).head? = if placeOf ad (ad x.par) x.right A = ⟨ad n, if s then 8 else 7, none⟩ then pB be else ptO ad (kidsL L n s).head? := by
  have hold : ∀ m t, ∀ y, (kidsL L m t).head? = some y → y.id ≠ x.id := fun m t y hy => hn y ((mem_kids m t).1 (List.mem_of_mem_head? hy)).1
  by_cases hh : hangs n s x = true
  · obtain ⟨h1, h2⟩ := hangs_iff.1 hh
    rw [kids_new hk hA hB hh]
    cases hAe : A with
    | nil =>
      rw [place_none _ _ rfl, h1, h2, if_pos rfl]
      show pB (adSet ad x.id be x.id) = pB be
      rw [adSet_same]
    | cons z A' =>
      have hne : ¬ placeOf ad (ad x.par) x.right (z :: A') = ⟨ad n, if s then 8 else 7, none⟩ := by
        unfold placeOf
        rw [List.getLast?_cons]
        intro e
        simp only [Addr.mk.injEq] at e
        have := e.2.1
        cases s <;> simp at this
      rw [if_neg hne]
      have hk2 : (kidsL L n s).head? = some z := by rw [← h1, ← h2, hk, hAe]; rfl
      rw [hk2]
      exact ptO_set fun y hy => hold n s y (by rw [hk2]; exact hy)
  · rw [kids_old hh, ptO_set (hold n s)]
    have hne : ¬ placeOf ad (ad x.par) x.right A = ⟨ad n, if s then 8 else 7, none⟩ := by
      intro e
      cases hAe : A.getLast? with
      | none =>
        have : A = [] := by simpa using hAe
        rw [place_none _ _ this] at e
        simp only [Addr.mk.injEq, and_true] at e
        refine hh (hangs_iff.2 ⟨hinj _ _ hp hnn e.1, ?_⟩)
        have h2 := e.2
        cases hs : s <;> cases hx : x.right <;> simp_all
      | some z =>
        unfold placeOf at e
        rw [hAe] at e
        simp only [Addr.mk.injEq, and_true] at e
        have h2 := e.2
        cases s <;> simp at h2
    rw [if_neg hne]
theorem place_next (hd : Distinct L) (hinj : ∀ i j, (i = (0, 0) ∨ hasL L i) → (j = (0, 0) ∨ hasL L j) → ad i = ad j → i = j) (hn : ∀ y ∈ L, y.id ≠ x.id)
    (hk : kidsL L x.par x.right = A ++ B) (hA : ∀ y ∈ A, idLt y.id x.id = true) (hB : ∀ y ∈ B, idLt y.id x.id = false) {y : Ins} (hy : y ∈ L) :
    ptO (adSet ad x.id be) (nextIn (kidsL (L ++ [x]) y.par y.right) y.id) = if placeOf ad (ad x.par) x.right A = ⟨ad y.id, 6, none⟩ then pB be else ptO ad (nextIn (kidsL L y.par y.right) y.id) := by
  have hmem : ∀ z ∈ A ++ B, z ∈ L := fun z hz => ((mem_kids x.par x.right).1 (by rw [hk]; exact hz)).1
  have hnx : ∀ (K : List Ins) i z, (∀ u ∈ K, u ∈ L) → nextIn K i = some z → z.id ≠ x.id := by
    intro K
    induction K with
    | nil => intro i z _ h; cases h
    | cons u K ih =>
      intro i z hK h
      unfold nextIn at h
      split at h
      · exact hn z (hK z (List.mem_cons.2 (.inr (List.mem_of_mem_head? h))))
      · exact ih i z (fun v hv => hK v (List.mem_cons.2 (.inr hv))) h
  have hsub : ∀ m t, ∀ u ∈ kidsL L m t, u ∈ L := fun m t u hu => ((mem_kids m t).1 hu).1
  have hds : Distinct (A ++ B) := by rw [← hk]; exact sorted_distinct (kids_sorted _ _ hd)
  by_cases hh : hangs y.par y.right x = true
  · obtain ⟨h1, h2⟩ := hangs_iff.1 hh
    have hk2 : kidsL L y.par y.right = A ++ B := by rw [← h1, ← h2, hk]
    have hyk : y ∈ A ++ B := by rw [← hk2]; exact (mem_kids _ _).2 ⟨hy, hangs_iff.2 ⟨rfl, rfl⟩⟩
    rw [kids_new hk hA hB hh, hk2]
    cases hAe : A.getLast? with
    | none =>
      have eA : A = [] := by simpa using hAe
      have hne : ¬ placeOf ad (ad x.par) x.right A = ⟨ad y.id, 6, none⟩ := by
        rw [place_none _ _ eA]
        intro e
        simp only [Addr.mk.injEq, and_true] at e
        have h2 := e.2
        cases hx : x.right <;> simp [hx] at h2
      rw [if_neg hne]
      subst eA
      have e1 : nextIn ([] ++ x :: B) y.id = nextIn B y.id := if_neg fun e => hn y hy e.symm
      rw [e1]
      exact ptO_set fun z hz => hnx B y.id z (fun u hu => hmem u (by simpa using hu)) hz
    | some z =>
      obtain ⟨A', eA⟩ := List.getLast?_eq_some_iff.1 hAe
      have hpl : placeOf ad (ad x.par) x.right A = ⟨ad z.id, 6, none⟩ := by unfold placeOf; rw [hAe]
      have hzL : z ∈ L := hmem z (by rw [eA]; simp)
      rw [hpl]
      by_cases hyz : y = z
      · subst hyz
        rw [if_pos rfl, eA, List.append_assoc, List.singleton_append]
        rw [eA, List.append_assoc, List.singleton_append] at hds
        rw [nextIn_at (distinct_mid hds).1]
        show pB (adSet ad x.id be x.id) = pB be
        rw [adSet_same]
      · have hid : y.id ≠ z.id := fun e => hyz (hd.eq hy hzL e)
        have hne : ¬ (⟨ad z.id, 6, none⟩ : Addr) = ⟨ad y.id, 6, none⟩ := by
          intro e
          simp only [Addr.mk.injEq, and_true] at e
          exact hid (hinj _ _ (.inr ⟨y, hy, rfl⟩) (.inr ⟨z, hzL, rfl⟩) e.symm)
        rw [if_neg hne]
        have e1 : nextIn (A ++ x :: B) y.id = nextIn (A ++ B) y.id := by
          rcases List.mem_append.1 hyk with h3 | h3
          · exact nextIn_out ⟨y, h3, rfl⟩ (by rw [hAe]; exact fun e => hid (Option.some.inj e).symm)
          · have hnA : ∀ u ∈ A, u.id ≠ y.id := fun u hu e => (List.pairwise_append.1 hds).2.2 u hu y h3 e
            rw [nextIn_in hnA, nextIn_in hnA]
            exact if_neg fun e => hn y hy e.symm
        rw [e1]
        exact ptO_set fun u hu => hnx _ y.id u hmem hu
  · have hne : ¬ placeOf ad (ad x.par) x.right A = ⟨ad y.id, 6, none⟩ := by
      intro e
      cases hAe : A.getLast? with
      | none =>
        have eA : A = [] := by simpa using hAe
        rw [place_none _ _ eA] at e
        simp only [Addr.mk.injEq, and_true] at e
        have h2 := e.2
        cases hx : x.right <;> simp [hx] at h2
      | some z =>
        unfold placeOf at e
        rw [hAe] at e
        simp only [Addr.mk.injEq, and_true] at e
        have hz : z ∈ A ++ B := by
          obtain ⟨A', eA⟩ := List.getLast?_eq_some_iff.1 hAe
          rw [eA]
          simp
        have hzL := hmem z hz
        have : z = y := hd.eq hzL hy (hinj _ _ (.inr ⟨z, hzL, rfl⟩) (.inr ⟨y, hy, rfl⟩) e)
        subst this
        have h3 := (mem_kids x.par x.right).1 (show z ∈ kidsL L x.par x.right by rw [hk]; exact hz)
        exact hh (hangs_iff.2 ⟨(hangs_iff.1 h3.2).1.symm, (hangs_iff.1 h3.2).2.symm⟩)
    rw [if_neg hne, kids_old hh]
    exact ptO_set fun z hz => hnx _ y.id z (hsub _ _) hz
end
/-- A block of an element, a pointer laid into it or not. -/
theorem el_turn {w w' : World} {b : Nat} {pl : Addr} {v : Value} {i : IDt} {r : Int} {g : Bool} {pa nx lf rg : Value} {rt : Bool} (h : w.heap[b]? = some (elC i r g pa rt nx lf rg)) (hs : pl.spot = none) (h6 : pl.off = 6 ∨ pl.off = 7 ∨ pl.off = 8)
    (hw : w'.heap[b]? = (w.setCell pl v).heap[b]?) :
    w'.heap[b]? = some (elC i r g pa rt (if pl = ⟨b, 6, none⟩ then v else nx) (if pl = ⟨b, 7, none⟩ then v else lf) (if pl = ⟨b, 8, none⟩ then v else rg)) := by
  obtain ⟨pb, po, sp⟩ := pl
  replace hs : sp = none := hs
  subst hs
  replace h6 : po = 6 ∨ po = 7 ∨ po = 8 := h6
  rw [hw]
  by_cases e : pb = b
  · subst e
    rw [set_block h po v]
    rcases h6 with rfl | rfl | rfl <;> simp
  · rw [set_other w v (fun e2 => e e2.symm), h]
    simp
end Go.Proofs.Ytljciakgdpihdaa
