/-
  Layer 16: what runs are: their texts are the text, none is empty, no two beside one another have one style. By an AI agent.
-/
import Derived.Test.YtpjeggbkhbghaaaMs3
import Derived.Test.YtpjeggbkhbghaaaTD
namespace Go.Proofs.Ytpjeggbkhbghaaa
open Go Go.RowKit
def catR (o : List Rn) : ByteArray := o.foldl (fun s r => s ++ r.text) ByteArray.empty
theorem catR_snoc (o : List Rn) (r : Rn) : catR (o ++ [r]) = catR o ++ r.text := by unfold catR; rw [List.foldl_append]; rfl
structure RunsOk (V : List (Int × Sty)) (o : List Rn) : Prop where
  cat : catR o = textV V
  full : ∀ r ∈ o, 0 < r.text.size
  sty : ∀ r ∈ o, r.sty ∈ V.map Prod.snd
  apart : ∀ (i : Nat) (a b : Rn), o[i]? = some a → o[i + 1]? = some b → a.sty ≠ b.sty
theorem enc_full (r : Int) : 0 < (Utf8.encode r).size := by
  unfold Utf8.encode
  simp only
  repeat' split
  all_goals exact Nat.zero_lt_succ _
theorem ba_assoc (a b c : ByteArray) : a ++ b ++ c = a ++ (b ++ c) := by
  apply ByteArray.ext
  simp [Array.append_assoc]
theorem runs_are : ∀ n (V : List (Int × Sty)), V.length = n → RunsOk V (runsV V)
  | 0, V, h => by
    rw [List.length_eq_zero_iff.1 h]
    exact ⟨rfl, fun r hr => (by cases hr), fun r hr => (by cases hr), fun i a b ha => by cases ha⟩
  | n + 1, V, h => by
    rcases snoc_cases V with rfl | ⟨W, x, rfl⟩
    · simp at h
    · have ih := runs_are n W (by simpa using h)
      rw [runsV_snoc]
      have hx : x.2 ∈ (W ++ [x]).map Prod.snd := by simp
      rcases snoc_cases (runsV W) with e | ⟨p, l, e⟩
      · rw [e] at ih ⊢
        rw [runS_nil]
        refine ⟨?_, fun r hr => ?_, fun r hr => ?_, fun i a b ha hb => ?_⟩
        · rw [textV_snoc, ← ih.cat]
          rfl
        · rw [List.mem_singleton] at hr
          rw [hr]
          exact enc_full x.1
        · rw [List.mem_singleton] at hr
          rw [hr]
          exact hx
        · have := (List.getElem?_eq_some_iff.1 hb).1
          simp at this
      · rw [e] at ih ⊢
        by_cases hs : l.sty = x.2
        · obtain ⟨T, s⟩ := l
          simp only at hs
          subst hs
          rw [runS_same]
          refine ⟨?_, fun r hr => ?_, fun r hr => ?_, fun i a b ha hb => ?_⟩
          · have h1 := ih.cat
            rw [catR_snoc] at h1
            rw [catR_snoc, textV_snoc, ← h1, ba_assoc]
          · rcases List.mem_append.1 hr with hr | hr
            · exact ih.full r (List.mem_append.2 (.inl hr))
            · rw [List.mem_singleton] at hr
              rw [hr]
              have := enc_full x.1
              show 0 < (T ++ Utf8.encode x.1).size
              rw [ByteArray.size_append]
              omega
          · rcases List.mem_append.1 hr with hr | hr
            · have := ih.sty r (List.mem_append.2 (.inl hr))
              rw [List.map_append]
              exact List.mem_append.2 (.inl this)
            · rw [List.mem_singleton] at hr
              rw [hr]
              exact hx
          · have hl : (p ++ [(⟨T ++ Utf8.encode x.1, x.2⟩ : Rn)]).length = p.length + 1 := by rw [List.length_append]; rfl
            have hi := (List.getElem?_eq_some_iff.1 hb).1
            rw [hl] at hi
            have ha' : (p ++ [(⟨T, x.2⟩ : Rn)])[i]? = some a := by rw [List.getElem?_append_left (by omega)] at ha ⊢; exact ha
            by_cases hj : i + 1 = p.length
            · have hb0 : b = ⟨T ++ Utf8.encode x.1, x.2⟩ := by
                rw [hj, List.getElem?_append_right (Nat.le_refl _), Nat.sub_self] at hb
                exact (Option.some.inj hb).symm
              have := ih.apart i a ⟨T, x.2⟩ ha' (by rw [hj, List.getElem?_append_right (Nat.le_refl _), Nat.sub_self]; rfl)
              rw [hb0]
              exact this
            · exact ih.apart i a b ha' (by rw [List.getElem?_append_left (by omega)] at hb ⊢; exact hb)
        · rw [runS_other _ _ _ hs]
          refine ⟨?_, fun r hr => ?_, fun r hr => ?_, fun i a b ha hb => ?_⟩
          · rw [catR_snoc, textV_snoc, ih.cat]
          · rcases List.mem_append.1 hr with hr | hr
            · exact ih.full r hr
            · rw [List.mem_singleton] at hr
              rw [hr]
              exact enc_full x.1
          · rcases List.mem_append.1 hr with hr | hr
            · have := ih.sty r hr
              rw [List.map_append]
              exact List.mem_append.2 (.inl this)
            · rw [List.mem_singleton] at hr
              rw [hr]
              exact hx
          · have hl : (p ++ [l]).length = p.length + 1 := by rw [List.length_append]; rfl
            have hi := (List.getElem?_eq_some_iff.1 hb).1
            rw [List.length_append, hl] at hi
            simp only [List.length_singleton] at hi
            by_cases hj : i + 1 = p.length + 1
            · have hi2 : i = p.length := by omega
              have ea : a = l := by
                rw [hi2, List.getElem?_append_left (by omega), List.getElem?_append_right (Nat.le_refl _), Nat.sub_self] at ha
                exact (Option.some.inj ha).symm
              have eb : b = ⟨Utf8.encode x.1, x.2⟩ := by
                rw [hj, ← hl, List.getElem?_append_right (Nat.le_refl _), Nat.sub_self] at hb
                exact (Option.some.inj hb).symm
              rw [ea, eb]
              exact hs
            · exact ih.apart i a b (by rw [List.getElem?_append_left (by omega)] at ha; exact ha) (by rw [List.getElem?_append_left (by omega)] at hb; exact hb)
theorem vis_runes : ∀ (N : List Nod) (S : List Sty), S.length = N.length → (visL N S).map Prod.fst = (N.filter fun y => !y.gone).map Nod.rune
  | [], _, _ => rfl
  | y :: N, [], h => by simp at h
  | y :: N, s :: S, h => by
    have ih := vis_runes N S (by simpa using h)
    unfold visL at *
    rw [List.zip_cons_cons, List.filterMap_cons]
    cases hg : y.gone with
    | true => simp only [if_true]; rw [ih, List.filter_cons_of_neg (by simp [hg])]
    | false => simp only [Bool.false_eq_true, if_false, List.map_cons]; rw [ih, List.filter_cons_of_pos (by simp [hg])]; rfl
theorem textN_runes (M : List Nod) : textN M = runesBytes (M.map Nod.rune) := by
  unfold textN runesBytes
  rw [List.foldl_map]
theorem live_nodes16 (G : List IDt) : ∀ l : List Ins, (liveL G l).map (nodeOf G) = (l.map (nodeOf G)).filter fun y => !y.gone
  | [] => rfl
  | x :: l => by
    have ih := live_nodes16 G l
    unfold liveL at *
    rw [List.map_cons]
    cases hg : goneB G x.id with
    | true =>
      rw [List.filter_cons_of_neg (by simp [goneB_eq] at hg; simp [hg]), List.filter_cons_of_neg (by unfold nodeOf; simp [hg]), ih]
    | false =>
      rw [List.filter_cons_of_pos (by simp [goneB_eq] at hg; simp [hg]), List.map_cons, List.filter_cons_of_pos (by unfold nodeOf; simp [hg]), ih]
/-- The runs' texts are the text. -/
theorem runs_text (TL : List Ins) (TG : List IDt) (L : List Mrk) : catR (runsR ((nodesL TL).map (nodeOf TG)) L) = textN ((liveL TG (nodesL TL)).map (nodeOf TG)) := by
  unfold runsR
  rw [(runs_are _ _ rfl).cat, textN_runes, live_nodes16]
  unfold textV
  rw [vis_runes _ _ (styL_len _ _)]
theorem vis_sty {N : List Nod} {S : List Sty} {s : Sty} (h : s ∈ (visL N S).map Prod.snd) : s ∈ S := by
  obtain ⟨p, hp, rfl⟩ := List.mem_map.1 h
  unfold visL at hp
  obtain ⟨z, hz, e⟩ := List.mem_filterMap.1 hp
  split at e
  · cases e
  · obtain rfl := Option.some.inj e
    exact (List.of_mem_zip hz).2
theorem runs_zero {N : List Nod} {L : List Mrk} (hg : Good L) : ∀ r ∈ runsR N L, r.sty.a0 = 0 := fun r hr => by
  have h := vis_sty ((runs_are _ _ rfl).sty r hr)
  unfold styL at h
  obtain ⟨t, _, e⟩ := List.mem_map.1 h
  rw [← e]
  exact stR_zero N (t : Int) _ L rfl hg
theorem catR_size {m : Nat} : ∀ n (o : List Rn), o.length = n → (∀ r ∈ o, r.text.size ≤ m) → (catR o).size ≤ n * m
  | 0, o, h, _ => by rw [List.length_eq_zero_iff.1 h]; exact Nat.zero_le _
  | n + 1, o, h, hs => by
    rcases snoc_cases o with rfl | ⟨p, l, rfl⟩
    · simp at h
    · have ih := catR_size n p (by simpa using h) (fun r hr => hs r (List.mem_append.2 (.inl hr)))
      have h1 := hs l (by simp)
      rw [catR_snoc, ByteArray.size_append, Nat.succ_mul]
      omega
end Go.Proofs.Ytpjeggbkhbghaaa
