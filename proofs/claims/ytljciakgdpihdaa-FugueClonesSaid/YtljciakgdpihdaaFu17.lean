/-
  Layer 15, the landed code: At, Plan. By an AI agent.
-/
import Derived.Test.YtljciakgdpihdaaFu16
namespace Go.Proofs.Ytljciakgdpihdaa
open Go Go.RowKit
set_option maxRecDepth 20000
theorem Least.last {G : List IDt} {n : Nat} {pre : List Ins} (h : Least G n pre) (hn : n ≠ 0) : ∃ p y, pre = p ++ [y] ∧ y.id ∉ G ∧ lastL G pre = y.id ∧ (liveL G pre)[n - 1]? = some y := by
  obtain ⟨h1, h2 | ⟨p, y, rfl, hy⟩⟩ := h
  · rw [h2] at h1
    exact absurd h1.symm hn
  · have hl : liveL G (p ++ [y]) = liveL G p ++ [y] := by rw [live_app, live_on hy]; rfl
    refine ⟨p, y, rfl, hy, ?_, ?_⟩
    · unfold lastL
      rw [hl, List.getLast?_concat]
      rfl
    · rw [hl] at h1 ⊢
      rw [List.length_append, List.length_singleton] at h1
      rw [← h1, Nat.add_sub_cancel, List.getElem?_append_right (Nat.le_refl _), Nat.sub_self]
      rfl
set_option maxHeartbeats 1600000 in
theorem at_any {w : World} {T M : Nat} {ad : IDt → Nat} {L : List Ins} {G : List IDt} (h : TreeH w T M ad L G) (hl : L.length ≤ 4096) (i : Int) :
    Calls Try.prog 21 #[pB T, .int .i64 i] w fun e w' => e = .returned (.tuple #[idV (atR L G i).1, .int .i64 (atR L G i).2]) ∧ Below w.heap.size w w' := by
  obtain ⟨v1, ev⟩ : ∃ v, v = w.alloc (.cells #[.int .i64 0, .int .i64 0] 31) := ⟨_, rfl⟩
  obtain ⟨g, eg⟩ : ∃ g, g = w.heap.size := ⟨_, rfl⟩
  have hb : Below w.heap.size w v1 := by rw [ev]; exact (Below.refl _ _).alloc (Nat.le_refl _) _
  have ho : O2 v1 w.heap.size 31 g (.int .i64 0) (.int .i64 0) := by rw [ev, eg]; exact O2.newz (Nat.le_refl _) _ _ _
  have h1 := h.below hb
  obtain ⟨m, em⟩ : ∃ m, m = (liveL G (nodesL L)).length := ⟨_, rfl⟩
  have hm : m ≤ 4096 := by rw [em]; exact Nat.le_trans (List.length_filter_le _ _) (Nat.le_trans (nodes_len h.ok) hl)
  have KL := len_any h1
  rw [← em] at KL
  have KL := Lib.hid KL
  have HV := Lib.hid (And.intro ev eg)
  have HB := Lib.hid hb
  have HO := Lib.hid ho
  have HH := Lib.hid (And.intro h1 (And.intro hl em))
  have o0 := ho.c0
  have o1 := ho.c1
  have of0 := ho.f0
  have of1 := ho.f1
  clear ev eg hb ho h1 hl em h
  go_enter Try.func21, Try.ntmps21
  go_upto_region 1 with fail
  rw [← HV.out.1, ← HV.out.2]
  clear HV
  by_cases hi : i < 0 ∨ (m : Int) ≤ i
  · have HA := Lib.hid (show atR L G i = ((0, 0), 6) by unfold atR; rw [← HH.out.2.2, if_pos hi])
    have hso := set2_out HO.out (.int .i64 0) (.int .i64 0)
    have HS := Lib.hid (And.intro (HO.out.set_ (.int .i64 0) (.int .i64 0)) (HO.out.below (.int .i64 0) (.int .i64 0)))
    clear hso
    by_cases hi0 : i < 0
    · clear hi
      go_wp2_with fail
      refine bodyPost_ret (id_res2 Try.results21 _ HS.out.1 rfl rfl) rfl ⟨?_, HB.out.trans HS.out.2⟩
      rw [HA.out]
      rfl
    · have hi1 : (m : Int) ≤ i := by omega
      clear hi
      go_wp2_with (go_at_call 19; refine KL.out.mono ?_; rintro e w' ⟨rfl, hw⟩; rw [hw]; clear hw w')
      refine bodyPost_ret (id_res2 Try.results21 _ HS.out.1 rfl rfl) rfl ⟨?_, HB.out.trans HS.out.2⟩
      rw [HA.out]
      rfl
  · obtain ⟨k, rfl⟩ : ∃ k : Nat, i = (k : Int) := ⟨i.toNat, by omega⟩
    have hk : k < m := by omega
    have HA := Lib.hid (show atR L G (k : Int) = ((((liveL G (nodesL L))[k]?).map Ins.id).getD (0, 0), 0) by unfold atR; rw [← HH.out.2.2, if_neg hi, Int.toNat_natCast])
    have KB := Lib.hid (beside_any HH.out.1 HH.out.2.1 (n := k + 1) (by rw [← HH.out.2.2]; omega))
    clear hi
    go_upto_region 3 with (go_at_call 19; refine KL.out.mono ?_; rintro e w' ⟨rfl, hw⟩; rw [hw]; clear hw w')
    go_wp2_with fail
    go_at_call 41
    refine KB.out.mono ?_
    rintro e v2 ⟨pre, post, hpp, hle, rfl, hb2⟩
    obtain ⟨p, y, e1, hy, e2, e3⟩ := hle.last (Nat.succ_ne_zero k)
    have hyL : y ∈ L := (nodes_mem HH.out.1.ok).1 (by rw [hpp, e1]; simp)
    have h2 := HH.out.1.below hb2
    obtain ⟨c0, c1, _⟩ := el_cells (h2.el y hyL)
    rw [e2]
    obtain ⟨be, ebe⟩ : ∃ b, b = ad y.id := ⟨_, rfl⟩
    rw [← ebe] at c0 c1 ⊢
    have ho2 : O2 v2 w.heap.size 31 g (.int .i64 0) (.int .i64 0) := OwnF.keep HO.out hb2
    have o0 := ho2.c0
    have o1 := ho2.c1
    have of0 := ho2.f0
    have of1 := ho2.f1
    have hid : atR L G (k : Int) = (y.id, 0) := by
      rw [HA.out, hpp, live_app, List.getElem?_append_left (by rw [hle.1]; exact Nat.lt_succ_self k)]
      rw [Nat.add_sub_cancel] at e3
      rw [e3]
      rfl
    obtain ⟨z, ez⟩ : ∃ z, z = ptO ad post.head? := ⟨_, rfl⟩
    rw [← ez]
    have HX := Lib.hid (And.intro hid (And.intro (ho2.set_ (.int .i64 y.id.1) (.int .i64 y.id.2)) ((HB.out.trans (hb2.mono HB.out.size)).trans (ho2.below (.int .i64 y.id.1) (.int .i64 y.id.2)))))
    clear ez hid ho2 hb2 hpp hle e1 hy e2 e3 hyL h2 ebe
    go_wp2_with fail
    refine bodyPost_ret (id_res2 Try.results21 _ HX.out.2.1 rfl rfl) rfl ⟨?_, HX.out.2.2⟩
    rw [HX.out.1]
    rfl
theorem at_nil (i : Int) (w : World) : Calls Try.prog 21 #[.pointer none, .int .i64 i] w fun e w' => e = .returned (.tuple #[idV (0, 0), .int .i64 6]) ∧ Below w.heap.size w w' := by
  obtain ⟨v1, ev⟩ : ∃ v, v = w.alloc (.cells #[.int .i64 0, .int .i64 0] 31) := ⟨_, rfl⟩
  obtain ⟨g, eg⟩ : ∃ g, g = w.heap.size := ⟨_, rfl⟩
  have hb : Below w.heap.size w v1 := by rw [ev]; exact (Below.refl _ _).alloc (Nat.le_refl _) _
  have ho : O2 v1 w.heap.size 31 g (.int .i64 0) (.int .i64 0) := by rw [ev, eg]; exact O2.newz (Nat.le_refl _) _ _ _
  have HV := Lib.hid (And.intro ev eg)
  have HS := Lib.hid (And.intro (ho.set_ (.int .i64 0) (.int .i64 0)) (hb.trans (ho.below (.int .i64 0) (.int .i64 0))))
  have o0 := ho.c0
  have o1 := ho.c1
  have of0 := ho.f0
  have of1 := ho.f1
  clear ev eg hb ho
  go_enter Try.func21, Try.ntmps21
  go_upto_region 1 with fail
  rw [← HV.out.1, ← HV.out.2]
  clear HV
  by_cases hi : i < 0
  · go_wp2_with fail
    exact bodyPost_ret (id_res2 Try.results21 _ HS.out.1 rfl rfl) rfl ⟨rfl, HS.out.2⟩
  · have hi1 : (0 : Int) ≤ i := by omega
    go_wp2_with (go_at_call 19; refine (len_nil v1).mono ?_; rintro e w' ⟨rfl, hw⟩; rw [hw]; clear hw w')
    exact bodyPost_ret (id_res2 Try.results21 _ HS.out.1 rfl rfl) rfl ⟨rfl, HS.out.2⟩
theorem plan_nil (i : Int) (w : World) : Calls Try.prog 23 #[.pointer none, .int .i64 i] w fun e w' => e = .returned (.tuple #[idV (0, 0), .bool false, .int .i64 6]) ∧ Below w.heap.size w w' := by
  obtain ⟨v1, ev⟩ : ∃ v, v = w.alloc (.cells #[.int .i64 0, .int .i64 0] 31) := ⟨_, rfl⟩
  obtain ⟨g, eg⟩ : ∃ g, g = w.heap.size := ⟨_, rfl⟩
  have hb : Below w.heap.size w v1 := by rw [ev]; exact (Below.refl _ _).alloc (Nat.le_refl _) _
  have ho : O2 v1 w.heap.size 31 g (.int .i64 0) (.int .i64 0) := by rw [ev, eg]; exact O2.newz (Nat.le_refl _) _ _ _
  have HV := Lib.hid (And.intro ev eg)
  have HS := Lib.hid (And.intro (ho.set_ (.int .i64 0) (.int .i64 0)) (hb.trans (ho.below (.int .i64 0) (.int .i64 0))))
  have o0 := ho.c0
  have o1 := ho.c1
  have of0 := ho.f0
  have of1 := ho.f1
  clear ev eg hb ho
  go_enter Try.func23, Try.ntmps23
  go_upto_region 1 with fail
  rw [← HV.out.1, ← HV.out.2]
  clear HV
  go_wp2_with (go_at_call 42; refine (beginning_nil v1).mono ?_; rintro e w' ⟨rfl, hw⟩; rw [hw]; clear hw w')
  exact bodyPost_ret (id_res3 Try.results23 _ HS.out.1 rfl rfl rfl) rfl ⟨rfl, HS.out.2⟩
/-- What stands next behind the shortest beginning, where one hangs on the right of the last. -/
theorem plan_post {L : List Ins} {G : List IDt} (hok : Ok L) {n : Nat} (hn : n ≤ (liveL G (nodesL L)).length) {pre post : List Ins} (hpp : nodesL L = pre ++ post) (hle : Least G n pre) :
    aheadL L G n = lastL G pre ∧ (kidsL L (lastL G pre) true ≠ [] → ∃ b r, post = b :: r ∧ planL L G n = (b.id, false)) := by
  have hah : aheadL L G n = lastL G pre := by
    unfold aheadL
    by_cases h0 : n = 0
    · rw [if_pos h0]
      have : (liveL G pre) = [] := List.length_eq_zero_iff.1 (by rw [hle.1, h0])
      unfold lastL
      rw [this]
      rfl
    · rw [if_neg h0]
      obtain ⟨p, y, _, _, e2, e3⟩ := hle.last h0
      rw [hpp, live_app, List.getElem?_append_left (by rw [hle.1]; omega), e3, e2]
      rfl
  refine ⟨hah, fun hk => ?_⟩
  have hk2 : kidsL L (aheadL L G n) true ≠ [] := by rw [hah]; exact hk
  obtain ⟨b, hb⟩ := plan_at hok hn hk2
  have hpl : planL L G n = (b.id, false) := by
    unfold planL
    rw [if_neg hk2, hb]
    rfl
  rw [hah] at hb
  have hat : atL (lastL G pre) (nodesL L) 0 0 = pre.length := by
    by_cases h0 : n = 0
    · have hpre : pre = [] := by
        rcases hle.2 with h1 | ⟨p, y, h1, hy⟩
        · exact h1
        · have := hle.1
          rw [h1, live_app, live_on hy, List.length_append, List.length_cons] at this
          omega
      have hl0 : lastL G pre = (0, 0) := by rw [hpre]; rfl
      rw [hl0, hpre]
      exact at_none fun y hy => hok.nz y ((nodes_mem hok).1 hy)
    · obtain ⟨p, y, e1, _, e2, _⟩ := hle.last h0
      have hd := nodes_distinct hok
      rw [hpp, e1, List.append_assoc, List.singleton_append] at hd ⊢
      rw [← e1, e2, at_some rfl (distinct_mid hd).2, e1, List.length_append, List.length_singleton, Nat.zero_add]
  rw [hat, hpp, List.getElem?_append_right (Nat.le_refl _), Nat.sub_self] at hb
  cases post with
  | nil => cases hb
  | cons c r =>
    have : c = b := Option.some.inj hb
    subst this
    exact ⟨c, r, rfl, hpl⟩
set_option maxHeartbeats 1600000 in
theorem plan_any {w : World} {T M : Nat} {ad : IDt → Nat} {L : List Ins} {G : List IDt} (h : TreeH w T M ad L G) (hl : L.length ≤ 4096) (i : Int) :
    Calls Try.prog 23 #[pB T, .int .i64 i] w fun e w' => e = .returned (.tuple #[idV (planR L G i).1, .bool (planR L G i).2.1, .int .i64 (planR L G i).2.2]) ∧ Below w.heap.size w w' := by
  obtain ⟨v1, ev⟩ : ∃ v, v = w.alloc (.cells #[.int .i64 0, .int .i64 0] 31) := ⟨_, rfl⟩
  obtain ⟨g, eg⟩ : ∃ g, g = w.heap.size := ⟨_, rfl⟩
  have hb : Below w.heap.size w v1 := by rw [ev]; exact (Below.refl _ _).alloc (Nat.le_refl _) _
  have ho : O2 v1 w.heap.size 31 g (.int .i64 0) (.int .i64 0) := by rw [ev, eg]; exact O2.newz (Nat.le_refl _) _ _ _
  have h1 := h.below hb
  obtain ⟨m, em⟩ : ∃ m, m = (liveL G (nodesL L)).length := ⟨_, rfl⟩
  have hm : m ≤ 4096 := by rw [em]; exact Nat.le_trans (List.length_filter_le _ _) (Nat.le_trans (nodes_len h.ok) hl)
  have KL := len_any h1
  rw [← em] at KL
  have KL := Lib.hid KL
  have K0 := beginning_any h1
  obtain ⟨b0, eb0⟩ : ∃ b, b = ad (0, 0) := ⟨_, rfl⟩
  rw [← eb0] at K0
  have K0 := Lib.hid K0
  have HV := Lib.hid (And.intro ev eg)
  have HB := Lib.hid hb
  have HO := Lib.hid ho
  have HH := Lib.hid (And.intro h1 (And.intro hl em))
  have o0 := ho.c0
  have o1 := ho.c1
  have of0 := ho.f0
  have of1 := ho.f1
  clear ev eg hb ho h1 hl em h eb0
  go_enter Try.func23, Try.ntmps23
  go_upto_region 1 with fail
  rw [← HV.out.1, ← HV.out.2]
  clear HV
  by_cases hi : i < 0 ∨ (m : Int) < i
  · have HA := Lib.hid (show planR L G i = ((0, 0), false, 6) by unfold planR; rw [← HH.out.2.2, if_pos hi])
    have HS := Lib.hid (And.intro (HO.out.set_ (.int .i64 0) (.int .i64 0)) (HO.out.below (.int .i64 0) (.int .i64 0)))
    by_cases hi0 : i < 0
    · clear hi
      go_wp2_with (go_at_call 42; refine K0.out.mono ?_; rintro e w' ⟨rfl, hw⟩; rw [hw]; clear hw w')
      refine bodyPost_ret (id_res3 Try.results23 _ HS.out.1 rfl rfl rfl) rfl ⟨?_, HB.out.trans HS.out.2⟩
      rw [HA.out]
      rfl
    · have hi1 : (m : Int) < i := by omega
      clear hi
      go_wp2_with (first | (go_at_call 42; refine K0.out.mono ?_; rintro e w' ⟨rfl, hw⟩; rw [hw]; clear hw w') | (go_at_call 19; refine KL.out.mono ?_; rintro e w' ⟨rfl, hw⟩; rw [hw]; clear hw w'))
      refine bodyPost_ret (id_res3 Try.results23 _ HS.out.1 rfl rfl rfl) rfl ⟨?_, HB.out.trans HS.out.2⟩
      rw [HA.out]
      rfl
  · obtain ⟨k, rfl⟩ : ∃ k : Nat, i = (k : Int) := ⟨i.toNat, by omega⟩
    have hk : k ≤ m := by omega
    have HA := Lib.hid (show planR L G (k : Int) = ((planL L G k).1, (planL L G k).2, 0) by unfold planR; rw [← HH.out.2.2, if_neg hi, Int.toNat_natCast])
    have KB := Lib.hid (beside_any HH.out.1 HH.out.2.1 (n := k) (by rw [← HH.out.2.2]; exact hk))
    clear hi
    go_upto_region 3 with (first | (go_at_call 42; refine K0.out.mono ?_; rintro e w' ⟨rfl, hw⟩; rw [hw]; clear hw w') | (go_at_call 19; refine KL.out.mono ?_; rintro e w' ⟨rfl, hw⟩; rw [hw]; clear hw w'))
    go_wp2_with fail
    go_at_call 41
    refine KB.out.mono ?_
    rintro e v2 ⟨pre, post, hpp, hle, rfl, hb2⟩
    obtain ⟨hah, hpost⟩ := plan_post HH.out.1.ok (by rw [← HH.out.2.2]; exact hk) hpp hle
    have h2 := HH.out.1.below hb2
    have hlast : lastL G pre = (0, 0) ∨ hasL L (lastL G pre) := by
      by_cases h0 : k = 0
      · left
        have : (liveL G pre) = [] := List.length_eq_zero_iff.1 (by rw [hle.1, h0])
        unfold lastL
        rw [this]
        rfl
      · obtain ⟨p, y, e1, _, e2, _⟩ := hle.last h0
        exact .inr ⟨y, (nodes_mem HH.out.1.ok).1 (by rw [hpp, e1]; simp), e2.symm⟩
    have hcell : v2.cell? ⟨ad (lastL G pre), 0, none⟩ = some (.int .i64 (lastL G pre).1) ∧ v2.cell? ⟨ad (lastL G pre), 1, none⟩ = some (.int .i64 (lastL G pre).2) ∧ v2.cell? ⟨ad (lastL G pre), 8, none⟩ = some (ptO ad (kidsL L (lastL G pre) true).head?) := by
      rcases hlast with e | ⟨y, hy, e⟩
      · rw [e]
        obtain ⟨c0, c1, _, _, _, _, _, _, c8⟩ := el_cells h2.root
        exact ⟨c0, c1, c8⟩
      · rw [← e]
        obtain ⟨c0, c1, _, _, _, _, _, _, c8⟩ := el_cells (h2.el y hy)
        exact ⟨c0, c1, c8⟩
    obtain ⟨c0, c1, c8⟩ := hcell
    have ho2 : O2 v2 w.heap.size 31 g (.int .i64 0) (.int .i64 0) := OwnF.keep HO.out hb2
    have o0 := ho2.c0
    have o1 := ho2.c1
    have of0 := ho2.f0
    have of1 := ho2.f1
    have hbb := HB.out.trans (hb2.mono HB.out.size)
    cases hk8 : kidsL L (lastL G pre) true with
    | nil =>
      have hid : planR L G (k : Int) = (lastL G pre, true, 0) := by
        rw [HA.out]
        unfold planL
        rw [hah, if_pos hk8]
      rw [hk8] at c8
      replace c8 : v2.cell? ⟨ad (lastL G pre), 8, none⟩ = some (.pointer none) := c8
      obtain ⟨la, ela⟩ : ∃ b, b = ad (lastL G pre) := ⟨_, rfl⟩
      obtain ⟨z, ez⟩ : ∃ z, z = ptO ad post.head? := ⟨_, rfl⟩
      obtain ⟨q, eq⟩ : ∃ q, q = lastL G pre := ⟨_, rfl⟩
      rw [← ela] at c0 c1 c8 ⊢
      rw [← ez]
      rw [← eq] at c0 c1 hid
      have HX := Lib.hid (And.intro hid (And.intro (ho2.set_ (.int .i64 q.1) (.int .i64 q.2)) (hbb.trans (ho2.below (.int .i64 q.1) (.int .i64 q.2)))))
      clear ez hid ho2 hb2 hpp hle h2 ela hah hpost hlast hk8 eq hbb
      go_wp2_with fail
      refine bodyPost_ret (id_res3 Try.results23 _ HX.out.2.1 rfl rfl rfl) rfl ⟨?_, HX.out.2.2⟩
      rw [HX.out.1]
      rfl
    | cons kz kr =>
      obtain ⟨b, r, epost, hpl⟩ := hpost (by rw [hk8]; exact List.cons_ne_nil _ _)
      have hid : planR L G (k : Int) = (b.id, false, 0) := by rw [HA.out, hpl]
      have hbL : b ∈ L := (nodes_mem HH.out.1.ok).1 (by rw [hpp, epost]; simp)
      obtain ⟨d0, d1, _⟩ := el_cells (h2.el b hbL)
      rw [hk8] at c8
      replace c8 : v2.cell? ⟨ad (lastL G pre), 8, none⟩ = some (.pointer (some ⟨ad kz.id, 0, none⟩)) := c8
      obtain ⟨la, ela⟩ : ∃ b, b = ad (lastL G pre) := ⟨_, rfl⟩
      obtain ⟨lz, elz⟩ : ∃ b, b = ad kz.id := ⟨_, rfl⟩
      obtain ⟨bb, ebb⟩ : ∃ q, q = ad b.id := ⟨_, rfl⟩
      have ez : ptO ad post.head? = .pointer (some ⟨bb, 0, none⟩) := by rw [epost, ebb]; rfl
      rw [← ela] at c8 ⊢
      rw [← elz] at c8
      rw [← ebb] at d0 d1
      rw [ez]
      have HX := Lib.hid (And.intro hid (And.intro (ho2.set_ (.int .i64 b.id.1) (.int .i64 b.id.2)) (hbb.trans (ho2.below (.int .i64 b.id.1) (.int .i64 b.id.2)))))
      clear ez hid ho2 hb2 hpp hle h2 ela hah hpost hlast hk8 hbb c0 c1 elz ebb hbL epost hpl
      go_wp2_with fail
      refine bodyPost_ret (id_res3 Try.results23 _ HX.out.2.1 rfl rfl rfl) rfl ⟨?_, HX.out.2.2⟩
      rw [HX.out.1]
      rfl
end Go.Proofs.Ytljciakgdpihdaa
