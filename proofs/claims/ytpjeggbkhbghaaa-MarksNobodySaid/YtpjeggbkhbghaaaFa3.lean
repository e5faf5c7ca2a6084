/-
  Layer 15, the document's Add. By an AI agent.
-/
import Derived.Test.YtpjeggbkhbghaaaFa2
namespace Go.Proofs.Ytpjeggbkhbghaaa
open Go Go.RowKit
set_option maxRecDepth 20000
/-- What adding gives: the elements, and the error. -/
def addR (L : List Ins) (x : Ins) : List Ins × Int := if rightB x = false then (L, 1) else if hasB L x.id = true then (L, 12) else if x.par ≠ (0, 0) ∧ hasB L x.par = false then (L, 13) else if L.length = 4096 then (L, 14) else (L ++ [x], 0)
set_option maxHeartbeats 6400000 in
theorem radd_any {v : Value} {B : Nat} {L : List Ins} {G : List IDt} (x : Ins) (w : World) (h : RdT w B v L G) (hB : B ≤ w.heap.size) (hl : L.length ≤ 1000000) :
    Calls Try.prog 45 #[v, insV x] w fun e w' => ∃ v', e = .returned (.tuple #[v', .int .i64 (addR L x).2]) ∧ RdT w' w'.heap.size v' (addR L x).1 G ∧ (∀ k, inV v' k → inV v k ∨ (w.heap.size ≤ k ∧ k < w'.heap.size)) ∧ Below w.heap.size w w' := by
  obtain ⟨i0, hi0, hz0, hz1, hz2⟩ := info_parts infoIns
  obtain ⟨R, eR⟩ : ∃ R, R = addR L x := ⟨_, rfl⟩
  have hT : ∀ wz, Below w.heap.size w wz → RdT wz B v L G ∧ B ≤ wz.heap.size := fun wz hz => ⟨h.keep (hz.mono hB), Nat.le_trans hB hz.size⟩
  have KH := Lib.hid (fun (i : IDt) wz hz => rhas_any i wz (hT wz hz).1 (hT wz hz).2 hl)
  obtain ⟨A1, c1, A2, c2, rfl, r1, r2⟩ := h
  have HT := Lib.hid (And.intro hB (And.intro r1 r2))
  obtain ⟨v1, ev⟩ : ∃ v, v = ((w.alloc (.cells #[.slice A1 L.length c1, .slice A2 G.length c2] 91)).alloc (.cells #[.int .i64 x.id.1, .int .i64 x.id.2, .int .i64 x.par.1, .int .i64 x.par.2, .bool x.right, .int .i32 x.rune] 74)).alloc (.cells #[.slice none 0 0, .slice none 0 0] 91) := ⟨_, rfl⟩
  obtain ⟨g, eg⟩ : ∃ g, g = w.heap.size := ⟨_, rfl⟩
  obtain ⟨va, eva⟩ : ∃ v, v = (w.alloc (.cells #[.slice A1 L.length c1, .slice A2 G.length c2] 91)).alloc (.cells #[.int .i64 x.id.1, .int .i64 x.id.2, .int .i64 x.par.1, .int .i64 x.par.2, .bool x.right, .int .i32 x.rune] 74) := ⟨_, rfl⟩
  have hba : Below w.heap.size w va := by rw [eva]; exact ((Below.refl _ _).alloc (Nat.le_refl _) _).alloc (by simp) _
  have hsa : va.heap.size = g + 2 := by rw [eva, eg]; simp
  have hqa : va.cell? ⟨g, 0, none⟩ = some (.slice A1 L.length c1) ∧ va.cell? ⟨g, 1, none⟩ = some (.slice A2 G.length c2) ∧ va.cell? ⟨g + 1, 0, none⟩ = some (.int .i64 x.id.1) ∧ va.cell? ⟨g + 1, 1, none⟩ = some (.int .i64 x.id.2) ∧ va.cell? ⟨g + 1, 2, none⟩ = some (.int .i64 x.par.1) ∧ va.cell? ⟨g + 1, 3, none⟩ = some (.int .i64 x.par.2) ∧ va.cell? ⟨g + 1, 4, none⟩ = some (.bool x.right) ∧ va.cell? ⟨g + 1, 5, none⟩ = some (.int .i32 x.rune) := by
    rw [eva, eg]
    simp
  have evv : v1 = va.alloc (.cells #[.slice none 0 0, .slice none 0 0] 91) := by rw [ev, eva]
  have hb1 : Below va.heap.size va v1 := by rw [evv]; exact (Below.refl _ _).alloc (Nat.le_refl _) _
  have hb : Below w.heap.size w v1 := hba.trans (hb1.mono hba.size)
  have hs : v1.heap.size = g + 3 := by rw [evv]; simp; omega
  have ho : O2 v1 w.heap.size 91 (g + 2) (.slice none 0 0) (.slice none 0 0) := by
    have h0 := O2.newz (w := va) (B := w.heap.size) hba.size 91 (.slice none 0 0) (.slice none 0 0)
    rw [← evv, hsa] at h0
    exact h0
  have HV := Lib.hid (And.intro ev eg)
  have HQ := Lib.hid (And.intro hb (And.intro hs (And.intro trivial ho)))
  have HW1 := Lib.hid (fun wz (hz : Below v1.heap.size v1 wz) => show wz.cell? ⟨g, 0, none⟩ = some (.slice A1 L.length c1) ∧ wz.cell? ⟨g, 1, none⟩ = some (.slice A2 G.length c2) ∧ wz.cell? ⟨g + 1, 0, none⟩ = some (.int .i64 x.id.1) ∧ wz.cell? ⟨g + 1, 1, none⟩ = some (.int .i64 x.id.2) ∧ wz.cell? ⟨g + 1, 2, none⟩ = some (.int .i64 x.par.1) ∧ wz.cell? ⟨g + 1, 3, none⟩ = some (.int .i64 x.par.2) ∧ wz.cell? ⟨g + 1, 4, none⟩ = some (.bool x.right) ∧ wz.cell? ⟨g + 1, 5, none⟩ = some (.int .i32 x.rune) from by
    have hz2 : Below va.heap.size va wz := hb1.trans (hz.mono hb1.size)
    have l0 : g < va.heap.size := by omega
    have l1 : g + 1 < va.heap.size := by omega
    obtain ⟨a0, a1, a2, a3, a4, a5, a6, a7⟩ := hqa
    exact ⟨(hz2.cell (p := ⟨g, 0, none⟩) l0).trans a0, (hz2.cell (p := ⟨g, 1, none⟩) l0).trans a1, (hz2.cell (p := ⟨g + 1, 0, none⟩) l1).trans a2, (hz2.cell (p := ⟨g + 1, 1, none⟩) l1).trans a3, (hz2.cell (p := ⟨g + 1, 2, none⟩) l1).trans a4, (hz2.cell (p := ⟨g + 1, 3, none⟩) l1).trans a5, (hz2.cell (p := ⟨g + 1, 4, none⟩) l1).trans a6, (hz2.cell (p := ⟨g + 1, 5, none⟩) l1).trans a7⟩)
  have HR := Lib.hid eR
  have HL := Lib.hid hl
  rw [← eR]
  clear ev eg hb hs ho r1 r2 hB hT eR hl hba hsa hqa evv hb1 eva
  obtain ⟨hr, ehr⟩ : ∃ b, b = rightB x := ⟨_, rfl⟩
  have KR := Lib.hid (fun w => rright_any x w)
  rw [← ehr] at KR
  obtain ⟨hh, ehh⟩ : ∃ b, b = hasB L x.id := ⟨_, rfl⟩
  have KH1 := Lib.hid (KH.out x.id)
  rw [← ehh] at KH1
  obtain ⟨hp, ehp⟩ : ∃ b, b = hasB L x.par := ⟨_, rfl⟩
  have KH2 := Lib.hid (KH.out x.par)
  rw [← ehp] at KH2
  have HE := Lib.hid (And.intro ehr (And.intro ehh ehp))
  clear ehr ehh ehp KH
  have HB1 := Lib.hid (Below.refl v1.heap.size v1)
  have q := HW1.out v1 (Below.refl _ _)
  obtain ⟨k0, k1, x0, x1, x2, x3, x4, x5⟩ := q
  go_enter Try.func45, Try.ntmps45
  go_upto_region 1 with fail
  rw [← HV.out.1, ← HV.out.2]
  clear HV
  go_wp2_with fail
  go_at_call 65
  refine (KR.out v1).mono ?_
  rintro e v2 ⟨rfl, h2⟩
  have HB2 := Lib.hid h2
  clear KR h2 k0 k1 x0 x1 x2 x3 x4 x5
  cases hr
  case false =>
    have oa : O2 v2 w.heap.size 91 (g + 2) _ _ := OwnF.keep HQ.out.2.2.2 HB2.out
    have f0 := oa.f0
    have f1 := oa.f1
    have z0 := oa.c0
    have z1 := oa.c1
    obtain ⟨k0, k1, x0, x1, x2, x3, x4, x5⟩ := HW1.out v2 HB2.out
    have o3 := oa.set_ (.slice A1 L.length c1) (.slice A2 G.length c2)
    have hb3 := oa.below (.slice A1 L.length c1) (.slice A2 G.length c2)
    have HO := Lib.hid (And.intro o3 ((HQ.out.1.trans (HB2.out.mono HQ.out.1.size)).trans hb3))
    have HX := Lib.hid (show R = (L, 1) by rw [HR.out]; unfold addR; rw [if_pos HE.out.1.symm])
    clear oa o3 hb3
    go_wp2_with fail
    refine bodyPost_ret (tree_res2 Try.results45 _ HO.out.1 rfl rfl) rfl ?_
    rw [HX.out]
    exact ⟨_, rfl, ⟨A1, c1, A2, c2, rfl, (HT.out.2.1.keep (HO.out.2.mono HT.out.1)).mono (Nat.le_trans HT.out.1 HO.out.2.size), (HT.out.2.2.keep (HO.out.2.mono HT.out.1)).mono (Nat.le_trans HT.out.1 HO.out.2.size)⟩, fun _ hk => .inl hk, HO.out.2⟩
  obtain ⟨k0, k1, x0, x1, x2, x3, x4, x5⟩ := HW1.out v2 HB2.out
  go_wp2_with fail
  go_at_call 66
  refine (KH1.out v2 (HQ.out.1.trans (HB2.out.mono HQ.out.1.size))).mono ?_
  rintro e v3 ⟨rfl, h3⟩
  have HB3 := Lib.hid (HB2.out.trans (h3.mono HB2.out.size))
  clear KH1 h3 k0 k1 x0 x1 x2 x3 x4 x5
  cases hh
  case true =>
    have oa : O2 v3 w.heap.size 91 (g + 2) _ _ := OwnF.keep HQ.out.2.2.2 HB3.out
    have f0 := oa.f0
    have f1 := oa.f1
    have z0 := oa.c0
    have z1 := oa.c1
    obtain ⟨k0, k1, x0, x1, x2, x3, x4, x5⟩ := HW1.out v3 HB3.out
    have o3 := oa.set_ (.slice A1 L.length c1) (.slice A2 G.length c2)
    have hb3 := oa.below (.slice A1 L.length c1) (.slice A2 G.length c2)
    have HO := Lib.hid (And.intro o3 ((HQ.out.1.trans (HB3.out.mono HQ.out.1.size)).trans hb3))
    have HX := Lib.hid (show R = (L, 12) by rw [HR.out]; unfold addR; rw [if_neg (by rw [← HE.out.1]; decide), if_pos HE.out.2.1.symm])
    clear oa o3 hb3
    go_wp2_with fail
    refine bodyPost_ret (tree_res2 Try.results45 _ HO.out.1 rfl rfl) rfl ?_
    rw [HX.out]
    exact ⟨_, rfl, ⟨A1, c1, A2, c2, rfl, (HT.out.2.1.keep (HO.out.2.mono HT.out.1)).mono (Nat.le_trans HT.out.1 HO.out.2.size), (HT.out.2.2.keep (HO.out.2.mono HT.out.1)).mono (Nat.le_trans HT.out.1 HO.out.2.size)⟩, fun _ hk => .inl hk, HO.out.2⟩
  obtain ⟨k0, k1, x0, x1, x2, x3, x4, x5⟩ := HW1.out v3 HB3.out
  have hpar : (x.par = (0, 0) ∧ x.par.1 = 0 ∧ x.par.2 = 0) ∨ (x.par ≠ (0, 0) ∧ x.par.1 = 0 ∧ ¬ x.par.2 = 0) ∨ (x.par ≠ (0, 0) ∧ ¬ x.par.1 = 0 ∧ True) := by
    by_cases h1 : x.par.1 = 0
    · by_cases h2 : x.par.2 = 0
      · exact .inl ⟨Prod.ext h1 h2, h1, h2⟩
      · exact .inr (.inl ⟨fun h => h2 (by rw [h]), h1, h2⟩)
    · exact .inr (.inr ⟨fun h => h1 (by rw [h]), h1, trivial⟩)
  go_upto_region 5 with fail
  go_cut [26] from 16 to 26 (fun z wx => Below v3.heap.size v3 wx ∧ ((x.par ≠ (0, 0) ∧ hp = false ∧ z = .bool true) ∨ (¬ (x.par ≠ (0, 0) ∧ hp = false) ∧ z = .bool false)))
  case first =>
    rcases hpar with ⟨p0, p1, p2⟩ | ⟨p0, p1, p2⟩ | ⟨p0, p1, p2⟩
    · have HP := Lib.hid p0
      rw [p1] at x2
      rw [p2] at x3
      clear p0 p1 p2
      go_wp2_with fail
      go_meet
      exact ⟨Below.refl _ _, .inr ⟨fun h => h.1 HP.out, rfl⟩⟩
    · have HP := Lib.hid p0
      rw [p1] at x2
      simp only [idV, p1] at KH2
      clear p0 p1
      go_wp2_with fail
      go_at_call 66
      with_reducible refine (KH2.out v3 (HQ.out.1.trans (HB3.out.mono HQ.out.1.size))).mono ?_
      rintro e v4 ⟨rfl, h4⟩
      have H4 := Lib.hid h4
      clear h4
      cases hp
      · go_wp2_with fail
        go_meet
        exact ⟨H4.out, .inl ⟨HP.out, by trivial, by trivial⟩⟩
      · go_wp2_with fail
        go_meet
        exact ⟨H4.out, .inr ⟨fun h => by simp at h, rfl⟩⟩
    · have HP := Lib.hid p0
      clear p0 p2
      go_wp2_with fail
      go_at_call 66
      with_reducible refine (KH2.out v3 (HQ.out.1.trans (HB3.out.mono HQ.out.1.size))).mono ?_
      rintro e v4 ⟨rfl, h4⟩
      have H4 := Lib.hid h4
      clear h4
      cases hp
      · go_wp2_with fail
        go_meet
        exact ⟨H4.out, .inl ⟨HP.out, by trivial, by trivial⟩⟩
      · go_wp2_with fail
        go_meet
        exact ⟨H4.out, .inr ⟨fun h => by simp at h, rfl⟩⟩
  case rest =>
    obtain ⟨hb4, hz⟩ := hcut
    have HB4 := Lib.hid (HB3.out.trans (hb4.mono HB3.out.size))
    clear hb4 k0 k1 x0 x1 x2 x3 x4 x5 hpar KH2
    rcases hz with ⟨p0, p1, rfl⟩ | ⟨p0, rfl⟩
    · have HPN := Lib.hid (show x.par ≠ (0, 0) ∧ hasB L x.par = false from ⟨p0, by rw [← HE.out.2.2, p1]⟩)
      clear p0 p1
      have oa : O2 wc w.heap.size 91 (g + 2) _ _ := OwnF.keep HQ.out.2.2.2 HB4.out
      have f0 := oa.f0
      have f1 := oa.f1
      have z0 := oa.c0
      have z1 := oa.c1
      obtain ⟨k0, k1, x0, x1, x2, x3, x4, x5⟩ := HW1.out wc HB4.out
      have o3 := oa.set_ (.slice A1 L.length c1) (.slice A2 G.length c2)
      have hb3 := oa.below (.slice A1 L.length c1) (.slice A2 G.length c2)
      have HO := Lib.hid (And.intro o3 ((HQ.out.1.trans (HB4.out.mono HQ.out.1.size)).trans hb3))
      have HX := Lib.hid (show R = (L, 13) by rw [HR.out]; unfold addR; rw [if_neg (by rw [← HE.out.1]; decide), if_neg (by rw [← HE.out.2.1]; decide), if_pos HPN.out])
      clear oa o3 hb3
      go_wp2_with fail
      refine bodyPost_ret (tree_res2 Try.results45 _ HO.out.1 rfl rfl) rfl ?_
      rw [HX.out]
      exact ⟨_, rfl, ⟨A1, c1, A2, c2, rfl, (HT.out.2.1.keep (HO.out.2.mono HT.out.1)).mono (Nat.le_trans HT.out.1 HO.out.2.size), (HT.out.2.2.keep (HO.out.2.mono HT.out.1)).mono (Nat.le_trans HT.out.1 HO.out.2.size)⟩, fun _ hk => .inl hk, HO.out.2⟩
    have HPN := Lib.hid (show ¬ (x.par ≠ (0, 0) ∧ hasB L x.par = false) from by rw [← HE.out.2.2]; exact p0)
    clear p0
    by_cases hfull : L.length = 4096
    · have HFU := Lib.hid hfull
      have g1 : ((L.length : Int) == 4096) = true := by simp; omega
      clear hfull
      have oa : O2 wc w.heap.size 91 (g + 2) _ _ := OwnF.keep HQ.out.2.2.2 HB4.out
      have f0 := oa.f0
      have f1 := oa.f1
      have z0 := oa.c0
      have z1 := oa.c1
      obtain ⟨k0, k1, x0, x1, x2, x3, x4, x5⟩ := HW1.out wc HB4.out
      have o3 := oa.set_ (.slice A1 L.length c1) (.slice A2 G.length c2)
      have hb3 := oa.below (.slice A1 L.length c1) (.slice A2 G.length c2)
      have HO := Lib.hid (And.intro o3 ((HQ.out.1.trans (HB4.out.mono HQ.out.1.size)).trans hb3))
      have HX := Lib.hid (show R = (L, 14) by rw [HR.out]; unfold addR; rw [if_neg (by rw [← HE.out.1]; decide), if_neg (by rw [← HE.out.2.1]; decide), if_neg HPN.out, if_pos HFU.out])
      clear oa o3 hb3
      go_wp2_with fail
      refine bodyPost_ret (tree_res2 Try.results45 _ HO.out.1 rfl rfl) rfl ?_
      rw [HX.out]
      exact ⟨_, rfl, ⟨A1, c1, A2, c2, rfl, (HT.out.2.1.keep (HO.out.2.mono HT.out.1)).mono (Nat.le_trans HT.out.1 HO.out.2.size), (HT.out.2.2.keep (HO.out.2.mono HT.out.1)).mono (Nat.le_trans HT.out.1 HO.out.2.size)⟩, fun _ hk => .inl hk, HO.out.2⟩
    have g1 : ((L.length : Int) == 4096) = false := by simp; omega
    have HX := Lib.hid (show R = (L ++ [x], 0) by rw [HR.out]; unfold addR; rw [if_neg (by rw [← HE.out.1]; decide), if_neg (by rw [← HE.out.2.1]; decide), if_neg HPN.out, if_neg hfull])
    clear hfull
    obtain ⟨wa, ewa⟩ : ∃ v, v = wc := ⟨_, rfl⟩
    subst ewa
    have HBA := HB4
    have HB3 := Lib.hid (HQ.out.1.trans (HB4.out.mono HQ.out.1.size))
    have HW := Lib.hid (fun wz (hz : Below wa.heap.size wa wz) => HW1.out wz (HBA.out.trans (hz.mono HBA.out.size)))
    have HRow := Lib.hid (fun wz (hz : Below wa.heap.size wa wz) => show RdR insE wz wz.heap.size A1 c1 L from (HT.out.2.1.keep ((HB3.out.trans (hz.mono HB3.out.size)).mono HT.out.1)).mono (Nat.le_trans HT.out.1 (HB3.out.trans (hz.mono HB3.out.size)).size))
    have HOA := Lib.hid (show O2 wa w.heap.size 91 (g + 2) _ _ from OwnF.keep HQ.out.2.2.2 HBA.out)
    obtain ⟨k0, k1, x0, x1, x2, x3, x4, x5⟩ := HW1.out wa HBA.out
    go_upto_region 9 with fail
    clear k0 k1 x0 x1 x2 x3 x4 x5
    refine wp_region_par 6 8 [some 33, some 34, some 35, some 36, some 37, some 38] [0, 3, 5] [none, some (.pointer (some ⟨g, 0, none⟩)), some (.slice A1 L.length c1), none, some (.agg #[.int .i64 x.id.1, .int .i64 x.id.2, .int .i64 x.par.1, .int .i64 x.par.2, .bool x.right, .int .i32 x.rune]), none]
      (fun Lb Vb wz => Below wa.heap.size wa wz ∧ (Lb 0 = true → Lb 3 = false → ∃ A c, Vb 0 = .slice A 0 c ∧ OwnR insE wz wa.heap.size 74 A c []) ∧ (Lb 3 = true → ∃ A c, Vb 3 = .slice A L.length c ∧ OwnR insE wz wa.heap.size 74 A c L) ∧ (Lb 5 = true → ∃ A, Vb 5 = .slice A 1 1 ∧ RdR insE wz wz.heap.size A 1 [x]) ∧ (Lb 0 = true → Lb 5 = true → Lb 3 = false → ∀ A0 c0 A5, Vb 0 = .slice A0 0 c0 → Vb 5 = .slice A5 1 1 → Offs A0 A5)) (by kernel_rfl) (by kernel_rfl)
      (fun _ => ⟨(Below.refl _ _).drew, fun h => absurd h (by decide), fun h => absurd h (by decide), fun h => absurd h (by decide), fun h => absurd h (by decide)⟩) (fun u => by simp only [List.filterMap_cons, List.filterMap_nil, puts, List.foldl_cons, List.foldl_nil]; go_simp; exact rfl) ?_ ?_
    · simp only [List.take_succ_cons, List.take_zero]
      refine Par.hard rfl (fun u wz Lb Vb hT hh => ?_) ?_
      · obtain ⟨hb, t0, t3, t5, t05⟩ := hT
        have n3 := hh.not_ 3 rfl
        have ha := (Below.refl wz.heap.size wz).alloc (Nat.le_refl _) (.cells #[] 74)
        refine StepP.of rfl (StepC.run (.slice (some ⟨wz.heap.size, 0, none⟩) 0 0) (wz.alloc (.cells #[] 74)) rfl (by go_simp) ⟨fun c hc => by simp at hc, hb.trans (ha.mono hb.size), fun _ _ => ⟨_, _, rfl, OwnR.lit (E := insE) 74 hb.size #[] [] (by decide) rfl⟩, fun h => absurd (show Lb 3 = true by simpa [lset] using h) (by rw [n3]; decide), fun h => ?_, fun _ h _ A0 c0 A5 e0 e5 => ?_⟩)
        · obtain ⟨A, eA, r⟩ := t5 (by simpa [lset] using h)
          exact ⟨A, by simpa [vset] using eA, r.next ha⟩
        · obtain ⟨A, eA, r⟩ := t5 (by simpa [lset] using h)
          have e5' : Vb 5 = .slice A5 1 1 := by simpa [vset] using e5
          rw [eA] at e5'
          obtain rfl : A = A5 := by simpa using e5'
          obtain ⟨b, o, ea, hlt, _⟩ := r.some_ (by simp)
          have e0' : some ⟨wz.heap.size, 0, none⟩ = A0 := by
            have h9 : Value.slice (some ⟨wz.heap.size, 0, none⟩) 0 0 = .slice A0 0 c0 := by simpa [vset] using e0
            simp only [Value.slice.injEq] at h9
            exact h9.1
          intro ad ad2 h1 h2 h3
          rw [← e0'] at h1
          rw [ea] at h2
          cases h1
          cases h2
          exact absurd h3 (Nat.ne_of_gt hlt)
      refine Par.soft rfl rfl (.pointer (some ⟨g, 0, none⟩)) rfl (fun u w Lb Vb hT hh => ⟨rfl, by go_simp⟩) ?_
      refine Par.soft rfl rfl (.slice A1 L.length c1) rfl (fun u w Lb Vb hT hh => ⟨rfl, by have d34 : u 34 = .pointer (some ⟨g, 0, none⟩) := hh.val 1 _ rfl rfl; rw [d34]; obtain ⟨k0, k1, k2, k3, k4, k5, k6, k7⟩ := HW.out w hT.1; go_simp⟩) ?_
      refine Par.hard rfl (fun u wz Lb Vb hT hh => ?_) ?_
      · obtain ⟨hb, t0, t3, t5, t05⟩ := hT
        have b0 : Lb 0 = true := hh.been 0 (by rfl) rfl
        have n3 : Lb 3 = false := hh.not_ 3 (by rfl)
        obtain ⟨A0, c0, e0, o0⟩ := t0 b0 n3
        have d0 : u 33 = .slice A0 0 c0 := (hh.hv 0 rfl).symm.trans e0
        have dl : u 35 = .slice A1 L.length c1 := hh.val 2 _ rfl rfl
        rw [d0, dl]
        refine StepP.of rfl (StepC.appR wz rfl (.tmp 33) (.tmp 35) 42 rfl wa.heap.size 74 i0 _ Try.underlying42 hi0 hz0 hz1 hz2 rfl (n := 0) rfl rfl o0 (m := L.length) rfl rfl (HRow.out wz hb) (by have := HL.out; omega) (by have := HL.out; omega) hb.size fun A9 c9 w9 o9 hb9 hg9 => ⟨fun c hc => by simp at hc, hb.trans hb9, fun _ h => absurd h (by simp [lset]), fun _ => ⟨A9, c9, by simp [vset], o9⟩, fun h => ?_, fun _ _ h => absurd h (by simp [lset])⟩)
        obtain ⟨A, eA, r⟩ := t5 (by simpa [lset] using h)
        exact ⟨A, by simpa [vset] using eA, (r.grown (hg9.1 c0 0) (t05 b0 (by simpa [lset] using h) n3 A0 c0 A e0 eA)).mono hb9.size⟩
      refine Par.soft rfl rfl (.agg #[.int .i64 x.id.1, .int .i64 x.id.2, .int .i64 x.par.1, .int .i64 x.par.2, .bool x.right, .int .i32 x.rune]) rfl (fun u w Lb Vb hT hh => ⟨rfl, by obtain ⟨k0, k1, k2, k3, k4, k5, k6, k7⟩ := HW.out w hT.1; go_simp⟩) ?_
      refine Par.hard rfl (fun u wz Lb Vb hT hh => ?_) Par.nil
      · obtain ⟨hb, t0, t3, t5, t05⟩ := hT
        have d37 : u 37 = .agg #[.int .i64 x.id.1, .int .i64 x.id.2, .int .i64 x.par.1, .int .i64 x.par.2, .bool x.right, .int .i32 x.rune] := hh.val 4 _ rfl rfl
        rw [d37]
        have ha := (Below.refl wz.heap.size wz).alloc (Nat.le_refl _) (.cells #[.int .i64 x.id.1, .int .i64 x.id.2, .int .i64 x.par.1, .int .i64 x.par.2, .bool x.right, .int .i32 x.rune] 74)
        have hl1 := OwnR.lit (E := insE) (w := wz) 74 (Nat.le_refl _) #[.int .i64 x.id.1, .int .i64 x.id.2, .int .i64 x.par.1, .int .i64 x.par.2, .bool x.right, .int .i32 x.rune] [x] (by simp [maxLen]) rfl
        refine StepP.of rfl (StepC.run (.slice (some ⟨wz.heap.size, 0, none⟩) 1 1) (wz.alloc (.cells #[.int .i64 x.id.1, .int .i64 x.id.2, .int .i64 x.par.1, .int .i64 x.par.2, .bool x.right, .int .i32 x.rune] 74)) rfl (by go_simp) ⟨fun c hc => by simp at hc, hb.trans (ha.mono hb.size), fun h h' => ?_, fun h => ?_, fun _ => ⟨_, rfl, hl1.rd⟩, fun h _ h' A0 c0 A5 e0 e5 => ?_⟩)
        · obtain ⟨A, c, e, o⟩ := t0 (by simpa [lset] using h) (by simpa [lset] using h')
          exact ⟨A, c, by simpa [vset] using e, o.keep ha⟩
        · obtain ⟨A, c, e, o⟩ := t3 (by simpa [lset] using h)
          exact ⟨A, c, by simpa [vset] using e, o.keep ha⟩
        · obtain ⟨A, c, e, o⟩ := t0 (by simpa [lset] using h) (by simpa [lset] using h')
          have e0' : Vb 0 = .slice A0 0 c0 := by simpa [vset] using e0
          rw [e] at e0'
          obtain ⟨rfl, rfl⟩ : A = A0 ∧ c = c0 := by simpa using e0'
          have e5' : some ⟨wz.heap.size, 0, none⟩ = A5 := by
            have h9 : Value.slice (some ⟨wz.heap.size, 0, none⟩) 1 1 = .slice A5 1 1 := by simpa [vset] using e5
            simpa using h9
          intro ad ad2 h1 h2 h3
          rw [← e5'] at h2
          cases h2
          exact absurd h3 (Nat.ne_of_lt (o.blk ad h1).2)
    · rintro u v5 hv ⟨Lb, Vb, ⟨hb, _, t3, t5, _⟩, hl⟩
      obtain ⟨A3, c3, e3, o3⟩ := t3 (hl 3 (by decide) rfl).1
      obtain ⟨A5, e5, r5⟩ := t5 (hl 5 (by decide) rfl).1
      have d3 : u 36 = .slice A3 L.length c3 := (hl 3 (by decide) rfl).2.symm.trans e3
      have d5 : u 38 = .slice A5 1 1 := (hl 5 (by decide) rfl).2.symm.trans e5
      rw [d3, d5]
      have HO5 := Lib.hid (And.intro o3 (And.intro r5 hb))
      have HLN := Lib.hid (show L.length + 1 ≤ 140737488355328 by have := HL.out; omega)
      have HLB := Lib.hid (show (L.length + 1) * 40 ≤ 140737488355328 by have := HL.out; omega)
      clear hv hl t3 t5 o3 r5 hb d3 d5 e3 e5
      simp only [List.drop_succ_cons, List.drop_zero]
      go_upto_region 10 with (at_builtin; refine wpList_appR v5 rfl (.tmp 36) (.tmp 38) _ rfl wa.heap.size 74 i0 _ Try.underlying42 hi0 hz0 hz1 hz2 rfl rfl rfl HO5.out.1 rfl rfl HO5.out.2.1 HLN.out HLB.out HO5.out.2.2.size ?_; intro A8 c8 w8 o8 hb8 hg8)
      have hbe := HO5.out.2.2.trans hb8
      have oe : O2 w8 w.heap.size 91 (g + 2) _ _ := OwnF.keep HOA.out hbe
      have f0 := oe.f0
      have f1 := oe.f1
      have z0 := oe.c0
      have z1 := oe.c1
      obtain ⟨k0, k1, x0, x1, x2, x3, x4, x5⟩ := HW1.out w8 (HBA.out.trans (hbe.mono HBA.out.size))
      have o9 := oe.set_ (.slice A8 (L.length + 1) c8) (.slice A2 G.length c2)
      have hb9 := oe.below (.slice A8 (L.length + 1) c8) (.slice A2 G.length c2)
      have hne := OwnF.lt HOA.out
      have ho8 : OwnR insE (set2 w8 (g + 2) (.slice A8 (L.length + 1) c8) (.slice A2 G.length c2)) wa.heap.size 74 A8 c8 (L ++ [x]) := o8.keep0 (fun ad hA => set2_only _ _ _ _ _ (by have := (o8.blk ad hA).1; omega))
      have HO := Lib.hid (And.intro o9 (And.intro ((HB3.out.trans (hbe.mono HB3.out.size)).trans hb9) ho8))
      clear oe o9 hb9 hne ho8 o8 hb8 hg8 hbe
      go_wp2_with fail
      refine bodyPost_ret (tree_res2 Try.results45 _ HO.out.1 rfl rfl) rfl ?_
      rw [HX.out]
      exact ⟨_, rfl, ⟨A8, c8, A2, c2, by simp, HO.out.2.2.rd, (HT.out.2.2.keep (HO.out.2.1.mono HT.out.1)).mono (Nat.le_trans HT.out.1 HO.out.2.1.size)⟩, fun _ hk => inV_new1 (fun ad h => ⟨Nat.le_trans HB3.out.size (HO.out.2.2.blk ad h).1, (HO.out.2.2.blk ad h).2⟩) hk, HO.out.2.1⟩
end Go.Proofs.Ytpjeggbkhbghaaa
