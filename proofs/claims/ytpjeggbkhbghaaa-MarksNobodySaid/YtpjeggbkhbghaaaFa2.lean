/-
  Layer 15, the document's Drop, Add. By an AI agent.
-/
import Derived.Test.YtpjeggbkhbghaaaFa1
import Derived.Test.YtpjeggbkhbghaaaFd3
namespace Go.Proofs.Ytpjeggbkhbghaaa
open Go Go.RowKit
set_option maxRecDepth 20000
/-- What dropping gives: what was dropped, and the error. -/
def dropR (L : List Ins) (G : List IDt) (i : IDt) : List IDt × Int := if hasB L i = false then (G, 13) else if goneB G i = true then (G, 12) else (G ++ [i], 0)
/-- The blocks of a text's value. -/
def inV (v : Value) (k : Nat) : Prop := ∃ A n c A2 n2 c2, v = .agg #[.slice A n c, .slice A2 n2 c2] ∧ ((∃ ad, A = some ad ∧ ad.block = k) ∨ ∃ ad, A2 = some ad ∧ ad.block = k)
theorem inV_new2 {A A2 A8 : Option Addr} {n c n2 c2 m c8 k B C : Nat} (h8 : ∀ ad, A8 = some ad → B ≤ ad.block ∧ ad.block < C) (h : inV (.agg #[.slice A n c, .slice A8 m c8]) k) : inV (.agg #[.slice A n c, .slice A2 n2 c2]) k ∨ (B ≤ k ∧ k < C) := by
  obtain ⟨A', n', c', A2', n2', c2', e, h⟩ := h
  simp only [Value.agg.injEq, Array.mk.injEq, List.cons.injEq, Value.slice.injEq, and_true] at e
  obtain ⟨⟨rfl, rfl, rfl⟩, rfl, rfl, rfl⟩ := e
  rcases h with h | ⟨ad, h1, h2⟩
  · exact .inl ⟨_, _, _, _, _, _, rfl, .inl h⟩
  · exact .inr (by rw [← h2]; exact h8 ad h1)
theorem inV_new1 {A A2 A8 : Option Addr} {n c n2 c2 m c8 k B C : Nat} (h8 : ∀ ad, A8 = some ad → B ≤ ad.block ∧ ad.block < C) (h : inV (.agg #[.slice A8 m c8, .slice A2 n2 c2]) k) : inV (.agg #[.slice A n c, .slice A2 n2 c2]) k ∨ (B ≤ k ∧ k < C) := by
  obtain ⟨A', n', c', A2', n2', c2', e, h⟩ := h
  simp only [Value.agg.injEq, Array.mk.injEq, List.cons.injEq, Value.slice.injEq, and_true] at e
  obtain ⟨⟨rfl, rfl, rfl⟩, rfl, rfl, rfl⟩ := e
  rcases h with ⟨ad, h1, h2⟩ | h
  · exact .inr (by rw [← h2]; exact h8 ad h1)
  · exact .inl ⟨_, _, _, _, _, _, rfl, .inr h⟩
theorem tree_new {w : World} {B : Nat} {v : Value} {L : List Ins} {G : List IDt} (h : RdT w B v L G) (hB : B ≤ w.heap.size) : RdT w w.heap.size v L G := h.mono hB
set_option maxHeartbeats 3200000 in
theorem rdrop_any {v : Value} {B : Nat} {L : List Ins} {G : List IDt} (i : IDt) (w : World) (h : RdT w B v L G) (hB : B ≤ w.heap.size) (hl : L.length ≤ 1000000) (hg : G.length ≤ 1000000) :
    Calls Try.prog 47 #[v, idV i] w fun e w' => ∃ v', e = .returned (.tuple #[v', .int .i64 (dropR L G i).2]) ∧ RdT w' w'.heap.size v' L (dropR L G i).1 ∧ (∀ k, inV v' k → inV v k ∨ (w.heap.size ≤ k ∧ k < w'.heap.size)) ∧ Below w.heap.size w w' := by
  obtain ⟨i0, hi0, hz0, hz1, hz2⟩ := info_parts infoId
  obtain ⟨R, eR⟩ : ∃ R, R = dropR L G i := ⟨_, rfl⟩
  have hT : ∀ wz, Below w.heap.size w wz → RdT wz B v L G ∧ B ≤ wz.heap.size := fun wz hz => ⟨h.keep (hz.mono hB), Nat.le_trans hB hz.size⟩
  have KH := Lib.hid (fun wz hz => rhas_any i wz (hT wz hz).1 (hT wz hz).2 hl)
  have KG := Lib.hid (fun wz hz => rgone_any i wz (hT wz hz).1 (hT wz hz).2 hg)
  obtain ⟨A1, c1, A2, c2, rfl, r1, r2⟩ := h
  have HT := Lib.hid (And.intro hB (And.intro r1 r2))
  obtain ⟨v1, ev⟩ : ∃ v, v = ((w.alloc (.cells #[.slice A1 L.length c1, .slice A2 G.length c2] 91)).alloc (.cells #[.int .i64 i.1, .int .i64 i.2] 27)).alloc (.cells #[.slice none 0 0, .slice none 0 0] 91) := ⟨_, rfl⟩
  obtain ⟨g, eg⟩ : ∃ g, g = w.heap.size := ⟨_, rfl⟩
  obtain ⟨va, eva⟩ : ∃ v, v = (w.alloc (.cells #[.slice A1 L.length c1, .slice A2 G.length c2] 91)).alloc (.cells #[.int .i64 i.1, .int .i64 i.2] 27) := ⟨_, rfl⟩
  have hba : Below w.heap.size w va := by rw [eva]; exact ((Below.refl _ _).alloc (Nat.le_refl _) _).alloc (by simp) _
  have hsa : va.heap.size = g + 2 := by rw [eva, eg]; simp
  have hqa : va.cell? ⟨g, 0, none⟩ = some (.slice A1 L.length c1) ∧ va.cell? ⟨g, 1, none⟩ = some (.slice A2 G.length c2) ∧ va.cell? ⟨g + 1, 0, none⟩ = some (.int .i64 i.1) ∧ va.cell? ⟨g + 1, 1, none⟩ = some (.int .i64 i.2) := by
    rw [eva, eg]
    simp
  have evv : v1 = va.alloc (.cells #[.slice none 0 0, .slice none 0 0] 91) := by rw [ev, eva]
  have hb1 : Below va.heap.size va v1 := by rw [evv]; exact (Below.refl _ _).alloc (Nat.le_refl _) _
  have hb : Below w.heap.size w v1 := hba.trans (hb1.mono hba.size)
  have hs : v1.heap.size = g + 3 := by rw [evv]; simp; omega
  have hq : v1.cell? ⟨g, 0, none⟩ = some (.slice A1 L.length c1) ∧ v1.cell? ⟨g, 1, none⟩ = some (.slice A2 G.length c2) ∧ v1.cell? ⟨g + 1, 0, none⟩ = some (.int .i64 i.1) ∧ v1.cell? ⟨g + 1, 1, none⟩ = some (.int .i64 i.2) :=
    ⟨(hb1.cell (p := ⟨g, 0, none⟩) (show g < va.heap.size by omega)).trans hqa.1, (hb1.cell (p := ⟨g, 1, none⟩) (show g < va.heap.size by omega)).trans hqa.2.1, (hb1.cell (p := ⟨g + 1, 0, none⟩) (show g + 1 < va.heap.size by omega)).trans hqa.2.2.1, (hb1.cell (p := ⟨g + 1, 1, none⟩) (show g + 1 < va.heap.size by omega)).trans hqa.2.2.2⟩
  have ho : O2 v1 w.heap.size 91 (g + 2) (.slice none 0 0) (.slice none 0 0) := by
    have h0 := O2.newz (w := va) (B := w.heap.size) hba.size 91 (.slice none 0 0) (.slice none 0 0)
    rw [← evv, hsa] at h0
    exact h0
  clear hba hsa hqa evv hb1 eva
  have HV := Lib.hid (And.intro ev eg)
  have HQ := Lib.hid (And.intro hb (And.intro hs (And.intro hq ho)))
  have HW1 := Lib.hid (fun wz (hz : Below v1.heap.size v1 wz) => show wz.cell? ⟨g, 0, none⟩ = some (.slice A1 L.length c1) ∧ wz.cell? ⟨g, 1, none⟩ = some (.slice A2 G.length c2) ∧ wz.cell? ⟨g + 1, 0, none⟩ = some (.int .i64 i.1) ∧ wz.cell? ⟨g + 1, 1, none⟩ = some (.int .i64 i.2) from
    ⟨(hz.cell (p := ⟨g, 0, none⟩) (show g < v1.heap.size by omega)).trans hq.1, (hz.cell (p := ⟨g, 1, none⟩) (show g < v1.heap.size by omega)).trans hq.2.1, (hz.cell (p := ⟨g + 1, 0, none⟩) (show g + 1 < v1.heap.size by omega)).trans hq.2.2.1, (hz.cell (p := ⟨g + 1, 1, none⟩) (show g + 1 < v1.heap.size by omega)).trans hq.2.2.2⟩)
  have HR := Lib.hid eR
  have HL := Lib.hid (And.intro hl hg)
  obtain ⟨q0, q1, q2, q3⟩ := hq
  rw [← eR]
  clear ev eg hb hs ho r1 r2 hB hT eR hl hg
  obtain ⟨hh, ehh⟩ : ∃ b, b = hasB L i := ⟨_, rfl⟩
  obtain ⟨gg, egg⟩ : ∃ b, b = goneB G i := ⟨_, rfl⟩
  rw [← ehh] at KH
  rw [← egg] at KG
  have HE := Lib.hid (And.intro ehh egg)
  clear ehh egg
  go_enter Try.func47, Try.ntmps47
  go_upto_region 1 with fail
  rw [← HV.out.1, ← HV.out.2]
  clear HV
  go_wp2_with fail
  go_at_call 66
  refine (KH.out v1 HQ.out.1).mono ?_
  rintro e v2 ⟨rfl, h2⟩
  cases hh
  · have o2 : O2 v2 w.heap.size 91 (g + 2) _ _ := OwnF.keep HQ.out.2.2.2 h2
    have f0 := o2.f0
    have f1 := o2.f1
    have z0 := o2.c0
    have z1 := o2.c1
    obtain ⟨k0, k1, k2, k3⟩ := HW1.out v2 h2
    have o3 := o2.set_ (.slice A1 L.length c1) (.slice A2 G.length c2)
    have hb3 := o2.below (.slice A1 L.length c1) (.slice A2 G.length c2)
    have HO := Lib.hid (And.intro o3 ((HQ.out.1.trans (h2.mono HQ.out.1.size)).trans hb3))
    have HX := Lib.hid (show R = (G, 13) by rw [HR.out]; unfold dropR; rw [if_pos HE.out.1.symm])
    clear o2 o3 hb3 q0 q1 q2 q3 h2
    go_wp2_with fail
    refine bodyPost_ret (tree_res2 Try.results47 _ HO.out.1 rfl rfl) rfl ?_
    rw [HX.out]
    exact ⟨_, rfl, ⟨A1, c1, A2, c2, rfl, (HT.out.2.1.keep (HO.out.2.mono HT.out.1)).mono (Nat.le_trans HT.out.1 HO.out.2.size), (HT.out.2.2.keep (HO.out.2.mono HT.out.1)).mono (Nat.le_trans HT.out.1 HO.out.2.size)⟩, fun _ hk => .inl hk, HO.out.2⟩
  · have HB2 := Lib.hid (HQ.out.1.trans (h2.mono HQ.out.1.size))
    have H2 := Lib.hid h2
    obtain ⟨k0, k1, k2, k3⟩ := HW1.out v2 h2
    clear q0 q1 q2 q3 h2 KH
    go_wp2_with fail
    go_at_call 67
    refine (KG.out v2 HB2.out).mono ?_
    rintro e wa ⟨rfl, h3⟩
    have HBA := Lib.hid (H2.out.trans (h3.mono H2.out.size))
    have HB3 := Lib.hid (HQ.out.1.trans (HBA.out.mono HQ.out.1.size))
    clear k0 k1 k2 k3 h3 KG HB2 H2
    have oa : O2 wa w.heap.size 91 (g + 2) _ _ := OwnF.keep HQ.out.2.2.2 HBA.out
    cases gg
    case true =>
      have f0 := oa.f0
      have f1 := oa.f1
      have z0 := oa.c0
      have z1 := oa.c1
      obtain ⟨k0, k1, k2, k3⟩ := HW1.out wa HBA.out
      have o3 := oa.set_ (.slice A1 L.length c1) (.slice A2 G.length c2)
      have hb3 := oa.below (.slice A1 L.length c1) (.slice A2 G.length c2)
      have HO := Lib.hid (And.intro o3 (HB3.out.trans hb3))
      have HX := Lib.hid (show R = (G, 12) by rw [HR.out]; unfold dropR; rw [if_neg (by rw [← HE.out.1]; decide), if_pos HE.out.2.symm])
      clear oa o3 hb3
      go_wp2_with fail
      refine bodyPost_ret (tree_res2 Try.results47 _ HO.out.1 rfl rfl) rfl ?_
      rw [HX.out]
      exact ⟨_, rfl, ⟨A1, c1, A2, c2, rfl, (HT.out.2.1.keep (HO.out.2.mono HT.out.1)).mono (Nat.le_trans HT.out.1 HO.out.2.size), (HT.out.2.2.keep (HO.out.2.mono HT.out.1)).mono (Nat.le_trans HT.out.1 HO.out.2.size)⟩, fun _ hk => .inl hk, HO.out.2⟩
    have HX := Lib.hid (show R = (G ++ [i], 0) by rw [HR.out]; unfold dropR; rw [if_neg (by rw [← HE.out.1]; decide), if_neg (by rw [← HE.out.2]; decide)])
    have HW := Lib.hid (fun wz (hz : Below wa.heap.size wa wz) => HW1.out wz (HBA.out.trans (hz.mono HBA.out.size)))
    have HRow := Lib.hid (fun wz (hz : Below wa.heap.size wa wz) => show RdR idE wz wz.heap.size A2 c2 G from (HT.out.2.2.keep ((HB3.out.trans (hz.mono HB3.out.size)).mono HT.out.1)).mono (Nat.le_trans HT.out.1 (HB3.out.trans (hz.mono HB3.out.size)).size))
    have HOA := Lib.hid oa
    clear oa
    go_upto_region 5 with fail
    refine wp_region_par 6 8 [some 16, some 17, some 18, some 19, some 20, some 21] [0, 3, 5] [none, some (.pointer (some ⟨g, 1, none⟩)), some (.slice A2 G.length c2), none, some (.agg #[.int .i64 i.1, .int .i64 i.2]), none]
      (fun Lb Vb wz => Below wa.heap.size wa wz ∧ (Lb 0 = true → Lb 3 = false → ∃ A c, Vb 0 = .slice A 0 c ∧ OwnR idE wz wa.heap.size 27 A c []) ∧ (Lb 3 = true → ∃ A c, Vb 3 = .slice A G.length c ∧ OwnR idE wz wa.heap.size 27 A c G) ∧ (Lb 5 = true → ∃ A, Vb 5 = .slice A 1 1 ∧ RdR idE wz wz.heap.size A 1 [i]) ∧ (Lb 0 = true → Lb 5 = true → Lb 3 = false → ∀ A0 c0 A5, Vb 0 = .slice A0 0 c0 → Vb 5 = .slice A5 1 1 → Offs A0 A5)) (by kernel_rfl) (by kernel_rfl)
      (fun _ => ⟨(Below.refl _ _).drew, fun h => absurd h (by decide), fun h => absurd h (by decide), fun h => absurd h (by decide), fun h => absurd h (by decide)⟩) (fun u => by simp only [List.filterMap_cons, List.filterMap_nil, puts, List.foldl_cons, List.foldl_nil]; go_simp; exact rfl) ?_ ?_
    · simp only [List.take_succ_cons, List.take_zero]
      refine Par.hard rfl (fun u wz Lb Vb hT hh => ?_) ?_
      · obtain ⟨hb, t0, t3, t5, t05⟩ := hT
        have n3 := hh.not_ 3 rfl
        have ha := (Below.refl wz.heap.size wz).alloc (Nat.le_refl _) (.cells #[] 27)
        refine StepP.of rfl (StepC.run (.slice (some ⟨wz.heap.size, 0, none⟩) 0 0) (wz.alloc (.cells #[] 27)) rfl (by go_simp) ⟨fun c hc => by simp at hc, hb.trans (ha.mono hb.size), fun _ _ => ⟨_, _, rfl, OwnR.lit (E := idE) 27 hb.size #[] [] (by decide) rfl⟩, fun h => absurd (show Lb 3 = true by simpa [lset] using h) (by rw [n3]; decide), fun h => ?_, fun _ h _ A0 c0 A5 e0 e5 => ?_⟩)
        · obtain ⟨A, eA, r⟩ := t5 (by simpa [lset] using h)
          exact ⟨A, by simpa [vset] using eA, r.next ha⟩
        · obtain ⟨A, eA, r⟩ := t5 (by simpa [lset] using h)
          have e5' : Vb 5 = .slice A5 1 1 := by simpa [vset] using e5
          rw [eA] at e5'
          obtain rfl : A = A5 := by simpa using e5'
          obtain ⟨b, o, ea, hlt, _⟩ := r.some_ (by simp)
          have e0' : some ⟨wz.heap.size, 0, none⟩ = A0 := by
            have h9 : Value.slice (some ⟨wz.heap.size, 0, none⟩) 0 0 = .slice A0 0 c0 := by simpa [vset] using e0
            simp only [Value.slice.injEq] at h9
            exact h9.1
          intro ad ad2 h1 h2 h3
          rw [← e0'] at h1
          rw [ea] at h2
          cases h1
          cases h2
          exact absurd h3 (Nat.ne_of_gt hlt)
      refine Par.soft rfl rfl (.pointer (some ⟨g, 1, none⟩)) rfl (fun u w Lb Vb hT hh => ⟨rfl, by go_simp⟩) ?_
      refine Par.soft rfl rfl (.slice A2 G.length c2) rfl (fun u w Lb Vb hT hh => ⟨rfl, by have d17 : u 17 = .pointer (some ⟨g, 1, none⟩) := hh.val 1 _ rfl rfl; rw [d17]; obtain ⟨k0, k1, k2, k3⟩ := HW.out w hT.1; go_simp⟩) ?_
      refine Par.hard rfl (fun u wz Lb Vb hT hh => ?_) ?_
      · obtain ⟨hb, t0, t3, t5, t05⟩ := hT
        have b0 : Lb 0 = true := hh.been 0 (by rfl) rfl
        have n3 : Lb 3 = false := hh.not_ 3 (by rfl)
        obtain ⟨A0, c0, e0, o0⟩ := t0 b0 n3
        have d0 : u 16 = .slice A0 0 c0 := (hh.hv 0 rfl).symm.trans e0
        have dl : u 18 = .slice A2 G.length c2 := hh.val 2 _ rfl rfl
        rw [d0, dl]
        refine StepP.of rfl (StepC.appR wz rfl (.tmp 16) (.tmp 18) 43 rfl wa.heap.size 27 i0 _ Try.underlying43 hi0 hz0 hz1 hz2 rfl (n := 0) rfl rfl o0 (m := G.length) rfl rfl (HRow.out wz hb) (by have := HL.out; omega) (by have := HL.out; omega) hb.size fun A9 c9 w9 o9 hb9 hg9 => ⟨fun c hc => by simp at hc, hb.trans hb9, fun _ h => absurd h (by simp [lset]), fun _ => ⟨A9, c9, by simp [vset], o9⟩, fun h => ?_, fun _ _ h => absurd h (by simp [lset])⟩)
        obtain ⟨A, eA, r⟩ := t5 (by simpa [lset] using h)
        exact ⟨A, by simpa [vset] using eA, (r.grown (hg9.1 c0 0) (t05 b0 (by simpa [lset] using h) n3 A0 c0 A e0 eA)).mono hb9.size⟩
      refine Par.soft rfl rfl (.agg #[.int .i64 i.1, .int .i64 i.2]) rfl (fun u w Lb Vb hT hh => ⟨rfl, by obtain ⟨k0, k1, k2, k3⟩ := HW.out w hT.1; go_simp⟩) ?_
      refine Par.hard rfl (fun u wz Lb Vb hT hh => ?_) Par.nil
      · obtain ⟨hb, t0, t3, t5, t05⟩ := hT
        have d20 : u 20 = .agg #[.int .i64 i.1, .int .i64 i.2] := hh.val 4 _ rfl rfl
        rw [d20]
        have ha := (Below.refl wz.heap.size wz).alloc (Nat.le_refl _) (.cells #[.int .i64 i.1, .int .i64 i.2] 27)
        have hl1 := OwnR.lit (E := idE) (w := wz) 27 (Nat.le_refl _) #[.int .i64 i.1, .int .i64 i.2] [i] (by simp [maxLen]) rfl
        refine StepP.of rfl (StepC.run (.slice (some ⟨wz.heap.size, 0, none⟩) 1 1) (wz.alloc (.cells #[.int .i64 i.1, .int .i64 i.2] 27)) rfl (by go_simp) ⟨fun c hc => by simp at hc, hb.trans (ha.mono hb.size), fun h h' => ?_, fun h => ?_, fun _ => ⟨_, rfl, hl1.rd⟩, fun h _ h' A0 c0 A5 e0 e5 => ?_⟩)
        · obtain ⟨A, c, e, o⟩ := t0 (by simpa [lset] using h) (by simpa [lset] using h')
          exact ⟨A, c, by simpa [vset] using e, o.keep ha⟩
        · obtain ⟨A, c, e, o⟩ := t3 (by simpa [lset] using h)
          exact ⟨A, c, by simpa [vset] using e, o.keep ha⟩
        · obtain ⟨A, c, e, o⟩ := t0 (by simpa [lset] using h) (by simpa [lset] using h')
          have e0' : Vb 0 = .slice A0 0 c0 := by simpa [vset] using e0
          rw [e] at e0'
          obtain ⟨rfl, rfl⟩ : A = A0 ∧ c = c0 := by simpa using e0'
          have e5' : some ⟨wz.heap.size, 0, none⟩ = A5 := by
            have h9 : Value.slice (some ⟨wz.heap.size, 0, none⟩) 1 1 = .slice A5 1 1 := by simpa [vset] using e5
            simpa using h9
          intro ad ad2 h1 h2 h3
          rw [← e5'] at h2
          cases h2
          exact absurd h3 (Nat.ne_of_lt (o.blk ad h1).2)
    · rintro u v5 hv ⟨Lb, Vb, ⟨hb, _, t3, t5, _⟩, hl⟩
      obtain ⟨A3, c3, e3, o3⟩ := t3 (hl 3 (by decide) rfl).1
      obtain ⟨A5, e5, r5⟩ := t5 (hl 5 (by decide) rfl).1
      have d3 : u 19 = .slice A3 G.length c3 := (hl 3 (by decide) rfl).2.symm.trans e3
      have d5 : u 21 = .slice A5 1 1 := (hl 5 (by decide) rfl).2.symm.trans e5
      rw [d3, d5]
      have HO5 := Lib.hid (And.intro o3 (And.intro r5 hb))
      have HLN := Lib.hid (show G.length + 1 ≤ 140737488355328 by have := HL.out; omega)
      have HLB := Lib.hid (show (G.length + 1) * 16 ≤ 140737488355328 by have := HL.out; omega)
      clear hv hl t3 t5 o3 r5 hb d3 d5 e3 e5
      simp only [List.drop_succ_cons, List.drop_zero]
      go_upto_region 6 with (at_builtin; refine wpList_appR v5 rfl (.tmp 19) (.tmp 21) _ rfl wa.heap.size 27 i0 _ Try.underlying43 hi0 hz0 hz1 hz2 rfl rfl rfl HO5.out.1 rfl rfl HO5.out.2.1 HLN.out HLB.out HO5.out.2.2.size ?_; intro A8 c8 w8 o8 hb8 hg8)
      have hbe := HO5.out.2.2.trans hb8
      have oe : O2 w8 w.heap.size 91 (g + 2) _ _ := OwnF.keep HOA.out hbe
      have f0 := oe.f0
      have f1 := oe.f1
      have z0 := oe.c0
      have z1 := oe.c1
      obtain ⟨k0, k1, k2, k3⟩ := HW1.out w8 (HBA.out.trans (hbe.mono HBA.out.size))
      have o9 := oe.set_ (.slice A1 L.length c1) (.slice A8 (G.length + 1) c8)
      have hb9 := oe.below (.slice A1 L.length c1) (.slice A8 (G.length + 1) c8)
      have hne := OwnF.lt HOA.out
      have ho8 : OwnR idE (set2 w8 (g + 2) (.slice A1 L.length c1) (.slice A8 (G.length + 1) c8)) wa.heap.size 27 A8 c8 (G ++ [i]) := o8.keep0 (fun ad hA => set2_only _ _ _ _ _ (by have := (o8.blk ad hA).1; omega))
      have HO := Lib.hid (And.intro o9 (And.intro ((HB3.out.trans (hbe.mono HB3.out.size)).trans hb9) ho8))
      clear oe o9 hb9 hne ho8 o8 hb8 hg8 hbe
      go_wp2_with fail
      refine bodyPost_ret (tree_res2 Try.results47 _ HO.out.1 rfl rfl) rfl ?_
      rw [HX.out]
      exact ⟨_, rfl, ⟨A1, c1, A8, c8, by simp, (HT.out.2.1.keep (HO.out.2.1.mono HT.out.1)).mono (Nat.le_trans HT.out.1 HO.out.2.1.size), HO.out.2.2.rd⟩, fun _ hk => inV_new2 (fun ad h => ⟨Nat.le_trans HB3.out.size (HO.out.2.2.blk ad h).1, (HO.out.2.2.blk ad h).2⟩) hk, HO.out.2.1⟩
end Go.Proofs.Ytpjeggbkhbghaaa
