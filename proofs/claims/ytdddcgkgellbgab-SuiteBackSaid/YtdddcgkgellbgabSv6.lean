/-
  Layer 19, the landed code: Verify of the ideal suite. By an AI agent.
-/
import Derived.Test.YtdddcgkgellbgabSv4
namespace Go.Proofs.Ytdddcgkgellbgab
open Go Go.RowKit
set_option maxRecDepth 20000
attribute [local irreducible] e8 calledT
theorem part_cell {w : World} {pb : Nat} {P : List (List UInt8)} (h : w.heap[pb]? = some (prtC P)) {k : Nat} (hk : k < P.length) : w.cell? ⟨pb, k, none⟩ = some (bStr (row P k)) := by
  unfold World.cell?
  rw [h, row_get hk]
  simp [hk]
theorem found_ok {w : World} {F S : Nat → Prop} {T : Nat} {L : List Trm} {D : Nat} (h : TabR w F S T L D) {b : List UInt8} {k : UInt8} {t : Trm} (hf : findT L b k = some t) (hL : L.length ≤ 1000000) : okT t ∧ t.kind = k ∧ t.parts.length = arT k := by
  obtain ⟨j, h1, h2, _⟩ := (findT_iff (by omega)).1 hf
  have := h.good.2 t (List.mem_of_getElem? h1)
  exact ⟨this, h2, by rw [this.ar, h2]⟩
set_option maxHeartbeats 3200000 in
theorem verify_any : VerC IdR := by
  intro F S p L D A A2 A3 c c2 c3 k b s w h hL hk hb hs
  obtain ⟨I, T, F0, rfl, hI, hT, hF⟩ := id h
  have HM := Lib.hid (made_any w h)
  have HC := Lib.hid (fun v (hv : Below w.heap.size w v) => (hv.cell (p := ⟨I, 0, none⟩) (w_lt hI)).trans (ic_cell hI))
  have HN1 := Lib.hid (fun v (hv : Below w.heap.size w v) => named_any (k := 103) v (hT.keep fun q hq => hv.block q (hT.lt q hq)) hL ((hs.keep hv).mono hv.size))
  have HN2 := Lib.hid (fun v (hv : Below w.heap.size w v) => named_any (k := 118) v (hT.keep fun q hq => hv.block q (hT.lt q hq)) hL ((hk.keep hv).mono hv.size))
  have HB := Lib.hid (fun v (hv : Below w.heap.size w v) => (hb.keep hv).mono hv.size)
  have HT := Lib.hid (And.intro hT hL)
  obtain ⟨n1, en1⟩ : ∃ n, n = k.length := ⟨_, rfl⟩
  obtain ⟨n2, en2⟩ : ∃ n, n = b.length := ⟨_, rfl⟩
  obtain ⟨n3, en3⟩ : ∃ n, n = s.length := ⟨_, rfl⟩
  have HN := Lib.hid (And.intro en1 (And.intro en2 en3))
  rw [← en1] at HN2 ⊢
  rw [← en2]
  rw [← en3] at HN1 ⊢
  clear h hI hT hF hL hk hb hs en1 en2 en3
  go_enter Try.func19, Try.ntmps19
  go_wp2_with fail
  go_at_call 37
  refine HM.out.mono ?_
  rintro e v ⟨rfl, hv⟩
  have cI := HC.out v hv
  have HV := Lib.hid hv
  clear hv HM
  go_wp2_with fail
  refine (HN1.out v HV.out).mono ?_
  rintro e v1 ⟨hf1, hb1⟩
  have HV1 := Lib.hid (HV.out.trans (hb1.mono HV.out.size))
  have HA1 := Lib.hid hb1
  clear hb1 HN1 cI
  unfold FoundV at hf1
  cases h1 : findT L s 103 with
  | none =>
    rw [h1] at hf1
    have HX := Lib.hid (show verifyT L k b s = false by unfold verifyT; rw [h1])
    subst hf1
    clear h1
    obtain ⟨v2, ev2⟩ : ∃ q, q = v1.alloc (.cells #[.int .u8 0, .slice none 0 0] 75) := ⟨_, rfl⟩
    have hb2 : Below v1.heap.size v1 v2 := by rw [ev2]; exact (Below.refl _ _).alloc (Nat.le_refl _) _
    have HV2 := Lib.hid (HV1.out.trans (hb2.mono HV1.out.size))
    go_upto_region 4 with fail
    rw [← ev2]
    have cI := HC.out v2 HV2.out
    clear ev2 hb2
    go_wp2_with fail
    refine (HN2.out v2 HV2.out).mono ?_
    rintro e v3 ⟨hf2, hb3⟩
    have HV3 := Lib.hid (HV2.out.trans (hb3.mono HV2.out.size))
    clear hb3
    unfold FoundV at hf2
    obtain ⟨a0, Ax, nx, cx, a2, rfl⟩ : ∃ (a0 : Int) (Ax : Option Addr) (nx cx : Nat) (b0 : Bool), e = .returned (.tuple #[.agg #[.int .u8 a0, .slice Ax nx cx], .bool b0]) := by
      cases h2 : findT L k 118 with
      | none => rw [h2] at hf2; exact ⟨_, _, _, _, _, hf2⟩
      | some t => rw [h2] at hf2; obtain ⟨pb, e1, _⟩ := hf2; exact ⟨_, _, _, _, _, e1⟩
    clear hf2
    go_upto_region 5 with fail
    obtain ⟨v4, ev4⟩ : ∃ q, q = v3.alloc (.cells #[.int .u8 a0, .slice Ax nx cx] 75) := ⟨_, rfl⟩
    have hb4 : Below v3.heap.size v3 v4 := by rw [ev4]; exact (Below.refl _ _).alloc (Nat.le_refl _) _
    have HV4 := Lib.hid (HV3.out.trans (hb4.mono HV3.out.size))
    rw [← ev4]
    clear ev4 hb4
    go_quiet (fail)
    go_wp2_with fail
    go_ret
    exact ⟨by rw [HX.out]; rfl, HV4.out.trans (below_drewN _ _)⟩
  | some g =>
    rw [h1] at hf1
    obtain ⟨pg, rfl, hpg⟩ := hf1
    obtain ⟨hok, hkg, hlg⟩ := found_ok HT.out.1 h1 HT.out.2
    have hlg2 : g.parts.length = 2 := hlg
    obtain ⟨κ1, eκ1⟩ : ∃ κ : Int, κ = (g.kind.toNat : Int) := ⟨_, rfl⟩
    rw [← eκ1, hlg2]
    have H1 := Lib.hid h1
    have HPG := Lib.hid (fun q (hv : Below v.heap.size v q) => show q.cell? ⟨pg, 0, none⟩ = some (bStr (row g.parts 0)) ∧ q.cell? ⟨pg, 1, none⟩ = some (bStr (row g.parts 1)) from
      ⟨(hv.cell (p := ⟨pg, 0, none⟩) (w_lt hpg)).trans (part_cell hpg (by omega)), (hv.cell (p := ⟨pg, 1, none⟩) (w_lt hpg)).trans (part_cell hpg (by omega))⟩)
    clear h1 eκ1 hpg hok hkg hlg hlg2
    obtain ⟨v2, ev2⟩ : ∃ q, q = v1.alloc (.cells #[.int .u8 κ1, .slice (some ⟨pg, 0, none⟩) 2 2] 75) := ⟨_, rfl⟩
    obtain ⟨b9, eb9⟩ : ∃ q, q = v1.heap.size := ⟨_, rfl⟩
    have hb2 : Below v1.heap.size v1 v2 := by rw [ev2]; exact (Below.refl _ _).alloc (Nat.le_refl _) _
    have hg9 : v2.heap[b9]? = some (.cells #[.int .u8 κ1, .slice (some ⟨pg, 0, none⟩) 2 2] 75) := by rw [ev2, eb9]; exact (MapKept.heap_alloc v1 _).1
    have HV2 := Lib.hid (HV1.out.trans (hb2.mono HV1.out.size))
    have HG9 := Lib.hid hg9
    have HA2 := Lib.hid (HA1.out.trans (hb2.mono HA1.out.size))
    go_upto_region 4 with fail
    rw [← ev2, ← eb9]
    have cI := HC.out v2 HV2.out
    clear ev2 hb2 eb9 hg9
    go_wp2_with fail
    refine (HN2.out v2 HV2.out).mono ?_
    rintro e v3 ⟨hf2, hb3⟩
    have HV3 := Lib.hid (HV2.out.trans (hb3.mono HV2.out.size))
    have HB23 := Lib.hid hb3
    have HA3 := Lib.hid (HA2.out.trans (hb3.mono HA2.out.size))
    have HG3 := Lib.hid ((hb3.block b9 (w_lt HG9.out)).trans HG9.out)
    clear hb3
    unfold FoundV at hf2
    cases h2 : findT L k 118 with
    | none =>
      rw [h2] at hf2
      have HX := Lib.hid (show verifyT L k b s = false by unfold verifyT; rw [H1.out, h2])
      subst hf2
      clear h2
      go_upto_region 5 with fail
      obtain ⟨v4, ev4⟩ : ∃ q, q = v3.alloc (.cells #[.int .u8 0, .slice none 0 0] 75) := ⟨_, rfl⟩
      have hb4 : Below v3.heap.size v3 v4 := by rw [ev4]; exact (Below.refl _ _).alloc (Nat.le_refl _) _
      have HV4 := Lib.hid (HV3.out.trans (hb4.mono HV3.out.size))
      rw [← ev4]
      clear ev4 hb4
      go_quiet (fail)
      go_wp2_with fail
      go_ret
      exact ⟨by rw [HX.out]; rfl, HV4.out.trans (below_drewN _ _)⟩
    | some t =>
      rw [h2] at hf2
      obtain ⟨pv, rfl, hpv⟩ := hf2
      obtain ⟨hokv, hkv, hlv⟩ := found_ok HT.out.1 h2 HT.out.2
      have hlv2 : t.parts.length = 1 := hlv
      obtain ⟨κ2, eκ2⟩ : ∃ κ : Int, κ = (t.kind.toNat : Int) := ⟨_, rfl⟩
      rw [← eκ2, hlv2]
      have HX := Lib.hid (show verifyT L k b s = (decide (row g.parts 0 = row t.parts 0) && decide (row g.parts 1 = b)) by unfold verifyT; rw [H1.out, h2])
      obtain ⟨v4, ev4⟩ : ∃ q, q = v3.alloc (.cells #[.int .u8 κ2, .slice (some ⟨pv, 0, none⟩) 1 1] 75) := ⟨_, rfl⟩
      obtain ⟨b11, eb11⟩ : ∃ q, q = v3.heap.size := ⟨_, rfl⟩
      have hb4 : Below v3.heap.size v3 v4 := by rw [ev4]; exact (Below.refl _ _).alloc (Nat.le_refl _) _
      have hg11 : v4.heap[b11]? = some (.cells #[.int .u8 κ2, .slice (some ⟨pv, 0, none⟩) 1 1] 75) := by rw [ev4, eb11]; exact (MapKept.heap_alloc v3 _).1
      have hg9 : v4.heap[b9]? = some (.cells #[.int .u8 κ1, .slice (some ⟨pg, 0, none⟩) 2 2] 75) := (hb4.block b9 (w_lt HG3.out)).trans HG3.out
      have HV4 := Lib.hid (HV3.out.trans (hb4.mono HV3.out.size))
      have c9 : v4.cell? ⟨b9, 1, none⟩ = some (.slice (some ⟨pg, 0, none⟩) 2 2) := by simp [World.cell?, hg9]
      have c11 : v4.cell? ⟨b11, 1, none⟩ = some (.slice (some ⟨pv, 0, none⟩) 1 1) := by simp [World.cell?, hg11]
      obtain ⟨cg0, cg1⟩ := HPG.out v4 (HA3.out.trans (hb4.mono HA3.out.size))
      have cv0 : v4.cell? ⟨pv, 0, none⟩ = some (bStr (row t.parts 0)) := by
        have hq : v4.heap[pv]? = some (prtC t.parts) := (((HB23.out.trans (hb4.mono HB23.out.size)).block pv (w_lt hpv))).trans hpv
        exact part_cell hq (by omega)
      obtain ⟨s0, es0⟩ : ∃ q, q = row g.parts 0 := ⟨_, rfl⟩
      obtain ⟨s1, es1⟩ : ∃ q, q = row g.parts 1 := ⟨_, rfl⟩
      obtain ⟨t0, et0⟩ : ∃ q, q = row t.parts 0 := ⟨_, rfl⟩
      rw [← es0] at cg0 HX
      rw [← es1] at cg1 HX
      rw [← et0] at cv0 HX
      have HWZ := Lib.hid (fun wz (hz : Below v4.heap.size v4 wz) => show wz.cell? ⟨b9, 1, none⟩ = some (.slice (some ⟨pg, 0, none⟩) 2 2) ∧ wz.cell? ⟨b11, 1, none⟩ = some (.slice (some ⟨pv, 0, none⟩) 1 1) ∧ wz.cell? ⟨pg, 0, none⟩ = some (bStr s0) ∧ wz.cell? ⟨pg, 1, none⟩ = some (bStr s1) ∧ wz.cell? ⟨pv, 0, none⟩ = some (bStr t0) from by
        have hpg4 := World.block_lt_of_cell? v4 _ cg0
        have hpv4 := World.block_lt_of_cell? v4 _ cv0
        exact ⟨(hz.cell (p := ⟨b9, 1, none⟩) (w_lt hg9)).trans c9, (hz.cell (p := ⟨b11, 1, none⟩) (w_lt hg11)).trans c11, (hz.cell (p := ⟨pg, 0, none⟩) hpg4).trans cg0, (hz.cell (p := ⟨pg, 1, none⟩) hpg4).trans cg1, (hz.cell (p := ⟨pv, 0, none⟩) hpv4).trans cv0⟩)
      have HST := Lib.hid (fun wz (hz : Below v4.heap.size v4 wz) => run_str (P := Try.prog) wz 31 5 Try.underlying31 Try.underlying5 (dst := 9) Try.underlying9 (HB.out wz (HV4.out.trans (hz.mono HV4.out.size))))
      rw [← HN.out.2.1] at HST
      clear hokv hkv hlv hlv2 eκ2 h2 es0 es1 et0 hpv hg9 hg11 hb4
      go_upto_region 5 with fail
      rw [← ev4, ← eb11]
      clear ev4 eb11
      by_cases hst0 : s0 = t0
      · have g0 : (s0 == t0) = true := by rw [hst0]; exact beq_self_eq_true _
        have HX2 := Lib.hid (show verifyT L k b s = (s1 == b) by rw [HX.out, decide_eq_true hst0, Bool.true_and, Bool.eq_iff_iff, beq_iff_eq, decide_eq_true_iff])
        clear hst0
        refine wp_region_inv 24 [34, 35, 36, 37, 38, 39, 40, 41, 42, 43, 44, 45, 46, 47, 48, 49, 50, 51, 52, 53, 54, 55, 56, 57] [.val (.bool true), .val (.bool true), .val (.bool true), .val (.bool true), .val (.bool true), .val (.pointer (some ⟨b9, 1, none⟩)), .val (.slice (some ⟨pg, 0, none⟩) 2 2), .val (.pointer (some ⟨pg, 0, none⟩)), .val (bStr s0), .val (.pointer (some ⟨b11, 1, none⟩)), .val (.slice (some ⟨pv, 0, none⟩) 1 1), .val (.pointer (some ⟨pv, 0, none⟩)), .val (bStr t0), .val (.bool true), .val (.bool true), .val (.bool true), .val (.pointer (some ⟨b9, 1, none⟩)), .val (.slice (some ⟨pg, 0, none⟩) 2 2), .val (.pointer (some ⟨pg, 1, none⟩)), .val (bStr s1), .val (.slice A2 n2 c2), .val (.string ⟨b.toArray⟩), .val (.bool (s1 == b)), .val (.bool (s1 == b))] (fun wz => Below v4.heap.size v4 wz) (by kernel_rfl) (by kernel_rfl) (fun wz wz' hz hb => hz.trans (hb.mono hz.size)) ((Below.refl _ _).drew) (fun u => by simp only [puts, List.foldl_cons, List.foldl_nil]; go_simp; exact rfl) ?_ ?_
        · simp only [List.take_succ_cons, List.take_zero]
          refine Obs.cons (fun u w hS hd => ?_) ?_
          · exact Gv.run (.bool true) rfl (by go_simp) rfl
          refine Obs.cons (fun u w hS hd => ?_) ?_
          · have d34 : u 34 = .bool true := dep hd 0 rfl
            rw [d34]
            exact Gv.run (.bool true) rfl (by go_simp) rfl
          refine Obs.cons (fun u w hS hd => ?_) ?_
          · have d35 : u 35 = .bool true := dep hd 1 rfl
            rw [d35]
            exact Gv.run (.bool true) rfl (by go_simp) rfl
          refine Obs.cons (fun u w hS hd => ?_) ?_
          · have d35 : u 35 = .bool true := dep hd 1 rfl
            have d36 : u 36 = .bool true := dep hd 2 rfl
            rw [d35, d36]
            exact Gv.run (.bool true) rfl (by go_simp) rfl
          refine Obs.cons (fun u w hS hd => ?_) ?_
          · have d37 : u 37 = .bool true := dep hd 3 rfl
            rw [d37]
            exact Gv.run (.bool true) rfl (by go_simp) rfl
          refine Obs.cons (fun u w hS hd => ?_) ?_
          · have d38 : u 38 = .bool true := dep hd 4 rfl
            rw [d38]
            exact Gv.run (.pointer (some ⟨b9, 1, none⟩)) rfl (by go_simp) rfl
          refine Obs.cons (fun u w hS hd => ?_) ?_
          · have d38 : u 38 = .bool true := dep hd 4 rfl
            have d39 : u 39 = .pointer (some ⟨b9, 1, none⟩) := dep hd 5 rfl
            rw [d38, d39]
            obtain ⟨q0, q1, q2, q3, q4⟩ := HWZ.out w hS
            exact Gv.run (.slice (some ⟨pg, 0, none⟩) 2 2) rfl (by go_simp) rfl
          refine Obs.cons (fun u w hS hd => ?_) ?_
          · have d38 : u 38 = .bool true := dep hd 4 rfl
            have d40 : u 40 = .slice (some ⟨pg, 0, none⟩) 2 2 := dep hd 6 rfl
            rw [d38, d40]
            exact Gv.run (.pointer (some ⟨pg, 0, none⟩)) rfl (by go_simp) rfl
          refine Obs.cons (fun u w hS hd => ?_) ?_
          · have d38 : u 38 = .bool true := dep hd 4 rfl
            have d41 : u 41 = .pointer (some ⟨pg, 0, none⟩) := dep hd 7 rfl
            rw [d38, d41]
            obtain ⟨q0, q1, q2, q3, q4⟩ := HWZ.out w hS
            exact Gv.run (bStr s0) rfl (by go_simp) rfl
          refine Obs.cons (fun u w hS hd => ?_) ?_
          · have d38 : u 38 = .bool true := dep hd 4 rfl
            rw [d38]
            exact Gv.run (.pointer (some ⟨b11, 1, none⟩)) rfl (by go_simp) rfl
          refine Obs.cons (fun u w hS hd => ?_) ?_
          · have d38 : u 38 = .bool true := dep hd 4 rfl
            have d43 : u 43 = .pointer (some ⟨b11, 1, none⟩) := dep hd 9 rfl
            rw [d38, d43]
            obtain ⟨q0, q1, q2, q3, q4⟩ := HWZ.out w hS
            exact Gv.run (.slice (some ⟨pv, 0, none⟩) 1 1) rfl (by go_simp) rfl
          refine Obs.cons (fun u w hS hd => ?_) ?_
          · have d38 : u 38 = .bool true := dep hd 4 rfl
            have d44 : u 44 = .slice (some ⟨pv, 0, none⟩) 1 1 := dep hd 10 rfl
            rw [d38, d44]
            exact Gv.run (.pointer (some ⟨pv, 0, none⟩)) rfl (by go_simp) rfl
          refine Obs.cons (fun u w hS hd => ?_) ?_
          · have d38 : u 38 = .bool true := dep hd 4 rfl
            have d45 : u 45 = .pointer (some ⟨pv, 0, none⟩) := dep hd 11 rfl
            rw [d38, d45]
            obtain ⟨q0, q1, q2, q3, q4⟩ := HWZ.out w hS
            exact Gv.run (bStr t0) rfl (by go_simp) rfl
          refine Obs.cons (fun u w hS hd => ?_) ?_
          · have d38 : u 38 = .bool true := dep hd 4 rfl
            have d42 : u 42 = bStr s0 := dep hd 8 rfl
            have d46 : u 46 = bStr t0 := dep hd 12 rfl
            rw [d38, d42, d46]
            exact Gv.run (.bool true) rfl (by go_simp) rfl
          refine Obs.cons (fun u w hS hd => ?_) ?_
          · have d38 : u 38 = .bool true := dep hd 4 rfl
            have d47 : u 47 = .bool true := dep hd 13 rfl
            rw [d38, d47]
            exact Gv.run (.bool true) rfl (by go_simp) rfl
          refine Obs.cons (fun u w hS hd => ?_) ?_
          · have d48 : u 48 = .bool true := dep hd 14 rfl
            rw [d48]
            exact Gv.run (.bool true) rfl (by go_simp) rfl
          refine Obs.cons (fun u w hS hd => ?_) ?_
          · have d49 : u 49 = .bool true := dep hd 15 rfl
            rw [d49]
            exact Gv.run (.pointer (some ⟨b9, 1, none⟩)) rfl (by go_simp) rfl
          refine Obs.cons (fun u w hS hd => ?_) ?_
          · have d49 : u 49 = .bool true := dep hd 15 rfl
            have d50 : u 50 = .pointer (some ⟨b9, 1, none⟩) := dep hd 16 rfl
            rw [d49, d50]
            obtain ⟨q0, q1, q2, q3, q4⟩ := HWZ.out w hS
            exact Gv.run (.slice (some ⟨pg, 0, none⟩) 2 2) rfl (by go_simp) rfl
          refine Obs.cons (fun u w hS hd => ?_) ?_
          · have d49 : u 49 = .bool true := dep hd 15 rfl
            have d51 : u 51 = .slice (some ⟨pg, 0, none⟩) 2 2 := dep hd 17 rfl
            rw [d49, d51]
            exact Gv.run (.pointer (some ⟨pg, 1, none⟩)) rfl (by go_simp) rfl
          refine Obs.cons (fun u w hS hd => ?_) ?_
          · have d49 : u 49 = .bool true := dep hd 15 rfl
            have d52 : u 52 = .pointer (some ⟨pg, 1, none⟩) := dep hd 18 rfl
            rw [d49, d52]
            obtain ⟨q0, q1, q2, q3, q4⟩ := HWZ.out w hS
            exact Gv.run (bStr s1) rfl (by go_simp) rfl
          refine Obs.cons (fun u w hS hd => ?_) ?_
          · have d49 : u 49 = .bool true := dep hd 15 rfl
            rw [d49]
            exact Gv.run (.slice A2 n2 c2) rfl (by go_simp) rfl
          refine Obs.cons (fun u w hS hd => ?_) ?_
          · have d49 : u 49 = .bool true := dep hd 15 rfl
            have d54 : u 54 = .slice A2 n2 c2 := dep hd 20 rfl
            rw [d49, d54]
            have hq := HST.out w hS
            exact Gv.run (.string ⟨b.toArray⟩) rfl (by exact run_conv rfl (by go_simp) hq) rfl
          refine Obs.cons (fun u w hS hd => ?_) ?_
          · have d49 : u 49 = .bool true := dep hd 15 rfl
            have d53 : u 53 = bStr s1 := dep hd 19 rfl
            have d55 : u 55 = .string ⟨b.toArray⟩ := dep hd 21 rfl
            rw [d49, d53, d55]
            exact Gv.run (.bool (s1 == b)) rfl (by go_simp) rfl
          refine Obs.cons (fun u w hS hd => ?_) ?_
          · have d49 : u 49 = .bool true := dep hd 15 rfl
            have d56 : u 56 = .bool (s1 == b) := dep hd 22 rfl
            rw [d49, d56]
            exact Gv.run (.bool (s1 == b)) rfl (by go_simp) rfl
          exact Obs.nil
        · intro u wz hS hd
          have d57 : u 57 = .bool (s1 == b) := hd 23 (by decide)
          have hb := HV4.out.trans (hS.mono HV4.out.size)
          rw [d57]
          clear hS hd
          go_wp2_with fail
          go_ret
          exact ⟨by rw [HX2.out]; rfl, hb⟩
      · have g0 : (s0 == t0) = false := by rw [beq_eq_false_iff_ne]; exact hst0
        have HX2 := Lib.hid (show verifyT L k b s = false by rw [HX.out, decide_eq_false hst0, Bool.false_and])
        clear hst0
        go_quiet (fail)
        go_wp2_with fail
        go_ret
        exact ⟨by rw [HX2.out]; rfl, HV4.out.trans (below_drewN _ _)⟩
end Go.Proofs.Ytdddcgkgellbgab
