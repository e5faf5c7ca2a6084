/-
  Layer 19, the landed code: Shared of the ideal suite. By an AI agent.
-/
import Derived.Test.YtdddcgkgellbgabSv8
import Derived.Test.YtdddcgkgellbgabSl3
namespace Go.Proofs.Ytdddcgkgellbgab
open Go Go.RowKit
set_option maxRecDepth 20000
attribute [local irreducible] e8 calledT
set_option maxHeartbeats 6400000 in
theorem shared_any : ShaC IdR := by
  intro F S p L D A A2 c c2 s pub w h hL hs hp hls hlp
  obtain ⟨I, T, F0, rfl, hI, hT, hF⟩ := id h
  have HM := Lib.hid (made_any w h)
  have HC := Lib.hid (fun v (hv : Below w.heap.size w v) => (hv.cell (p := ⟨I, 0, none⟩) (w_lt hI)).trans (ic_cell hI))
  have HN1 := Lib.hid (fun v (hv : Below w.heap.size w v) => named_any (k := 112) v (hT.keep fun q hq => hv.block q (hT.lt q hq)) hL ((hp.keep hv).mono hv.size))
  have HSr := Lib.hid (fun v (hv : Below w.heap.size w v) => (hs.keep hv).mono hv.size)
  have HU := Lib.hid (And.intro hI (And.intro hF (And.intro hT (And.intro h (And.intro hL hls)))))
  obtain ⟨n1, en1⟩ : ∃ n, n = s.length := ⟨_, rfl⟩
  obtain ⟨n2, en2⟩ : ∃ n, n = pub.length := ⟨_, rfl⟩
  have HN := Lib.hid (And.intro en1 en2)
  rw [← en1]
  rw [← en2] at HN1 ⊢
  clear h hI hT hF hL hs hp hls hlp en1 en2
  go_enter Try.func21, Try.ntmps21
  go_wp2_with fail
  go_at_call 37
  refine HM.out.mono ?_
  rintro e v ⟨rfl, hv⟩
  have cI := HC.out v hv
  have HV := Lib.hid hv
  clear hv HM
  by_cases h32 : n1 = 32
  case neg =>
    have h33 : ¬ s.length = 32 := by rw [← HN.out.1]; exact h32
    have HA := Lib.hid (And.intro (show sharedA L s pub = [] from if_neg h33) (And.intro (show sharedE L s pub = 1 from if_neg h33) (show sharedL L s pub = L from if_neg h33)))
    have g1 : ((n1 : Int) != 32) = true := by simp; omega
    clear h32 h33
    go_wp2_with fail
    go_ret2
    rw [HA.out.1, HA.out.2.1, HA.out.2.2]
    exact ⟨none, 0, rfl, told_none HU.out.2.2.2.1 HV.out⟩
  have h33 : s.length = 32 := by rw [← HN.out.1]; exact h32
  have HG := Lib.hid h33
  have g1 : ((n1 : Int) != 32) = false := by rw [h32]; rfl
  clear h32 h33
  go_wp2_with fail
  refine (HN1.out v HV.out).mono ?_
  rintro e v1 ⟨hf1, hb1⟩
  have HV1 := Lib.hid (HV.out.trans (hb1.mono HV.out.size))
  have HA1 := Lib.hid hb1
  clear hb1 HN1 cI g1
  unfold FoundV at hf1
  cases h1 : findT L pub 112 with
  | none =>
    rw [h1] at hf1
    have HA := Lib.hid (And.intro (show sharedA L s pub = [] by unfold sharedA; rw [if_pos HG.out, h1]) (And.intro (show sharedE L s pub = 8 by unfold sharedE; rw [if_pos HG.out, h1]) (show sharedL L s pub = L by unfold sharedL; rw [if_pos HG.out, h1])))
    subst hf1
    clear h1
    obtain ⟨v2, ev2⟩ : ∃ q, q = v1.alloc (.cells #[.int .u8 0, .slice none 0 0] 75) := ⟨_, rfl⟩
    have hb2 : Below v1.heap.size v1 v2 := by rw [ev2]; exact (Below.refl _ _).alloc (Nat.le_refl _) _
    have HV2 := Lib.hid (HV1.out.trans (hb2.mono HV1.out.size))
    go_upto_region 4 with fail
    rw [← ev2]
    clear ev2 hb2
    go_wp2_with fail
    go_ret2
    rw [HA.out.1, HA.out.2.1, HA.out.2.2]
    exact ⟨none, 0, rfl, told_none HU.out.2.2.2.1 HV2.out⟩
  | some g =>
    rw [h1] at hf1
    obtain ⟨pg, rfl, hpg⟩ := hf1
    obtain ⟨hok, hkg, hlg⟩ := found_ok HU.out.2.2.1 h1 HU.out.2.2.2.2.1
    have hlg2 : g.parts.length = 1 := hlg
    obtain ⟨κ1, eκ1⟩ : ∃ κ : Int, κ = (g.kind.toNat : Int) := ⟨_, rfl⟩
    rw [← eκ1, hlg2]
    obtain ⟨v2, ev2⟩ : ∃ q, q = v1.alloc (.cells #[.int .u8 κ1, .slice (some ⟨pg, 0, none⟩) 1 1] 75) := ⟨_, rfl⟩
    obtain ⟨b9, eb9⟩ : ∃ q, q = v1.heap.size := ⟨_, rfl⟩
    have hb2 : Below v1.heap.size v1 v2 := by rw [ev2]; exact (Below.refl _ _).alloc (Nat.le_refl _) _
    have hg9 : v2.heap[b9]? = some (.cells #[.int .u8 κ1, .slice (some ⟨pg, 0, none⟩) 1 1] 75) := by rw [ev2, eb9]; exact (MapKept.heap_alloc v1 _).1
    have hp2 := ((HA1.out.trans (hb2.mono HA1.out.size)).block pg (w_lt hpg)).trans hpg
    have HV2 := Lib.hid (HV1.out.trans (hb2.mono HV1.out.size))
    have hl0 : (row g.parts 0).length ≤ 1099511627776 := by rw [row_get (by omega)]; exact hok.fit _ (List.getElem_mem _)
    obtain ⟨p0, ep0⟩ : ∃ q, q = row g.parts 0 := ⟨_, rfl⟩
    have HA := Lib.hid (And.intro (show sharedA L s pub = calledT (termD s p0) (numT L (termD s p0)) by unfold sharedA; rw [if_pos HG.out, h1, ep0]) (And.intro (show sharedE L s pub = 0 by unfold sharedE; rw [if_pos HG.out, h1]) (show sharedL L s pub = knowT L (termD s p0) by unfold sharedL; rw [if_pos HG.out, h1, ep0])))
    have HWZ := Lib.hid (fun wz (hz : Below v2.heap.size v2 wz) => show wz.cell? ⟨b9, 1, none⟩ = some (.slice (some ⟨pg, 0, none⟩) 1 1) ∧ wz.cell? ⟨pg, 0, none⟩ = some (bStr p0) from by
      have hq := (hz.block pg (w_lt hp2)).trans hp2
      rw [ep0]
      exact ⟨(hz.cell (p := ⟨b9, 1, none⟩) (w_lt hg9)).trans (by simp [World.cell?, hg9]), part_cell hq (by omega)⟩)
    have HL0 := Lib.hid (show p0.length ≤ 1099511627776 by rw [ep0]; exact hl0)
    clear h1 eκ1 hpg hok hkg hlg hlg2 hb2 hg9 hp2 ep0 hl0
    go_upto_region 4 with fail
    rw [← ev2, ← eb9]
    clear ev2 eb9
    go_upto_region 6 with fail
    refine wp_region_inv 7 [31, 32, 33, 34, 35, 36, 10] [.val (.slice A n1 c), .val (.pointer (some ⟨b9, 1, none⟩)), .val (.slice (some ⟨pg, 0, none⟩) 1 1), .val (.pointer (some ⟨pg, 0, none⟩)), .val (bStr p0), .byt p0, .val (.slice A n1 c)] (fun wz => Below v2.heap.size v2 wz) (by kernel_rfl) (by kernel_rfl) (fun wz wz' hz hb => hz.trans (hb.mono hz.size)) ((Below.refl _ _).drew) (fun u => by simp only [puts, List.foldl_cons, List.foldl_nil]; go_simp; exact rfl) ?_ ?_
    · simp only [List.take_succ_cons, List.take_zero]
      refine Obs.cons (fun u w hS hd => ?_) ?_
      · exact Gv.run (.slice A n1 c) rfl (by go_simp) rfl
      refine Obs.cons (fun u w hS hd => ?_) ?_
      · exact Gv.run (.pointer (some ⟨b9, 1, none⟩)) rfl (by go_simp) rfl
      refine Obs.cons (fun u w hS hd => ?_) ?_
      · have d32 : u 32 = .pointer (some ⟨b9, 1, none⟩) := dep hd 1 rfl
        rw [d32]
        obtain ⟨q0, q1⟩ := HWZ.out w hS
        exact Gv.run (.slice (some ⟨pg, 0, none⟩) 1 1) rfl (by go_simp) rfl
      refine Obs.cons (fun u w hS hd => ?_) ?_
      · have d33 : u 33 = .slice (some ⟨pg, 0, none⟩) 1 1 := dep hd 2 rfl
        rw [d33]
        exact Gv.run (.pointer (some ⟨pg, 0, none⟩)) rfl (by go_simp) rfl
      refine Obs.cons (fun u w hS hd => ?_) ?_
      · have d34 : u 34 = .pointer (some ⟨pg, 0, none⟩) := dep hd 3 rfl
        rw [d34]
        obtain ⟨q0, q1⟩ := HWZ.out w hS
        exact Gv.run (bStr p0) rfl (by go_simp) rfl
      refine Obs.cons (fun u w hS hd => ?_) ?_
      · have d35 : u 35 = bStr p0 := dep hd 4 rfl
        rw [d35]
        have hcv := Lib.run_convert_string_bytes (P := Try.prog) w 9 31 5 ⟨p0.toArray⟩ Try.underlying9 Try.underlying31 Try.underlying5
        rw [show (⟨p0.toArray⟩ : ByteArray).size = p0.length from List.size_toArray] at hcv
        exact Gv.make (.slice (some ⟨w.heap.size, 0, none⟩) p0.length (grownCap w p0.length 0 5)) (Lib.bytesWorld w 5 ⟨p0.toArray⟩) rfl (run_convW rfl (by go_simp) hcv) ⟨_, _, rfl, bytes_rd w 5 p0 _ (cap_ge _ _ _)⟩ (bytes_below (Nat.le_refl _) _ _)
      refine Obs.cons (fun u w hS hd => ?_) ?_
      · have d31 : u 31 = .slice A n1 c := dep hd 0 rfl
        rw [d31]
        exact Gv.run (.slice A n1 c) rfl (by go_simp) rfl
      exact Obs.nil
    · intro u wz hS hd
      have d10 : u 10 = .slice A n1 c := hd 6 (by decide)
      obtain ⟨Ap, cp, d36, hr0⟩ := hd 5 (by decide)
      have d36' : u 36 = .slice Ap p0.length cp := d36
      have HVZ := Lib.hid (HV2.out.trans (hS.mono HV2.out.size))
      have HR0 := Lib.hid hr0
      obtain ⟨n0, en0⟩ : ∃ n, n = p0.length := ⟨_, rfl⟩
      have HN0 := Lib.hid en0
      rw [← en0] at d36'
      rw [d10, d36']
      clear hd hS hr0 d36 en0
      go_wp2_with fail
      go_at_call 44
      rw [HN.out.1, HN0.out]
      refine (compare_any wz (HSr.out wz HVZ.out) HR0.out).mono ?_
      rintro e v4 ⟨rfl, h4⟩
      rw [h4, ← HN.out.1, ← HN0.out]
      clear h4
      have cI := HC.out wz HVZ.out
      obtain ⟨cmp, ecmp⟩ : ∃ q, q = Lib.compareBytes s p0 := ⟨_, rfl⟩
      have hless := compare_less s p0
      rw [← ecmp] at hless ⊢
      clear ecmp
      by_cases hgt : 0 < cmp
      · have HD := Lib.hid (show termD s p0 = ⟨100, [p0, s]⟩ by unfold termD; rw [hless.1 hgt]; rfl)
        clear hless
        go_wp2_with fail
        obtain ⟨v5, ev⟩ : ∃ q, q = wz.alloc (.cells #[.slice Ap n0 cp, .slice A n1 c] 31) := ⟨_, rfl⟩
        have hb1 : Below wz.heap.size wz v5 := by rw [ev]; exact (Below.refl _ _).alloc (Nat.le_refl _) _
        have hd : Rds v5 v5.heap.size (some ⟨wz.heap.size, 0, none⟩) 2 [p0, s] := by
          have hq := rds_lit 31 (w := wz) [(Ap, cp, p0), (A, c, s)] (fun q hq => by
            simp only [List.mem_cons, List.not_mem_nil, or_false] at hq
            rcases hq with rfl | rfl
            · exact HR0.out
            · exact HSr.out wz HVZ.out)
          rw [ev, HN.out.1, HN0.out]
          exact hq
        have hbw := HVZ.out.trans (hb1.mono HVZ.out.size)
        have HB := Lib.hid hbw
        rw [← ev]
        clear ev hb1
        have HNm := Lib.hid (name_any (k := 100) (P := [p0, s]) v5 (HU.out.2.2.1.keep fun q hq => hbw.block q (HU.out.2.2.1.lt q hq)) hd ⟨rfl, by simpa using And.intro HL0.out HU.out.2.2.2.2.2⟩ HU.out.2.2.2.2.1)
        clear hd hbw
        refine HNm.out.mono ?_
        rintro e w2 ⟨Aq, cq, rfl, ht⟩
        have H2 := Lib.hid ht
        clear ht
        go_wp2_with fail
        go_ret2
        rw [HA.out.1, HA.out.2.1, HA.out.2.2, HD.out]
        exact ⟨Aq, cq, by rw [calledT_len]; rfl, told_up HU.out.1 HU.out.2.1 HU.out.2.2.1 (OutF.of HB.out) H2.out⟩
      · have HD := Lib.hid (show termD s p0 = ⟨100, [s, p0]⟩ by
          unfold termD
          cases hb : Op.bytesLess p0 s with
          | true => exact absurd (hless.2 hb) hgt
          | false => rfl)
        clear hless
        go_wp2_with fail
        obtain ⟨v5, ev⟩ : ∃ q, q = wz.alloc (.cells #[.slice A n1 c, .slice Ap n0 cp] 31) := ⟨_, rfl⟩
        have hb1 : Below wz.heap.size wz v5 := by rw [ev]; exact (Below.refl _ _).alloc (Nat.le_refl _) _
        have hd : Rds v5 v5.heap.size (some ⟨wz.heap.size, 0, none⟩) 2 [s, p0] := by
          have hq := rds_lit 31 (w := wz) [(A, c, s), (Ap, cp, p0)] (fun q hq => by
            simp only [List.mem_cons, List.not_mem_nil, or_false] at hq
            rcases hq with rfl | rfl
            · exact HSr.out wz HVZ.out
            · exact HR0.out)
          rw [ev, HN.out.1, HN0.out]
          exact hq
        have hbw := HVZ.out.trans (hb1.mono HVZ.out.size)
        have HB := Lib.hid hbw
        rw [← ev]
        clear ev hb1
        have HNm := Lib.hid (name_any (k := 100) (P := [s, p0]) v5 (HU.out.2.2.1.keep fun q hq => hbw.block q (HU.out.2.2.1.lt q hq)) hd ⟨rfl, by simpa using And.intro HU.out.2.2.2.2.2 HL0.out⟩ HU.out.2.2.2.2.1)
        clear hd hbw
        refine HNm.out.mono ?_
        rintro e w2 ⟨Aq, cq, rfl, ht⟩
        have H2 := Lib.hid ht
        clear ht
        go_wp2_with fail
        go_ret2
        rw [HA.out.1, HA.out.2.1, HA.out.2.2, HD.out]
        exact ⟨Aq, cq, by rw [calledT_len]; rfl, told_up HU.out.1 HU.out.2.1 HU.out.2.2.1 (OutF.of HB.out) H2.out⟩
end Go.Proofs.Ytdddcgkgellbgab
