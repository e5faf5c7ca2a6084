/-
  Layer 19, the landed code: Open of the ideal suite. By an AI agent.
-/
import Derived.Test.YtdddcgkgellbgabSv6
import Derived.Lib.ConvBytes
namespace Go.Proofs.Ytdddcgkgellbgab
open Go Go.RowKit
set_option maxRecDepth 20000
attribute [local irreducible] e8 calledT
theorem bytes_below {w : World} {B : Nat} (hB : B ≤ w.heap.size) (e : TypeId) (s : ByteArray) : Below B w (Lib.bytesWorld w e s) :=
  ⟨rfl, rfl, rfl, by rw [Lib.bytesWorld_size]; omega, fun k hk => Lib.bytesWorld_at_old w e s k (by omega)⟩
theorem bytes_rd (w : World) (e : TypeId) (l : List UInt8) (c : Nat) (hc : l.length ≤ c) : Rd (Lib.bytesWorld w e ⟨l.toArray⟩) (Lib.bytesWorld w e ⟨l.toArray⟩).heap.size (some ⟨w.heap.size, 0, none⟩) c l :=
  ⟨hc, fun h => (nomatch h), fun _ => ⟨w.heap.size, 0, rfl, by rw [Lib.bytesWorld_size]; omega, fun k hk => by
    rw [Nat.zero_add, Lib.bytesWorld_cell w e ⟨l.toArray⟩ k (by show k < l.toArray.size; simpa using hk)]
    congr 2⟩⟩
theorem cap_ge (w : World) (n : Nat) (e : TypeId) : n ≤ grownCap w n 0 e := grownCap_ge w n 0 e
theorem ne_of_eq {a b : List UInt8} {x : Bool} (h : (a == b) = x) : (a != b) = !x := by unfold bne; rw [h]
set_option maxHeartbeats 6400000 in
theorem open_any : OpnC IdR := by
  intro F S p L D A A2 A3 c c2 c3 k o b n w h hL hk ho hb hn
  obtain ⟨I, T, F0, rfl, hI, hT, hF⟩ := id h
  have HM := Lib.hid (made_any w h)
  have HC := Lib.hid (fun v (hv : Below w.heap.size w v) => (hv.cell (p := ⟨I, 0, none⟩) (w_lt hI)).trans (ic_cell hI))
  have HN1 := Lib.hid (fun v (hv : Below w.heap.size w v) => named_any (k := 98) v (hT.keep fun q hq => hv.block q (hT.lt q hq)) hL ((hb.keep hv).mono hv.size))
  have HKy := Lib.hid (fun v (hv : Below w.heap.size w v) => (hk.keep hv).mono hv.size)
  have HOt := Lib.hid (fun v (hv : Below w.heap.size w v) => (ho.keep hv).mono hv.size)
  have HT := Lib.hid (And.intro hT hL)
  have HNB := Lib.hid hn
  obtain ⟨n1, en1⟩ : ∃ n, n = k.length := ⟨_, rfl⟩
  obtain ⟨n2, en2⟩ : ∃ n, n = o.length := ⟨_, rfl⟩
  obtain ⟨n3, en3⟩ : ∃ n, n = b.length := ⟨_, rfl⟩
  have HN := Lib.hid (And.intro en1 (And.intro en2 en3))
  rw [← en1, ← en2]
  rw [← en3] at HN1 ⊢
  clear h hI hT hF hL hk ho hb en1 en2 en3 hn
  go_enter Try.func18, Try.ntmps18
  go_wp2_with fail
  go_at_call 37
  refine HM.out.mono ?_
  rintro e v ⟨rfl, hv⟩
  have cI := HC.out v hv
  have HV := Lib.hid hv
  clear hv HM HC
  by_cases hg : k.length = 32 ∧ 0 ≤ n
  case neg =>
    have HA := Lib.hid (And.intro (show openA L k n o b = [] from if_neg hg) (show openE L k n o b = 1 from if_neg hg))
    by_cases h32 : n1 = 32
    · have g1 : ((n1 : Int) != 32) = false := by rw [h32]; rfl
      have g2 : n < 0 := by rw [← HN.out.1] at hg; omega
      clear hg h32
      go_wp2_with fail
      go_ret2
      rw [HA.out.1, HA.out.2]
      exact ⟨none, 0, rfl, ⟨Nat.le_refl _, fun _ => ⟨rfl, rfl⟩, fun h => absurd rfl h⟩, fun ad ea => (nomatch ea), HV.out⟩
    · have g1 : ((n1 : Int) != 32) = true := by simp; omega
      clear hg h32
      go_wp2_with fail
      go_ret2
      rw [HA.out.1, HA.out.2]
      exact ⟨none, 0, rfl, ⟨Nat.le_refl _, fun _ => ⟨rfl, rfl⟩, fun h => absurd rfl h⟩, fun ad ea => (nomatch ea), HV.out⟩
  obtain ⟨m, em⟩ : ∃ m : Nat, n = (m : Int) := ⟨n.toNat, by have := hg.2; omega⟩
  subst em
  have h32 : n1 = 32 := by rw [HN.out.1]; exact hg.1
  have HG := Lib.hid hg
  have HH := Lib.hid h32
  have g1 : ((n1 : Int) != 32) = false := by rw [h32]; rfl
  have g2 : ((m : Int) < 0) = False := eq_false (by omega)
  have g3 : (m : Int) < 9223372036854775808 := HNB.out
  have g4 : decide ((m : Int) < 0) = false := decide_eq_false (by omega)
  clear hg h32
  go_wp2_with fail
  refine (HN1.out v HV.out).mono ?_
  rintro e v1 ⟨hf1, hb1⟩
  have HV1 := Lib.hid (HV.out.trans (hb1.mono HV.out.size))
  have HA1 := Lib.hid hb1
  clear hb1 HN1 cI g1 g2 g3 g4
  unfold FoundV at hf1
  cases h1 : findT L b 98 with
  | none =>
    rw [h1] at hf1
    have HA := Lib.hid (And.intro (show openA L k (m : Int) o b = [] by unfold openA; rw [if_pos HG.out, h1]) (show openE L k (m : Int) o b = 9 by unfold openE; rw [if_pos HG.out, h1]))
    subst hf1
    clear h1
    obtain ⟨v2, ev2⟩ : ∃ q, q = v1.alloc (.cells #[.int .u8 0, .slice none 0 0] 75) := ⟨_, rfl⟩
    have hb2 : Below v1.heap.size v1 v2 := by rw [ev2]; exact (Below.refl _ _).alloc (Nat.le_refl _) _
    have HV2 := Lib.hid (HV1.out.trans (hb2.mono HV1.out.size))
    go_upto_region 4 with fail
    rw [← ev2]
    clear ev2 hb2
    go_quiet (fail)
    go_wp2_with fail
    go_ret2
    rw [HA.out.1, HA.out.2]
    exact ⟨none, 0, rfl, ⟨Nat.le_refl _, fun _ => ⟨rfl, rfl⟩, fun h => absurd rfl h⟩, fun ad ea => (nomatch ea), HV2.out.trans (below_drewN _ _)⟩
  | some g =>
    rw [h1] at hf1
    obtain ⟨pg, rfl, hpg⟩ := hf1
    obtain ⟨hok, hkg, hlg⟩ := found_ok HT.out.1 h1 HT.out.2
    have hlg2 : g.parts.length = 4 := hlg
    obtain ⟨κ1, eκ1⟩ : ∃ κ : Int, κ = (g.kind.toNat : Int) := ⟨_, rfl⟩
    rw [← eκ1, hlg2]
    have HA := Lib.hid (And.intro (show openA L k (m : Int) o b = if opens g k (m : Int) o then row g.parts 3 else [] by unfold openA; rw [if_pos HG.out, h1]) (show openE L k (m : Int) o b = if opens g k (m : Int) o then 0 else 9 by unfold openE; rw [if_pos HG.out, h1]))
    obtain ⟨v2, ev2⟩ : ∃ q, q = v1.alloc (.cells #[.int .u8 κ1, .slice (some ⟨pg, 0, none⟩) 4 4] 75) := ⟨_, rfl⟩
    obtain ⟨b9, eb9⟩ : ∃ q, q = v1.heap.size := ⟨_, rfl⟩
    have hb2 : Below v1.heap.size v1 v2 := by rw [ev2]; exact (Below.refl _ _).alloc (Nat.le_refl _) _
    have hg9 : v2.heap[b9]? = some (.cells #[.int .u8 κ1, .slice (some ⟨pg, 0, none⟩) 4 4] 75) := by rw [ev2, eb9]; exact (MapKept.heap_alloc v1 _).1
    have hp2 := ((HA1.out.trans (hb2.mono HA1.out.size)).block pg (w_lt hpg)).trans hpg
    have HV2 := Lib.hid (HV1.out.trans (hb2.mono HV1.out.size))
    have hl3 : (row g.parts 3).length ≤ 1099511627776 := by rw [row_get (by omega)]; exact hok.fit _ (List.getElem_mem _)
    obtain ⟨p0, ep0⟩ : ∃ q, q = row g.parts 0 := ⟨_, rfl⟩
    obtain ⟨p1, ep1⟩ : ∃ q, q = row g.parts 1 := ⟨_, rfl⟩
    obtain ⟨p2, ep2⟩ : ∃ q, q = row g.parts 2 := ⟨_, rfl⟩
    obtain ⟨p3, ep3⟩ : ∃ q, q = row g.parts 3 := ⟨_, rfl⟩
    have HWZ := Lib.hid (fun wz (hz : Below v2.heap.size v2 wz) => show wz.cell? ⟨b9, 1, none⟩ = some (.slice (some ⟨pg, 0, none⟩) 4 4) ∧ wz.cell? ⟨pg, 0, none⟩ = some (bStr p0) ∧ wz.cell? ⟨pg, 1, none⟩ = some (bStr p1) ∧ wz.cell? ⟨pg, 2, none⟩ = some (bStr p2) ∧ wz.cell? ⟨pg, 3, none⟩ = some (bStr p3) from by
      have hq := (hz.block pg (w_lt hp2)).trans hp2
      rw [ep0, ep1, ep2, ep3]
      exact ⟨(hz.cell (p := ⟨b9, 1, none⟩) (w_lt hg9)).trans (by simp [World.cell?, hg9]), part_cell hq (by omega), part_cell hq (by omega), part_cell hq (by omega), part_cell hq (by omega)⟩)
    have HSK := Lib.hid (fun wz (hz : Below v2.heap.size v2 wz) => run_str (P := Try.prog) wz 31 5 Try.underlying31 Try.underlying5 (dst := 9) Try.underlying9 (HKy.out wz (HV2.out.trans (hz.mono HV2.out.size))))
    have HSO := Lib.hid (fun wz (hz : Below v2.heap.size v2 wz) => run_str (P := Try.prog) wz 31 5 Try.underlying31 Try.underlying5 (dst := 9) Try.underlying9 (HOt.out wz (HV2.out.trans (hz.mono HV2.out.size))))
    rw [← HN.out.1] at HSK
    rw [← HN.out.2.1] at HSO
    have HOp := Lib.hid (show opens g k (m : Int) o = ((p0 == k) && (p1 == e8 m) && (p2 == o)) by
      unfold opens
      rw [ep0, ep1, ep2]
      congr 1
      · congr 1
        · rw [Bool.eq_iff_iff, beq_iff_eq, decide_eq_true_iff]
        · rw [Bool.eq_iff_iff, beq_iff_eq, decide_eq_true_iff]; rfl
      · rw [Bool.eq_iff_iff, beq_iff_eq, decide_eq_true_iff])
    have HP3 := Lib.hid (And.intro ep3 hl3)
    clear h1 eκ1 hpg hok hkg hlg hlg2 hb2 hg9 hp2 ep0 ep1 ep2 ep3 hl3
    go_upto_region 4 with fail
    rw [← ev2, ← eb9]
    clear ev2 eb9
    by_cases h0 : (p0 == k) = true
    · have f0 := ne_of_eq h0
      by_cases h1 : (p1 == e8 m) = true
      · have f1 := ne_of_eq h1
        by_cases h2 : (p2 == o) = true
        · have f2 := ne_of_eq h2
          have HX := Lib.hid (show opens g k (m : Int) o = true by rw [HOp.out, h0, h1, h2]; rfl)
          refine wp_region_inv 29 [35, 36, 37, 38, 39, 40, 41, 42, 43, 44, 45, 46, 47, 48, 49, 50, 51, 52, 53, 54, 55, 56, 57, 58, 59, 60, 61, 62, 63] [.val (.bool true), .val (.bool false), .val (.bool false), .val (.pointer (some ⟨b9, 1, none⟩)), .val (.slice (some ⟨pg, 0, none⟩) 4 4), .val (.pointer (some ⟨pg, 0, none⟩)), .val (bStr p0), .val (.slice A n1 c), .val (.string ⟨k.toArray⟩), .val (.bool false), .val (.bool false), .val (.bool false), .val (.pointer (some ⟨b9, 1, none⟩)), .val (.slice (some ⟨pg, 0, none⟩) 4 4), .val (.pointer (some ⟨pg, 1, none⟩)), .val (bStr p1), .val (.int .i64 (m : Int)), .byt (e8 m), .val (.string ⟨(e8 m).toArray⟩), .val (.bool false), .val (.bool false), .val (.bool false), .val (.pointer (some ⟨b9, 1, none⟩)), .val (.slice (some ⟨pg, 0, none⟩) 4 4), .val (.pointer (some ⟨pg, 2, none⟩)), .val (bStr p2), .val (.slice A2 n2 c2), .val (.string ⟨o.toArray⟩), .val (.bool false)] (fun wz => Below v2.heap.size v2 wz) (by kernel_rfl) (by kernel_rfl) (fun wz wz' hz hb => hz.trans (hb.mono hz.size)) ((Below.refl _ _).drew) (fun u => by simp only [puts, List.foldl_cons, List.foldl_nil]; go_simp; exact rfl) ?_ ?_
          · simp only [List.take_succ_cons, List.take_zero]
            refine Obs.cons (fun u w hS hd => ?_) ?_
            · exact Gv.run (.bool true) rfl (by go_simp) rfl
            refine Obs.cons (fun u w hS hd => ?_) ?_
            · have d35 : u 35 = .bool true := dep hd 0 rfl
              rw [d35]
              exact Gv.run (.bool false) rfl (by go_simp) rfl
            refine Obs.cons (fun u w hS hd => ?_) ?_
            · have d36 : u 36 = .bool false := dep hd 1 rfl
              rw [d36]
              exact Gv.run (.bool false) rfl (by go_simp) rfl
            refine Obs.cons (fun u w hS hd => ?_) ?_
            · have d37 : u 37 = .bool false := dep hd 2 rfl
              rw [d37]
              exact Gv.run (.pointer (some ⟨b9, 1, none⟩)) rfl (by go_simp) rfl
            refine Obs.cons (fun u w hS hd => ?_) ?_
            · have d37 : u 37 = .bool false := dep hd 2 rfl
              have d38 : u 38 = .pointer (some ⟨b9, 1, none⟩) := dep hd 3 rfl
              rw [d37, d38]
              obtain ⟨q0, q1, q2, q3, q4⟩ := HWZ.out w hS
              exact Gv.run (.slice (some ⟨pg, 0, none⟩) 4 4) rfl (by go_simp) rfl
            refine Obs.cons (fun u w hS hd => ?_) ?_
            · have d37 : u 37 = .bool false := dep hd 2 rfl
              have d39 : u 39 = .slice (some ⟨pg, 0, none⟩) 4 4 := dep hd 4 rfl
              rw [d37, d39]
              exact Gv.run (.pointer (some ⟨pg, 0, none⟩)) rfl (by go_simp) rfl
            refine Obs.cons (fun u w hS hd => ?_) ?_
            · have d37 : u 37 = .bool false := dep hd 2 rfl
              have d40 : u 40 = .pointer (some ⟨pg, 0, none⟩) := dep hd 5 rfl
              rw [d37, d40]
              obtain ⟨q0, q1, q2, q3, q4⟩ := HWZ.out w hS
              exact Gv.run (bStr p0) rfl (by go_simp) rfl
            refine Obs.cons (fun u w hS hd => ?_) ?_
            · have d37 : u 37 = .bool false := dep hd 2 rfl
              rw [d37]
              exact Gv.run (.slice A n1 c) rfl (by go_simp) rfl
            refine Obs.cons (fun u w hS hd => ?_) ?_
            · have d37 : u 37 = .bool false := dep hd 2 rfl
              have d42 : u 42 = .slice A n1 c := dep hd 7 rfl
              rw [d37, d42]
              have hq := HSK.out w hS
              exact Gv.run (.string ⟨k.toArray⟩) rfl (by exact run_conv rfl (by go_simp) hq) rfl
            refine Obs.cons (fun u w hS hd => ?_) ?_
            · have d37 : u 37 = .bool false := dep hd 2 rfl
              have d41 : u 41 = bStr p0 := dep hd 6 rfl
              have d43 : u 43 = .string ⟨k.toArray⟩ := dep hd 8 rfl
              rw [d37, d41, d43]
              exact Gv.run (.bool false) rfl (by go_simp) rfl
            refine Obs.cons (fun u w hS hd => ?_) ?_
            · have d37 : u 37 = .bool false := dep hd 2 rfl
              have d44 : u 44 = .bool false := dep hd 9 rfl
              rw [d37, d44]
              exact Gv.run (.bool false) rfl (by go_simp) rfl
            refine Obs.cons (fun u w hS hd => ?_) ?_
            · have d45 : u 45 = .bool false := dep hd 10 rfl
              rw [d45]
              exact Gv.run (.bool false) rfl (by go_simp) rfl
            refine Obs.cons (fun u w hS hd => ?_) ?_
            · have d46 : u 46 = .bool false := dep hd 11 rfl
              rw [d46]
              exact Gv.run (.pointer (some ⟨b9, 1, none⟩)) rfl (by go_simp) rfl
            refine Obs.cons (fun u w hS hd => ?_) ?_
            · have d46 : u 46 = .bool false := dep hd 11 rfl
              have d47 : u 47 = .pointer (some ⟨b9, 1, none⟩) := dep hd 12 rfl
              rw [d46, d47]
              obtain ⟨q0, q1, q2, q3, q4⟩ := HWZ.out w hS
              exact Gv.run (.slice (some ⟨pg, 0, none⟩) 4 4) rfl (by go_simp) rfl
            refine Obs.cons (fun u w hS hd => ?_) ?_
            · have d46 : u 46 = .bool false := dep hd 11 rfl
              have d48 : u 48 = .slice (some ⟨pg, 0, none⟩) 4 4 := dep hd 13 rfl
              rw [d46, d48]
              exact Gv.run (.pointer (some ⟨pg, 1, none⟩)) rfl (by go_simp) rfl
            refine Obs.cons (fun u w hS hd => ?_) ?_
            · have d46 : u 46 = .bool false := dep hd 11 rfl
              have d49 : u 49 = .pointer (some ⟨pg, 1, none⟩) := dep hd 14 rfl
              rw [d46, d49]
              obtain ⟨q0, q1, q2, q3, q4⟩ := HWZ.out w hS
              exact Gv.run (bStr p1) rfl (by go_simp) rfl
            refine Obs.cons (fun u w hS hd => ?_) ?_
            · have d46 : u 46 = .bool false := dep hd 11 rfl
              rw [d46]
              exact Gv.run (.int .i64 (m : Int)) rfl (by go_simp) rfl
            refine Obs.cons (fun u w hS hd => ?_) ?_
            · have d46 : u 46 = .bool false := dep hd 11 rfl
              have d51 : u 51 = .int .i64 (m : Int) := dep hd 16 rfl
              rw [d46, d51]
              refine Gv.call 42 #[.int .i64 (m : Int)] rfl (by go_simp) ((eight_any (by have := HNB.out; omega) w).mono ?_)
              rintro e w' ⟨Ae, ce, rfl, hoe, hbe⟩
              exact ⟨_, rfl, ⟨Ae, ce, by rw [e8_len], hoe.rd⟩, hbe⟩
            refine Obs.cons (fun u w hS hd => ?_) ?_
            · have d46 : u 46 = .bool false := dep hd 11 rfl
              obtain ⟨Ae, ce, d52, hre⟩ : ∃ A c, u 52 = .slice A (e8 m).length c ∧ Rd w w.heap.size A c (e8 m) := dep hd 17 rfl
              rw [d46, d52]
              have hq := run_str (P := Try.prog) w 31 5 Try.underlying31 Try.underlying5 (dst := 9) Try.underlying9 hre
              exact Gv.run (.string ⟨(e8 m).toArray⟩) rfl (run_conv rfl (by go_simp) hq) rfl
            refine Obs.cons (fun u w hS hd => ?_) ?_
            · have d46 : u 46 = .bool false := dep hd 11 rfl
              have d50 : u 50 = bStr p1 := dep hd 15 rfl
              have d53 : u 53 = .string ⟨(e8 m).toArray⟩ := dep hd 18 rfl
              rw [d46, d50, d53]
              exact Gv.run (.bool false) rfl (by go_simp) rfl
            refine Obs.cons (fun u w hS hd => ?_) ?_
            · have d46 : u 46 = .bool false := dep hd 11 rfl
              have d54 : u 54 = .bool false := dep hd 19 rfl
              rw [d46, d54]
              exact Gv.run (.bool false) rfl (by go_simp) rfl
            refine Obs.cons (fun u w hS hd => ?_) ?_
            · have d55 : u 55 = .bool false := dep hd 20 rfl
              rw [d55]
              exact Gv.run (.bool false) rfl (by go_simp) rfl
            refine Obs.cons (fun u w hS hd => ?_) ?_
            · have d56 : u 56 = .bool false := dep hd 21 rfl
              rw [d56]
              exact Gv.run (.pointer (some ⟨b9, 1, none⟩)) rfl (by go_simp) rfl
            refine Obs.cons (fun u w hS hd => ?_) ?_
            · have d56 : u 56 = .bool false := dep hd 21 rfl
              have d57 : u 57 = .pointer (some ⟨b9, 1, none⟩) := dep hd 22 rfl
              rw [d56, d57]
              obtain ⟨q0, q1, q2, q3, q4⟩ := HWZ.out w hS
              exact Gv.run (.slice (some ⟨pg, 0, none⟩) 4 4) rfl (by go_simp) rfl
            refine Obs.cons (fun u w hS hd => ?_) ?_
            · have d56 : u 56 = .bool false := dep hd 21 rfl
              have d58 : u 58 = .slice (some ⟨pg, 0, none⟩) 4 4 := dep hd 23 rfl
              rw [d56, d58]
              exact Gv.run (.pointer (some ⟨pg, 2, none⟩)) rfl (by go_simp) rfl
            refine Obs.cons (fun u w hS hd => ?_) ?_
            · have d56 : u 56 = .bool false := dep hd 21 rfl
              have d59 : u 59 = .pointer (some ⟨pg, 2, none⟩) := dep hd 24 rfl
              rw [d56, d59]
              obtain ⟨q0, q1, q2, q3, q4⟩ := HWZ.out w hS
              exact Gv.run (bStr p2) rfl (by go_simp) rfl
            refine Obs.cons (fun u w hS hd => ?_) ?_
            · have d56 : u 56 = .bool false := dep hd 21 rfl
              rw [d56]
              exact Gv.run (.slice A2 n2 c2) rfl (by go_simp) rfl
            refine Obs.cons (fun u w hS hd => ?_) ?_
            · have d56 : u 56 = .bool false := dep hd 21 rfl
              have d61 : u 61 = .slice A2 n2 c2 := dep hd 26 rfl
              rw [d56, d61]
              have hq := HSO.out w hS
              exact Gv.run (.string ⟨o.toArray⟩) rfl (by exact run_conv rfl (by go_simp) hq) rfl
            refine Obs.cons (fun u w hS hd => ?_) ?_
            · have d56 : u 56 = .bool false := dep hd 21 rfl
              have d60 : u 60 = bStr p2 := dep hd 25 rfl
              have d62 : u 62 = .string ⟨o.toArray⟩ := dep hd 27 rfl
              rw [d56, d60, d62]
              exact Gv.run (.bool false) rfl (by go_simp) rfl
            exact Obs.nil
          · intro u wz hS hd
            have d56 : u 56 = .bool false := hd 21 (by decide)
            have d63 : u 63 = .bool false := hd 28 (by decide)
            have HVZ := Lib.hid (HV2.out.trans (hS.mono HV2.out.size))
            obtain ⟨q0, _, _, _, q4⟩ := HWZ.out wz hS
            rw [d56, d63]
            clear hd hS h0 f0 h1 f1 h2 f2
            have hcv := Lib.run_convert_string_bytes (P := Try.prog) wz 9 31 5 ⟨p3.toArray⟩ Try.underlying9 Try.underlying31 Try.underlying5
            rw [show (⟨p3.toArray⟩ : ByteArray).size = p3.length from List.size_toArray] at hcv
            obtain ⟨l3, el3⟩ : ∃ l, l = p3.length := ⟨_, rfl⟩
            have HL3 := Lib.hid el3
            obtain ⟨cap, ecap⟩ : ∃ q, q = grownCap wz l3 0 5 := ⟨_, rfl⟩
            have HCap := Lib.hid ecap
            obtain ⟨v5, ev5⟩ : ∃ q, q = Lib.bytesWorld wz 5 ⟨p3.toArray⟩ := ⟨_, rfl⟩
            have HV5 := Lib.hid ev5
            rw [← el3, ← ecap, ← ev5] at hcv
            clear el3 ecap ev5
            go_wp2_with fail
            go_ret2
            rw [HA.out.1, HA.out.2, HX.out, if_pos rfl, if_pos rfl, ← HP3.out.1, ← HL3.out]
            refine ⟨some ⟨wz.heap.size, 0, none⟩, cap, rfl, ?_, fun ad ea => by cases ea; exact HVZ.out.size, ?_⟩
            · rw [HV5.out]; exact bytes_rd wz 5 p3 cap (by rw [HCap.out, ← HL3.out]; exact cap_ge _ _ _)
            · rw [HV5.out]; exact HVZ.out.trans (bytes_below HVZ.out.size _ _)
        · rw [Bool.not_eq_true] at h2
          have f2 := ne_of_eq h2
          have HX := Lib.hid (show opens g k (m : Int) o = false by rw [HOp.out, h0, h1, h2]; rfl)
          refine wp_region_inv 29 [35, 36, 37, 38, 39, 40, 41, 42, 43, 44, 45, 46, 47, 48, 49, 50, 51, 52, 53, 54, 55, 56, 57, 58, 59, 60, 61, 62, 63] [.val (.bool true), .val (.bool false), .val (.bool false), .val (.pointer (some ⟨b9, 1, none⟩)), .val (.slice (some ⟨pg, 0, none⟩) 4 4), .val (.pointer (some ⟨pg, 0, none⟩)), .val (bStr p0), .val (.slice A n1 c), .val (.string ⟨k.toArray⟩), .val (.bool false), .val (.bool false), .val (.bool false), .val (.pointer (some ⟨b9, 1, none⟩)), .val (.slice (some ⟨pg, 0, none⟩) 4 4), .val (.pointer (some ⟨pg, 1, none⟩)), .val (bStr p1), .val (.int .i64 (m : Int)), .byt (e8 m), .val (.string ⟨(e8 m).toArray⟩), .val (.bool false), .val (.bool false), .val (.bool false), .val (.pointer (some ⟨b9, 1, none⟩)), .val (.slice (some ⟨pg, 0, none⟩) 4 4), .val (.pointer (some ⟨pg, 2, none⟩)), .val (bStr p2), .val (.slice A2 n2 c2), .val (.string ⟨o.toArray⟩), .val (.bool true)] (fun wz => Below v2.heap.size v2 wz) (by kernel_rfl) (by kernel_rfl) (fun wz wz' hz hb => hz.trans (hb.mono hz.size)) ((Below.refl _ _).drew) (fun u => by simp only [puts, List.foldl_cons, List.foldl_nil]; go_simp; exact rfl) ?_ ?_
          · simp only [List.take_succ_cons, List.take_zero]
            refine Obs.cons (fun u w hS hd => ?_) ?_
            · exact Gv.run (.bool true) rfl (by go_simp) rfl
            refine Obs.cons (fun u w hS hd => ?_) ?_
            · have d35 : u 35 = .bool true := dep hd 0 rfl
              rw [d35]
              exact Gv.run (.bool false) rfl (by go_simp) rfl
            refine Obs.cons (fun u w hS hd => ?_) ?_
            · have d36 : u 36 = .bool false := dep hd 1 rfl
              rw [d36]
              exact Gv.run (.bool false) rfl (by go_simp) rfl
            refine Obs.cons (fun u w hS hd => ?_) ?_
            · have d37 : u 37 = .bool false := dep hd 2 rfl
              rw [d37]
              exact Gv.run (.pointer (some ⟨b9, 1, none⟩)) rfl (by go_simp) rfl
            refine Obs.cons (fun u w hS hd => ?_) ?_
            · have d37 : u 37 = .bool false := dep hd 2 rfl
              have d38 : u 38 = .pointer (some ⟨b9, 1, none⟩) := dep hd 3 rfl
              rw [d37, d38]
              obtain ⟨q0, q1, q2, q3, q4⟩ := HWZ.out w hS
              exact Gv.run (.slice (some ⟨pg, 0, none⟩) 4 4) rfl (by go_simp) rfl
            refine Obs.cons (fun u w hS hd => ?_) ?_
            · have d37 : u 37 = .bool false := dep hd 2 rfl
              have d39 : u 39 = .slice (some ⟨pg, 0, none⟩) 4 4 := dep hd 4 rfl
              rw [d37, d39]
              exact Gv.run (.pointer (some ⟨pg, 0, none⟩)) rfl (by go_simp) rfl
            refine Obs.cons (fun u w hS hd => ?_) ?_
            · have d37 : u 37 = .bool false := dep hd 2 rfl
              have d40 : u 40 = .pointer (some ⟨pg, 0, none⟩) := dep hd 5 rfl
              rw [d37, d40]
              obtain ⟨q0, q1, q2, q3, q4⟩ := HWZ.out w hS
              exact Gv.run (bStr p0) rfl (by go_simp) rfl
            refine Obs.cons (fun u w hS hd => ?_) ?_
            · have d37 : u 37 = .bool false := dep hd 2 rfl
              rw [d37]
              exact Gv.run (.slice A n1 c) rfl (by go_simp) rfl
            refine Obs.cons (fun u w hS hd => ?_) ?_
            · have d37 : u 37 = .bool false := dep hd 2 rfl
              have d42 : u 42 = .slice A n1 c := dep hd 7 rfl
              rw [d37, d42]
              have hq := HSK.out w hS
              exact Gv.run (.string ⟨k.toArray⟩) rfl (by exact run_conv rfl (by go_simp) hq) rfl
            refine Obs.cons (fun u w hS hd => ?_) ?_
            · have d37 : u 37 = .bool false := dep hd 2 rfl
              have d41 : u 41 = bStr p0 := dep hd 6 rfl
              have d43 : u 43 = .string ⟨k.toArray⟩ := dep hd 8 rfl
              rw [d37, d41, d43]
              exact Gv.run (.bool false) rfl (by go_simp) rfl
            refine Obs.cons (fun u w hS hd => ?_) ?_
            · have d37 : u 37 = .bool false := dep hd 2 rfl
              have d44 : u 44 = .bool false := dep hd 9 rfl
              rw [d37, d44]
              exact Gv.run (.bool false) rfl (by go_simp) rfl
            refine Obs.cons (fun u w hS hd => ?_) ?_
            · have d45 : u 45 = .bool false := dep hd 10 rfl
              rw [d45]
              exact Gv.run (.bool false) rfl (by go_simp) rfl
            refine Obs.cons (fun u w hS hd => ?_) ?_
            · have d46 : u 46 = .bool false := dep hd 11 rfl
              rw [d46]
              exact Gv.run (.pointer (some ⟨b9, 1, none⟩)) rfl (by go_simp) rfl
            refine Obs.cons (fun u w hS hd => ?_) ?_
            · have d46 : u 46 = .bool false := dep hd 11 rfl
              have d47 : u 47 = .pointer (some ⟨b9, 1, none⟩) := dep hd 12 rfl
              rw [d46, d47]
              obtain ⟨q0, q1, q2, q3, q4⟩ := HWZ.out w hS
              exact Gv.run (.slice (some ⟨pg, 0, none⟩) 4 4) rfl (by go_simp) rfl
            refine Obs.cons (fun u w hS hd => ?_) ?_
            · have d46 : u 46 = .bool false := dep hd 11 rfl
              have d48 : u 48 = .slice (some ⟨pg, 0, none⟩) 4 4 := dep hd 13 rfl
              rw [d46, d48]
              exact Gv.run (.pointer (some ⟨pg, 1, none⟩)) rfl (by go_simp) rfl
            refine Obs.cons (fun u w hS hd => ?_) ?_
            · have d46 : u 46 = .bool false := dep hd 11 rfl
              have d49 : u 49 = .pointer (some ⟨pg, 1, none⟩) := dep hd 14 rfl
              rw [d46, d49]
              obtain ⟨q0, q1, q2, q3, q4⟩ := HWZ.out w hS
              exact Gv.run (bStr p1) rfl (by go_simp) rfl
            refine Obs.cons (fun u w hS hd => ?_) ?_
            · have d46 : u 46 = .bool false := dep hd 11 rfl
              rw [d46]
              exact Gv.run (.int .i64 (m : Int)) rfl (by go_simp) rfl
            refine Obs.cons (fun u w hS hd => ?_) ?_
            · have d46 : u 46 = .bool false := dep hd 11 rfl
              have d51 : u 51 = .int .i64 (m : Int) := dep hd 16 rfl
              rw [d46, d51]
              refine Gv.call 42 #[.int .i64 (m : Int)] rfl (by go_simp) ((eight_any (by have := HNB.out; omega) w).mono ?_)
              rintro e w' ⟨Ae, ce, rfl, hoe, hbe⟩
              exact ⟨_, rfl, ⟨Ae, ce, by rw [e8_len], hoe.rd⟩, hbe⟩
            refine Obs.cons (fun u w hS hd => ?_) ?_
            · have d46 : u 46 = .bool false := dep hd 11 rfl
              obtain ⟨Ae, ce, d52, hre⟩ : ∃ A c, u 52 = .slice A (e8 m).length c ∧ Rd w w.heap.size A c (e8 m) := dep hd 17 rfl
              rw [d46, d52]
              have hq := run_str (P := Try.prog) w 31 5 Try.underlying31 Try.underlying5 (dst := 9) Try.underlying9 hre
              exact Gv.run (.string ⟨(e8 m).toArray⟩) rfl (run_conv rfl (by go_simp) hq) rfl
            refine Obs.cons (fun u w hS hd => ?_) ?_
            · have d46 : u 46 = .bool false := dep hd 11 rfl
              have d50 : u 50 = bStr p1 := dep hd 15 rfl
              have d53 : u 53 = .string ⟨(e8 m).toArray⟩ := dep hd 18 rfl
              rw [d46, d50, d53]
              exact Gv.run (.bool false) rfl (by go_simp) rfl
            refine Obs.cons (fun u w hS hd => ?_) ?_
            · have d46 : u 46 = .bool false := dep hd 11 rfl
              have d54 : u 54 = .bool false := dep hd 19 rfl
              rw [d46, d54]
              exact Gv.run (.bool false) rfl (by go_simp) rfl
            refine Obs.cons (fun u w hS hd => ?_) ?_
            · have d55 : u 55 = .bool false := dep hd 20 rfl
              rw [d55]
              exact Gv.run (.bool false) rfl (by go_simp) rfl
            refine Obs.cons (fun u w hS hd => ?_) ?_
            · have d56 : u 56 = .bool false := dep hd 21 rfl
              rw [d56]
              exact Gv.run (.pointer (some ⟨b9, 1, none⟩)) rfl (by go_simp) rfl
            refine Obs.cons (fun u w hS hd => ?_) ?_
            · have d56 : u 56 = .bool false := dep hd 21 rfl
              have d57 : u 57 = .pointer (some ⟨b9, 1, none⟩) := dep hd 22 rfl
              rw [d56, d57]
              obtain ⟨q0, q1, q2, q3, q4⟩ := HWZ.out w hS
              exact Gv.run (.slice (some ⟨pg, 0, none⟩) 4 4) rfl (by go_simp) rfl
            refine Obs.cons (fun u w hS hd => ?_) ?_
            · have d56 : u 56 = .bool false := dep hd 21 rfl
              have d58 : u 58 = .slice (some ⟨pg, 0, none⟩) 4 4 := dep hd 23 rfl
              rw [d56, d58]
              exact Gv.run (.pointer (some ⟨pg, 2, none⟩)) rfl (by go_simp) rfl
            refine Obs.cons (fun u w hS hd => ?_) ?_
            · have d56 : u 56 = .bool false := dep hd 21 rfl
              have d59 : u 59 = .pointer (some ⟨pg, 2, none⟩) := dep hd 24 rfl
              rw [d56, d59]
              obtain ⟨q0, q1, q2, q3, q4⟩ := HWZ.out w hS
              exact Gv.run (bStr p2) rfl (by go_simp) rfl
            refine Obs.cons (fun u w hS hd => ?_) ?_
            · have d56 : u 56 = .bool false := dep hd 21 rfl
              rw [d56]
              exact Gv.run (.slice A2 n2 c2) rfl (by go_simp) rfl
            refine Obs.cons (fun u w hS hd => ?_) ?_
            · have d56 : u 56 = .bool false := dep hd 21 rfl
              have d61 : u 61 = .slice A2 n2 c2 := dep hd 26 rfl
              rw [d56, d61]
              have hq := HSO.out w hS
              exact Gv.run (.string ⟨o.toArray⟩) rfl (by exact run_conv rfl (by go_simp) hq) rfl
            refine Obs.cons (fun u w hS hd => ?_) ?_
            · have d56 : u 56 = .bool false := dep hd 21 rfl
              have d60 : u 60 = bStr p2 := dep hd 25 rfl
              have d62 : u 62 = .string ⟨o.toArray⟩ := dep hd 27 rfl
              rw [d56, d60, d62]
              exact Gv.run (.bool true) rfl (by go_simp) rfl
            exact Obs.nil
          · intro u wz hS hd
            have d56 : u 56 = .bool false := hd 21 (by decide)
            have d63 : u 63 = .bool true := hd 28 (by decide)
            have HVZ := Lib.hid (HV2.out.trans (hS.mono HV2.out.size))
            obtain ⟨q0, _, _, _, q4⟩ := HWZ.out wz hS
            rw [d56, d63]
            clear hd hS h0 f0 h1 f1 h2 f2
            go_wp2_with fail
            go_ret2
            rw [HA.out.1, HA.out.2, HX.out, if_neg (by decide), if_neg (by decide)]
            exact ⟨none, 0, rfl, ⟨Nat.le_refl _, fun _ => ⟨rfl, rfl⟩, fun h => absurd rfl h⟩, fun ad ea => (nomatch ea), HVZ.out⟩
      · rw [Bool.not_eq_true] at h1
        have f1 := ne_of_eq h1
        have HX := Lib.hid (show opens g k (m : Int) o = false by rw [HOp.out, h0, h1]; rfl)
        refine wp_region_inv 29 [35, 36, 37, 38, 39, 40, 41, 42, 43, 44, 45, 46, 47, 48, 49, 50, 51, 52, 53, 54, 55, 56, 57, 58, 59, 60, 61, 62, 63] [.val (.bool true), .val (.bool false), .val (.bool false), .val (.pointer (some ⟨b9, 1, none⟩)), .val (.slice (some ⟨pg, 0, none⟩) 4 4), .val (.pointer (some ⟨pg, 0, none⟩)), .val (bStr p0), .val (.slice A n1 c), .val (.string ⟨k.toArray⟩), .val (.bool false), .val (.bool false), .val (.bool false), .val (.pointer (some ⟨b9, 1, none⟩)), .val (.slice (some ⟨pg, 0, none⟩) 4 4), .val (.pointer (some ⟨pg, 1, none⟩)), .val (bStr p1), .val (.int .i64 (m : Int)), .byt (e8 m), .val (.string ⟨(e8 m).toArray⟩), .val (.bool true), .val (.bool true), .val (.bool true), .val undef, .val undef, .val undef, .val undef, .val undef, .val undef, .val undef] (fun wz => Below v2.heap.size v2 wz) (by kernel_rfl) (by kernel_rfl) (fun wz wz' hz hb => hz.trans (hb.mono hz.size)) ((Below.refl _ _).drew) (fun u => by simp only [puts, List.foldl_cons, List.foldl_nil]; go_simp; exact rfl) ?_ ?_
        · simp only [List.take_succ_cons, List.take_zero]
          refine Obs.cons (fun u w hS hd => ?_) ?_
          · exact Gv.run (.bool true) rfl (by go_simp) rfl
          refine Obs.cons (fun u w hS hd => ?_) ?_
          · have d35 : u 35 = .bool true := dep hd 0 rfl
            rw [d35]
            exact Gv.run (.bool false) rfl (by go_simp) rfl
          refine Obs.cons (fun u w hS hd => ?_) ?_
          · have d36 : u 36 = .bool false := dep hd 1 rfl
            rw [d36]
            exact Gv.run (.bool false) rfl (by go_simp) rfl
          refine Obs.cons (fun u w hS hd => ?_) ?_
          · have d37 : u 37 = .bool false := dep hd 2 rfl
            rw [d37]
            exact Gv.run (.pointer (some ⟨b9, 1, none⟩)) rfl (by go_simp) rfl
          refine Obs.cons (fun u w hS hd => ?_) ?_
          · have d37 : u 37 = .bool false := dep hd 2 rfl
            have d38 : u 38 = .pointer (some ⟨b9, 1, none⟩) := dep hd 3 rfl
            rw [d37, d38]
            obtain ⟨q0, q1, q2, q3, q4⟩ := HWZ.out w hS
            exact Gv.run (.slice (some ⟨pg, 0, none⟩) 4 4) rfl (by go_simp) rfl
          refine Obs.cons (fun u w hS hd => ?_) ?_
          · have d37 : u 37 = .bool false := dep hd 2 rfl
            have d39 : u 39 = .slice (some ⟨pg, 0, none⟩) 4 4 := dep hd 4 rfl
            rw [d37, d39]
            exact Gv.run (.pointer (some ⟨pg, 0, none⟩)) rfl (by go_simp) rfl
          refine Obs.cons (fun u w hS hd => ?_) ?_
          · have d37 : u 37 = .bool false := dep hd 2 rfl
            have d40 : u 40 = .pointer (some ⟨pg, 0, none⟩) := dep hd 5 rfl
            rw [d37, d40]
            obtain ⟨q0, q1, q2, q3, q4⟩ := HWZ.out w hS
            exact Gv.run (bStr p0) rfl (by go_simp) rfl
          refine Obs.cons (fun u w hS hd => ?_) ?_
          · have d37 : u 37 = .bool false := dep hd 2 rfl
            rw [d37]
            exact Gv.run (.slice A n1 c) rfl (by go_simp) rfl
          refine Obs.cons (fun u w hS hd => ?_) ?_
          · have d37 : u 37 = .bool false := dep hd 2 rfl
            have d42 : u 42 = .slice A n1 c := dep hd 7 rfl
            rw [d37, d42]
            have hq := HSK.out w hS
            exact Gv.run (.string ⟨k.toArray⟩) rfl (by exact run_conv rfl (by go_simp) hq) rfl
          refine Obs.cons (fun u w hS hd => ?_) ?_
          · have d37 : u 37 = .bool false := dep hd 2 rfl
            have d41 : u 41 = bStr p0 := dep hd 6 rfl
            have d43 : u 43 = .string ⟨k.toArray⟩ := dep hd 8 rfl
            rw [d37, d41, d43]
            exact Gv.run (.bool false) rfl (by go_simp) rfl
          refine Obs.cons (fun u w hS hd => ?_) ?_
          · have d37 : u 37 = .bool false := dep hd 2 rfl
            have d44 : u 44 = .bool false := dep hd 9 rfl
            rw [d37, d44]
            exact Gv.run (.bool false) rfl (by go_simp) rfl
          refine Obs.cons (fun u w hS hd => ?_) ?_
          · have d45 : u 45 = .bool false := dep hd 10 rfl
            rw [d45]
            exact Gv.run (.bool false) rfl (by go_simp) rfl
          refine Obs.cons (fun u w hS hd => ?_) ?_
          · have d46 : u 46 = .bool false := dep hd 11 rfl
            rw [d46]
            exact Gv.run (.pointer (some ⟨b9, 1, none⟩)) rfl (by go_simp) rfl
          refine Obs.cons (fun u w hS hd => ?_) ?_
          · have d46 : u 46 = .bool false := dep hd 11 rfl
            have d47 : u 47 = .pointer (some ⟨b9, 1, none⟩) := dep hd 12 rfl
            rw [d46, d47]
            obtain ⟨q0, q1, q2, q3, q4⟩ := HWZ.out w hS
            exact Gv.run (.slice (some ⟨pg, 0, none⟩) 4 4) rfl (by go_simp) rfl
          refine Obs.cons (fun u w hS hd => ?_) ?_
          · have d46 : u 46 = .bool false := dep hd 11 rfl
            have d48 : u 48 = .slice (some ⟨pg, 0, none⟩) 4 4 := dep hd 13 rfl
            rw [d46, d48]
            exact Gv.run (.pointer (some ⟨pg, 1, none⟩)) rfl (by go_simp) rfl
          refine Obs.cons (fun u w hS hd => ?_) ?_
          · have d46 : u 46 = .bool false := dep hd 11 rfl
            have d49 : u 49 = .pointer (some ⟨pg, 1, none⟩) := dep hd 14 rfl
            rw [d46, d49]
            obtain ⟨q0, q1, q2, q3, q4⟩ := HWZ.out w hS
            exact Gv.run (bStr p1) rfl (by go_simp) rfl
          refine Obs.cons (fun u w hS hd => ?_) ?_
          · have d46 : u 46 = .bool false := dep hd 11 rfl
            rw [d46]
            exact Gv.run (.int .i64 (m : Int)) rfl (by go_simp) rfl
          refine Obs.cons (fun u w hS hd => ?_) ?_
          · have d46 : u 46 = .bool false := dep hd 11 rfl
            have d51 : u 51 = .int .i64 (m : Int) := dep hd 16 rfl
            rw [d46, d51]
            refine Gv.call 42 #[.int .i64 (m : Int)] rfl (by go_simp) ((eight_any (by have := HNB.out; omega) w).mono ?_)
            rintro e w' ⟨Ae, ce, rfl, hoe, hbe⟩
            exact ⟨_, rfl, ⟨Ae, ce, by rw [e8_len], hoe.rd⟩, hbe⟩
          refine Obs.cons (fun u w hS hd => ?_) ?_
          · have d46 : u 46 = .bool false := dep hd 11 rfl
            obtain ⟨Ae, ce, d52, hre⟩ : ∃ A c, u 52 = .slice A (e8 m).length c ∧ Rd w w.heap.size A c (e8 m) := dep hd 17 rfl
            rw [d46, d52]
            have hq := run_str (P := Try.prog) w 31 5 Try.underlying31 Try.underlying5 (dst := 9) Try.underlying9 hre
            exact Gv.run (.string ⟨(e8 m).toArray⟩) rfl (run_conv rfl (by go_simp) hq) rfl
          refine Obs.cons (fun u w hS hd => ?_) ?_
          · have d46 : u 46 = .bool false := dep hd 11 rfl
            have d50 : u 50 = bStr p1 := dep hd 15 rfl
            have d53 : u 53 = .string ⟨(e8 m).toArray⟩ := dep hd 18 rfl
            rw [d46, d50, d53]
            exact Gv.run (.bool true) rfl (by go_simp) rfl
          refine Obs.cons (fun u w hS hd => ?_) ?_
          · have d46 : u 46 = .bool false := dep hd 11 rfl
            have d54 : u 54 = .bool true := dep hd 19 rfl
            rw [d46, d54]
            exact Gv.run (.bool true) rfl (by go_simp) rfl
          refine Obs.cons (fun u w hS hd => ?_) ?_
          · have d55 : u 55 = .bool true := dep hd 20 rfl
            rw [d55]
            exact Gv.run (.bool true) rfl (by go_simp) rfl
          refine Obs.cons (fun u w hS hd => ?_) ?_
          · have d56 : u 56 = .bool true := dep hd 21 rfl
            rw [d56]
            exact Gv.skip rfl rfl
          refine Obs.cons (fun u w hS hd => ?_) ?_
          · have d56 : u 56 = .bool true := dep hd 21 rfl
            rw [d56]
            exact Gv.skip rfl rfl
          refine Obs.cons (fun u w hS hd => ?_) ?_
          · have d56 : u 56 = .bool true := dep hd 21 rfl
            rw [d56]
            exact Gv.skip rfl rfl
          refine Obs.cons (fun u w hS hd => ?_) ?_
          · have d56 : u 56 = .bool true := dep hd 21 rfl
            rw [d56]
            exact Gv.skip rfl rfl
          refine Obs.cons (fun u w hS hd => ?_) ?_
          · have d56 : u 56 = .bool true := dep hd 21 rfl
            rw [d56]
            exact Gv.skip rfl rfl
          refine Obs.cons (fun u w hS hd => ?_) ?_
          · have d56 : u 56 = .bool true := dep hd 21 rfl
            rw [d56]
            exact Gv.skip rfl rfl
          refine Obs.cons (fun u w hS hd => ?_) ?_
          · have d56 : u 56 = .bool true := dep hd 21 rfl
            rw [d56]
            exact Gv.skip rfl rfl
          exact Obs.nil
        · intro u wz hS hd
          have d56 : u 56 = .bool true := hd 21 (by decide)
          have d63 : u 63 = undef := hd 28 (by decide)
          have HVZ := Lib.hid (HV2.out.trans (hS.mono HV2.out.size))
          obtain ⟨q0, _, _, _, q4⟩ := HWZ.out wz hS
          rw [d56, d63]
          clear hd hS h0 f0 h1 f1
          go_wp2_with fail
          go_ret2
          rw [HA.out.1, HA.out.2, HX.out, if_neg (by decide), if_neg (by decide)]
          exact ⟨none, 0, rfl, ⟨Nat.le_refl _, fun _ => ⟨rfl, rfl⟩, fun h => absurd rfl h⟩, fun ad ea => (nomatch ea), HVZ.out⟩
    · rw [Bool.not_eq_true] at h0
      have f0 := ne_of_eq h0
      have HX := Lib.hid (show opens g k (m : Int) o = false by rw [HOp.out, h0]; rfl)
      refine wp_region_inv 29 [35, 36, 37, 38, 39, 40, 41, 42, 43, 44, 45, 46, 47, 48, 49, 50, 51, 52, 53, 54, 55, 56, 57, 58, 59, 60, 61, 62, 63] [.val (.bool true), .val (.bool false), .val (.bool false), .val (.pointer (some ⟨b9, 1, none⟩)), .val (.slice (some ⟨pg, 0, none⟩) 4 4), .val (.pointer (some ⟨pg, 0, none⟩)), .val (bStr p0), .val (.slice A n1 c), .val (.string ⟨k.toArray⟩), .val (.bool true), .val (.bool true), .val (.bool true), .val undef, .val undef, .val undef, .val undef, .val undef, .val undef, .val undef, .val undef, .val (.bool true), .val (.bool true), .val undef, .val undef, .val undef, .val undef, .val undef, .val undef, .val undef] (fun wz => Below v2.heap.size v2 wz) (by kernel_rfl) (by kernel_rfl) (fun wz wz' hz hb => hz.trans (hb.mono hz.size)) ((Below.refl _ _).drew) (fun u => by simp only [puts, List.foldl_cons, List.foldl_nil]; go_simp; exact rfl) ?_ ?_
      · simp only [List.take_succ_cons, List.take_zero]
        refine Obs.cons (fun u w hS hd => ?_) ?_
        · exact Gv.run (.bool true) rfl (by go_simp) rfl
        refine Obs.cons (fun u w hS hd => ?_) ?_
        · have d35 : u 35 = .bool true := dep hd 0 rfl
          rw [d35]
          exact Gv.run (.bool false) rfl (by go_simp) rfl
        refine Obs.cons (fun u w hS hd => ?_) ?_
        · have d36 : u 36 = .bool false := dep hd 1 rfl
          rw [d36]
          exact Gv.run (.bool false) rfl (by go_simp) rfl
        refine Obs.cons (fun u w hS hd => ?_) ?_
        · have d37 : u 37 = .bool false := dep hd 2 rfl
          rw [d37]
          exact Gv.run (.pointer (some ⟨b9, 1, none⟩)) rfl (by go_simp) rfl
        refine Obs.cons (fun u w hS hd => ?_) ?_
        · have d37 : u 37 = .bool false := dep hd 2 rfl
          have d38 : u 38 = .pointer (some ⟨b9, 1, none⟩) := dep hd 3 rfl
          rw [d37, d38]
          obtain ⟨q0, q1, q2, q3, q4⟩ := HWZ.out w hS
          exact Gv.run (.slice (some ⟨pg, 0, none⟩) 4 4) rfl (by go_simp) rfl
        refine Obs.cons (fun u w hS hd => ?_) ?_
        · have d37 : u 37 = .bool false := dep hd 2 rfl
          have d39 : u 39 = .slice (some ⟨pg, 0, none⟩) 4 4 := dep hd 4 rfl
          rw [d37, d39]
          exact Gv.run (.pointer (some ⟨pg, 0, none⟩)) rfl (by go_simp) rfl
        refine Obs.cons (fun u w hS hd => ?_) ?_
        · have d37 : u 37 = .bool false := dep hd 2 rfl
          have d40 : u 40 = .pointer (some ⟨pg, 0, none⟩) := dep hd 5 rfl
          rw [d37, d40]
          obtain ⟨q0, q1, q2, q3, q4⟩ := HWZ.out w hS
          exact Gv.run (bStr p0) rfl (by go_simp) rfl
        refine Obs.cons (fun u w hS hd => ?_) ?_
        · have d37 : u 37 = .bool false := dep hd 2 rfl
          rw [d37]
          exact Gv.run (.slice A n1 c) rfl (by go_simp) rfl
        refine Obs.cons (fun u w hS hd => ?_) ?_
        · have d37 : u 37 = .bool false := dep hd 2 rfl
          have d42 : u 42 = .slice A n1 c := dep hd 7 rfl
          rw [d37, d42]
          have hq := HSK.out w hS
          exact Gv.run (.string ⟨k.toArray⟩) rfl (by exact run_conv rfl (by go_simp) hq) rfl
        refine Obs.cons (fun u w hS hd => ?_) ?_
        · have d37 : u 37 = .bool false := dep hd 2 rfl
          have d41 : u 41 = bStr p0 := dep hd 6 rfl
          have d43 : u 43 = .string ⟨k.toArray⟩ := dep hd 8 rfl
          rw [d37, d41, d43]
          exact Gv.run (.bool true) rfl (by go_simp) rfl
        refine Obs.cons (fun u w hS hd => ?_) ?_
        · have d37 : u 37 = .bool false := dep hd 2 rfl
          have d44 : u 44 = .bool true := dep hd 9 rfl
          rw [d37, d44]
          exact Gv.run (.bool true) rfl (by go_simp) rfl
        refine Obs.cons (fun u w hS hd => ?_) ?_
        · have d45 : u 45 = .bool true := dep hd 10 rfl
          rw [d45]
          exact Gv.run (.bool true) rfl (by go_simp) rfl
        refine Obs.cons (fun u w hS hd => ?_) ?_
        · have d46 : u 46 = .bool true := dep hd 11 rfl
          rw [d46]
          exact Gv.skip rfl rfl
        refine Obs.cons (fun u w hS hd => ?_) ?_
        · have d46 : u 46 = .bool true := dep hd 11 rfl
          rw [d46]
          exact Gv.skip rfl rfl
        refine Obs.cons (fun u w hS hd => ?_) ?_
        · have d46 : u 46 = .bool true := dep hd 11 rfl
          rw [d46]
          exact Gv.skip rfl rfl
        refine Obs.cons (fun u w hS hd => ?_) ?_
        · have d46 : u 46 = .bool true := dep hd 11 rfl
          rw [d46]
          exact Gv.skip rfl rfl
        refine Obs.cons (fun u w hS hd => ?_) ?_
        · have d46 : u 46 = .bool true := dep hd 11 rfl
          rw [d46]
          exact Gv.skip rfl rfl
        refine Obs.cons (fun u w hS hd => ?_) ?_
        · have d46 : u 46 = .bool true := dep hd 11 rfl
          rw [d46]
          exact Gv.skip rfl rfl
        refine Obs.cons (fun u w hS hd => ?_) ?_
        · have d46 : u 46 = .bool true := dep hd 11 rfl
          rw [d46]
          exact Gv.skip rfl rfl
        refine Obs.cons (fun u w hS hd => ?_) ?_
        · have d46 : u 46 = .bool true := dep hd 11 rfl
          rw [d46]
          exact Gv.skip rfl rfl
        refine Obs.cons (fun u w hS hd => ?_) ?_
        · have d46 : u 46 = .bool true := dep hd 11 rfl
          rw [d46]
          exact Gv.run (.bool true) rfl (by go_simp) rfl
        refine Obs.cons (fun u w hS hd => ?_) ?_
        · have d55 : u 55 = .bool true := dep hd 20 rfl
          rw [d55]
          exact Gv.run (.bool true) rfl (by go_simp) rfl
        refine Obs.cons (fun u w hS hd => ?_) ?_
        · have d56 : u 56 = .bool true := dep hd 21 rfl
          rw [d56]
          exact Gv.skip rfl rfl
        refine Obs.cons (fun u w hS hd => ?_) ?_
        · have d56 : u 56 = .bool true := dep hd 21 rfl
          rw [d56]
          exact Gv.skip rfl rfl
        refine Obs.cons (fun u w hS hd => ?_) ?_
        · have d56 : u 56 = .bool true := dep hd 21 rfl
          rw [d56]
          exact Gv.skip rfl rfl
        refine Obs.cons (fun u w hS hd => ?_) ?_
        · have d56 : u 56 = .bool true := dep hd 21 rfl
          rw [d56]
          exact Gv.skip rfl rfl
        refine Obs.cons (fun u w hS hd => ?_) ?_
        · have d56 : u 56 = .bool true := dep hd 21 rfl
          rw [d56]
          exact Gv.skip rfl rfl
        refine Obs.cons (fun u w hS hd => ?_) ?_
        · have d56 : u 56 = .bool true := dep hd 21 rfl
          rw [d56]
          exact Gv.skip rfl rfl
        refine Obs.cons (fun u w hS hd => ?_) ?_
        · have d56 : u 56 = .bool true := dep hd 21 rfl
          rw [d56]
          exact Gv.skip rfl rfl
        exact Obs.nil
      · intro u wz hS hd
        have d56 : u 56 = .bool true := hd 21 (by decide)
        have d63 : u 63 = undef := hd 28 (by decide)
        have HVZ := Lib.hid (HV2.out.trans (hS.mono HV2.out.size))
        obtain ⟨q0, _, _, _, q4⟩ := HWZ.out wz hS
        rw [d56, d63]
        clear hd hS h0 f0
        go_wp2_with fail
        go_ret2
        rw [HA.out.1, HA.out.2, HX.out, if_neg (by decide), if_neg (by decide)]
        exact ⟨none, 0, rfl, ⟨Nat.le_refl _, fun _ => ⟨rfl, rfl⟩, fun h => absurd rfl h⟩, fun ad ea => (nomatch ea), HVZ.out⟩
end Go.Proofs.Ytdddcgkgellbgab
