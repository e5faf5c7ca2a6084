/-
  Layer 13's law WireBack over contracts. Written by tools/gen_wc5.py. By an AI agent.
-/
import Derived.Test.YtonfdnihllhcbaaWc1
import Derived.Test.YtonfdnihllhcbaaWi9
namespace Go.Proofs.Ytonfdnihllhcbaa
open Go Go.RowKit
set_option maxRecDepth 20000
/-- What max and min make of a number. -/
theorem clamp_ifs (n : Int) : (if (1099511627776 : Int) < (if n < 0 then (0 : Int) else n) then (1099511627776 : Int) else (if n < 0 then (0 : Int) else n)) = (clampN n : Int) := by
  unfold clampN Far
  by_cases h0 : n < 0
  · rw [if_pos h0, if_pos h0, if_neg (by decide)]; rfl
  · rw [if_neg h0, if_neg h0]
    by_cases h1 : (1099511627776 : Int) < n
    · rw [if_pos h1, if_pos (by omega)]; rfl
    · rw [if_neg h1, if_neg (by omega)]; omega
section
variable {R : RdrP} (K : WireC R)
include K
set_option maxHeartbeats 12800000 in
theorem wireback_law {A1 A2 : Option Addr} {c1 c2 : Nat} {n : Int} {s behind : List UInt8} {y : Bool} (hl : s.length ≤ 1048576 ∧ behind.length ≤ 1048576) (w : World) (r1 : Rd w w.heap.size A1 c1 s) (r2 : Rd w w.heap.size A2 c2 behind) :
    Calls Try.prog 5 #[.int .i64 n, .slice A1 s.length c1, .slice A2 behind.length c2, .bool y] w fun e w' => e = .returned (.bool true) ∧ Below w.heap.size w w' := by
  obtain ⟨i0, hi, hz0, hz1, hz2⟩ := info_parts infoU8
  obtain ⟨l, el⟩ : ∃ l, l = behind.length := ⟨_, rfl⟩
  obtain ⟨x, ex⟩ : ∃ x, x = clampN n := ⟨_, rfl⟩
  have hci := clamp_ifs n
  rw [← ex] at hci
  have hd1 := digs_len n
  have hd2 := digs_len (s.length : Int)
  have hd3 := digs_len (if y then 1 else 0)
  obtain ⟨D, eD⟩ : ∃ D, D = numL [] n := ⟨_, rfl⟩
  obtain ⟨E, eE⟩ : ∃ E, E = textL D s := ⟨_, rfl⟩
  obtain ⟨F, eF⟩ : ∃ F, F = flagL E y := ⟨_, rfl⟩
  obtain ⟨F0, eF0⟩ : ∃ F0, F0 = F ++ behind := ⟨_, rfl⟩
  obtain ⟨F2, eF2⟩ : ∃ F2, F2 = digs (if y then 1 else 0) ++ behind := ⟨_, rfl⟩
  obtain ⟨F1, eF1⟩ : ∃ F1, F1 = digs (s.length : Int) ++ (s ++ F2) := ⟨_, rfl⟩
  have hF0 : F0 = digs n ++ F1 := by
    rw [eF0, eF, eE, eD, eF1, eF2]
    unfold flagL textL numL
    simp only [List.nil_append, List.append_assoc]
  have hn1 : numR F0 0 0 1099511627776 = (F1, 0, x) := by rw [hF0, numR_put, ex]
  have hn2 : textR F1 0 (s.length : Int) = (F2, 0, s) := by rw [eF1, textR_put s F2 (by unfold Far; omega) _ (Int.le_refl _)]
  have hn3 : flagR F2 0 = (behind, 0, y) := by rw [eF2, flagR_put]
  have hDl : D.length ≤ 6 := by rw [eD]; unfold numL; rw [List.nil_append]; exact hd1.2
  have hEl : E.length ≤ 1048588 := by rw [eE]; unfold textL numL; rw [List.length_append, List.length_append]; omega
  have hFl : F.length ≤ 1048594 := by rw [eF]; unfold flagL numL; rw [List.length_append]; omega
  have hF0l : F0.length = F.length + l := by rw [eF0, List.length_append, el]
  obtain ⟨f, ef⟩ : ∃ f, f = F.length := ⟨_, rfl⟩
  obtain ⟨f0, ef0⟩ : ∃ f, f = F0.length := ⟨_, rfl⟩
  have KP := Lib.hid (K.puts (b := []) n w (rd_nil13 _ _) (by simp))
  rw [← eD] at KP
  have KT := Lib.hid (fun (A A2 : Option Addr) (c c2 : Nat) (v : World) (h : Rd v v.heap.size A c D) (h2 : Rd v v.heap.size A2 c2 s) => K.texts v h h2 (by omega))
  rw [← eE] at KT
  have KF := Lib.hid (fun (A : Option Addr) (c : Nat) (v : World) (h : Rd v v.heap.size A c E) => K.flags y v h (by omega))
  rw [← eF, ← ef] at KF
  rw [← ef, ← ef0] at hF0l
  have HLS := Lib.hid (show s.length ≤ 140737488355328 ∧ f0 ≤ 140737488355328 ∧ f0 ≤ 140737488355320 ∧ ¬ (1099511627776 : Int) < (s.length : Int) by omega)
  have HFL := Lib.hid hF0l.symm
  have HEF := Lib.hid ef.symm
  have HEF0 := Lib.hid ef0.symm
  have HLN := Lib.hid el.symm
  have HF0 := Lib.hid eF0
  have HCI := Lib.hid hci
  have HN1 := Lib.hid hn1
  have HN2 := Lib.hid hn2
  have HN3 := Lib.hid hn3
  have hc := Below.refl w.heap.size w
  rw [← el]
  clear hn1 hn2 hn3 hF0 hDl hEl hFl hF0l ef ef0 el ex hci hd1 hd2 hd3 eD eE eF eF0 eF1 eF2 hl
  go_enter Try.func5, Try.ntmps5
  go_wp2_with fail
  go_at_call 10
  refine KP.out.mono ?_
  rintro z v1 ⟨Ad, cd, rfl, od, h0⟩
  replace r1 := r1.keep h0
  replace r2 := r2.keep h0
  replace hc := h0
  have rd := od.rd
  clear h0 od KP
  go_wp2_with fail
  go_at_call 9
  refine (own13_any v1 r1 hc.size HLS.out.1).mono ?_
  rintro z v2 ⟨As, cs, rfl, os, h0⟩
  replace rd := (rd.keep h0).mono h0.size
  replace r1 := r1.keep (h0.mono hc.size)
  replace r2 := r2.keep (h0.mono hc.size)
  replace hc := hc.trans (h0.mono hc.size)
  have rs := os.rd
  clear h0 os
  go_wp2_with fail
  go_at_call 12
  refine (KT.out _ _ _ _ v2 rd rs).mono ?_
  rintro z v3 ⟨Ae, ce, rfl, oe, h0⟩
  replace r1 := r1.keep (h0.mono hc.size)
  replace r2 := r2.keep (h0.mono hc.size)
  replace hc := hc.trans (h0.mono hc.size)
  have re := oe.rd
  clear h0 oe rd rs KT
  go_wp2_with fail
  go_at_call 14
  refine (KF.out _ _ v3 re).mono ?_
  rintro z v4 ⟨Af, cf, rfl, of, h0⟩
  replace r1 := r1.keep (h0.mono hc.size)
  replace r2 := r2.keep (h0.mono hc.size)
  have hs3 := hc.size
  replace hc := hc.trans (h0.mono hc.size)
  replace of := of.mono hs3
  clear h0 re KF hs3
  go_upto_region 2 with (at_builtin; refine wpList_appN _ rfl (.tmp 18) (.tmp 19) _ rfl w.heap.size 5 i0 _ Try.underlying22 hi hz0 hz1 hz2 rfl rfl HEF.out of rfl HLN.out (r2.mono hc.size) HFL.out HLS.out.2.1 hc.size ?_; intro Ag cg v5 og h0)
  rw [← HF0.out] at og
  replace r1 := r1.keep h0
  replace r2 := r2.keep h0
  replace hc := hc.trans h0
  have rg := og.rd
  have hs5 := hc.size
  clear h0 of og
  go_wp2_with fail
  go_at_call 17
  refine (wc_read K HEF0.out v5 rg HLS.out.2.2.1).mono ?_
  rintro z v6 ⟨p, rfl, q6, h0⟩
  replace r1 := r1.keep (h0.mono hc.size)
  replace r2 := r2.keep (h0.mono hc.size)
  replace hc := hc.trans (h0.mono hc.size)
  have HB := Lib.hid hs5
  obtain ⟨B, eB⟩ : ∃ B, B = v5.heap.size := ⟨_, rfl⟩
  obtain ⟨C, eC⟩ : ∃ C, C = v6.heap.size := ⟨_, rfl⟩
  rw [← eB] at q6 HB
  rw [← eC] at q6
  clear h0 rg hs5 eB eC
  go_upto_region 4 with fail
  rw [HCI.out]
  generalize (if n < 0 then (0 : Int) else n) = z0
  have g9 := HLS.out.2.2.2
  go_upto_region 6 with fail
  refine wp_region_chain 34 8 [30, 31, 32, 33, 34, 35, 36, 37, 38, 39, 40, 41, 42, 43, 44, 45, 46, 47, 48, 49, 50, 51, 52, 53, 54, 55, 56, 57, 58, 59, 60, 61, 62, 63] [1, 8, 9, 16, 22, 27, 33] [some (p), some (.int .i64 (x : Int)), some (.int .i64 (x : Int)), some (.bool true), some (.bool true), some (p), some (.slice A1 s.length c1), some (.int .i64 (s.length : Int)), none, some (.string ⟨s.toArray⟩), some (.slice A1 s.length c1), some (.string ⟨s.toArray⟩), some (.bool true), some (.bool true), some (.bool true), some (p), some (.bool y), some (.bool y), some (.bool true), some (.bool true), some (.bool true), some (p), some (.int .i64 0), some (.bool true), some (.bool true), some (.bool true), some (p), some (.int .i64 (l : Int)), some (.slice A2 l c2), some (.int .i64 (l : Int)), some (.bool true), some (.bool true), some (.bool true), some (.bool true)] (fun wz => Rd wz w.heap.size A1 c1 s ∧ Below w.heap.size w wz) (fun k v wz => match k with | 0 => R wz B C p F0 0 | 1 => R wz B C p F1 0 | 2 => R wz B C p F2 0 ∧ ∃ A c, v = .slice A s.length c ∧ Rd wz wz.heap.size A c s | 3 => R wz B C p F2 0 | _ => R wz B C p behind 0) (by kernel_rfl) (by kernel_rfl) (⟨(r1.keep (Below.refl _ _).drew), hc.trans (Below.refl _ _).drew⟩) (K.next q6 (Below.refl _ _).drew) (fun u => by simp only [puts, List.foldl_cons, List.foldl_nil]; go_simp; exact rfl) ?_ ?_
  · simp only [List.take_succ_cons, List.take_zero]
    refine Chn.soft (by decide) (p) rfl (fun u w hS hd => ?_) ?_
    · exact ⟨rfl, by go_simp⟩
    refine Chn.hard rfl (fun u w hS HT hd => ?_) ?_
    · have d30 : u 30 = p := hd.at_ 0 _ rfl rfl
      rw [d30]
      have HK := K.number 0 1099511627776 w HT
      rw [HN1.out] at HK
      refine StepC.call 24 #[p, .int .i64 0, .int .i64 1099511627776] rfl (by go_simp) ((HK).mono ?_)
      rintro z wz ⟨rfl, q, h0⟩
      have hb0 := h0.low (Nat.le_trans (K.le HT).1 (K.le HT).2) HB.out
      exact ⟨_, rfl, fun c hc => (Option.some.inj hc), ⟨hS.1.keep hb0, hS.2.trans hb0⟩, q⟩
    refine Chn.soft (by decide) (.int .i64 (x : Int)) rfl (fun u w hS hd => ?_) ?_
    · exact ⟨rfl, by go_simp⟩
    refine Chn.soft (by decide) (.bool true) rfl (fun u w hS hd => ?_) ?_
    · have d31 : u 31 = .int .i64 (x : Int) := hd.at_ 1 _ rfl rfl
      rw [d31]
      have d32 : u 32 = .int .i64 (x : Int) := hd.at_ 2 _ rfl rfl
      rw [d32]
      exact ⟨rfl, by go_simp⟩
    refine Chn.soft (by decide) (.bool true) rfl (fun u w hS hd => ?_) ?_
    · have d33 : u 33 = .bool true := hd.at_ 3 _ rfl rfl
      rw [d33]
      exact ⟨rfl, by go_simp⟩
    refine Chn.soft (by decide) (p) rfl (fun u w hS hd => ?_) ?_
    · have d34 : u 34 = .bool true := hd.at_ 4 _ rfl rfl
      rw [d34]
      exact ⟨rfl, by go_simp⟩
    refine Chn.soft (by decide) (.slice A1 s.length c1) rfl (fun u w hS hd => ?_) ?_
    · have d34 : u 34 = .bool true := hd.at_ 4 _ rfl rfl
      rw [d34]
      exact ⟨rfl, by go_simp⟩
    refine Chn.soft (by decide) (.int .i64 (s.length : Int)) rfl (fun u w hS hd => ?_) ?_
    · have d34 : u 34 = .bool true := hd.at_ 4 _ rfl rfl
      rw [d34]
      have d36 : u 36 = .slice A1 s.length c1 := hd.at_ 6 _ rfl rfl
      rw [d36]
      exact ⟨rfl, by go_simp⟩
    refine Chn.hard rfl (fun u w hS HT hd => ?_) ?_
    · have d34 : u 34 = .bool true := hd.at_ 4 _ rfl rfl
      rw [d34]
      have d35 : u 35 = p := hd.at_ 5 _ rfl rfl
      rw [d35]
      have d37 : u 37 = .int .i64 (s.length : Int) := hd.at_ 7 _ rfl rfl
      rw [d37]
      have HK := K.text (s.length : Int) w HT
      rw [HN2.out] at HK
      refine StepC.call 25 #[p, .int .i64 (s.length : Int)] rfl (by go_simp) ((HK).mono ?_)
      rintro z wz ⟨A5, c5, rfl, r5, _, q, h0⟩
      have hb0 := h0.low (Nat.le_trans (K.le HT).1 (K.le HT).2) HB.out
      exact ⟨_, rfl, fun c hc => by simp at hc, ⟨hS.1.keep hb0, hS.2.trans hb0⟩, q, A5, c5, rfl, r5⟩
    refine Chn.hard rfl (fun u w hS HT hd => ?_) ?_
    · have d34 : u 34 = .bool true := hd.at_ 4 _ rfl rfl
      rw [d34]
      obtain ⟨q, A5, c5, e5, r5⟩ := HT
      replace e5 : u 38 = .slice A5 s.length c5 := e5
      rw [e5]
      exact StepC.run (.string ⟨s.toArray⟩) w rfl (run_conv rfl rfl (str13 w rfl r5)) ⟨fun c hc => (Option.some.inj hc), hS, q⟩
    refine Chn.soft (by decide) (.slice A1 s.length c1) rfl (fun u w hS hd => ?_) ?_
    · have d34 : u 34 = .bool true := hd.at_ 4 _ rfl rfl
      rw [d34]
      exact ⟨rfl, by go_simp⟩
    refine Chn.soft (by decide) (.string ⟨s.toArray⟩) rfl (fun u w hS hd => ?_) ?_
    · have d34 : u 34 = .bool true := hd.at_ 4 _ rfl rfl
      rw [d34]
      have d40 : u 40 = .slice A1 s.length c1 := hd.at_ 10 _ rfl rfl
      rw [d40]
      exact ⟨rfl, run_conv rfl rfl (str13 w rfl (hS.1.mono hS.2.size))⟩
    refine Chn.soft (by decide) (.bool true) rfl (fun u w hS hd => ?_) ?_
    · have d34 : u 34 = .bool true := hd.at_ 4 _ rfl rfl
      rw [d34]
      have d39 : u 39 = .string ⟨s.toArray⟩ := hd.at_ 9 _ rfl rfl
      rw [d39]
      have d41 : u 41 = .string ⟨s.toArray⟩ := hd.at_ 11 _ rfl rfl
      rw [d41]
      exact ⟨rfl, by go_simp⟩
    refine Chn.soft (by decide) (.bool true) rfl (fun u w hS hd => ?_) ?_
    · have d34 : u 34 = .bool true := hd.at_ 4 _ rfl rfl
      rw [d34]
      have d42 : u 42 = .bool true := hd.at_ 12 _ rfl rfl
      rw [d42]
      exact ⟨rfl, by go_simp⟩
    refine Chn.soft (by decide) (.bool true) rfl (fun u w hS hd => ?_) ?_
    · have d43 : u 43 = .bool true := hd.at_ 13 _ rfl rfl
      rw [d43]
      exact ⟨rfl, by go_simp⟩
    refine Chn.soft (by decide) (p) rfl (fun u w hS hd => ?_) ?_
    · have d44 : u 44 = .bool true := hd.at_ 14 _ rfl rfl
      rw [d44]
      exact ⟨rfl, by go_simp⟩
    refine Chn.hard rfl (fun u w hS HT hd => ?_) ?_
    · have d44 : u 44 = .bool true := hd.at_ 14 _ rfl rfl
      rw [d44]
      have d45 : u 45 = p := hd.at_ 15 _ rfl rfl
      rw [d45]
      have HK := K.flag w HT
      rw [HN3.out] at HK
      refine StepC.call 26 #[p] rfl (by go_simp) ((HK).mono ?_)
      rintro z wz ⟨rfl, q, h0⟩
      have hb0 := h0.low (Nat.le_trans (K.le HT).1 (K.le HT).2) HB.out
      exact ⟨_, rfl, fun c hc => (Option.some.inj hc), ⟨hS.1.keep hb0, hS.2.trans hb0⟩, q⟩
    refine Chn.soft (by decide) (.bool y) rfl (fun u w hS hd => ?_) ?_
    · have d44 : u 44 = .bool true := hd.at_ 14 _ rfl rfl
      rw [d44]
      exact ⟨rfl, by go_simp⟩
    refine Chn.soft (by decide) (.bool true) rfl (fun u w hS hd => ?_) ?_
    · have d44 : u 44 = .bool true := hd.at_ 14 _ rfl rfl
      rw [d44]
      have d46 : u 46 = .bool y := hd.at_ 16 _ rfl rfl
      rw [d46]
      have d47 : u 47 = .bool y := hd.at_ 17 _ rfl rfl
      rw [d47]
      exact ⟨rfl, by go_simp⟩
    refine Chn.soft (by decide) (.bool true) rfl (fun u w hS hd => ?_) ?_
    · have d44 : u 44 = .bool true := hd.at_ 14 _ rfl rfl
      rw [d44]
      have d48 : u 48 = .bool true := hd.at_ 18 _ rfl rfl
      rw [d48]
      exact ⟨rfl, by go_simp⟩
    refine Chn.soft (by decide) (.bool true) rfl (fun u w hS hd => ?_) ?_
    · have d49 : u 49 = .bool true := hd.at_ 19 _ rfl rfl
      rw [d49]
      exact ⟨rfl, by go_simp⟩
    refine Chn.soft (by decide) (p) rfl (fun u w hS hd => ?_) ?_
    · have d50 : u 50 = .bool true := hd.at_ 20 _ rfl rfl
      rw [d50]
      exact ⟨rfl, by go_simp⟩
    refine Chn.hard rfl (fun u w hS HT hd => ?_) ?_
    · have d50 : u 50 = .bool true := hd.at_ 20 _ rfl rfl
      rw [d50]
      have d51 : u 51 = p := hd.at_ 21 _ rfl rfl
      rw [d51]
      refine StepC.call 20 #[p] rfl (by go_simp) ((wc_err K w HT).mono ?_)
      rintro z wz ⟨rfl, h0⟩
      have hb0 := h0.mono hS.2.size
      exact ⟨_, rfl, fun c hc => (Option.some.inj hc), ⟨hS.1.keep hb0, hS.2.trans hb0⟩, K.next HT h0⟩
    refine Chn.soft (by decide) (.bool true) rfl (fun u w hS hd => ?_) ?_
    · have d50 : u 50 = .bool true := hd.at_ 20 _ rfl rfl
      rw [d50]
      have d52 : u 52 = .int .i64 0 := hd.at_ 22 _ rfl rfl
      rw [d52]
      exact ⟨rfl, by go_simp⟩
    refine Chn.soft (by decide) (.bool true) rfl (fun u w hS hd => ?_) ?_
    · have d50 : u 50 = .bool true := hd.at_ 20 _ rfl rfl
      rw [d50]
      have d53 : u 53 = .bool true := hd.at_ 23 _ rfl rfl
      rw [d53]
      exact ⟨rfl, by go_simp⟩
    refine Chn.soft (by decide) (.bool true) rfl (fun u w hS hd => ?_) ?_
    · have d54 : u 54 = .bool true := hd.at_ 24 _ rfl rfl
      rw [d54]
      exact ⟨rfl, by go_simp⟩
    refine Chn.soft (by decide) (p) rfl (fun u w hS hd => ?_) ?_
    · have d55 : u 55 = .bool true := hd.at_ 25 _ rfl rfl
      rw [d55]
      exact ⟨rfl, by go_simp⟩
    refine Chn.hard rfl (fun u w hS HT hd => ?_) ?_
    · have d55 : u 55 = .bool true := hd.at_ 25 _ rfl rfl
      rw [d55]
      have d56 : u 56 = p := hd.at_ 26 _ rfl rfl
      rw [d56]
      refine StepC.call 21 #[p] rfl (by go_simp) ((wc_left K HLN.out w HT).mono ?_)
      rintro z wz ⟨rfl, h0⟩
      have hb0 := h0.mono hS.2.size
      exact ⟨_, rfl, fun c hc => (Option.some.inj hc), ⟨hS.1.keep hb0, hS.2.trans hb0⟩, K.next HT h0⟩
    refine Chn.soft (by decide) (.slice A2 l c2) rfl (fun u w hS hd => ?_) ?_
    · have d55 : u 55 = .bool true := hd.at_ 25 _ rfl rfl
      rw [d55]
      exact ⟨rfl, by go_simp⟩
    refine Chn.soft (by decide) (.int .i64 (l : Int)) rfl (fun u w hS hd => ?_) ?_
    · have d55 : u 55 = .bool true := hd.at_ 25 _ rfl rfl
      rw [d55]
      have d58 : u 58 = .slice A2 l c2 := hd.at_ 28 _ rfl rfl
      rw [d58]
      exact ⟨rfl, by go_simp⟩
    refine Chn.soft (by decide) (.bool true) rfl (fun u w hS hd => ?_) ?_
    · have d55 : u 55 = .bool true := hd.at_ 25 _ rfl rfl
      rw [d55]
      have d57 : u 57 = .int .i64 (l : Int) := hd.at_ 27 _ rfl rfl
      rw [d57]
      have d59 : u 59 = .int .i64 (l : Int) := hd.at_ 29 _ rfl rfl
      rw [d59]
      exact ⟨rfl, by go_simp⟩
    refine Chn.soft (by decide) (.bool true) rfl (fun u w hS hd => ?_) ?_
    · have d55 : u 55 = .bool true := hd.at_ 25 _ rfl rfl
      rw [d55]
      have d60 : u 60 = .bool true := hd.at_ 30 _ rfl rfl
      rw [d60]
      exact ⟨rfl, by go_simp⟩
    refine Chn.soft (by decide) (.bool true) rfl (fun u w hS hd => ?_) ?_
    · have d61 : u 61 = .bool true := hd.at_ 31 _ rfl rfl
      rw [d61]
      exact ⟨rfl, by go_simp⟩
    refine Chn.hard rfl (fun u w hS HT hd => ?_) ?_
    · have d62 : u 62 = .bool true := hd.at_ 32 _ rfl rfl
      rw [d62]
      refine StepC.call 16 #[] rfl (by go_simp) ((awake13 K w).mono ?_)
      rintro z wz ⟨rfl, h0⟩
      have hb0 := h0.mono hS.2.size
      exact ⟨_, rfl, fun c hc => (Option.some.inj hc), ⟨hS.1.keep hb0, hS.2.trans hb0⟩, K.next HT h0⟩
    exact Chn.nil
  intro u v7 hS HT hd
  have d63 : u 63 = .bool true := hd 33 _ (by decide) rfl
  have d62 : u 62 = .bool true := hd 32 _ (by decide) rfl
  rw [d63, d62]
  have HC := Lib.hid hS.2
  clear hd d63 d62 hS HT r1 r2 hc q6 HN1 HN2 HN3
  simp only [List.drop_succ_cons, List.drop_zero]
  go_wp2_with fail
  go_ret
  exact ⟨rfl, HC.out⟩
end
end Go.Proofs.Ytonfdnihllhcbaa
