/-
  Layer 16, the document: Add. By an AI agent.
-/
import Derived.Test.YtpjeggbkhbghaaaTL
namespace Go.Proofs.Ytpjeggbkhbghaaa
open Go Go.RowKit
set_option maxRecDepth 20000
theorem infoMrk : (Try.prog.info? 31).map (fun i => (i.zero, i.size, i.bytes)) = some (some (.agg #[.int .i64 0, .int .i64 0, .int .i64 0, .int .i64 0, .bool false, .int .i64 0, .int .i64 0, .bool false, .int .i64 0, .int .i64 0]), 10, 80) := by kernel_rfl
set_option maxHeartbeats 6400000 in
theorem madd_ok {A : Option Addr} {B c n : Nat} {L : List Mrk} (m : Mrk) (w : World) (r : RdR mrkE w B A c L) (hB : B ≤ w.heap.size) (hn : L.length = n) (hl : n ≤ 512) (hr : rightM m = true) (hh : mhasB L m.clock m.author = false) (hf : ¬ n = 512) :
    Calls Try.prog 12 #[.slice A n c, mrkV m] w fun e w' => ∃ A' c', e = .returned (.tuple #[.slice A' (L.filter (fun y => newB m y) ++ [m] ++ L.filter (fun y => !newB m y)).length c', .int .i64 0]) ∧ OwnR mrkE w' w.heap.size 31 A' c' (L.filter (fun y => newB m y) ++ [m] ++ L.filter (fun y => !newB m y)) ∧ Below w.heap.size w w' := by
  obtain ⟨i0, hi0, hz0, hz1, hz2⟩ := info_parts infoMrk
  have HI := Lib.hid (And.intro hi0 (And.intro hz0 (And.intro hz1 hz2)))
  obtain ⟨v1, ev⟩ : ∃ v, v = w.alloc (.cells #[.int .i64 m.clock, .int .i64 m.author, .int .i64 m.from_.id.1, .int .i64 m.from_.id.2, .bool m.from_.behind, .int .i64 m.upto.id.1, .int .i64 m.upto.id.2, .bool m.upto.behind, .int .i64 m.name, .int .i64 m.value] 31) := ⟨_, rfl⟩
  obtain ⟨g, eg⟩ : ∃ g, g = w.heap.size := ⟨_, rfl⟩
  have hb : Below w.heap.size w v1 := by rw [ev]; exact (Below.refl _ _).alloc (Nat.le_refl _) _
  have hq : MrkB v1 g m := by rw [ev, eg]; exact mrk_box w m
  have hg : g < v1.heap.size := by rw [ev, eg]; simp
  have HB := Lib.hid hb
  have HV := Lib.hid (And.intro ev eg)
  have HR := Lib.hid (fun wz (hz : Below v1.heap.size v1 wz) => And.intro (r.keep ((hb.trans (hz.mono hb.size)).mono hB) : RdR mrkE wz B A c L) (hq.keep hz hg))
  have HN := Lib.hid (And.intro hn (And.intro hl hB))
  have HRT := Lib.hid (mright_any m v1)
  rw [hr] at HRT
  have HHS := Lib.hid (fun wz (hz : Below v1.heap.size v1 wz) => mhas_any m.clock m.author wz (HR.out wz hz).1 (Nat.le_trans hB (Nat.le_trans hb.size hz.size)) hn (Nat.le_trans hl (by decide)))
  rw [hh] at HHS
  have hfi : ((n : Int) == 512) = false := by simp; omega
  obtain ⟨q0, q1, q2, q3, q4, q5, q6, q7, q8, q9⟩ := hq
  clear ev eg hb hg r hi0 hz0 hz1 hz2 hr hh hf hn
  go_enter Try.func12, Try.ntmps12
  go_upto_region 1 with fail
  rw [← HV.out.1, ← HV.out.2]
  clear HV
  go_wp2_with fail
  go_at_call 14
  refine HRT.out.mono ?_
  rintro e v2 ⟨rfl, h2⟩
  have HB2 := Lib.hid h2
  clear h2 q0 q1 q2 q3 q4 q5 q6 q7 q8 q9 HRT
  obtain ⟨q0, q1, _⟩ := (HR.out v2 HB2.out).2
  go_wp2_with fail
  go_at_call 19
  refine (HHS.out v2 HB2.out).mono ?_
  rintro e v3 ⟨rfl, h3⟩
  have HB3 := Lib.hid (HB2.out.trans (h3.mono HB2.out.size))
  clear h3 q0 q1 HHS
  go_wp2_with fail
  go_loopw [6, 7] (fun v i wr => ∃ k : Nat, k ≤ n ∧ i = .int .i64 (k : Int) ∧ (∃ Ao co, v = .slice Ao ([] ++ (L.take k).filter (fun y => newB m y)).length co ∧ OwnR mrkE wr v1.heap.size 31 Ao co ([] ++ (L.take k).filter (fun y => newB m y))) ∧ Below v1.heap.size v1 wr) (fun _ i _ => n - (intF i).toNat)
  case atStart => exact ⟨0, Nat.zero_le _, rfl, ⟨none, 0, rfl, OwnR.nothing _ _ _ _⟩, HB3.out⟩
  case round =>
    obtain ⟨k, hk, rfl, ⟨Ao, co, rfl, oo⟩, hbr⟩ := hrel
    obtain ⟨acc, eacc⟩ : ∃ a, a = [] ++ (L.take k).filter (fun y => newB m y) := ⟨_, rfl⟩
    have hal : acc.length ≤ 1100 := by
      rw [eacc, List.length_append]
      have h1 : ((L.take k).filter (fun y => newB m y)).length ≤ L.length := Nat.le_trans (List.length_filter_le _ _) (by rw [List.length_take]; omega)
      have h2 := HN.out.1
      have h3 := (show ([] : List Mrk).length ≤ 0 from Nat.le_refl 0)
      try simp only [List.length_nil] at h3 ⊢
      omega
    rw [← eacc] at oo ⊢
    obtain ⟨ln, eln⟩ : ∃ q, q = acc.length := ⟨_, rfl⟩
    rw [← eln]
    rw [← eln] at hal
    by_cases hlt : k < n
    · have g1 : (k : Int) < (n : Int) := by omega
      obtain ⟨y, hy⟩ := getD_of (L := L) (k := k) (by rw [HN.out.1]; exact hlt)
      obtain ⟨r1, hmb⟩ := HR.out wr hbr
      obtain ⟨b, o, rfl, hbB, hcy⟩ := mrk_at r1 hy
      have hnx : [] ++ (L.take (k + 1)).filter (fun y => newB m y) = acc ++ (if (fun y => newB m y) y then [y] else []) := by rw [filt_snoc (fun y => newB m y) hy, ← List.append_assoc, ← eacc]
      have HF := Lib.hid (And.intro hnx (And.intro eln hlt))
      obtain ⟨nb, enb⟩ : ∃ q, q = newB m y := ⟨_, rfl⟩
      have HNW := Lib.hid (fun wz => newer_any m y wz)
      rw [← enb] at HNW
      have HNB := Lib.hid enb
      have HLN := Lib.hid (show ln + 1 ≤ 140737488355328 ∧ (ln + 1) * 80 ≤ 140737488355328 by omega)
      have HOO := Lib.hid oo
      have HBR := Lib.hid hbr
      have hbw : b < wr.heap.size := by have h1 := HN.out.2.2; have h2 := HB.out.size; have h3 := hbr.size; omega
      have HS := Lib.hid (fun wz (hz : Below wr.heap.size wr wz) => show (wz.cell? ⟨g, 0, none⟩ = some (.int .i64 m.clock) ∧ wz.cell? ⟨g, 1, none⟩ = some (.int .i64 m.author) ∧ wz.cell? ⟨g, 2, none⟩ = some (.int .i64 m.from_.id.1) ∧ wz.cell? ⟨g, 3, none⟩ = some (.int .i64 m.from_.id.2) ∧ wz.cell? ⟨g, 4, none⟩ = some (.bool m.from_.behind) ∧ wz.cell? ⟨g, 5, none⟩ = some (.int .i64 m.upto.id.1) ∧ wz.cell? ⟨g, 6, none⟩ = some (.int .i64 m.upto.id.2) ∧ wz.cell? ⟨g, 7, none⟩ = some (.bool m.upto.behind) ∧ wz.cell? ⟨g, 8, none⟩ = some (.int .i64 m.name) ∧ wz.cell? ⟨g, 9, none⟩ = some (.int .i64 m.value) ∧ wz.cell? ⟨b, o + k * 10, none⟩ = some (.int .i64 y.clock) ∧ wz.cell? ⟨b, o + k * 10 + 1, none⟩ = some (.int .i64 y.author) ∧ wz.cell? ⟨b, o + k * 10 + 2, none⟩ = some (.int .i64 y.from_.id.1) ∧ wz.cell? ⟨b, o + k * 10 + 3, none⟩ = some (.int .i64 y.from_.id.2) ∧ wz.cell? ⟨b, o + k * 10 + 4, none⟩ = some (.bool y.from_.behind) ∧ wz.cell? ⟨b, o + k * 10 + 5, none⟩ = some (.int .i64 y.upto.id.1) ∧ wz.cell? ⟨b, o + k * 10 + 6, none⟩ = some (.int .i64 y.upto.id.2) ∧ wz.cell? ⟨b, o + k * 10 + 7, none⟩ = some (.bool y.upto.behind) ∧ wz.cell? ⟨b, o + k * 10 + 8, none⟩ = some (.int .i64 y.name) ∧ wz.cell? ⟨b, o + k * 10 + 9, none⟩ = some (.int .i64 y.value)) from by
        obtain ⟨q0, q1, q2, q3, q4, q5, q6, q7, q8, q9⟩ := (HR.out wz (hbr.trans (hz.mono hbr.size))).2
        obtain ⟨p0, p1, p2, p3, p4, p5, p6, p7, p8, p9⟩ := hcy
        exact ⟨q0, q1, q2, q3, q4, q5, q6, q7, q8, q9, (hz.cell (p := ⟨b, o + k * 10, none⟩) hbw).trans p0, (hz.cell (p := ⟨b, o + k * 10 + 1, none⟩) hbw).trans p1, (hz.cell (p := ⟨b, o + k * 10 + 2, none⟩) hbw).trans p2, (hz.cell (p := ⟨b, o + k * 10 + 3, none⟩) hbw).trans p3, (hz.cell (p := ⟨b, o + k * 10 + 4, none⟩) hbw).trans p4, (hz.cell (p := ⟨b, o + k * 10 + 5, none⟩) hbw).trans p5, (hz.cell (p := ⟨b, o + k * 10 + 6, none⟩) hbw).trans p6, (hz.cell (p := ⟨b, o + k * 10 + 7, none⟩) hbw).trans p7, (hz.cell (p := ⟨b, o + k * 10 + 8, none⟩) hbw).trans p8, (hz.cell (p := ⟨b, o + k * 10 + 9, none⟩) hbw).trans p9⟩)
      clear hk hlt hy hnx eacc eln oo hbr r1 hmb hcy enb hbB hbw
      go_upto_region 11 with fail
      refine wp_region_inv 5 [30, 31, 32, 33, 34] [.val (.agg #[.int .i64 m.clock, .int .i64 m.author, .int .i64 m.from_.id.1, .int .i64 m.from_.id.2, .bool m.from_.behind, .int .i64 m.upto.id.1, .int .i64 m.upto.id.2, .bool m.upto.behind, .int .i64 m.name, .int .i64 m.value]), .val (.slice (some ⟨b, o, none⟩) n c), .val (.int .i64 (k : Int)), .val (.pointer (some ⟨b, o + k * 10, none⟩)), .val (.agg #[.int .i64 y.clock, .int .i64 y.author, .int .i64 y.from_.id.1, .int .i64 y.from_.id.2, .bool y.from_.behind, .int .i64 y.upto.id.1, .int .i64 y.upto.id.2, .bool y.upto.behind, .int .i64 y.name, .int .i64 y.value])] (fun wz => Below wr.heap.size wr wz) (by kernel_rfl) (by kernel_rfl) (fun wz wz' hz hb => hz.trans (hb.mono hz.size)) ((Below.refl _ _).drew) (fun u => by simp only [puts, List.foldl_cons, List.foldl_nil]; go_simp; exact rfl) ?_ ?_
      · simp only [List.take_succ_cons, List.take_zero]
        refine Obs.cons (fun u w hS hd => ?_) ?_
        · exact Gv.run (.agg #[.int .i64 m.clock, .int .i64 m.author, .int .i64 m.from_.id.1, .int .i64 m.from_.id.2, .bool m.from_.behind, .int .i64 m.upto.id.1, .int .i64 m.upto.id.2, .bool m.upto.behind, .int .i64 m.name, .int .i64 m.value]) rfl (by obtain ⟨k0, k1, k2, k3, k4, k5, k6, k7, k8, k9, k10, k11, k12, k13, k14, k15, k16, k17, k18, k19⟩ := HS.out w hS; go_simp) rfl
        refine Obs.cons (fun u w hS hd => ?_) ?_
        · exact Gv.run (.slice (some ⟨b, o, none⟩) n c) rfl (by go_simp) rfl
        refine Obs.cons (fun u w hS hd => ?_) ?_
        · exact Gv.run (.int .i64 (k : Int)) rfl (by go_simp) rfl
        refine Obs.cons (fun u w hS hd => ?_) ?_
        · have d31 : u 31 = .slice (some ⟨b, o, none⟩) n c := dep hd 1 rfl
          have d32 : u 32 = .int .i64 (k : Int) := dep hd 2 rfl
          rw [d31, d32]
          exact Gv.run (.pointer (some ⟨b, o + k * 10, none⟩)) rfl (by go_simp) rfl
        refine Obs.cons (fun u w hS hd => ?_) ?_
        · have d33 : u 33 = .pointer (some ⟨b, o + k * 10, none⟩) := dep hd 3 rfl
          rw [d33]
          exact Gv.run (.agg #[.int .i64 y.clock, .int .i64 y.author, .int .i64 y.from_.id.1, .int .i64 y.from_.id.2, .bool y.from_.behind, .int .i64 y.upto.id.1, .int .i64 y.upto.id.2, .bool y.upto.behind, .int .i64 y.name, .int .i64 y.value]) rfl (by obtain ⟨k0, k1, k2, k3, k4, k5, k6, k7, k8, k9, k10, k11, k12, k13, k14, k15, k16, k17, k18, k19⟩ := HS.out w hS; go_simp) rfl
        exact Obs.nil
      intro u v2 hS hd
      have d30 : u 30 = .agg #[.int .i64 m.clock, .int .i64 m.author, .int .i64 m.from_.id.1, .int .i64 m.from_.id.2, .bool m.from_.behind, .int .i64 m.upto.id.1, .int .i64 m.upto.id.2, .bool m.upto.behind, .int .i64 m.name, .int .i64 m.value] := hd 0 (by decide)
      have d34 : u 34 = .agg #[.int .i64 y.clock, .int .i64 y.author, .int .i64 y.from_.id.1, .int .i64 y.from_.id.2, .bool y.from_.behind, .int .i64 y.upto.id.1, .int .i64 y.upto.id.2, .bool y.upto.behind, .int .i64 y.name, .int .i64 y.value] := hd 4 (by decide)
      rw [d30, d34]
      simp only [List.drop_succ_cons, List.drop_zero]
      have HS2 := Lib.hid hS
      clear hS hd d30 d34
      go_wp2_with fail
      go_at_call 37
      refine (HNW.out v2).mono ?_
      rintro e v3 ⟨rfl, h3⟩
      have HB3 := Lib.hid (HBR.out.trans ((HS2.out.trans (h3.mono HS2.out.size)).mono HBR.out.size))
      have HO3 := Lib.hid ((HOO.out.keep HS2.out).keep h3)
      obtain ⟨x0, x1, x2, x3, x4, x5, x6, x7, x8, x9, m0, m1, m2, m3, m4, m5, m6, m7, m8, m9⟩ := HS.out v3 (HS2.out.trans (h3.mono HS2.out.size))
      clear h3 HS2 HS HOO x0 x1 x2 x3 x4 x5 x6 x7 x8 x9
      cases nb with
      | true =>
        have hp : (fun y => newB m y) y = true := by simp [← HNB.out]
        have HX := Lib.hid (show [] ++ (L.take (k + 1)).filter (fun y => newB m y) = acc ++ [y] by rw [HF.out.1, if_pos hp])
        clear hp
        go_wp2_with (at_builtin; refine wpList_appR1 v3 rfl (.tmp 36) (.tmp 41) _ rfl v1.heap.size 31 i0 _ Try.underlying22 HI.out.1 HI.out.2.1 HI.out.2.2.1 HI.out.2.2.2 rfl HF.out.2.1.symm rfl HO3.out (y := y) rfl rfl HLN.out.1 HLN.out.2 HB3.out.size ?_; intro A9 c9 w9 o9 hb9 hg9)
        go_roundw
        case rel => exact ⟨k + 1, HF.out.2.2, by go_num, ⟨A9, c9, by rw [HX.out, List.length_append, List.length_singleton, ← HF.out.2.1], by rw [HX.out]; exact o9⟩, HB3.out.trans hb9⟩
        case measure => simp [intF]; have := HF.out.2.2; omega
      | false =>
        have hp : ¬ (fun y => newB m y) y = true := by simp [← HNB.out]
        have HX := Lib.hid (show [] ++ (L.take (k + 1)).filter (fun y => newB m y) = acc by rw [HF.out.1, if_neg hp, List.append_nil])
        clear hp m0 m1 m2 m3 m4 m5 m6 m7 m8 m9
        go_wp2_with fail
        go_roundw
        case rel => exact ⟨k + 1, HF.out.2.2, by go_num, ⟨Ao, co, by rw [HX.out, ← HF.out.2.1], by rw [HX.out]; exact HO3.out⟩, HB3.out⟩
        case measure => simp [intF]; have := HF.out.2.2; omega
    · obtain rfl : n = k := by omega
      obtain ⟨va, eva⟩ : ∃ v, v = wr := ⟨_, rfl⟩
      subst eva
      have htk : L.take n = L := by rw [← HN.out.1, List.take_length]
      rw [htk, List.nil_append] at eacc
      have HAC := Lib.hid eacc
      have HEL := Lib.hid eln
      have HOO := Lib.hid oo
      have HBR := Lib.hid hbr
      have HLN := Lib.hid (show ln + 1 ≤ 140737488355328 ∧ (ln + 1) * 80 ≤ 140737488355328 by omega)
      obtain ⟨x0, x1, x2, x3, x4, x5, x6, x7, x8, x9⟩ := (HR.out va hbr).2
      clear oo hbr hlt hk htk eacc eln
      go_wp2_with (at_builtin; refine wpList_appR1 va rfl (.tmp 43) (.tmp 45) _ rfl v1.heap.size 31 i0 _ Try.underlying22 HI.out.1 HI.out.2.1 HI.out.2.2.1 HI.out.2.2.2 rfl HEL.out.symm rfl HOO.out (y := m) rfl rfl HLN.out.1 HLN.out.2 HBR.out.size ?_; intro Am c8 w8 o8 hb8 hg8; have HW8 := Lib.hid (And.intro o8 (HBR.out.trans hb8)); clear o8 hb8 hg8 x0 x1 x2 x3 x4 x5 x6 x7 x8 x9)
      obtain ⟨F1, eF1⟩ : ∃ l, l = acc ++ [m] := ⟨_, rfl⟩
      have hF1l : F1.length = ln + 1 := by rw [eF1, List.length_append, List.length_singleton, ← HEL.out]
      have HF1 := Lib.hid (show F1.length ≤ 513 by
        have h1 : acc.length ≤ L.length := by rw [HAC.out]; exact List.length_filter_le _ _
        have h2 := HN.out.1
        have h3 := HEL.out
        omega)
      rw [← eF1] at HW8
      rw [show ln + 1 = F1.length from hF1l.symm]
      have HFF := Lib.hid eF1
      have HAT := Lib.hid (show OwnR mrkE w8 v1.heap.size 31 Am c8 (F1 ++ (L.take 0).filter (fun y => !newB m y)) by simpa using HW8.out.1)
      clear hF1l eF1 HLN HOO HBR HEL hal
      go_loopw [6, 8] (fun v i wr => ∃ k : Nat, k ≤ n ∧ i = .int .i64 (k : Int) ∧ (∃ Ao co, v = .slice Ao (F1 ++ (L.take k).filter (fun y => !newB m y)).length co ∧ OwnR mrkE wr v1.heap.size 31 Ao co (F1 ++ (L.take k).filter (fun y => !newB m y))) ∧ Below v1.heap.size v1 wr) (fun _ i _ => n - (intF i).toNat)
      case atStart => exact ⟨0, Nat.zero_le _, rfl, ⟨Am, c8, by simp, HAT.out⟩, HW8.out.2⟩
      case round =>
        obtain ⟨k, hk, rfl, ⟨Ao, co, rfl, oo⟩, hbr⟩ := hrel
        obtain ⟨acc, eacc⟩ : ∃ a, a = F1 ++ (L.take k).filter (fun y => !newB m y) := ⟨_, rfl⟩
        have hal : acc.length ≤ 1100 := by
          rw [eacc, List.length_append]
          have h1 : ((L.take k).filter (fun y => !newB m y)).length ≤ L.length := Nat.le_trans (List.length_filter_le _ _) (by rw [List.length_take]; omega)
          have h2 := HN.out.1
          have h3 := HF1.out
          try simp only [List.length_nil] at h3 ⊢
          omega
        rw [← eacc] at oo ⊢
        obtain ⟨ln, eln⟩ : ∃ q, q = acc.length := ⟨_, rfl⟩
        rw [← eln]
        rw [← eln] at hal
        by_cases hlt : k < n
        · have g1 : (k : Int) < (n : Int) := by omega
          obtain ⟨y, hy⟩ := getD_of (L := L) (k := k) (by rw [HN.out.1]; exact hlt)
          obtain ⟨r1, hmb⟩ := HR.out wr hbr
          obtain ⟨b, o, rfl, hbB, hcy⟩ := mrk_at r1 hy
          have hnx : F1 ++ (L.take (k + 1)).filter (fun y => !newB m y) = acc ++ (if (fun y => !newB m y) y then [y] else []) := by rw [filt_snoc (fun y => !newB m y) hy, ← List.append_assoc, ← eacc]
          have HF := Lib.hid (And.intro hnx (And.intro eln hlt))
          obtain ⟨nb, enb⟩ : ∃ q, q = newB m y := ⟨_, rfl⟩
          have HNW := Lib.hid (fun wz => newer_any m y wz)
          rw [← enb] at HNW
          have HNB := Lib.hid enb
          have HLN := Lib.hid (show ln + 1 ≤ 140737488355328 ∧ (ln + 1) * 80 ≤ 140737488355328 by omega)
          have HOO := Lib.hid oo
          have HBR := Lib.hid hbr
          have hbw : b < wr.heap.size := by have h1 := HN.out.2.2; have h2 := HB.out.size; have h3 := hbr.size; omega
          have HS := Lib.hid (fun wz (hz : Below wr.heap.size wr wz) => show (wz.cell? ⟨g, 0, none⟩ = some (.int .i64 m.clock) ∧ wz.cell? ⟨g, 1, none⟩ = some (.int .i64 m.author) ∧ wz.cell? ⟨g, 2, none⟩ = some (.int .i64 m.from_.id.1) ∧ wz.cell? ⟨g, 3, none⟩ = some (.int .i64 m.from_.id.2) ∧ wz.cell? ⟨g, 4, none⟩ = some (.bool m.from_.behind) ∧ wz.cell? ⟨g, 5, none⟩ = some (.int .i64 m.upto.id.1) ∧ wz.cell? ⟨g, 6, none⟩ = some (.int .i64 m.upto.id.2) ∧ wz.cell? ⟨g, 7, none⟩ = some (.bool m.upto.behind) ∧ wz.cell? ⟨g, 8, none⟩ = some (.int .i64 m.name) ∧ wz.cell? ⟨g, 9, none⟩ = some (.int .i64 m.value) ∧ wz.cell? ⟨b, o + k * 10, none⟩ = some (.int .i64 y.clock) ∧ wz.cell? ⟨b, o + k * 10 + 1, none⟩ = some (.int .i64 y.author) ∧ wz.cell? ⟨b, o + k * 10 + 2, none⟩ = some (.int .i64 y.from_.id.1) ∧ wz.cell? ⟨b, o + k * 10 + 3, none⟩ = some (.int .i64 y.from_.id.2) ∧ wz.cell? ⟨b, o + k * 10 + 4, none⟩ = some (.bool y.from_.behind) ∧ wz.cell? ⟨b, o + k * 10 + 5, none⟩ = some (.int .i64 y.upto.id.1) ∧ wz.cell? ⟨b, o + k * 10 + 6, none⟩ = some (.int .i64 y.upto.id.2) ∧ wz.cell? ⟨b, o + k * 10 + 7, none⟩ = some (.bool y.upto.behind) ∧ wz.cell? ⟨b, o + k * 10 + 8, none⟩ = some (.int .i64 y.name) ∧ wz.cell? ⟨b, o + k * 10 + 9, none⟩ = some (.int .i64 y.value)) from by
            obtain ⟨q0, q1, q2, q3, q4, q5, q6, q7, q8, q9⟩ := (HR.out wz (hbr.trans (hz.mono hbr.size))).2
            obtain ⟨p0, p1, p2, p3, p4, p5, p6, p7, p8, p9⟩ := hcy
            exact ⟨q0, q1, q2, q3, q4, q5, q6, q7, q8, q9, (hz.cell (p := ⟨b, o + k * 10, none⟩) hbw).trans p0, (hz.cell (p := ⟨b, o + k * 10 + 1, none⟩) hbw).trans p1, (hz.cell (p := ⟨b, o + k * 10 + 2, none⟩) hbw).trans p2, (hz.cell (p := ⟨b, o + k * 10 + 3, none⟩) hbw).trans p3, (hz.cell (p := ⟨b, o + k * 10 + 4, none⟩) hbw).trans p4, (hz.cell (p := ⟨b, o + k * 10 + 5, none⟩) hbw).trans p5, (hz.cell (p := ⟨b, o + k * 10 + 6, none⟩) hbw).trans p6, (hz.cell (p := ⟨b, o + k * 10 + 7, none⟩) hbw).trans p7, (hz.cell (p := ⟨b, o + k * 10 + 8, none⟩) hbw).trans p8, (hz.cell (p := ⟨b, o + k * 10 + 9, none⟩) hbw).trans p9⟩)
          clear hk hlt hy hnx eacc eln oo hbr r1 hmb hcy enb hbB hbw
          go_upto_region 17 with fail
          refine wp_region_inv 6 [53, 54, 55, 56, 57, 58] [.val (.agg #[.int .i64 m.clock, .int .i64 m.author, .int .i64 m.from_.id.1, .int .i64 m.from_.id.2, .bool m.from_.behind, .int .i64 m.upto.id.1, .int .i64 m.upto.id.2, .bool m.upto.behind, .int .i64 m.name, .int .i64 m.value]), .val (.slice (some ⟨b, o, none⟩) n c), .val (.int .i64 (k : Int)), .val (.pointer (some ⟨b, o + k * 10, none⟩)), .val (.agg #[.int .i64 y.clock, .int .i64 y.author, .int .i64 y.from_.id.1, .int .i64 y.from_.id.2, .bool y.from_.behind, .int .i64 y.upto.id.1, .int .i64 y.upto.id.2, .bool y.upto.behind, .int .i64 y.name, .int .i64 y.value]), .val (.bool nb)] (fun wz => Below wr.heap.size wr wz) (by kernel_rfl) (by kernel_rfl) (fun wz wz' hz hb => hz.trans (hb.mono hz.size)) ((Below.refl _ _).drew) (fun u => by simp only [puts, List.foldl_cons, List.foldl_nil]; go_simp; exact rfl) ?_ ?_
          · simp only [List.take_succ_cons, List.take_zero]
            refine Obs.cons (fun u w hS hd => ?_) ?_
            · exact Gv.run (.agg #[.int .i64 m.clock, .int .i64 m.author, .int .i64 m.from_.id.1, .int .i64 m.from_.id.2, .bool m.from_.behind, .int .i64 m.upto.id.1, .int .i64 m.upto.id.2, .bool m.upto.behind, .int .i64 m.name, .int .i64 m.value]) rfl (by obtain ⟨k0, k1, k2, k3, k4, k5, k6, k7, k8, k9, k10, k11, k12, k13, k14, k15, k16, k17, k18, k19⟩ := HS.out w hS; go_simp) rfl
            refine Obs.cons (fun u w hS hd => ?_) ?_
            · exact Gv.run (.slice (some ⟨b, o, none⟩) n c) rfl (by go_simp) rfl
            refine Obs.cons (fun u w hS hd => ?_) ?_
            · exact Gv.run (.int .i64 (k : Int)) rfl (by go_simp) rfl
            refine Obs.cons (fun u w hS hd => ?_) ?_
            · have d54 : u 54 = .slice (some ⟨b, o, none⟩) n c := dep hd 1 rfl
              have d55 : u 55 = .int .i64 (k : Int) := dep hd 2 rfl
              rw [d54, d55]
              exact Gv.run (.pointer (some ⟨b, o + k * 10, none⟩)) rfl (by go_simp) rfl
            refine Obs.cons (fun u w hS hd => ?_) ?_
            · have d56 : u 56 = .pointer (some ⟨b, o + k * 10, none⟩) := dep hd 3 rfl
              rw [d56]
              exact Gv.run (.agg #[.int .i64 y.clock, .int .i64 y.author, .int .i64 y.from_.id.1, .int .i64 y.from_.id.2, .bool y.from_.behind, .int .i64 y.upto.id.1, .int .i64 y.upto.id.2, .bool y.upto.behind, .int .i64 y.name, .int .i64 y.value]) rfl (by obtain ⟨k0, k1, k2, k3, k4, k5, k6, k7, k8, k9, k10, k11, k12, k13, k14, k15, k16, k17, k18, k19⟩ := HS.out w hS; go_simp) rfl
            refine Obs.cons (fun u w hS hd => ?_) ?_
            · have d53 : u 53 = .agg #[.int .i64 m.clock, .int .i64 m.author, .int .i64 m.from_.id.1, .int .i64 m.from_.id.2, .bool m.from_.behind, .int .i64 m.upto.id.1, .int .i64 m.upto.id.2, .bool m.upto.behind, .int .i64 m.name, .int .i64 m.value] := dep hd 0 rfl
              have d57 : u 57 = .agg #[.int .i64 y.clock, .int .i64 y.author, .int .i64 y.from_.id.1, .int .i64 y.from_.id.2, .bool y.from_.behind, .int .i64 y.upto.id.1, .int .i64 y.upto.id.2, .bool y.upto.behind, .int .i64 y.name, .int .i64 y.value] := dep hd 4 rfl
              rw [d53, d57]
              refine Gv.call 37 #[.agg #[.int .i64 m.clock, .int .i64 m.author, .int .i64 m.from_.id.1, .int .i64 m.from_.id.2, .bool m.from_.behind, .int .i64 m.upto.id.1, .int .i64 m.upto.id.2, .bool m.upto.behind, .int .i64 m.name, .int .i64 m.value], .agg #[.int .i64 y.clock, .int .i64 y.author, .int .i64 y.from_.id.1, .int .i64 y.from_.id.2, .bool y.from_.behind, .int .i64 y.upto.id.1, .int .i64 y.upto.id.2, .bool y.upto.behind, .int .i64 y.name, .int .i64 y.value]] rfl (by go_simp) ((HNW.out w).mono ?_)
              rintro e w' ⟨rfl, hb⟩
              exact ⟨_, rfl, rfl, hb⟩
            exact Obs.nil
          intro u v3 hS hd
          have d58 : u 58 = .bool nb := hd 5 (by decide)
          rw [d58]
          simp only [List.drop_succ_cons, List.drop_zero]
          have HS2 := Lib.hid hS
          clear hS hd d58
          have h3 : Below v3.heap.size v3 v3 := Below.refl _ _
          have HB3 := Lib.hid (HBR.out.trans ((HS2.out.trans (h3.mono HS2.out.size)).mono HBR.out.size))
          have HO3 := Lib.hid ((HOO.out.keep HS2.out).keep h3)
          obtain ⟨x0, x1, x2, x3, x4, x5, x6, x7, x8, x9, m0, m1, m2, m3, m4, m5, m6, m7, m8, m9⟩ := HS.out v3 (HS2.out.trans (h3.mono HS2.out.size))
          clear h3 HS2 HS HOO x0 x1 x2 x3 x4 x5 x6 x7 x8 x9
          cases nb with
          | false =>
            have hp : (fun y => !newB m y) y = true := by simp [← HNB.out]
            have HX := Lib.hid (show F1 ++ (L.take (k + 1)).filter (fun y => !newB m y) = acc ++ [y] by rw [HF.out.1, if_pos hp])
            clear hp
            go_wp2_with (at_builtin; refine wpList_appR1 v3 rfl (.tmp 60) (.tmp 65) _ rfl v1.heap.size 31 i0 _ Try.underlying22 HI.out.1 HI.out.2.1 HI.out.2.2.1 HI.out.2.2.2 rfl HF.out.2.1.symm rfl HO3.out (y := y) rfl rfl HLN.out.1 HLN.out.2 HB3.out.size ?_; intro A9 c9 w9 o9 hb9 hg9)
            go_roundw
            case rel => exact ⟨k + 1, HF.out.2.2, by go_num, ⟨A9, c9, by rw [HX.out, List.length_append, List.length_singleton, ← HF.out.2.1], by rw [HX.out]; exact o9⟩, HB3.out.trans hb9⟩
            case measure => simp [intF]; have := HF.out.2.2; omega
          | true =>
            have hp : ¬ (fun y => !newB m y) y = true := by simp [← HNB.out]
            have HX := Lib.hid (show F1 ++ (L.take (k + 1)).filter (fun y => !newB m y) = acc by rw [HF.out.1, if_neg hp, List.append_nil])
            clear hp m0 m1 m2 m3 m4 m5 m6 m7 m8 m9
            go_wp2_with fail
            go_roundw
            case rel => exact ⟨k + 1, HF.out.2.2, by go_num, ⟨Ao, co, by rw [HX.out, ← HF.out.2.1], by rw [HX.out]; exact HO3.out⟩, HB3.out⟩
            case measure => simp [intF]; have := HF.out.2.2; omega
        · obtain rfl : n = k := by omega
          have htk : L.take n = L := by rw [← HN.out.1, List.take_length]
          have HFIN := Lib.hid (show acc = L.filter (fun y => newB m y) ++ [m] ++ L.filter (fun y => !newB m y) by rw [eacc, htk, HFF.out, HAC.out])
          have HEL := Lib.hid eln
          have HOO := Lib.hid oo
          have HBR := Lib.hid (HB.out.trans (hbr.mono HB.out.size))
          clear oo hbr hlt hk htk eacc eln
          go_wp2_with fail
          go_returns
          refine ⟨Ao, co, ?_, ?_, HBR.out⟩
          · rw [← HFIN.out, ← HEL.out]; rfl
          · rw [← HFIN.out]; exact HOO.out.mono HB.out.size
set_option maxHeartbeats 1600000 in
/-- What adding tells and leaves. -/
theorem madd_any {A : Option Addr} {B c n : Nat} {L : List Mrk} (m : Mrk) (w : World) (r : RdR mrkE w B A c L) (hB : B ≤ w.heap.size) (hn : L.length = n) (hl : n ≤ 512) :
    Calls Try.prog 12 #[.slice A n c, mrkV m] w fun e w' => ∃ A' c', e = .returned (.tuple #[.slice A' (maddR L m).1.length c', .int .i64 (maddR L m).2]) ∧ RdR mrkE w' w'.heap.size A' c' (maddR L m).1 ∧ (∀ ad, A' = some ad → A = some ad ∨ (w.heap.size ≤ ad.block ∧ ad.block < w'.heap.size)) ∧ Below w.heap.size w w' := by
  by_cases hall : rightM m = true ∧ mhasB L m.clock m.author = false ∧ ¬ n = 512
  · obtain ⟨h1, h2, h3⟩ := hall
    have e : maddR L m = (L.filter (fun y => newB m y) ++ [m] ++ L.filter (fun y => !newB m y), 0) := by
      unfold maddR
      rw [if_neg (by rw [h1]; decide), if_neg (by rw [h2]; decide), if_neg (by omega), maddL_eq, List.append_assoc]
      rfl
    refine (madd_ok m w r hB hn hl h1 h2 h3).mono ?_
    rintro z w' ⟨A', c', rfl, o, hb⟩
    rw [e]
    exact ⟨A', c', rfl, o.rd, fun ad h => .inr (OwnR.blk o ad h), hb⟩
  obtain ⟨q, eq⟩ : ∃ q, q = (maddR L m).2 := ⟨_, rfl⟩
  have e1 : (maddR L m).1 = L ∧ ((rightM m = false ∧ q = 1) ∨ (rightM m = true ∧ mhasB L m.clock m.author = true ∧ q = 12) ∨ (rightM m = true ∧ mhasB L m.clock m.author = false ∧ n = 512 ∧ q = 14)) := by
    rw [eq]
    unfold maddR
    cases h1 : rightM m with
    | false => exact ⟨by rw [if_pos rfl], .inl ⟨rfl, by rw [if_pos rfl]⟩⟩
    | true =>
      rw [if_neg (by decide)]
      cases h2 : mhasB L m.clock m.author with
      | true => exact ⟨by rw [if_pos rfl], .inr (.inl ⟨rfl, rfl, by rw [if_pos rfl]⟩)⟩
      | false =>
        rw [if_neg (by decide)]
        have h3 : n = 512 := Decidable.of_not_not fun h3 => hall ⟨h1, h2, h3⟩
        exact ⟨by rw [if_pos (by omega)], .inr (.inr ⟨rfl, rfl, h3, by rw [if_pos (by omega)]⟩)⟩
  rw [← eq, e1.1, hn]
  have HE := Lib.hid e1.2
  clear e1 eq hall
  obtain ⟨v1, ev⟩ : ∃ v, v = w.alloc (.cells #[.int .i64 m.clock, .int .i64 m.author, .int .i64 m.from_.id.1, .int .i64 m.from_.id.2, .bool m.from_.behind, .int .i64 m.upto.id.1, .int .i64 m.upto.id.2, .bool m.upto.behind, .int .i64 m.name, .int .i64 m.value] 31) := ⟨_, rfl⟩
  obtain ⟨g, eg⟩ : ∃ g, g = w.heap.size := ⟨_, rfl⟩
  have hb : Below w.heap.size w v1 := by rw [ev]; exact (Below.refl _ _).alloc (Nat.le_refl _) _
  have hq : MrkB v1 g m := by rw [ev, eg]; exact mrk_box w m
  have hg : g < v1.heap.size := by rw [ev, eg]; simp
  have HB := Lib.hid hb
  have HV := Lib.hid (And.intro ev eg)
  have HR := Lib.hid (fun wz (hz : Below v1.heap.size v1 wz) => And.intro (r.keep ((hb.trans (hz.mono hb.size)).mono hB) : RdR mrkE wz B A c L) (hq.keep hz hg))
  have HRT := Lib.hid (mright_any m v1)
  have HHS := Lib.hid (fun wz (hz : Below v1.heap.size v1 wz) => mhas_any m.clock m.author wz (HR.out wz hz).1 (Nat.le_trans hB (Nat.le_trans hb.size hz.size)) hn (Nat.le_trans hl (by decide)))
  have HEND := Lib.hid (fun wz (hz : Below v1.heap.size v1 wz) => show RdR mrkE wz wz.heap.size A c L ∧ (∀ ad, A = some ad → A = some ad ∨ (w.heap.size ≤ ad.block ∧ ad.block < wz.heap.size)) ∧ Below w.heap.size w wz from ⟨(HR.out wz hz).1.mono (Nat.le_trans hB (Nat.le_trans hb.size hz.size)), fun _ h => .inl h, hb.trans (hz.mono hb.size)⟩)
  obtain ⟨q0, q1, q2, q3, q4, q5, q6, q7, q8, q9⟩ := hq
  clear ev eg hb hg r hB hn
  go_enter Try.func12, Try.ntmps12
  go_upto_region 1 with fail
  rw [← HV.out.1, ← HV.out.2]
  clear HV
  rcases HE.out with ⟨h1, hq⟩ | ⟨h1, h2, hq⟩ | ⟨h1, h2, h3, hq⟩
  · rw [h1] at HRT
    subst hq
    clear h1 HE HHS HB
    go_wp2_with fail
    go_at_call 14
    refine HRT.out.mono ?_
    rintro e v2 ⟨rfl, h2⟩
    have HB2 := Lib.hid (HEND.out v2 h2)
    clear h2 HRT q0 q1 q2 q3 q4 q5 q6 q7 q8 q9
    go_wp2_with fail
    go_returns
    exact ⟨A, c, rfl, HB2.out⟩
  · rw [h1] at HRT
    rw [h2] at HHS
    subst hq
    clear h1 h2 HE HB
    go_wp2_with fail
    go_at_call 14
    refine HRT.out.mono ?_
    rintro e v2 ⟨rfl, h2⟩
    have HB2 := Lib.hid h2
    clear h2 HRT q0 q1 q2 q3 q4 q5 q6 q7 q8 q9
    obtain ⟨q0, q1, _⟩ := (HR.out v2 HB2.out).2
    go_wp2_with fail
    go_at_call 19
    refine (HHS.out v2 HB2.out).mono ?_
    rintro e v3 ⟨rfl, h3⟩
    have HB3 := Lib.hid (HEND.out v3 (HB2.out.trans (h3.mono HB2.out.size)))
    clear h3 HHS q0 q1
    go_wp2_with fail
    go_returns
    exact ⟨A, c, rfl, HB3.out⟩
  · rw [h1] at HRT
    rw [h2] at HHS
    subst hq
    have hf : ((n : Int) == 512) = true := by simp; omega
    clear h1 h2 h3 HE HB hl
    go_wp2_with fail
    go_at_call 14
    refine HRT.out.mono ?_
    rintro e v2 ⟨rfl, h2⟩
    have HB2 := Lib.hid h2
    clear h2 HRT q0 q1 q2 q3 q4 q5 q6 q7 q8 q9
    obtain ⟨q0, q1, _⟩ := (HR.out v2 HB2.out).2
    go_wp2_with fail
    go_at_call 19
    refine (HHS.out v2 HB2.out).mono ?_
    rintro e v3 ⟨rfl, h3⟩
    have HB3 := Lib.hid (HEND.out v3 (HB2.out.trans (h3.mono HB2.out.size)))
    clear h3 HHS q0 q1
    go_wp2_with fail
    go_returns
    exact ⟨A, c, rfl, HB3.out⟩
end Go.Proofs.Ytpjeggbkhbghaaa
