/-
  Layer 19, the landed code: Seal and Draw of the ideal suite. By an AI agent.
-/
import Derived.Test.YtdddcgkgellbgabSv2
namespace Go.Proofs.Ytdddcgkgellbgab
open Go Go.RowKit
set_option maxRecDepth 20000
attribute [local irreducible] e8 calledT
set_option maxHeartbeats 800000 in
theorem seal_any : SealC IdR := by
  intro F S p L D A A2 A3 c c2 c3 b o x n w h hL hr hr2 hr3 hl hl2 hl3 hn
  have HU := Lib.hid (And.intro h (And.intro hL (And.intro hr (And.intro hr2 (And.intro hr3 (And.intro hl (And.intro hl2 hl3)))))))
  obtain ⟨n1, en1⟩ : ∃ n, n = b.length := ⟨_, rfl⟩
  obtain ⟨n2, en2⟩ : ∃ n, n = o.length := ⟨_, rfl⟩
  obtain ⟨n3, en3⟩ : ∃ n, n = x.length := ⟨_, rfl⟩
  have HN := Lib.hid (And.intro en1 (And.intro en2 en3))
  rw [← en1, ← en2, ← en3]
  clear h hr hl hL hr2 hl2 hr3 hl3 en1 en2 en3
  by_cases h0 : n < 0
  · have HK := Lib.hid (And.intro (show sealL L b n o x = L from if_pos h0) (show sealA L b n o x = [] from if_pos h0))
    go_enter Try.func15, Try.ntmps15
    go_wp2_with fail
    go_ret
    rw [HK.out.1, HK.out.2]
    exact ⟨none, 0, rfl, told_none HU.out.1 (Below.refl _ _)⟩
  · have HK := Lib.hid (And.intro (show sealL L b n o x = knowK L (termB b n o x) from if_neg h0) (show sealA L b n o x = ansK L (termB b n o x) from if_neg h0))
    obtain ⟨m, em⟩ : ∃ m : Nat, n = (m : Int) := ⟨n.toNat, by omega⟩
    subst em
    go_enter Try.func15, Try.ntmps15
    go_wp2_with fail
    go_at_call 42
    refine (eight_any (by omega) w).mono ?_
    rintro e v ⟨Ae, ce, he, ho, hb⟩
    obtain ⟨n8, en8⟩ : ∃ n : Nat, n = (e8 m).length := ⟨_, rfl⟩
    rw [← e8_len m, ← en8] at he
    subst he
    have HV := Lib.hid (And.intro hb (And.intro ho.rd en8))
    clear hb ho en8
    go_wp2_with fail
    obtain ⟨v1, ev⟩ : ∃ q, q = v.alloc (.cells #[.slice A n1 c, .slice Ae n8 ce, .slice A2 n2 c2, .slice A3 n3 c3] 31) := ⟨_, rfl⟩
    have hb1 : Below v.heap.size v v1 := by rw [ev]; exact (Below.refl _ _).alloc (Nat.le_refl _) _
    have hd : Rds v1 v1.heap.size (some ⟨v.heap.size, 0, none⟩) 4 [b, e8 m, o, x] := by
      have hq := rds_lit 31 (w := v) [(A, c, b), (Ae, ce, e8 m), (A2, c2, o), (A3, c3, x)] (fun y hy => by
        simp only [List.mem_cons, List.not_mem_nil, or_false] at hy
        rcases hy with rfl | rfl | rfl | rfl
        · exact (HU.out.2.2.1.keep HV.out.1).mono HV.out.1.size
        · exact HV.out.2.1
        · exact (HU.out.2.2.2.1.keep HV.out.1).mono HV.out.1.size
        · exact (HU.out.2.2.2.2.1.keep HV.out.1).mono HV.out.1.size)
      rw [ev, HN.out.1, HN.out.2.1, HN.out.2.2, HV.out.2.2]
      exact hq
    have hbw := HV.out.1.trans (hb1.mono HV.out.1.size)
    rw [← ev]
    clear ev
    refine (keyed_any (k := 98) (P := [b, e8 m, o, x]) v1 (HU.out.1.next hbw) hd ⟨rfl, fun y hy => ?_⟩ HU.out.2.1).mono ?_
    · simp only [List.mem_cons, List.not_mem_nil, or_false] at hy
      rcases hy with rfl | rfl | rfl | rfl
      · exact HU.out.2.2.2.2.2.1
      · rw [e8_len]; decide
      · exact HU.out.2.2.2.2.2.2.1
      · exact HU.out.2.2.2.2.2.2.2
    rintro e w2 ⟨Aq, cq, rfl, ht⟩
    have H2 := Lib.hid (told_back hbw HU.out.1 ht)
    clear ht hb1 hd hbw
    go_wp2_with fail
    go_ret
    rw [HK.out.1, HK.out.2]
    exact ⟨Aq, cq, rfl, H2.out⟩
/-- One more is drawn. -/
theorem TabR.drawn {w : World} {F S : Nat → Prop} {T : Nat} {L : List Trm} {D : Nat} (h : TabR w F S T L D) (x : Int) (hx : x = ((D + 1 : Nat) : Int)) : TabR (w.setCell ⟨T, 2, none⟩ (.int .i64 x)) F S T L (D + 1) ∧ OutF F w (w.setCell ⟨T, 2, none⟩ (.int .i64 x)) := by
  subst hx
  obtain ⟨M, A, c, clk, es, X, H, e, hF, hS⟩ := h
  obtain ⟨a1, a2, a3⟩ := H.apart
  have ho : ∀ q, q ≠ T → (w.setCell ⟨T, 2, none⟩ (.int .i64 ((D + 1 : Nat) : Int))).heap[q]? = w.heap[q]? := fun q hq => w_other w _ hq
  refine ⟨⟨M, A, c, clk, es, X, ⟨by rw [w_block H.table]; rfl, H.rows.keep0 fun ad ea => ho _ (a2 ad ea).1, (ho M (Ne.symm a1)).trans H.map, H.look, fun x hx => (ho _ (a3 x hx).1).trans (H.parts x hx), H.ok, H.once⟩, e, hF, hS⟩, ⟨rfl, rfl, rfl, by rw [w_size]; exact Nat.le_refl _, fun k _ hn => ho k fun e => hn ((hF k).2 (.inl e))⟩⟩
set_option maxHeartbeats 1600000 in
theorem draw_any : DrawC IdR := by
  intro F S p L D w h hD hL
  obtain ⟨I, T, F0, rfl, hI, hT, hF⟩ := id h
  have HM := Lib.hid (made_any w h)
  have HU := Lib.hid (And.intro hI (And.intro hF (And.intro hT h)))
  have HLL := Lib.hid hL
  have HC := Lib.hid (fun v (hv : Below w.heap.size w v) => show v.cell? ⟨I, 0, none⟩ = some (ptB T) ∧ v.cell? ⟨T, 2, none⟩ = some (.int .i64 (D : Int)) ∧ v.frozen? ⟨T, 2, none⟩ = false from by
    obtain ⟨M, A, c, clk, es, X, H, _⟩ := hT
    have hq := (hv.block T (w_lt H.table)).trans H.table
    exact ⟨(hv.cell (p := ⟨I, 0, none⟩) (w_lt hI)).trans (ic_cell hI), by simp [World.cell?, hq], w_free hq 2⟩)
  clear h hI hT hF hL
  go_enter Try.func22, Try.ntmps22
  go_wp2_with fail
  go_at_call 37
  refine HM.out.mono ?_
  rintro e v ⟨rfl, hv⟩
  obtain ⟨cI, cD, fD⟩ := HC.out v hv
  have HV := Lib.hid hv
  clear hv HC HM
  go_upto_region 4 with fail
  have hTv := HU.out.2.2.1.keep (w' := v) fun q hq => HV.out.block q (HU.out.2.2.1.lt q hq)
  have hIv := (HV.out.block I (w_lt HU.out.1)).trans HU.out.1
  obtain ⟨hT1, hO1⟩ := hTv.drawn ((D : Int) + 1) rfl
  obtain ⟨v1, ev⟩ : ∃ q, q = v.setCell ⟨T, 2, none⟩ (.int .i64 ((D : Int) + 1)) := ⟨_, rfl⟩
  rw [← ev] at hT1 hO1 ⊢
  clear ev
  have hI1 := (hO1.block I (w_lt hIv) (hTv.type hIv).1).trans hIv
  have HW := Lib.hid (fun wz (hz : Below v1.heap.size v1 wz) => show wz.cell? ⟨I, 0, none⟩ = some (ptB T) ∧ wz.cell? ⟨T, 2, none⟩ = some (.int .i64 ((D : Int) + 1)) from by
    have hI2 := hI1
    obtain ⟨M, A, c, clk, es, X, H, _⟩ := id hT1
    have hq := (hz.block T (w_lt H.table)).trans H.table
    exact ⟨(hz.cell (p := ⟨I, 0, none⟩) (w_lt hI2)).trans (ic_cell hI2), by simp [World.cell?, hq]⟩)
  have H1 := Lib.hid (And.intro hT1 hO1)
  clear hT1 hO1 hI1 hIv hTv cI cD fD
  refine wp_region_inv 13 [16, 17, 18, 19, 20, 21, 22, 23, 24, 25, 26, 27, 28] [.val (ptB I), .val (ptB I), .val (.pointer (some ⟨I, 0, none⟩)), .val (ptB T), .val (ptB I), .val (ptB I), .val (.pointer (some ⟨I, 0, none⟩)), .val (ptB T), .val (ptB T), .val (.pointer (some ⟨T, 2, none⟩)), .val (.int .i64 ((D : Int) + 1)), .byt (e8 (D + 1)),
      .sat (fun q wq => ∃ g, q = .slice (some ⟨g, 0, none⟩) 1 1 ∧ Rds wq wq.heap.size (some ⟨g, 0, none⟩) 1 [e8 (D + 1)]) (fun q wq wq' ⟨g, e, hq⟩ hb => ⟨g, e, hq.next hb⟩)]
    (fun wz => Below v1.heap.size v1 wz) (by kernel_rfl) (by kernel_rfl) (fun wz wz' hz hb => hz.trans (hb.mono hz.size)) ((Below.refl _ _).drew) (fun u => by simp only [puts, List.foldl_cons, List.foldl_nil]; go_simp; exact rfl) ?_ ?_
  · simp only [List.take_succ_cons, List.take_zero]
    refine Obs.cons (fun u w hS hd => ?_) ?_
    · exact Gv.run (ptB I) rfl (by go_simp) rfl
    refine Obs.cons (fun u w hS hd => ?_) ?_
    · have d16 : u 16 = ptB I := dep hd 0 rfl
      rw [d16]
      exact Gv.run (ptB I) rfl (by go_simp) rfl
    refine Obs.cons (fun u w hS hd => ?_) ?_
    · have d17 : u 17 = ptB I := dep hd 1 rfl
      rw [d17]
      exact Gv.run (.pointer (some ⟨I, 0, none⟩)) rfl (by go_simp) rfl
    refine Obs.cons (fun u w hS hd => ?_) ?_
    · have d18 : u 18 = .pointer (some ⟨I, 0, none⟩) := dep hd 2 rfl
      rw [d18]
      obtain ⟨q0, q1⟩ := HW.out w hS
      exact Gv.run (ptB T) rfl (by go_simp) rfl
    refine Obs.cons (fun u w hS hd => ?_) ?_
    · exact Gv.run (ptB I) rfl (by go_simp) rfl
    refine Obs.cons (fun u w hS hd => ?_) ?_
    · have d20 : u 20 = ptB I := dep hd 4 rfl
      rw [d20]
      exact Gv.run (ptB I) rfl (by go_simp) rfl
    refine Obs.cons (fun u w hS hd => ?_) ?_
    · have d21 : u 21 = ptB I := dep hd 5 rfl
      rw [d21]
      exact Gv.run (.pointer (some ⟨I, 0, none⟩)) rfl (by go_simp) rfl
    refine Obs.cons (fun u w hS hd => ?_) ?_
    · have d22 : u 22 = .pointer (some ⟨I, 0, none⟩) := dep hd 6 rfl
      rw [d22]
      obtain ⟨q0, q1⟩ := HW.out w hS
      exact Gv.run (ptB T) rfl (by go_simp) rfl
    refine Obs.cons (fun u w hS hd => ?_) ?_
    · have d23 : u 23 = ptB T := dep hd 7 rfl
      rw [d23]
      exact Gv.run (ptB T) rfl (by go_simp) rfl
    refine Obs.cons (fun u w hS hd => ?_) ?_
    · have d24 : u 24 = ptB T := dep hd 8 rfl
      rw [d24]
      exact Gv.run (.pointer (some ⟨T, 2, none⟩)) rfl (by go_simp) rfl
    refine Obs.cons (fun u w hS hd => ?_) ?_
    · have d25 : u 25 = .pointer (some ⟨T, 2, none⟩) := dep hd 9 rfl
      rw [d25]
      obtain ⟨q0, q1⟩ := HW.out w hS
      exact Gv.run (.int .i64 ((D : Int) + 1)) rfl (by go_simp) rfl
    refine Obs.cons (fun u w hS hd => ?_) ?_
    · have d26 : u 26 = .int .i64 ((D : Int) + 1) := dep hd 10 rfl
      rw [d26]
      refine Gv.call 42 #[.int .i64 (((D + 1 : Nat)) : Int)] rfl (by go_simp) ((eight_any (n := D + 1) (by omega) w).mono ?_)
      rintro e w' ⟨A, c, rfl, ho, hb⟩
      exact ⟨_, rfl, ⟨A, c, by rw [e8_len], ho.rd⟩, hb⟩
    refine Obs.cons (fun u w hS hd => ?_) ?_
    · obtain ⟨A, c, d27, hr⟩ : ∃ A c, u 27 = .slice A (e8 (D + 1)).length c ∧ Rd w w.heap.size A c (e8 (D + 1)) := dep hd 11 rfl
      rw [d27]
      have hq := rds_lit 31 (w := w) [(A, c, e8 (D + 1))] (fun y hy => by rw [List.mem_singleton.1 hy]; exact hr)
      refine Gv.make (.slice (some ⟨w.heap.size, 0, none⟩) 1 1) (w.alloc (.cells #[.slice A (e8 (D + 1)).length c] 31)) rfl (by go_simp) ⟨w.heap.size, rfl, hq⟩ ((Below.refl _ _).alloc (Nat.le_refl _) _)
    exact Obs.nil
  · intro u wz hS hd
    have d19 : u 19 = ptB T := hd 3 (by decide)
    obtain ⟨g, d28, hr⟩ := hd 12 (by decide)
    change u 28 = _ at d28
    have HS := Lib.hid hS
    have hTz := H1.out.1.keep (w' := wz) fun q hq => hS.block q (H1.out.1.lt q hq)
    have HN := Lib.hid (name_any (k := 115) (P := [e8 (D + 1)]) wz hTz hr ⟨rfl, by simp [e8_len]⟩ HLL.out)
    clear hd hTz hr hS
    rw [d19, d28]
    clear d19 d28
    go_wp2_with fail
    refine HN.out.mono ?_
    rintro e w2 ⟨Aq, cq, rfl, ht⟩
    have H2 := Lib.hid ht
    clear ht
    go_wp2_with fail
    go_ret
    have hO : OutF F0 w wz := ⟨HS.out.os.trans (H1.out.2.os.trans HV.out.os), HS.out.tape.trans (H1.out.2.tape.trans HV.out.tape), HS.out.output.trans (H1.out.2.output.trans HV.out.output), Nat.le_trans HV.out.size (Nat.le_trans H1.out.2.size HS.out.size), fun k hk hn => by
      have k1 := Nat.lt_of_lt_of_le hk HV.out.size
      exact (HS.out.block k (Nat.lt_of_lt_of_le k1 H1.out.2.size)).trans ((H1.out.2.block k k1 hn).trans (HV.out.block k hk))⟩
    exact ⟨Aq, cq, by rw [calledT_len]; rfl, told_up HU.out.1 HU.out.2.1 HU.out.2.2.1 hO H2.out⟩
end Go.Proofs.Ytdddcgkgellbgab
