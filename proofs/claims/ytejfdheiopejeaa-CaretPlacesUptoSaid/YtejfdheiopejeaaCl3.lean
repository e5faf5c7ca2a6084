/-
  Layer 17: CaretPlaces. By an AI agent.
-/
import Derived.Test.YtejfdheiopejeaaCl2
namespace Go.Proofs.Ytejfdheiopejeaa
open Go Go.RowKit
set_option maxRecDepth 20000
set_option maxHeartbeats 3200000 in
theorem caretplaces_law {s : ByteArray} (c : Int) (hs : s.size ≤ 1048576) (w : World) : Calls Try.prog 3 #[.string s, .int .i64 c] w fun e w' => e = .returned (.bool true) ∧ Below w.heap.size w w' := by
  by_cases hc : 2 ≤ c ∧ c ≤ 200
  · have HP := Lib.hid (fun w => places_any (s := s) (k := c) hc hs w)
    have HQ := Lib.hid (fun w => rplaces_any (s := s) (k := c) hc hs w)
    have hfit := spots_fit (s := s) (k := c) hc hs
    obtain ⟨all, eall⟩ : ∃ l, l = spotsR c (runesFrom s 0) (0, 0) := ⟨_, rfl⟩
    obtain ⟨N, eN⟩ : ∃ N, N = all.length := ⟨_, rfl⟩
    rw [← eall, ← eN] at HP HQ
    rw [← eall] at hfit
    have hN1 : 1 ≤ N := by rw [eN, eall, spotsR_len]; omega
    have hN : N ≤ 1048577 := by
      have := runes_len s s.size 0 rfl
      rw [eN, eall, spotsR_len]
      omega
    have HF := Lib.hid (And.intro hfit (And.intro eN hN1))
    clear hfit eall eN hN1 hs hc
    go_enter Try.func3, Try.ntmps3
    go_upto_region 2 with (go_at_call 8; refine (HP.out w).mono ?_; rintro z w1 ⟨A1, c1, rfl, hown, hb⟩; have H1 := Lib.hid (And.intro hown hb); clear hown hb)
    go_upto_region 3 with (go_at_call 9; refine (HQ.out w1).mono ?_; rintro z w2 ⟨A2, c2, rfl, hown, hb⟩; have H2 := Lib.hid (And.intro hown hb); clear hown hb)
    clear HP HQ
    have HB := Lib.hid (show Below w.heap.size w w2 from H1.out.2.trans (H2.out.2.mono H1.out.2.size))
    have HR1 := Lib.hid (show RdR cpE w2 w2.heap.size A1 c1 all from H1.out.1.rd.next H2.out.2)
    have HR2 := Lib.hid (show RdR idE w2 w2.heap.size A2 c2 all from H2.out.1.rd)
    clear H1 H2
    obtain ⟨b1, o1, rfl⟩ : ∃ b o, A1 = some ⟨b, o, none⟩ := by
      obtain ⟨b, o, h, _⟩ := HR1.out.at_ (k := 0) (x := all[0]'(by have := HF.out.2; omega)) (List.getElem?_eq_getElem _)
      exact ⟨b, o, h⟩
    obtain ⟨b2, o2, rfl⟩ : ∃ b o, A2 = some ⟨b, o, none⟩ := by
      obtain ⟨b, o, h, _⟩ := HR2.out.at_ (k := 0) (x := all[0]'(by have := HF.out.2; omega)) (List.getElem?_eq_getElem _)
      exact ⟨b, o, h⟩
    go_upto_region 6 with fail
    go_loopg [34] (N) (fun m jv wr => ∃ j : Nat, N - j = m ∧ jv = .int .i64 (j : Int) ∧ j ≤ N ∧ Below w2.heap.size w2 wr)
    case atStart => exact ⟨0, rfl, rfl, Nat.zero_le _, Below.refl _ _⟩
    case round =>
      obtain ⟨j, hm, rfl, hjN, hbr⟩ := hrel
      by_cases hj : j < N
      · obtain ⟨⟨x, y⟩, hst⟩ : ∃ st, all[j]? = some st := ⟨all[j]'(by have := HF.out.2; omega), List.getElem?_eq_getElem _⟩
        have hfx := (HF.out.1 (x, y) (List.mem_of_getElem? hst)).2.2
        have hr1 := (HR1.out.keep hbr).mono hbr.size
        have hr2 := (HR2.out.keep hbr).mono hbr.size
        obtain ⟨q1, q2, e1, hl1, k1⟩ := hr1.at_ hst
        obtain ⟨q3, q4, e2, hl2, k2⟩ := hr2.at_ hst
        simp only [Option.some.injEq, Addr.mk.injEq] at e1 e2
        obtain ⟨rfl, rfl, -⟩ := e1
        obtain ⟨rfl, rfl, -⟩ := e2
        have g0 := k1 0 _ rfl
        have g1 := k2 0 _ rfl
        have g2 := k2 1 _ rfl
        unfold cpV at g0
        have his : ∀ w, Calls Try.prog 10 #[.complex .f64 (fi x) (fi y), .agg #[.int .i64 x, .int .i64 y]] w fun e w' => e = .returned (.bool true) ∧ Below w.heap.size w w' := by
          intro w
          have h := ris_any (fi x) (fi y) (x, y) w
          rwa [isB_same hfx] at h
        obtain ⟨fx, efx⟩ : ∃ q, q = fi x := ⟨_, rfl⟩
        obtain ⟨fy, efy⟩ : ∃ q, q = fi y := ⟨_, rfl⟩
        rw [← efx, ← efy] at his
        rw [show fi ((x, y) : IDt).1 = fx from efx.symm, show fi ((x, y) : IDt).2 = fy from efy.symm] at g0
        have h0 : wr.cell? ⟨b1, o1 + j, none⟩ = some (.complex .f64 fx fy) := by have := g0; rwa [show o1 + j * cpE.size + 0 = o1 + j by show o1 + j * 1 + 0 = _; omega] at this
        have h1 : wr.cell? ⟨b2, o2 + j * 2, none⟩ = some (.int .i64 x) := g1
        have h2 : wr.cell? ⟨b2, o2 + j * 2 + 1, none⟩ = some (.int .i64 y) := g2
        have HS := Lib.hid (fun wz (hz : Below wr.heap.size wr wz) => show wz.cell? ⟨b1, o1 + j, none⟩ = some (.complex .f64 fx fy) ∧ wz.cell? ⟨b2, o2 + j * 2, none⟩ = some (.int .i64 x) ∧ wz.cell? ⟨b2, o2 + j * 2 + 1, none⟩ = some (.int .i64 y) from
          ⟨(hz.cell (p := ⟨b1, o1 + j, none⟩) hl1).trans h0, (hz.cell (p := ⟨b2, o2 + j * 2, none⟩) hl2).trans h1, (hz.cell (p := ⟨b2, o2 + j * 2 + 1, none⟩) hl2).trans h2⟩)
        have HIS := Lib.hid his
        have HK := Lib.hid (And.intro hm hbr)
        have hj9 : j ≤ 1048577 := by omega
        clear hst hfx hr1 hr2 hl1 hl2 k1 k2 g0 g1 g2 his efx efy h0 h1 h2 hbr hjN
        go_upto_region 8 with fail
        refine wp_region_inv 9 [37, 38, 39, 40, 41, 42, 43, 44, 45] [.val (.slice (some ⟨b1, o1, none⟩) N c1), .val (.int .i64 (j : Int)), .val (.pointer (some ⟨b1, o1 + j, none⟩)), .val (.complex .f64 fx fy), .val (.slice (some ⟨b2, o2, none⟩) N c2), .val (.int .i64 (j : Int)), .val (.pointer (some ⟨b2, o2 + j * 2, none⟩)), .val (.agg #[.int .i64 x, .int .i64 y]), .val (.bool true)] (fun wz => Below wr.heap.size wr wz) (by kernel_rfl) (by kernel_rfl) (fun wz wz' hz hb => hz.trans (hb.mono hz.size)) ((Below.refl _ _).drew) (fun u => by simp only [puts, List.foldl_cons, List.foldl_nil]; go_simp; exact rfl) ?_ ?_
        · simp only [List.take_succ_cons, List.take_zero]
          refine Obs.cons (fun u w hS hd => ?_) ?_
          · exact Gv.run (.slice (some ⟨b1, o1, none⟩) N c1) rfl (by go_simp) rfl
          refine Obs.cons (fun u w hS hd => ?_) ?_
          · exact Gv.run (.int .i64 (j : Int)) rfl (by go_simp) rfl
          refine Obs.cons (fun u w hS hd => ?_) ?_
          · have d37 : u 37 = .slice (some ⟨b1, o1, none⟩) N c1 := dep hd 0 rfl
            have d38 : u 38 = .int .i64 (j : Int) := dep hd 1 rfl
            rw [d37, d38]
            exact Gv.run (.pointer (some ⟨b1, o1 + j, none⟩)) rfl (by go_simp) rfl
          refine Obs.cons (fun u w hS hd => ?_) ?_
          · have d39 : u 39 = .pointer (some ⟨b1, o1 + j, none⟩) := dep hd 2 rfl
            rw [d39]
            exact Gv.run (.complex .f64 fx fy) rfl (by obtain ⟨k0, k1, k2⟩ := HS.out w hS; go_simp) rfl
          refine Obs.cons (fun u w hS hd => ?_) ?_
          · exact Gv.run (.slice (some ⟨b2, o2, none⟩) N c2) rfl (by go_simp) rfl
          refine Obs.cons (fun u w hS hd => ?_) ?_
          · exact Gv.run (.int .i64 (j : Int)) rfl (by go_simp) rfl
          refine Obs.cons (fun u w hS hd => ?_) ?_
          · have d41 : u 41 = .slice (some ⟨b2, o2, none⟩) N c2 := dep hd 4 rfl
            have d42 : u 42 = .int .i64 (j : Int) := dep hd 5 rfl
            rw [d41, d42]
            exact Gv.run (.pointer (some ⟨b2, o2 + j * 2, none⟩)) rfl (by go_simp) rfl
          refine Obs.cons (fun u w hS hd => ?_) ?_
          · have d43 : u 43 = .pointer (some ⟨b2, o2 + j * 2, none⟩) := dep hd 6 rfl
            rw [d43]
            exact Gv.run (.agg #[.int .i64 x, .int .i64 y]) rfl (by obtain ⟨k0, k1, k2⟩ := HS.out w hS; go_simp) rfl
          refine Obs.cons (fun u w hS hd => ?_) ?_
          · have d40 : u 40 = .complex .f64 fx fy := dep hd 3 rfl
            have d44 : u 44 = .agg #[.int .i64 x, .int .i64 y] := dep hd 7 rfl
            rw [d40, d44]
            refine Gv.call 10 #[.complex .f64 fx fy, .agg #[.int .i64 x, .int .i64 y]] rfl (by go_simp) ((HIS.out w).mono ?_)
            rintro e w' ⟨rfl, hb⟩
            exact ⟨_, rfl, rfl, hb⟩
          exact Obs.nil
        intro u v3 hS hd
        have d45 : u 45 = .bool true := hd 8 (by decide)
        rw [d45]
        simp only [List.drop_succ_cons, List.drop_zero]
        have H3 := Lib.hid hS
        clear hS hd d45
        go_wp2_with fail
        go_roundg (N - (j + 1))
        case measure => have := HK.out.1; omega
        case rel => exact ⟨j + 1, rfl, by go_num, by omega, HK.out.2.trans (H3.out.mono HK.out.2.size)⟩
      · have HK := Lib.hid hbr
        clear hbr hm
        go_wp2_with (go_at_call 11; refine (awake17 wr).mono ?_; rintro z wz ⟨rfl, hwz⟩; have HW := Lib.hid hwz; clear hwz)
        go_ret
        exact ⟨rfl, (HB.out.trans (HK.out.mono HB.out.size)).trans (HW.out.mono (Nat.le_trans HB.out.size HK.out.size))⟩
  · have HP := Lib.hid (fun w => places_bad (s := s) (k := c) hc w)
    have HQ := Lib.hid (fun w => rplaces_bad (s := s) (k := c) (by omega) w)
    clear hc hs
    go_enter Try.func3, Try.ntmps3
    go_upto_region 6 with (first | (go_at_call 8; refine (HP.out w).mono ?_; rintro z wz ⟨rfl, hwz⟩; rw [hwz]; clear hwz wz) | (go_at_call 9; refine (HQ.out w).mono ?_; rintro z wz ⟨rfl, hwz⟩; rw [hwz]; clear hwz wz))
    go_loopg [34] (0) (fun m jv wr => m = 0 ∧ jv = .int .i64 0 ∧ wr = w)
    case atStart => exact ⟨rfl, rfl, rfl⟩
    case round =>
      obtain ⟨rfl, rfl, rfl⟩ := hrel
      go_wp2_with (go_at_call 11; refine (awake17 _).mono ?_; rintro z wz ⟨rfl, hwz⟩; have HW := Lib.hid hwz; clear hwz)
      go_ret
      exact ⟨rfl, HW.out⟩
end Go.Proofs.Ytejfdheiopejeaa
