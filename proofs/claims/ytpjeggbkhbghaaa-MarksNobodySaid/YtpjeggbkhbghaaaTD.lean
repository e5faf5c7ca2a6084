/-
  Layer 15, the document's kids, walked. By an AI agent. Layer 15: how much hangs below one; nodes of elements; rows as what is known of a slot. By an AI agent. Layer 15, the document's below: all that hangs below one on a side, in the order. By an AI agent. Layer 15, the document's below, Nodes, Live: by lists. By an AI agent.
-/
import Derived.Test.YtpjeggbkhbghaaaFd4
namespace Go.Proofs.Ytpjeggbkhbghaaa
open Go Go.RowKit
set_option maxRecDepth 20000
set_option maxHeartbeats 6400000 in
theorem rkids_any {v : Value} {B : Nat} {L : List Ins} {G : List IDt} (i : IDt) (s : Bool) (w : World) (h : RdT w B v L G) (hB : B ≤ w.heap.size) (hl : L.length ≤ 1000000) :
    Calls Try.prog 78 #[v, idV i, .bool s] w fun e w' => ∃ A c, e = .returned (.slice A (kidsL L i s).length c) ∧ OwnR insE w' w.heap.size 74 A c (kidsL L i s) ∧ Below w.heap.size w w' := by
  obtain ⟨A1, c1, A2, c2, rfl, r1, r2⟩ := h
  obtain ⟨i0, hi0, hz0, hz1, hz2⟩ := info_parts infoIns
  obtain ⟨v1, ev⟩ : ∃ v, v = (w.alloc (.cells #[.slice A1 L.length c1, .slice A2 G.length c2] 91)).alloc (.cells #[.int .i64 i.1, .int .i64 i.2] 27) := ⟨_, rfl⟩
  obtain ⟨g, eg⟩ : ∃ g, g = w.heap.size := ⟨_, rfl⟩
  have hb : Below w.heap.size w v1 := by rw [ev]; exact ((Below.refl _ _).alloc (Nat.le_refl _) _).alloc (by simp) _
  obtain ⟨n, en⟩ : ∃ n, n = L.length := ⟨_, rfl⟩
  have hq : v1.cell? ⟨g, 0, none⟩ = some (.slice A1 n c1) ∧ v1.cell? ⟨g + 1, 0, none⟩ = some (.int .i64 i.1) ∧ v1.cell? ⟨g + 1, 1, none⟩ = some (.int .i64 i.2) := by
    rw [ev, eg, en]
    simp
  have hs : v1.heap.size = g + 2 := by rw [ev, eg]; simp
  have r1' := r1.keep (hb.mono hB)
  have HV := Lib.hid (And.intro ev eg)
  have HQ := Lib.hid (And.intro hb (And.intro hs (And.intro r1' (And.intro hq hB))))
  have HL := Lib.hid (And.intro en hl)
  clear ev hb hs r1 r2 r1' hq en hl hB
  go_enter Try.func78, Try.ntmps78
  go_upto_region 1 with fail
  rw [← HV.out.1, ← HV.out.2]
  clear HV eg
  go_wp2_with fail
  go_loopw [7, 8] (fun ov kv wr => ∃ m : Nat, m ≤ n ∧ kv = .int .i64 (m : Int) ∧ (∃ A c, ov = .slice A (kidsL (L.take m) i s).length c ∧ OwnR insE wr v1.heap.size 74 A c (kidsL (L.take m) i s)) ∧ Below v1.heap.size v1 wr) (fun _ kv _ => n - (intF kv).toNat)
  case atStart => exact ⟨0, Nat.zero_le _, rfl, ⟨none, 0, rfl, OwnR.nothing insE _ _ _⟩, Below.refl _ _⟩
  case round =>
    obtain ⟨m, hm, rfl, ⟨AK, cK, rfl, oK⟩, hbr⟩ := hrel
    have q0 := (hbr.cell (p := ⟨g, 0, none⟩) (show g < v1.heap.size by rw [HQ.out.2.1]; omega)).trans HQ.out.2.2.2.1.1
    have q1 := (hbr.cell (p := ⟨g + 1, 0, none⟩) (show g + 1 < v1.heap.size by rw [HQ.out.2.1]; omega)).trans HQ.out.2.2.2.1.2.1
    have q2 := (hbr.cell (p := ⟨g + 1, 1, none⟩) (show g + 1 < v1.heap.size by rw [HQ.out.2.1]; omega)).trans HQ.out.2.2.2.1.2.2
    have HBR := Lib.hid hbr
    have r1 := HQ.out.2.2.1.keep (hbr.mono (Nat.le_trans HQ.out.2.2.2.2 HQ.out.1.size))
    by_cases hlt : m < n
    case neg =>
      obtain rfl : m = n := by omega
      have g1 : ¬ (m : Int) < (m : Int) := by omega
      have hfull : L.take m = L := by rw [HL.out.1, List.take_length]
      rw [hfull] at oK ⊢
      have HO := Lib.hid (oK.mono HQ.out.1.size)
      clear hfull hm hlt q1 q2 r1 hbr oK
      go_wp2_with fail
      go_ret
      exact ⟨AK, cK, rfl, HO.out, HQ.out.1.trans (HBR.out.mono HQ.out.1.size)⟩
    obtain ⟨x, hx⟩ : ∃ x, L[m]? = some x := getD_of (by rw [← HL.out.1]; exact hlt)
    obtain ⟨K, eK⟩ : ∃ K, K = kidsL (L.take m) i s := ⟨_, rfl⟩
    have hKl : K.length ≤ 1000000 := by
      rw [eK]
      exact Nat.le_trans (kids_len i s rfl) (Nat.le_trans (by rw [List.length_take]; exact Nat.min_le_right _ _) HL.out.2)
    rw [← eK] at oK ⊢
    have HK := Lib.hid hKl
    have HX := Lib.hid hx
    have HEK := Lib.hid eK
    obtain ⟨b, o, eA, hbB, X0, X1, X2, X3, X4, X5⟩ := ins_at HQ.out.2.2.1 hx
    have HXB := Lib.hid (show b < v1.heap.size from Nat.lt_of_lt_of_le hbB (Nat.le_trans HQ.out.2.2.2.2 HQ.out.1.size))
    have HXW := Lib.hid (And.intro X0 (And.intro X1 (And.intro X2 (And.intro X3 (And.intro X4 X5)))))
    have x2 := (hbr.cell (p := ⟨b, o + m * 6 + 2, none⟩) HXB.out).trans X2
    have x3 := (hbr.cell (p := ⟨b, o + m * 6 + 3, none⟩) HXB.out).trans X3
    have x4 := (hbr.cell (p := ⟨b, o + m * 6 + 4, none⟩) HXB.out).trans X4
    clear X0 X1 X2 X3 X4 X5
    have g1 : (m : Int) < (n : Int) := by omega
    have g2 : n ≤ 1000000 := by rw [HL.out.1]; exact HL.out.2
    obtain ⟨p1, ep1⟩ : ∃ q, q = x.par.1 := ⟨_, rfl⟩
    obtain ⟨p2, ep2⟩ : ∃ q, q = x.par.2 := ⟨_, rfl⟩
    obtain ⟨i1, ei1⟩ : ∃ q, q = i.1 := ⟨_, rfl⟩
    obtain ⟨i2, ei2⟩ : ∃ q, q = i.2 := ⟨_, rfl⟩
    obtain ⟨xr, exr⟩ : ∃ q, q = x.right := ⟨_, rfl⟩
    have hin : g < wr.heap.size ∧ g + 1 < wr.heap.size ∧ b < wr.heap.size := ⟨by have := hbr.size; rw [HQ.out.2.1] at this; omega, by have := hbr.size; rw [HQ.out.2.1] at this; omega, Nat.lt_of_lt_of_le hbB (Nat.le_trans HQ.out.2.2.2.2 (Nat.le_trans HQ.out.1.size hbr.size))⟩
    rw [eA] at q0
    rw [← ep1] at x2
    rw [← ep2] at x3
    rw [← exr] at x4
    rw [← ei1] at q1
    rw [← ei2] at q2
    have HS := Lib.hid (fun wz (hz : Below wr.heap.size wr wz) => show wz.cell? ⟨g, 0, none⟩ = some (.slice (some ⟨b, o, none⟩) n c1) ∧ wz.cell? ⟨g + 1, 0, none⟩ = some (.int .i64 i1) ∧ wz.cell? ⟨g + 1, 1, none⟩ = some (.int .i64 i2) ∧ wz.cell? ⟨b, o + m * 6 + 2, none⟩ = some (.int .i64 p1) ∧ wz.cell? ⟨b, o + m * 6 + 3, none⟩ = some (.int .i64 p2) ∧ wz.cell? ⟨b, o + m * 6 + 4, none⟩ = some (.bool xr) from
      ⟨(hz.cell (p := ⟨g, 0, none⟩) hin.1).trans q0, (hz.cell (p := ⟨g + 1, 0, none⟩) hin.2.1).trans q1, (hz.cell (p := ⟨g + 1, 1, none⟩) hin.2.1).trans q2, (hz.cell (p := ⟨b, o + m * 6 + 2, none⟩) hin.2.2).trans x2, (hz.cell (p := ⟨b, o + m * 6 + 3, none⟩) hin.2.2).trans x3, (hz.cell (p := ⟨b, o + m * 6 + 4, none⟩) hin.2.2).trans x4⟩)
    have HP := Lib.hid (And.intro ep1 (And.intro ep2 (And.intro ei1 (And.intro ei2 (And.intro exr (And.intro hin (And.intro eA hbB)))))))
    have HO := Lib.hid oK
    clear ep1 ep2 ei1 ei2 exr hin eA hbB x2 x3 x4 q1 q2 r1 hbr oK hKl eK hx hlt
    by_cases h1 : p1 = i1
    case neg =>
      have HOFF := Lib.hid (show hangs i s x = false by
        rw [← Bool.not_eq_true, hangs_iff]
        rintro ⟨h, _⟩
        exact h1 (by rw [HP.out.1, HP.out.2.2.1, h]))
      go_upto_region 5 with fail
      clear q0
      refine wp_region_inv 17 [19, 20, 21, 22, 23, 24, 25, 26, 27, 28, 29, 30, 31, 32, 33, 34, 35] [.val (.pointer (some ⟨g, 0, none⟩)), .val (.slice (some ⟨b, o, none⟩) n c1), .val (.int .i64 (m : Int)), .val (.pointer (some ⟨b, o + m * 6, none⟩)), .val (.pointer (some ⟨b, o + m * 6 + 2, none⟩)), .val (.agg #[.int .i64 p1, .int .i64 p2]), .val (.agg #[.int .i64 i1, .int .i64 i2]), .val (.bool true), .val (.bool true), .val undef, .val undef, .val undef, .val undef, .val undef, .val undef, .val undef, .val undef] (fun wz => Below wr.heap.size wr wz) (by kernel_rfl) (by kernel_rfl) (fun wz wz' hz hb => hz.trans (hb.mono hz.size)) ((Below.refl _ _).drew) (fun u => by simp only [puts, List.foldl_cons, List.foldl_nil]; go_simp; exact rfl) ?_ ?_
      · simp only [List.take_succ_cons, List.take_zero]
        refine Obs.cons (fun u w hS hd => ?_) ?_
        · exact Gv.run (.pointer (some ⟨g, 0, none⟩)) rfl (by go_simp) rfl
        refine Obs.cons (fun u w hS hd => ?_) ?_
        · have d19 : u 19 = .pointer (some ⟨g, 0, none⟩) := dep hd 0 rfl
          rw [d19]
          exact Gv.run (.slice (some ⟨b, o, none⟩) n c1) rfl (by obtain ⟨k0, k1, k2, k3, k4, k5⟩ := HS.out w hS; go_simp) rfl
        refine Obs.cons (fun u w hS hd => ?_) ?_
        · exact Gv.run (.int .i64 (m : Int)) rfl (by go_simp) rfl
        refine Obs.cons (fun u w hS hd => ?_) ?_
        · have d20 : u 20 = .slice (some ⟨b, o, none⟩) n c1 := dep hd 1 rfl
          have d21 : u 21 = .int .i64 (m : Int) := dep hd 2 rfl
          rw [d20, d21]
          exact Gv.run (.pointer (some ⟨b, o + m * 6, none⟩)) rfl (by go_simp) rfl
        refine Obs.cons (fun u w hS hd => ?_) ?_
        · have d22 : u 22 = .pointer (some ⟨b, o + m * 6, none⟩) := dep hd 3 rfl
          rw [d22]
          exact Gv.run (.pointer (some ⟨b, o + m * 6 + 2, none⟩)) rfl (by go_simp) rfl
        refine Obs.cons (fun u w hS hd => ?_) ?_
        · have d23 : u 23 = .pointer (some ⟨b, o + m * 6 + 2, none⟩) := dep hd 4 rfl
          rw [d23]
          exact Gv.run (.agg #[.int .i64 p1, .int .i64 p2]) rfl (by obtain ⟨k0, k1, k2, k3, k4, k5⟩ := HS.out w hS; go_simp) rfl
        refine Obs.cons (fun u w hS hd => ?_) ?_
        · exact Gv.run (.agg #[.int .i64 i1, .int .i64 i2]) rfl (by obtain ⟨k0, k1, k2, k3, k4, k5⟩ := HS.out w hS; go_simp) rfl
        refine Obs.cons (fun u w hS hd => ?_) ?_
        · have d24 : u 24 = .agg #[.int .i64 p1, .int .i64 p2] := dep hd 5 rfl
          have d25 : u 25 = .agg #[.int .i64 i1, .int .i64 i2] := dep hd 6 rfl
          rw [d24, d25]
          exact Gv.run (.bool true) rfl (by go_simp) rfl
        refine Obs.cons (fun u w hS hd => ?_) ?_
        · have d26 : u 26 = .bool true := dep hd 7 rfl
          rw [d26]
          exact Gv.run (.bool true) rfl (by go_simp) rfl
        refine Obs.cons (fun u w hS hd => ?_) ?_
        · have d27 : u 27 = .bool true := dep hd 8 rfl
          rw [d27]
          exact Gv.skip (by rfl) rfl
        refine Obs.cons (fun u w hS hd => ?_) ?_
        · have d28 : u 28 = undef := dep hd 9 rfl
          have d27 : u 27 = .bool true := dep hd 8 rfl
          rw [d28, d27]
          exact Gv.skip (by rfl) rfl
        refine Obs.cons (fun u w hS hd => ?_) ?_
        · have d27 : u 27 = .bool true := dep hd 8 rfl
          rw [d27]
          exact Gv.skip (by rfl) rfl
        refine Obs.cons (fun u w hS hd => ?_) ?_
        · have d29 : u 29 = undef := dep hd 10 rfl
          have d30 : u 30 = undef := dep hd 11 rfl
          have d27 : u 27 = .bool true := dep hd 8 rfl
          rw [d29, d30, d27]
          exact Gv.skip (by rfl) rfl
        refine Obs.cons (fun u w hS hd => ?_) ?_
        · have d31 : u 31 = undef := dep hd 12 rfl
          have d27 : u 27 = .bool true := dep hd 8 rfl
          rw [d31, d27]
          exact Gv.skip (by rfl) rfl
        refine Obs.cons (fun u w hS hd => ?_) ?_
        · have d32 : u 32 = undef := dep hd 13 rfl
          have d27 : u 27 = .bool true := dep hd 8 rfl
          rw [d32, d27]
          exact Gv.skip (by rfl) rfl
        refine Obs.cons (fun u w hS hd => ?_) ?_
        · have d27 : u 27 = .bool true := dep hd 8 rfl
          rw [d27]
          exact Gv.skip (by rfl) rfl
        refine Obs.cons (fun u w hS hd => ?_) ?_
        · have d33 : u 33 = undef := dep hd 14 rfl
          have d34 : u 34 = undef := dep hd 15 rfl
          have d27 : u 27 = .bool true := dep hd 8 rfl
          rw [d33, d34, d27]
          exact Gv.skip (by rfl) rfl
        exact Obs.nil
      intro u1 v3 hS hd
      have d27 : u1 27 = .bool true := hd 8 (by decide)
      have d35 : u1 35 = undef := hd 16 (by decide)
      rw [d27, d35]
      simp only [List.drop_succ_cons, List.drop_zero]
      have HB3 := Lib.hid (HBR.out.trans (hS.mono HBR.out.size))
      have HB4 := Lib.hid hS
      clear hS hd d27 d35
      go_wp2_with fail
      refine ⟨⟨m + 1, by omega, by go_num, ⟨AK, cK, ?_, ?_⟩, HB3.out⟩, by simp [intF]; omega⟩
      · rw [kids_off HX.out HOFF.out, ← HEK.out]
      · rw [kids_off HX.out HOFF.out, ← HEK.out]; exact HO.out.keep HB4.out
    by_cases h2 : p2 = i2
    case neg =>
      have HOFF := Lib.hid (show hangs i s x = false by
        rw [← Bool.not_eq_true, hangs_iff]
        rintro ⟨h, _⟩
        exact h2 (by rw [HP.out.2.1, HP.out.2.2.2.1, h]))
      subst h1
      go_upto_region 5 with fail
      clear q0
      refine wp_region_inv 17 [19, 20, 21, 22, 23, 24, 25, 26, 27, 28, 29, 30, 31, 32, 33, 34, 35] [.val (.pointer (some ⟨g, 0, none⟩)), .val (.slice (some ⟨b, o, none⟩) n c1), .val (.int .i64 (m : Int)), .val (.pointer (some ⟨b, o + m * 6, none⟩)), .val (.pointer (some ⟨b, o + m * 6 + 2, none⟩)), .val (.agg #[.int .i64 p1, .int .i64 p2]), .val (.agg #[.int .i64 p1, .int .i64 i2]), .val (.bool true), .val (.bool true), .val undef, .val undef, .val undef, .val undef, .val undef, .val undef, .val undef, .val undef] (fun wz => Below wr.heap.size wr wz) (by kernel_rfl) (by kernel_rfl) (fun wz wz' hz hb => hz.trans (hb.mono hz.size)) ((Below.refl _ _).drew) (fun u => by simp only [puts, List.foldl_cons, List.foldl_nil]; go_simp; exact rfl) ?_ ?_
      · simp only [List.take_succ_cons, List.take_zero]
        refine Obs.cons (fun u w hS hd => ?_) ?_
        · exact Gv.run (.pointer (some ⟨g, 0, none⟩)) rfl (by go_simp) rfl
        refine Obs.cons (fun u w hS hd => ?_) ?_
        · have d19 : u 19 = .pointer (some ⟨g, 0, none⟩) := dep hd 0 rfl
          rw [d19]
          exact Gv.run (.slice (some ⟨b, o, none⟩) n c1) rfl (by obtain ⟨k0, k1, k2, k3, k4, k5⟩ := HS.out w hS; go_simp) rfl
        refine Obs.cons (fun u w hS hd => ?_) ?_
        · exact Gv.run (.int .i64 (m : Int)) rfl (by go_simp) rfl
        refine Obs.cons (fun u w hS hd => ?_) ?_
        · have d20 : u 20 = .slice (some ⟨b, o, none⟩) n c1 := dep hd 1 rfl
          have d21 : u 21 = .int .i64 (m : Int) := dep hd 2 rfl
          rw [d20, d21]
          exact Gv.run (.pointer (some ⟨b, o + m * 6, none⟩)) rfl (by go_simp) rfl
        refine Obs.cons (fun u w hS hd => ?_) ?_
        · have d22 : u 22 = .pointer (some ⟨b, o + m * 6, none⟩) := dep hd 3 rfl
          rw [d22]
          exact Gv.run (.pointer (some ⟨b, o + m * 6 + 2, none⟩)) rfl (by go_simp) rfl
        refine Obs.cons (fun u w hS hd => ?_) ?_
        · have d23 : u 23 = .pointer (some ⟨b, o + m * 6 + 2, none⟩) := dep hd 4 rfl
          rw [d23]
          exact Gv.run (.agg #[.int .i64 p1, .int .i64 p2]) rfl (by obtain ⟨k0, k1, k2, k3, k4, k5⟩ := HS.out w hS; go_simp) rfl
        refine Obs.cons (fun u w hS hd => ?_) ?_
        · exact Gv.run (.agg #[.int .i64 p1, .int .i64 i2]) rfl (by obtain ⟨k0, k1, k2, k3, k4, k5⟩ := HS.out w hS; go_simp) rfl
        refine Obs.cons (fun u w hS hd => ?_) ?_
        · have d24 : u 24 = .agg #[.int .i64 p1, .int .i64 p2] := dep hd 5 rfl
          have d25 : u 25 = .agg #[.int .i64 p1, .int .i64 i2] := dep hd 6 rfl
          rw [d24, d25]
          exact Gv.run (.bool true) rfl (by go_simp) rfl
        refine Obs.cons (fun u w hS hd => ?_) ?_
        · have d26 : u 26 = .bool true := dep hd 7 rfl
          rw [d26]
          exact Gv.run (.bool true) rfl (by go_simp) rfl
        refine Obs.cons (fun u w hS hd => ?_) ?_
        · have d27 : u 27 = .bool true := dep hd 8 rfl
          rw [d27]
          exact Gv.skip (by rfl) rfl
        refine Obs.cons (fun u w hS hd => ?_) ?_
        · have d28 : u 28 = undef := dep hd 9 rfl
          have d27 : u 27 = .bool true := dep hd 8 rfl
          rw [d28, d27]
          exact Gv.skip (by rfl) rfl
        refine Obs.cons (fun u w hS hd => ?_) ?_
        · have d27 : u 27 = .bool true := dep hd 8 rfl
          rw [d27]
          exact Gv.skip (by rfl) rfl
        refine Obs.cons (fun u w hS hd => ?_) ?_
        · have d29 : u 29 = undef := dep hd 10 rfl
          have d30 : u 30 = undef := dep hd 11 rfl
          have d27 : u 27 = .bool true := dep hd 8 rfl
          rw [d29, d30, d27]
          exact Gv.skip (by rfl) rfl
        refine Obs.cons (fun u w hS hd => ?_) ?_
        · have d31 : u 31 = undef := dep hd 12 rfl
          have d27 : u 27 = .bool true := dep hd 8 rfl
          rw [d31, d27]
          exact Gv.skip (by rfl) rfl
        refine Obs.cons (fun u w hS hd => ?_) ?_
        · have d32 : u 32 = undef := dep hd 13 rfl
          have d27 : u 27 = .bool true := dep hd 8 rfl
          rw [d32, d27]
          exact Gv.skip (by rfl) rfl
        refine Obs.cons (fun u w hS hd => ?_) ?_
        · have d27 : u 27 = .bool true := dep hd 8 rfl
          rw [d27]
          exact Gv.skip (by rfl) rfl
        refine Obs.cons (fun u w hS hd => ?_) ?_
        · have d33 : u 33 = undef := dep hd 14 rfl
          have d34 : u 34 = undef := dep hd 15 rfl
          have d27 : u 27 = .bool true := dep hd 8 rfl
          rw [d33, d34, d27]
          exact Gv.skip (by rfl) rfl
        exact Obs.nil
      intro u1 v3 hS hd
      have d27 : u1 27 = .bool true := hd 8 (by decide)
      have d35 : u1 35 = undef := hd 16 (by decide)
      rw [d27, d35]
      simp only [List.drop_succ_cons, List.drop_zero]
      have HB3 := Lib.hid (HBR.out.trans (hS.mono HBR.out.size))
      have HB4 := Lib.hid hS
      clear hS hd d27 d35
      go_wp2_with fail
      refine ⟨⟨m + 1, by omega, by go_num, ⟨AK, cK, ?_, ?_⟩, HB3.out⟩, by simp [intF]; omega⟩
      · rw [kids_off HX.out HOFF.out, ← HEK.out]
      · rw [kids_off HX.out HOFF.out, ← HEK.out]; exact HO.out.keep HB4.out
    subst h1
    subst h2
    by_cases h3 : xr = s
    case neg =>
      have HOFF := Lib.hid (show hangs i s x = false by
        rw [← Bool.not_eq_true, hangs_iff]
        rintro ⟨_, h⟩
        exact h3 (by rw [HP.out.2.2.2.2.1, h]))
      have g3 : (xr != s) = true := by simp [h3]
      go_upto_region 5 with fail
      clear q0
      refine wp_region_inv 17 [19, 20, 21, 22, 23, 24, 25, 26, 27, 28, 29, 30, 31, 32, 33, 34, 35] [.val (.pointer (some ⟨g, 0, none⟩)), .val (.slice (some ⟨b, o, none⟩) n c1), .val (.int .i64 (m : Int)), .val (.pointer (some ⟨b, o + m * 6, none⟩)), .val (.pointer (some ⟨b, o + m * 6 + 2, none⟩)), .val (.agg #[.int .i64 p1, .int .i64 p2]), .val (.agg #[.int .i64 p1, .int .i64 p2]), .val (.bool false), .val (.bool false), .val (.pointer (some ⟨g, 0, none⟩)), .val (.slice (some ⟨b, o, none⟩) n c1), .val (.int .i64 (m : Int)), .val (.pointer (some ⟨b, o + m * 6, none⟩)), .val (.pointer (some ⟨b, o + m * 6 + 4, none⟩)), .val (.bool xr), .val (.bool s), .val (.bool (xr != s))] (fun wz => Below wr.heap.size wr wz) (by kernel_rfl) (by kernel_rfl) (fun wz wz' hz hb => hz.trans (hb.mono hz.size)) ((Below.refl _ _).drew) (fun u => by simp only [puts, List.foldl_cons, List.foldl_nil]; go_simp; exact rfl) ?_ ?_
      · simp only [List.take_succ_cons, List.take_zero]
        refine Obs.cons (fun u w hS hd => ?_) ?_
        · exact Gv.run (.pointer (some ⟨g, 0, none⟩)) rfl (by go_simp) rfl
        refine Obs.cons (fun u w hS hd => ?_) ?_
        · have d19 : u 19 = .pointer (some ⟨g, 0, none⟩) := dep hd 0 rfl
          rw [d19]
          exact Gv.run (.slice (some ⟨b, o, none⟩) n c1) rfl (by obtain ⟨k0, k1, k2, k3, k4, k5⟩ := HS.out w hS; go_simp) rfl
        refine Obs.cons (fun u w hS hd => ?_) ?_
        · exact Gv.run (.int .i64 (m : Int)) rfl (by go_simp) rfl
        refine Obs.cons (fun u w hS hd => ?_) ?_
        · have d20 : u 20 = .slice (some ⟨b, o, none⟩) n c1 := dep hd 1 rfl
          have d21 : u 21 = .int .i64 (m : Int) := dep hd 2 rfl
          rw [d20, d21]
          exact Gv.run (.pointer (some ⟨b, o + m * 6, none⟩)) rfl (by go_simp) rfl
        refine Obs.cons (fun u w hS hd => ?_) ?_
        · have d22 : u 22 = .pointer (some ⟨b, o + m * 6, none⟩) := dep hd 3 rfl
          rw [d22]
          exact Gv.run (.pointer (some ⟨b, o + m * 6 + 2, none⟩)) rfl (by go_simp) rfl
        refine Obs.cons (fun u w hS hd => ?_) ?_
        · have d23 : u 23 = .pointer (some ⟨b, o + m * 6 + 2, none⟩) := dep hd 4 rfl
          rw [d23]
          exact Gv.run (.agg #[.int .i64 p1, .int .i64 p2]) rfl (by obtain ⟨k0, k1, k2, k3, k4, k5⟩ := HS.out w hS; go_simp) rfl
        refine Obs.cons (fun u w hS hd => ?_) ?_
        · exact Gv.run (.agg #[.int .i64 p1, .int .i64 p2]) rfl (by obtain ⟨k0, k1, k2, k3, k4, k5⟩ := HS.out w hS; go_simp) rfl
        refine Obs.cons (fun u w hS hd => ?_) ?_
        · have d24 : u 24 = .agg #[.int .i64 p1, .int .i64 p2] := dep hd 5 rfl
          have d25 : u 25 = .agg #[.int .i64 p1, .int .i64 p2] := dep hd 6 rfl
          rw [d24, d25]
          exact Gv.run (.bool false) rfl (by go_simp) rfl
        refine Obs.cons (fun u w hS hd => ?_) ?_
        · have d26 : u 26 = .bool false := dep hd 7 rfl
          rw [d26]
          exact Gv.run (.bool false) rfl (by go_simp) rfl
        refine Obs.cons (fun u w hS hd => ?_) ?_
        · have d27 : u 27 = .bool false := dep hd 8 rfl
          rw [d27]
          exact Gv.run (.pointer (some ⟨g, 0, none⟩)) rfl (by go_simp) rfl
        refine Obs.cons (fun u w hS hd => ?_) ?_
        · have d28 : u 28 = .pointer (some ⟨g, 0, none⟩) := dep hd 9 rfl
          have d27 : u 27 = .bool false := dep hd 8 rfl
          rw [d28, d27]
          exact Gv.run (.slice (some ⟨b, o, none⟩) n c1) rfl (by obtain ⟨k0, k1, k2, k3, k4, k5⟩ := HS.out w hS; go_simp) rfl
        refine Obs.cons (fun u w hS hd => ?_) ?_
        · have d27 : u 27 = .bool false := dep hd 8 rfl
          rw [d27]
          exact Gv.run (.int .i64 (m : Int)) rfl (by go_simp) rfl
        refine Obs.cons (fun u w hS hd => ?_) ?_
        · have d29 : u 29 = .slice (some ⟨b, o, none⟩) n c1 := dep hd 10 rfl
          have d30 : u 30 = .int .i64 (m : Int) := dep hd 11 rfl
          have d27 : u 27 = .bool false := dep hd 8 rfl
          rw [d29, d30, d27]
          exact Gv.run (.pointer (some ⟨b, o + m * 6, none⟩)) rfl (by go_simp) rfl
        refine Obs.cons (fun u w hS hd => ?_) ?_
        · have d31 : u 31 = .pointer (some ⟨b, o + m * 6, none⟩) := dep hd 12 rfl
          have d27 : u 27 = .bool false := dep hd 8 rfl
          rw [d31, d27]
          exact Gv.run (.pointer (some ⟨b, o + m * 6 + 4, none⟩)) rfl (by go_simp) rfl
        refine Obs.cons (fun u w hS hd => ?_) ?_
        · have d32 : u 32 = .pointer (some ⟨b, o + m * 6 + 4, none⟩) := dep hd 13 rfl
          have d27 : u 27 = .bool false := dep hd 8 rfl
          rw [d32, d27]
          exact Gv.run (.bool xr) rfl (by obtain ⟨k0, k1, k2, k3, k4, k5⟩ := HS.out w hS; go_simp) rfl
        refine Obs.cons (fun u w hS hd => ?_) ?_
        · have d27 : u 27 = .bool false := dep hd 8 rfl
          rw [d27]
          exact Gv.run (.bool s) rfl (by go_simp) rfl
        refine Obs.cons (fun u w hS hd => ?_) ?_
        · have d33 : u 33 = .bool xr := dep hd 14 rfl
          have d34 : u 34 = .bool s := dep hd 15 rfl
          have d27 : u 27 = .bool false := dep hd 8 rfl
          rw [d33, d34, d27]
          exact Gv.run (.bool (xr != s)) rfl (by go_simp) rfl
        exact Obs.nil
      intro u1 v3 hS hd
      have d27 : u1 27 = .bool false := hd 8 (by decide)
      have d35 : u1 35 = .bool (xr != s) := hd 16 (by decide)
      rw [d27, d35]
      simp only [List.drop_succ_cons, List.drop_zero]
      have HB3 := Lib.hid (HBR.out.trans (hS.mono HBR.out.size))
      have HB4 := Lib.hid hS
      clear hS hd d27 d35
      go_wp2_with fail
      refine ⟨⟨m + 1, by omega, by go_num, ⟨AK, cK, ?_, ?_⟩, HB3.out⟩, by simp [intF]; omega⟩
      · rw [kids_off HX.out HOFF.out, ← HEK.out]
      · rw [kids_off HX.out HOFF.out, ← HEK.out]; exact HO.out.keep HB4.out
    have HON := Lib.hid (show hangs i s x = true by
      rw [hangs_iff]
      exact ⟨Prod.ext (HP.out.1.symm.trans HP.out.2.2.1) (HP.out.2.1.symm.trans HP.out.2.2.2.1), by rw [← HP.out.2.2.2.2.1, h3]⟩)
    subst h3
    go_upto_region 5 with fail
    clear q0
    refine wp_region_inv 17 [19, 20, 21, 22, 23, 24, 25, 26, 27, 28, 29, 30, 31, 32, 33, 34, 35] [.val (.pointer (some ⟨g, 0, none⟩)), .val (.slice (some ⟨b, o, none⟩) n c1), .val (.int .i64 (m : Int)), .val (.pointer (some ⟨b, o + m * 6, none⟩)), .val (.pointer (some ⟨b, o + m * 6 + 2, none⟩)), .val (.agg #[.int .i64 p1, .int .i64 p2]), .val (.agg #[.int .i64 p1, .int .i64 p2]), .val (.bool false), .val (.bool false), .val (.pointer (some ⟨g, 0, none⟩)), .val (.slice (some ⟨b, o, none⟩) n c1), .val (.int .i64 (m : Int)), .val (.pointer (some ⟨b, o + m * 6, none⟩)), .val (.pointer (some ⟨b, o + m * 6 + 4, none⟩)), .val (.bool xr), .val (.bool xr), .val (.bool false)] (fun wz => Below wr.heap.size wr wz) (by kernel_rfl) (by kernel_rfl) (fun wz wz' hz hb => hz.trans (hb.mono hz.size)) ((Below.refl _ _).drew) (fun u => by simp only [puts, List.foldl_cons, List.foldl_nil]; go_simp; exact rfl) ?_ ?_
    · simp only [List.take_succ_cons, List.take_zero]
      refine Obs.cons (fun u w hS hd => ?_) ?_
      · exact Gv.run (.pointer (some ⟨g, 0, none⟩)) rfl (by go_simp) rfl
      refine Obs.cons (fun u w hS hd => ?_) ?_
      · have d19 : u 19 = .pointer (some ⟨g, 0, none⟩) := dep hd 0 rfl
        rw [d19]
        exact Gv.run (.slice (some ⟨b, o, none⟩) n c1) rfl (by obtain ⟨k0, k1, k2, k3, k4, k5⟩ := HS.out w hS; go_simp) rfl
      refine Obs.cons (fun u w hS hd => ?_) ?_
      · exact Gv.run (.int .i64 (m : Int)) rfl (by go_simp) rfl
      refine Obs.cons (fun u w hS hd => ?_) ?_
      · have d20 : u 20 = .slice (some ⟨b, o, none⟩) n c1 := dep hd 1 rfl
        have d21 : u 21 = .int .i64 (m : Int) := dep hd 2 rfl
        rw [d20, d21]
        exact Gv.run (.pointer (some ⟨b, o + m * 6, none⟩)) rfl (by go_simp) rfl
      refine Obs.cons (fun u w hS hd => ?_) ?_
      · have d22 : u 22 = .pointer (some ⟨b, o + m * 6, none⟩) := dep hd 3 rfl
        rw [d22]
        exact Gv.run (.pointer (some ⟨b, o + m * 6 + 2, none⟩)) rfl (by go_simp) rfl
      refine Obs.cons (fun u w hS hd => ?_) ?_
      · have d23 : u 23 = .pointer (some ⟨b, o + m * 6 + 2, none⟩) := dep hd 4 rfl
        rw [d23]
        exact Gv.run (.agg #[.int .i64 p1, .int .i64 p2]) rfl (by obtain ⟨k0, k1, k2, k3, k4, k5⟩ := HS.out w hS; go_simp) rfl
      refine Obs.cons (fun u w hS hd => ?_) ?_
      · exact Gv.run (.agg #[.int .i64 p1, .int .i64 p2]) rfl (by obtain ⟨k0, k1, k2, k3, k4, k5⟩ := HS.out w hS; go_simp) rfl
      refine Obs.cons (fun u w hS hd => ?_) ?_
      · have d24 : u 24 = .agg #[.int .i64 p1, .int .i64 p2] := dep hd 5 rfl
        have d25 : u 25 = .agg #[.int .i64 p1, .int .i64 p2] := dep hd 6 rfl
        rw [d24, d25]
        exact Gv.run (.bool false) rfl (by go_simp) rfl
      refine Obs.cons (fun u w hS hd => ?_) ?_
      · have d26 : u 26 = .bool false := dep hd 7 rfl
        rw [d26]
        exact Gv.run (.bool false) rfl (by go_simp) rfl
      refine Obs.cons (fun u w hS hd => ?_) ?_
      · have d27 : u 27 = .bool false := dep hd 8 rfl
        rw [d27]
        exact Gv.run (.pointer (some ⟨g, 0, none⟩)) rfl (by go_simp) rfl
      refine Obs.cons (fun u w hS hd => ?_) ?_
      · have d28 : u 28 = .pointer (some ⟨g, 0, none⟩) := dep hd 9 rfl
        have d27 : u 27 = .bool false := dep hd 8 rfl
        rw [d28, d27]
        exact Gv.run (.slice (some ⟨b, o, none⟩) n c1) rfl (by obtain ⟨k0, k1, k2, k3, k4, k5⟩ := HS.out w hS; go_simp) rfl
      refine Obs.cons (fun u w hS hd => ?_) ?_
      · have d27 : u 27 = .bool false := dep hd 8 rfl
        rw [d27]
        exact Gv.run (.int .i64 (m : Int)) rfl (by go_simp) rfl
      refine Obs.cons (fun u w hS hd => ?_) ?_
      · have d29 : u 29 = .slice (some ⟨b, o, none⟩) n c1 := dep hd 10 rfl
        have d30 : u 30 = .int .i64 (m : Int) := dep hd 11 rfl
        have d27 : u 27 = .bool false := dep hd 8 rfl
        rw [d29, d30, d27]
        exact Gv.run (.pointer (some ⟨b, o + m * 6, none⟩)) rfl (by go_simp) rfl
      refine Obs.cons (fun u w hS hd => ?_) ?_
      · have d31 : u 31 = .pointer (some ⟨b, o + m * 6, none⟩) := dep hd 12 rfl
        have d27 : u 27 = .bool false := dep hd 8 rfl
        rw [d31, d27]
        exact Gv.run (.pointer (some ⟨b, o + m * 6 + 4, none⟩)) rfl (by go_simp) rfl
      refine Obs.cons (fun u w hS hd => ?_) ?_
      · have d32 : u 32 = .pointer (some ⟨b, o + m * 6 + 4, none⟩) := dep hd 13 rfl
        have d27 : u 27 = .bool false := dep hd 8 rfl
        rw [d32, d27]
        exact Gv.run (.bool xr) rfl (by obtain ⟨k0, k1, k2, k3, k4, k5⟩ := HS.out w hS; go_simp) rfl
      refine Obs.cons (fun u w hS hd => ?_) ?_
      · have d27 : u 27 = .bool false := dep hd 8 rfl
        rw [d27]
        exact Gv.run (.bool xr) rfl (by go_simp) rfl
      refine Obs.cons (fun u w hS hd => ?_) ?_
      · have d33 : u 33 = .bool xr := dep hd 14 rfl
        have d34 : u 34 = .bool xr := dep hd 15 rfl
        have d27 : u 27 = .bool false := dep hd 8 rfl
        rw [d33, d34, d27]
        exact Gv.run (.bool false) rfl (by go_simp) rfl
      exact Obs.nil
    intro u1 v3 hS hd
    have d27 : u1 27 = .bool false := hd 8 (by decide)
    have d35 : u1 35 = .bool false := hd 16 (by decide)
    rw [d27, d35]
    simp only [List.drop_succ_cons, List.drop_zero]
    have HB3 := Lib.hid (HBR.out.trans (hS.mono HBR.out.size))
    have HB4 := Lib.hid hS
    clear hS hd d27 d35
    have oK3 := HO.out.keep HB4.out
    have g1m := Lib.hid g1
    go_wp2_with fail
    go_loopw [9, 10] (fun nv kv wq => ∃ q : Nat, q ≤ K.length ∧ kv = .int .i64 (q : Int) ∧ (∃ A c, nv = .slice A ((K.take q).filter (ltx x)).length c ∧ OwnR insE wq v1.heap.size 74 A c ((K.take q).filter (ltx x)) ∧ Offs A AK) ∧ OwnR insE wq v1.heap.size 74 AK cK K ∧ Below v1.heap.size v1 wq) (fun _ kv _ => K.length - (intF kv).toNat)
    case atStart => exact ⟨0, Nat.zero_le _, rfl, ⟨none, 0, rfl, OwnR.nothing insE _ _ _, Offs.none1 _⟩, oK3, HB3.out⟩
    case round =>
      obtain ⟨wq, ewq⟩ : ∃ v, v = wr := ⟨_, rfl⟩
      subst ewq
      obtain ⟨q, hq, rfl, ⟨An, cn, rfl, on, hoff⟩, oK, hbq⟩ := hrel
      have q0 := (hbq.cell (p := ⟨g, 0, none⟩) (show g < v1.heap.size by rw [HQ.out.2.1]; omega)).trans HQ.out.2.2.2.1.1
      obtain ⟨ln, eln⟩ : ∃ l, l = ((K.take q).filter (ltx x)).length := ⟨_, rfl⟩
      rw [← eln]
      have HLE1 := Lib.hid eln
      clear eln
      by_cases hlt : q < K.length
      · obtain ⟨y, hy⟩ : ∃ y, K[q]? = some y := getD_of hlt
        obtain ⟨bo, oo, eK, hbo, y0, y1, y2, y3, y4, y5⟩ := ins_at oK.rd hy
        have x0 := (hbq.cell (p := ⟨b, o + m * 6, none⟩) HXB.out).trans HXW.out.1
        have x1 := (hbq.cell (p := ⟨b, o + m * 6 + 1, none⟩) HXB.out).trans HXW.out.2.1
        have g1 : (q : Int) < (K.length : Int) := by omega
        have g2 : K.length ≤ 1000000 := HK.out
        have hfs := filt_snoc (ltx x) hy
        have hfl := filt_len (ltx x) K q
        have HF := Lib.hid (And.intro hfs hfl)
        have HO := Lib.hid (And.intro on (And.intro oK hoff))
        have HY := Lib.hid (And.intro y0 (And.intro y1 (And.intro y2 (And.intro y3 (And.intro y4 y5)))))
        have HBQ := Lib.hid hbq
        rw [HP.out.2.2.2.2.2.2.1] at q0
        have hin : g < wq.heap.size ∧ b < wq.heap.size := ⟨by have := hbq.size; rw [HQ.out.2.1] at this; omega, Nat.lt_of_lt_of_le HXB.out hbq.size⟩
        have HS := Lib.hid (fun wz (hz : Below wq.heap.size wq wz) => show wz.cell? ⟨g, 0, none⟩ = some (.slice (some ⟨b, o, none⟩) n c1) ∧ wz.cell? ⟨b, o + m * 6, none⟩ = some (.int .i64 x.id.1) ∧ wz.cell? ⟨b, o + m * 6 + 1, none⟩ = some (.int .i64 x.id.2) ∧ wz.cell? ⟨bo, oo + q * 6, none⟩ = some (.int .i64 y.id.1) ∧ wz.cell? ⟨bo, oo + q * 6 + 1, none⟩ = some (.int .i64 y.id.2) from
          ⟨(hz.cell (p := ⟨g, 0, none⟩) hin.1).trans q0, (hz.cell (p := ⟨b, o + m * 6, none⟩) hin.2).trans x0, (hz.cell (p := ⟨b, o + m * 6 + 1, none⟩) hin.2).trans x1, (hz.cell (p := ⟨bo, oo + q * 6, none⟩) hbo).trans y0, (hz.cell (p := ⟨bo, oo + q * 6 + 1, none⟩) hbo).trans y1⟩)
        have HE := Lib.hid hbo
        subst eK
        clear hbq q0 x0 x1 y0 y1 y2 y3 y4 y5 hin on oK hoff hfs hfl hy hbo hlt
        go_upto_region 10 with fail
        refine wp_region_inv 11 [43, 44, 45, 46, 47, 48, 49, 50, 51, 52, 53] [.val (.slice (some ⟨bo, oo, none⟩) K.length cK), .val (.int .i64 (q : Int)), .val (.pointer (some ⟨bo, oo + q * 6, none⟩)), .val (.pointer (some ⟨bo, oo + q * 6, none⟩)), .val (.agg #[.int .i64 y.id.1, .int .i64 y.id.2]), .val (.pointer (some ⟨g, 0, none⟩)), .val (.slice (some ⟨b, o, none⟩) n c1), .val (.int .i64 (m : Int)), .val (.pointer (some ⟨b, o + m * 6, none⟩)), .val (.pointer (some ⟨b, o + m * 6, none⟩)), .val (.agg #[.int .i64 x.id.1, .int .i64 x.id.2])] (fun wz => Below wq.heap.size wq wz) (by kernel_rfl) (by kernel_rfl) (fun wz wz' hz hb => hz.trans (hb.mono hz.size)) ((Below.refl _ _).drew) (fun u => by simp only [puts, List.foldl_cons, List.foldl_nil]; go_simp; exact rfl) ?_ ?_
        · simp only [List.take_succ_cons, List.take_zero]
          refine Obs.cons (fun u w hS hd => ?_) ?_
          · exact Gv.run (.slice (some ⟨bo, oo, none⟩) K.length cK) rfl (by go_simp) rfl
          refine Obs.cons (fun u w hS hd => ?_) ?_
          · exact Gv.run (.int .i64 (q : Int)) rfl (by go_simp) rfl
          refine Obs.cons (fun u w hS hd => ?_) ?_
          · have d43 : u 43 = .slice (some ⟨bo, oo, none⟩) K.length cK := dep hd 0 rfl
            have d44 : u 44 = .int .i64 (q : Int) := dep hd 1 rfl
            rw [d43, d44]
            exact Gv.run (.pointer (some ⟨bo, oo + q * 6, none⟩)) rfl (by go_simp) rfl
          refine Obs.cons (fun u w hS hd => ?_) ?_
          · have d45 : u 45 = .pointer (some ⟨bo, oo + q * 6, none⟩) := dep hd 2 rfl
            rw [d45]
            exact Gv.run (.pointer (some ⟨bo, oo + q * 6, none⟩)) rfl (by go_simp) rfl
          refine Obs.cons (fun u w hS hd => ?_) ?_
          · have d46 : u 46 = .pointer (some ⟨bo, oo + q * 6, none⟩) := dep hd 3 rfl
            rw [d46]
            exact Gv.run (.agg #[.int .i64 y.id.1, .int .i64 y.id.2]) rfl (by obtain ⟨k0, k1, k2, k3, k4⟩ := HS.out w hS; go_simp) rfl
          refine Obs.cons (fun u w hS hd => ?_) ?_
          · exact Gv.run (.pointer (some ⟨g, 0, none⟩)) rfl (by go_simp) rfl
          refine Obs.cons (fun u w hS hd => ?_) ?_
          · have d48 : u 48 = .pointer (some ⟨g, 0, none⟩) := dep hd 5 rfl
            rw [d48]
            exact Gv.run (.slice (some ⟨b, o, none⟩) n c1) rfl (by obtain ⟨k0, k1, k2, k3, k4⟩ := HS.out w hS; go_simp) rfl
          refine Obs.cons (fun u w hS hd => ?_) ?_
          · exact Gv.run (.int .i64 (m : Int)) rfl (by go_simp) rfl
          refine Obs.cons (fun u w hS hd => ?_) ?_
          · have d49 : u 49 = .slice (some ⟨b, o, none⟩) n c1 := dep hd 6 rfl
            have d50 : u 50 = .int .i64 (m : Int) := dep hd 7 rfl
            rw [d49, d50]
            exact Gv.run (.pointer (some ⟨b, o + m * 6, none⟩)) rfl (by go_simp) rfl
          refine Obs.cons (fun u w hS hd => ?_) ?_
          · have d51 : u 51 = .pointer (some ⟨b, o + m * 6, none⟩) := dep hd 8 rfl
            rw [d51]
            exact Gv.run (.pointer (some ⟨b, o + m * 6, none⟩)) rfl (by go_simp) rfl
          refine Obs.cons (fun u w hS hd => ?_) ?_
          · have d52 : u 52 = .pointer (some ⟨b, o + m * 6, none⟩) := dep hd 9 rfl
            rw [d52]
            exact Gv.run (.agg #[.int .i64 x.id.1, .int .i64 x.id.2]) rfl (by obtain ⟨k0, k1, k2, k3, k4⟩ := HS.out w hS; go_simp) rfl
          exact Obs.nil
        intro u1 v3 hS hd
        have d47 : u1 47 = .agg #[.int .i64 y.id.1, .int .i64 y.id.2] := hd 4 (by decide)
        have d53 : u1 53 = .agg #[.int .i64 x.id.1, .int .i64 x.id.2] := hd 10 (by decide)
        rw [d47, d53]
        simp only [List.drop_succ_cons, List.drop_zero]
        have HB3 := Lib.hid hS
        clear hS hd d47 d53
        go_wp2_with fail
        go_at_call 84
        refine (rless_any y.id x.id v3).mono ?_
        rintro e v4 ⟨rfl, h4⟩
        have HB5 := Lib.hid (HB3.out.trans (h4.mono HB3.out.size))
        clear h4 HB3
        have h7 : Below wq.heap.size wq v4 := HB5.out
        have oK7 := HO.out.2.1.keep h7
        have on7 := HO.out.1.keep h7
        cases hi : idLt y.id x.id
        · -- not less
          have HI := Lib.hid hi
          have HON := Lib.hid (And.intro on7 oK7)
          have HB7 := Lib.hid (HBQ.out.trans (h7.mono HBQ.out.size))
          clear hi h7 oK7 on7
          go_wp2_with fail
          go_roundw
          case rel =>
            refine ⟨q + 1, by omega, by go_num, ⟨An, cn, ?_, ?_, HO.out.2.2⟩, HON.out.2, HB7.out⟩
            · rw [HF.out.1, ltx, HI.out, HLE1.out]; first | (simp; done) | simp [Nat.add_assoc]
            · rw [HF.out.1, ltx, HI.out]; simpa using HON.out.1
          case measure => simp [intF]; omega
        · -- less
          have c0 := (h7.cell (p := ⟨bo, oo + q * 6, none⟩) HE.out).trans HY.out.1
          have c1' := (h7.cell (p := ⟨bo, oo + q * 6 + 1, none⟩) HE.out).trans HY.out.2.1
          have c2' := (h7.cell (p := ⟨bo, oo + q * 6 + 2, none⟩) HE.out).trans HY.out.2.2.1
          have c3' := (h7.cell (p := ⟨bo, oo + q * 6 + 3, none⟩) HE.out).trans HY.out.2.2.2.1
          have c4' := (h7.cell (p := ⟨bo, oo + q * 6 + 4, none⟩) HE.out).trans HY.out.2.2.2.2.1
          have c5' := (h7.cell (p := ⟨bo, oo + q * 6 + 5, none⟩) HE.out).trans HY.out.2.2.2.2.2
          have HI := Lib.hid hi
          have HON := Lib.hid (And.intro on7 oK7)
          have HLN := Lib.hid (show ln + 1 ≤ 140737488355328 by rw [HLE1.out]; have := HF.out.2; have := List.length_filter_le (ltx x) K; simp; omega)
          have HLB := Lib.hid (show (ln + 1) * 40 ≤ 140737488355328 by rw [HLE1.out]; have := HF.out.2; have := List.length_filter_le (ltx x) K; simp; omega)
          have HB7 := Lib.hid (HBQ.out.trans (h7.mono HBQ.out.size))
          have H7 := Lib.hid h7
          clear hi h7 oK7 on7
          go_wp2_with (at_builtin; refine wpList_appR1 v4 rfl (.tmp 55) (.tmp 60) _ rfl v1.heap.size 74 i0 _ Try.underlying42 hi0 hz0 hz1 hz2 rfl HLE1.out.symm rfl HON.out.1 (y := y) rfl rfl HLN.out HLB.out HB7.out.size ?_; intro A9 c9 w9 o9 hb9 hg9)
          have hoK := HON.out.2.grown (hg9.1 cn ln) HO.out.2.2
          have hoff9 := hg9.off HO.out.2.2 (fun ad2 h2 => (HON.out.2.blk ad2 h2).2)
          go_roundw
          case rel =>
            refine ⟨q + 1, by omega, by go_num, ⟨A9, c9, ?_, ?_, hoff9⟩, hoK, HB7.out.trans hb9⟩
            · rw [HF.out.1, ltx, HI.out, HLE1.out]; first | (simp; done) | simp [Nat.add_assoc]
            · rw [HF.out.1, ltx, HI.out]; simpa using o9
          case measure => simp [intF]; omega
      · obtain rfl : q = K.length := by omega
        have g1 : ¬ (K.length : Int) < (K.length : Int) := by omega
        rw [List.take_length] at on HLE1
        have y0 := (hbq.cell (p := ⟨b, o + m * 6, none⟩) HXB.out).trans HXW.out.1
        have y1 := (hbq.cell (p := ⟨b, o + m * 6 + 1, none⟩) HXB.out).trans HXW.out.2.1
        have y2 := (hbq.cell (p := ⟨b, o + m * 6 + 2, none⟩) HXB.out).trans HXW.out.2.2.1
        have y3 := (hbq.cell (p := ⟨b, o + m * 6 + 3, none⟩) HXB.out).trans HXW.out.2.2.2.1
        have y4 := (hbq.cell (p := ⟨b, o + m * 6 + 4, none⟩) HXB.out).trans HXW.out.2.2.2.2.1
        have y5 := (hbq.cell (p := ⟨b, o + m * 6 + 5, none⟩) HXB.out).trans HXW.out.2.2.2.2.2
        have g2 : n ≤ 1000000 := by rw [HL.out.1]; exact HL.out.2
        have g1' : (m : Int) < (n : Int) := g1m.out
        rw [HP.out.2.2.2.2.2.2.1] at q0
        have HO1 := Lib.hid (And.intro on (And.intro oK hoff))
        have hfl := List.length_filter_le (ltx x) K
        have hKl := HK.out
        have hle1 := HLE1.out
        have HLN := Lib.hid (show ln + 1 ≤ 140737488355328 by omega)
        have HLB := Lib.hid (show (ln + 1) * 40 ≤ 140737488355328 by omega)
        have HBQ := Lib.hid hbq
        clear on oK hoff hfl hKl hbq hlt hq hle1
        go_wp2_with (at_builtin; refine wpList_appR1 wq rfl (.tmp 62) (.tmp 68) _ rfl v1.heap.size 74 i0 _ Try.underlying42 hi0 hz0 hz1 hz2 rfl HLE1.out.symm rfl HO1.out.1 (y := x) rfl rfl HLN.out HLB.out HBQ.out.size ?_; intro A9 c9 w9 o9 hb9 hg9)
        have hoK := HO1.out.2.1.grown (hg9.1 cn ln) HO1.out.2.2
        have hoff9 := hg9.off HO1.out.2.2 (fun ad2 h2 => (HO1.out.2.1.blk ad2 h2).2)
        have HB9 := Lib.hid (HBQ.out.trans hb9)
        clear hb9 hg9 HO1 y0 y1 y2 y3 y4 y5 q0
        go_loopw [9, 11] (fun nv kv wq => ∃ q : Nat, q ≤ K.length ∧ kv = .int .i64 (q : Int) ∧ (∃ A c, nv = .slice A (K.filter (ltx x) ++ [x] ++ (K.take q).filter (gex x)).length c ∧ OwnR insE wq v1.heap.size 74 A c (K.filter (ltx x) ++ [x] ++ (K.take q).filter (gex x)) ∧ Offs A AK) ∧ OwnR insE wq v1.heap.size 74 AK cK K ∧ Below v1.heap.size v1 wq) (fun _ kv _ => K.length - (intF kv).toNat)
        case atStart => exact ⟨0, Nat.zero_le _, rfl, ⟨A9, c9, by rw [HLE1.out]; simp, by simpa using o9, hoff9⟩, hoK, HB9.out⟩
        case round =>
          obtain ⟨wq, ewq⟩ : ∃ v, v = wr := ⟨_, rfl⟩
          subst ewq
          obtain ⟨q, hq, rfl, ⟨An, cn, rfl, on, hoff⟩, oK, hbq⟩ := hrel
          have q0 := (hbq.cell (p := ⟨g, 0, none⟩) (show g < v1.heap.size by rw [HQ.out.2.1]; omega)).trans HQ.out.2.2.2.1.1
          obtain ⟨ln, eln⟩ : ∃ l, l = (K.filter (ltx x) ++ [x] ++ (K.take q).filter (gex x)).length := ⟨_, rfl⟩
          rw [← eln]
          have HLE1 := Lib.hid eln
          clear eln
          by_cases hlt : q < K.length
          · obtain ⟨y, hy⟩ : ∃ y, K[q]? = some y := getD_of hlt
            obtain ⟨bo, oo, eK, hbo, y0, y1, y2, y3, y4, y5⟩ := ins_at oK.rd hy
            have x0 := (hbq.cell (p := ⟨b, o + m * 6, none⟩) HXB.out).trans HXW.out.1
            have x1 := (hbq.cell (p := ⟨b, o + m * 6 + 1, none⟩) HXB.out).trans HXW.out.2.1
            have g1 : (q : Int) < (K.length : Int) := by omega
            have g2 : K.length ≤ 1000000 := HK.out
            have hfs := filt_snoc (gex x) hy
            have hfl := filt_len (gex x) K q
            have HF := Lib.hid (And.intro hfs hfl)
            have HO := Lib.hid (And.intro on (And.intro oK hoff))
            have HY := Lib.hid (And.intro y0 (And.intro y1 (And.intro y2 (And.intro y3 (And.intro y4 y5)))))
            have HBQ := Lib.hid hbq
            rw [HP.out.2.2.2.2.2.2.1] at q0
            have hin : g < wq.heap.size ∧ b < wq.heap.size := ⟨by have := hbq.size; rw [HQ.out.2.1] at this; omega, Nat.lt_of_lt_of_le HXB.out hbq.size⟩
            have HS := Lib.hid (fun wz (hz : Below wq.heap.size wq wz) => show wz.cell? ⟨g, 0, none⟩ = some (.slice (some ⟨b, o, none⟩) n c1) ∧ wz.cell? ⟨b, o + m * 6, none⟩ = some (.int .i64 x.id.1) ∧ wz.cell? ⟨b, o + m * 6 + 1, none⟩ = some (.int .i64 x.id.2) ∧ wz.cell? ⟨bo, oo + q * 6, none⟩ = some (.int .i64 y.id.1) ∧ wz.cell? ⟨bo, oo + q * 6 + 1, none⟩ = some (.int .i64 y.id.2) from
              ⟨(hz.cell (p := ⟨g, 0, none⟩) hin.1).trans q0, (hz.cell (p := ⟨b, o + m * 6, none⟩) hin.2).trans x0, (hz.cell (p := ⟨b, o + m * 6 + 1, none⟩) hin.2).trans x1, (hz.cell (p := ⟨bo, oo + q * 6, none⟩) hbo).trans y0, (hz.cell (p := ⟨bo, oo + q * 6 + 1, none⟩) hbo).trans y1⟩)
            have HE := Lib.hid hbo
            subst eK
            clear hbq q0 x0 x1 y0 y1 y2 y3 y4 y5 hin on oK hoff hfs hfl hy hbo hlt
            go_upto_region 16 with fail
            refine wp_region_inv 11 [76, 77, 78, 79, 80, 81, 82, 83, 84, 85, 86] [.val (.slice (some ⟨bo, oo, none⟩) K.length cK), .val (.int .i64 (q : Int)), .val (.pointer (some ⟨bo, oo + q * 6, none⟩)), .val (.pointer (some ⟨bo, oo + q * 6, none⟩)), .val (.agg #[.int .i64 y.id.1, .int .i64 y.id.2]), .val (.pointer (some ⟨g, 0, none⟩)), .val (.slice (some ⟨b, o, none⟩) n c1), .val (.int .i64 (m : Int)), .val (.pointer (some ⟨b, o + m * 6, none⟩)), .val (.pointer (some ⟨b, o + m * 6, none⟩)), .val (.agg #[.int .i64 x.id.1, .int .i64 x.id.2])] (fun wz => Below wq.heap.size wq wz) (by kernel_rfl) (by kernel_rfl) (fun wz wz' hz hb => hz.trans (hb.mono hz.size)) ((Below.refl _ _).drew) (fun u => by simp only [puts, List.foldl_cons, List.foldl_nil]; go_simp; exact rfl) ?_ ?_
            · simp only [List.take_succ_cons, List.take_zero]
              refine Obs.cons (fun u w hS hd => ?_) ?_
              · exact Gv.run (.slice (some ⟨bo, oo, none⟩) K.length cK) rfl (by go_simp) rfl
              refine Obs.cons (fun u w hS hd => ?_) ?_
              · exact Gv.run (.int .i64 (q : Int)) rfl (by go_simp) rfl
              refine Obs.cons (fun u w hS hd => ?_) ?_
              · have d76 : u 76 = .slice (some ⟨bo, oo, none⟩) K.length cK := dep hd 0 rfl
                have d77 : u 77 = .int .i64 (q : Int) := dep hd 1 rfl
                rw [d76, d77]
                exact Gv.run (.pointer (some ⟨bo, oo + q * 6, none⟩)) rfl (by go_simp) rfl
              refine Obs.cons (fun u w hS hd => ?_) ?_
              · have d78 : u 78 = .pointer (some ⟨bo, oo + q * 6, none⟩) := dep hd 2 rfl
                rw [d78]
                exact Gv.run (.pointer (some ⟨bo, oo + q * 6, none⟩)) rfl (by go_simp) rfl
              refine Obs.cons (fun u w hS hd => ?_) ?_
              · have d79 : u 79 = .pointer (some ⟨bo, oo + q * 6, none⟩) := dep hd 3 rfl
                rw [d79]
                exact Gv.run (.agg #[.int .i64 y.id.1, .int .i64 y.id.2]) rfl (by obtain ⟨k0, k1, k2, k3, k4⟩ := HS.out w hS; go_simp) rfl
              refine Obs.cons (fun u w hS hd => ?_) ?_
              · exact Gv.run (.pointer (some ⟨g, 0, none⟩)) rfl (by go_simp) rfl
              refine Obs.cons (fun u w hS hd => ?_) ?_
              · have d81 : u 81 = .pointer (some ⟨g, 0, none⟩) := dep hd 5 rfl
                rw [d81]
                exact Gv.run (.slice (some ⟨b, o, none⟩) n c1) rfl (by obtain ⟨k0, k1, k2, k3, k4⟩ := HS.out w hS; go_simp) rfl
              refine Obs.cons (fun u w hS hd => ?_) ?_
              · exact Gv.run (.int .i64 (m : Int)) rfl (by go_simp) rfl
              refine Obs.cons (fun u w hS hd => ?_) ?_
              · have d82 : u 82 = .slice (some ⟨b, o, none⟩) n c1 := dep hd 6 rfl
                have d83 : u 83 = .int .i64 (m : Int) := dep hd 7 rfl
                rw [d82, d83]
                exact Gv.run (.pointer (some ⟨b, o + m * 6, none⟩)) rfl (by go_simp) rfl
              refine Obs.cons (fun u w hS hd => ?_) ?_
              · have d84 : u 84 = .pointer (some ⟨b, o + m * 6, none⟩) := dep hd 8 rfl
                rw [d84]
                exact Gv.run (.pointer (some ⟨b, o + m * 6, none⟩)) rfl (by go_simp) rfl
              refine Obs.cons (fun u w hS hd => ?_) ?_
              · have d85 : u 85 = .pointer (some ⟨b, o + m * 6, none⟩) := dep hd 9 rfl
                rw [d85]
                exact Gv.run (.agg #[.int .i64 x.id.1, .int .i64 x.id.2]) rfl (by obtain ⟨k0, k1, k2, k3, k4⟩ := HS.out w hS; go_simp) rfl
              exact Obs.nil
            intro u1 v3 hS hd
            have d80 : u1 80 = .agg #[.int .i64 y.id.1, .int .i64 y.id.2] := hd 4 (by decide)
            have d86 : u1 86 = .agg #[.int .i64 x.id.1, .int .i64 x.id.2] := hd 10 (by decide)
            rw [d80, d86]
            simp only [List.drop_succ_cons, List.drop_zero]
            have HB3 := Lib.hid hS
            clear hS hd d80 d86
            go_wp2_with fail
            go_at_call 84
            refine (rless_any y.id x.id v3).mono ?_
            rintro e v4 ⟨rfl, h4⟩
            have HB5 := Lib.hid (HB3.out.trans (h4.mono HB3.out.size))
            clear h4 HB3
            have h7 : Below wq.heap.size wq v4 := HB5.out
            have oK7 := HO.out.2.1.keep h7
            have on7 := HO.out.1.keep h7
            cases hi : idLt y.id x.id
            · -- not less
              have c0 := (h7.cell (p := ⟨bo, oo + q * 6, none⟩) HE.out).trans HY.out.1
              have c1' := (h7.cell (p := ⟨bo, oo + q * 6 + 1, none⟩) HE.out).trans HY.out.2.1
              have c2' := (h7.cell (p := ⟨bo, oo + q * 6 + 2, none⟩) HE.out).trans HY.out.2.2.1
              have c3' := (h7.cell (p := ⟨bo, oo + q * 6 + 3, none⟩) HE.out).trans HY.out.2.2.2.1
              have c4' := (h7.cell (p := ⟨bo, oo + q * 6 + 4, none⟩) HE.out).trans HY.out.2.2.2.2.1
              have c5' := (h7.cell (p := ⟨bo, oo + q * 6 + 5, none⟩) HE.out).trans HY.out.2.2.2.2.2
              have HI := Lib.hid hi
              have HON := Lib.hid (And.intro on7 oK7)
              have HLN := Lib.hid (show ln + 1 ≤ 140737488355328 by rw [HLE1.out]; have := HF.out.2; have := List.length_filter_le (ltx x) K; simp; omega)
              have HLB := Lib.hid (show (ln + 1) * 40 ≤ 140737488355328 by rw [HLE1.out]; have := HF.out.2; have := List.length_filter_le (ltx x) K; simp; omega)
              have HB7 := Lib.hid (HBQ.out.trans (h7.mono HBQ.out.size))
              have H7 := Lib.hid h7
              clear hi h7 oK7 on7
              go_wp2_with (at_builtin; refine wpList_appR1 v4 rfl (.tmp 89) (.tmp 94) _ rfl v1.heap.size 74 i0 _ Try.underlying42 hi0 hz0 hz1 hz2 rfl HLE1.out.symm rfl HON.out.1 (y := y) rfl rfl HLN.out HLB.out HB7.out.size ?_; intro A9 c9 w9 o9 hb9 hg9)
              have hoK := HON.out.2.grown (hg9.1 cn ln) HO.out.2.2
              have hoff9 := hg9.off HO.out.2.2 (fun ad2 h2 => (HON.out.2.blk ad2 h2).2)
              go_roundw
              case rel =>
                refine ⟨q + 1, by omega, by go_num, ⟨A9, c9, ?_, ?_, hoff9⟩, hoK, HB7.out.trans hb9⟩
                · rw [HF.out.1, gex, HI.out, HLE1.out]; first | (simp; done) | simp [Nat.add_assoc]
                · rw [HF.out.1, gex, HI.out]; simpa using o9
              case measure => simp [intF]; omega
            · -- less
              have HI := Lib.hid hi
              have HON := Lib.hid (And.intro on7 oK7)
              have HB7 := Lib.hid (HBQ.out.trans (h7.mono HBQ.out.size))
              clear hi h7 oK7 on7
              go_wp2_with fail
              go_roundw
              case rel =>
                refine ⟨q + 1, by omega, by go_num, ⟨An, cn, ?_, ?_, HO.out.2.2⟩, HON.out.2, HB7.out⟩
                · rw [HF.out.1, gex, HI.out, HLE1.out]; first | (simp; done) | simp [Nat.add_assoc]
                · rw [HF.out.1, gex, HI.out]; simpa using HON.out.1
              case measure => simp [intF]; omega
          · obtain rfl : q = K.length := by omega
            have g1 : ¬ (K.length : Int) < (K.length : Int) := by omega
            rw [List.take_length] at on HLE1
            have hon := on
            rw [show K.filter (ltx x) ++ [x] ++ K.filter (gex x) = insK x K from (insK_eq x K).symm] at hon
            have HON2 := Lib.hid (And.intro hon hbq)
            have HLE := Lib.hid (show ln = (kidsL (L.take (m + 1)) i xr).length by rw [HLE1.out, ← insK_eq, kids_on HX.out HON.out, ← HEK.out])
            clear hon on oK hoff hbq q0
            go_wp2_with fail
            go_roundw
            case measure => simp [intF]; omega
            refine ⟨m + 1, by omega, by go_num, ⟨An, cn, ?_, ?_⟩, HON2.out.2⟩
            · rw [← HLE.out]
            · rw [kids_on HX.out HON.out, ← HEK.out]; exact HON2.out.1
end Go.Proofs.Ytpjeggbkhbghaaa
namespace Go.Proofs.Ytpjeggbkhbghaaa
open Go Go.RowKit
theorem dist_len : ∀ {l L : List Ins}, Distinct l → (∀ y ∈ l, y ∈ L) → l.length ≤ L.length
  | [], _, _, _ => Nat.zero_le _
  | y :: r, L, hd, hm => by
    obtain ⟨hy, hr⟩ := List.pairwise_cons.1 hd
    obtain ⟨a, b, e⟩ := List.append_of_mem (hm y (List.mem_cons.2 (.inl rfl)))
    subst e
    have := dist_len (L := a ++ b) hr fun z hz => by
      have h1 := hm z (List.mem_cons.2 (.inr hz))
      rcases List.mem_append.1 h1 with h | h
      · exact List.mem_append.2 (.inl h)
      · rcases List.mem_cons.1 h with h | h
        · exact absurd (by rw [h]) (hy z hz)
        · exact List.mem_append.2 (.inr h)
    rw [List.length_append, List.length_cons]
    rw [List.length_append] at this
    simp only [List.length_cons]
    omega
theorem nodes_len {L : List Ins} (h : Ok L) : (nodesL L).length ≤ L.length := dist_len (nodes_distinct h) fun _ hy => (nodes_mem h).1 hy
theorem Ok.root {L : List Ins} (h : Ok L) : ∀ y ∈ L, y.par = (0, 0) → y.right = true := by
  induction h with
  | nil => intro y hy; cases hy
  | @snoc L x hL hn h0 hp ih =>
    intro y hy e
    rcases List.mem_append.1 hy with h | h
    · exact ih y h e
    · rw [List.mem_singleton.1 h] at e ⊢
      rcases hp with ⟨_, h⟩ | ⟨z, hz, ez⟩
      · exact h
      · exact absurd (ez.trans e) (hL.nz z hz)
/-- However much fuel there is beyond what is enough. -/
theorem bel_any {L : List Ins} {n m : Nat} {p : IDt} (s : Bool) (hn : Deep L n p) (hm : Deep L m p) : belL (n + 1) L p s = belL (m + 1) L p s := by
  rw [← bel_fuel n s hn m, ← bel_fuel m s hm n, show n + 1 + m = m + 1 + n by omega]
theorem bel_len {L : List Ins} (h : Ok L) {n : Nat} {p : IDt} (s : Bool) (hd : Deep L n p) : (belL (n + 1) L p s).length ≤ L.length := by
  by_cases hk : kidsL L p s = []
  · rw [bel_nokids hk]
    exact Nat.zero_le _
  · obtain ⟨y, hy⟩ := List.exists_mem_of_ne_nil _ hk
    have hy2 := (mem_kids p s).1 hy
    obtain ⟨e1, e2⟩ := hangs_iff.1 hy2.2
    rcases h.par y hy2.1 with h0 | ⟨z, hz, ez⟩
    · have hp : p = (0, 0) := by rw [← e1]; exact h0
      subst hp
      have hs : s = true := by rw [← e2]; exact h.root y hy2.1 h0
      subst hs
      rw [bel_any true hd (h.deep _)]
      exact nodes_len h
    · obtain ⟨m, pre, post, hdm, e⟩ := bel_split L.length (p := (0, 0)) (s := true) (z := z) (h.deep _) ((nodes_mem h).2 hz)
      have hzp : z.id = p := by rw [ez, e1]
      rw [hzp] at hdm e
      have hl := nodes_len h
      unfold nodesL at hl
      rw [e] at hl
      rw [bel_any s hd hdm]
      simp only [List.length_append, List.length_cons] at hl
      cases s <;> omega
def nodeOf (G : List IDt) (x : Ins) : Nod := ⟨x.id, x.rune, goneB G x.id⟩
/-- A slot holds a row of so many elements. -/
def kRow {α : Type} (E : Enc α) (m : Nat) (M : List α) : Know := .sat (fun v w => ∃ A c, v = .slice A m c ∧ RdR E w w.heap.size A c M) (fun _ _ _ ⟨A, c, e, r⟩ hb => ⟨A, c, e, r.next hb⟩)
end Go.Proofs.Ytpjeggbkhbghaaa
namespace Go.Proofs.Ytpjeggbkhbghaaa
open Go Go.RowKit
set_option maxRecDepth 20000
theorem take_flat {α β : Type} (F : α → List β) {K : List α} {k : Nat} {x : α} (h : K[k]? = some x) : (K.take (k + 1)).flatMap F = (K.take k).flatMap F ++ F x := by
  rw [take_snoc h, List.flatMap_append]
  simp
theorem flat_len {α β : Type} (F : α → List β) (K : List α) (k : Nat) : ((K.take k).flatMap F).length ≤ (K.flatMap F).length := by
  have h : (K.flatMap F).length = ((K.take k).flatMap F).length + ((K.drop k).flatMap F).length := by
    rw [← List.length_append, ← List.flatMap_append, List.take_append_drop]
  omega
set_option maxHeartbeats 6400000 in
/-- One round of the recursion: what is told of those that hang there gives what is told here. -/
theorem below_step {v : Value} {B : Nat} {L : List Ins} {G : List IDt} (lo hi : Ins → List Ins) (p : IDt) (s : Bool) (w : World) (h : RdT w B v L G) (hB : B ≤ w.heap.size) (hl : L.length ≤ 4096) (hg : G.length ≤ 1000000)
    (hI : ∀ x ∈ kidsL L p s, ∀ wz, RdT wz B v L G ∧ B ≤ wz.heap.size →
      Calls Try.prog 68 #[v, idV x.id, .bool false] wz (fun e w' => ∃ A c, e = .returned (.slice A (lo x).length c) ∧ OwnR nodE w' wz.heap.size 77 A c ((lo x).map (nodeOf G)) ∧ Below wz.heap.size wz w') ∧
      Calls Try.prog 68 #[v, idV x.id, .bool true] wz (fun e w' => ∃ A c, e = .returned (.slice A (hi x).length c) ∧ OwnR nodE w' wz.heap.size 77 A c ((hi x).map (nodeOf G)) ∧ Below wz.heap.size wz w'))
    (hlen : ((kidsL L p s).flatMap fun x => lo x ++ x :: hi x).length ≤ 4096) :
    Calls Try.prog 68 #[v, idV p, .bool s] w fun e w' => ∃ A c, e = .returned (.slice A ((kidsL L p s).flatMap fun x => lo x ++ x :: hi x).length c) ∧ OwnR nodE w' w.heap.size 77 A c (((kidsL L p s).flatMap fun x => lo x ++ x :: hi x).map (nodeOf G)) ∧ Below w.heap.size w w' := by
  obtain ⟨i0, hi0, hz0, hz1, hz2⟩ := info_parts infoNod
  obtain ⟨A1, c1, A2, c2, rfl, r1, r2⟩ := h
  obtain ⟨v1, ev⟩ : ∃ v, v = (w.alloc (.cells #[.slice A1 L.length c1, .slice A2 G.length c2] 91)).alloc (.cells #[.int .i64 p.1, .int .i64 p.2] 27) := ⟨_, rfl⟩
  obtain ⟨g, eg⟩ : ∃ g, g = w.heap.size := ⟨_, rfl⟩
  have hb : Below w.heap.size w v1 := by rw [ev]; exact ((Below.refl _ _).alloc (Nat.le_refl _) _).alloc (by simp) _
  have hq : v1.cell? ⟨g, 0, none⟩ = some (.slice A1 L.length c1) ∧ v1.cell? ⟨g, 1, none⟩ = some (.slice A2 G.length c2) ∧ v1.cell? ⟨g + 1, 0, none⟩ = some (.int .i64 p.1) ∧ v1.cell? ⟨g + 1, 1, none⟩ = some (.int .i64 p.2) := by
    rw [ev, eg]
    simp
  have hs : v1.heap.size = g + 2 := by rw [ev, eg]; simp
  have hT : ∀ wz, Below w.heap.size w wz → RdT wz B (.agg #[.slice A1 L.length c1, .slice A2 G.length c2]) L G ∧ B ≤ wz.heap.size := fun wz hz => ⟨⟨A1, c1, A2, c2, rfl, r1.keep (hz.mono hB), r2.keep (hz.mono hB)⟩, Nat.le_trans hB hz.size⟩
  have KK := Lib.hid (rkids_any p s v1 (hT v1 hb).1 (hT v1 hb).2 (Nat.le_trans hl (by decide)))
  have HT0 := Lib.hid hT
  have HV := Lib.hid (And.intro ev eg)
  have HQ := Lib.hid (And.intro hb (And.intro hs hq))
  have HGL := Lib.hid hg
  obtain ⟨Ks, eKs⟩ : ∃ Ks, Ks = kidsL L p s := ⟨_, rfl⟩
  have hKl : Ks.length ≤ 4096 := by rw [eKs]; exact Nat.le_trans (kids_len p s rfl) hl
  rw [← eKs] at KK hlen hI ⊢
  have HI := Lib.hid hI
  have HLEN := Lib.hid hlen
  obtain ⟨m, em⟩ : ∃ m, m = Ks.length := ⟨_, rfl⟩
  rw [← em] at KK
  have HM := Lib.hid em
  have HKL := Lib.hid hKl
  clear ev hb hs hT r1 r2 hq hl hg hI hlen eKs em hB hKl
  have q3 := HQ.out.2.2.1
  have q4 := HQ.out.2.2.2.1
  have q5 := HQ.out.2.2.2.2.1
  have q6 := HQ.out.2.2.2.2.2
  go_enter Try.func68, Try.ntmps68
  go_upto_region 1 with fail
  rw [← HV.out.1, ← HV.out.2]
  clear HV eg
  go_wp2_with fail
  go_at_call 78
  refine KK.out.mono ?_
  rintro e v2 ⟨AK, cK, rfl, oK, h2⟩
  clear q3 q4 q5 q6 KK
  have HW0 := Lib.hid (And.intro oK h2)
  clear oK h2
  go_wp2_with fail
  go_loopw [7, 9] (fun ov kv wr => ∃ k : Nat, k ≤ m ∧ kv = .int .i64 (k : Int) ∧ (∃ A c, ov = .slice A ((Ks.take k).flatMap fun x => lo x ++ x :: hi x).length c ∧ OwnR nodE wr v2.heap.size 77 A c (((Ks.take k).flatMap fun x => lo x ++ x :: hi x).map (nodeOf G))) ∧ Below v2.heap.size v2 wr) (fun _ kv _ => m - (intF kv).toNat)
  case atStart => exact ⟨0, Nat.zero_le _, rfl, ⟨none, 0, rfl, OwnR.nothing nodE _ _ _⟩, Below.refl _ _⟩
  case round =>
    obtain ⟨k, hk, rfl, ⟨Ao, co, rfl, on⟩, hbr⟩ := hrel
    by_cases hlt : k < m
    case neg =>
      obtain rfl : k = m := by omega
      have g1 : ¬ (k : Int) < (k : Int) := by omega
      have hfull : Ks.take k = Ks := by rw [HM.out, List.take_length]
      rw [hfull] at on ⊢
      have HO := Lib.hid (And.intro (on.mono (Nat.le_trans HQ.out.1.size HW0.out.2.size)) ((HQ.out.1.trans (HW0.out.2.mono HQ.out.1.size)).trans (hbr.mono (Nat.le_trans HQ.out.1.size HW0.out.2.size))))
      clear hfull hk hlt hbr on
      go_wp2_with fail
      go_ret
      exact ⟨Ao, co, rfl, HO.out.1, HO.out.2⟩
    obtain ⟨x, hx⟩ : ∃ x, Ks[k]? = some x := getD_of (by rw [← HM.out]; exact hlt)
    have HXM := Lib.hid (List.mem_of_getElem? hx)
    obtain ⟨bo, oo, eK, hbo, y0, y1, y2, y3, y4, y5⟩ := ins_at HW0.out.1.rd hx
    have HE := Lib.hid (And.intro (take_flat (fun x => lo x ++ x :: hi x) hx) (flat_len (fun x => lo x ++ x :: hi x) Ks (k + 1)))
    have g1 : (k : Int) < (m : Int) := by omega
    have g2 : m ≤ 4096 := by rw [HM.out]; exact HKL.out
    obtain ⟨l0, el0⟩ : ∃ l, l = ((Ks.take k).flatMap fun x => lo x ++ x :: hi x).length := ⟨_, rfl⟩
    obtain ⟨N0, eN0⟩ : ∃ N, N = ((Ks.take k).flatMap fun x => lo x ++ x :: hi x) := ⟨_, rfl⟩
    rw [← el0]
    rw [← eN0] at on el0 HE
    obtain ⟨ll, ell⟩ : ∃ l, l = (lo x).length := ⟨_, rfl⟩
    obtain ⟨lh, elh⟩ : ∃ l, l = (hi x).length := ⟨_, rfl⟩
    have htot : l0 + (ll + (lh + 1)) ≤ 4096 := by
      have h1 := HE.out.2
      rw [HE.out.1] at h1
      have h2 := HLEN.out
      simp only [List.length_append, List.length_cons] at h1
      omega
    have HLL := Lib.hid (And.intro ell.symm elh.symm)
    have HEQ6 := Lib.hid (And.intro (show (N0.map (nodeOf G)).length = l0 by rw [List.length_map, el0]) (show ((lo x).map (nodeOf G)).length = ll by rw [List.length_map, ell]))
    have HEQ7 := Lib.hid (And.intro (show (N0.map (nodeOf G) ++ (lo x).map (nodeOf G)).length = l0 + ll by rw [List.length_append, List.length_map, List.length_map, el0, ell]) (show [nodeOf G x].length = 1 from rfl))
    have HEQ8 := Lib.hid (And.intro (show (N0.map (nodeOf G) ++ (lo x).map (nodeOf G) ++ [nodeOf G x]).length = l0 + ll + 1 by rw [List.length_append, List.length_append, List.length_map, List.length_map, el0, ell]; rfl) (show ((hi x).map (nodeOf G)).length = lh by rw [List.length_map, elh]))
    have HLN6 := Lib.hid (And.intro (show l0 + ll ≤ 140737488355328 by omega) (show (l0 + ll) * 24 ≤ 140737488355328 by omega))
    have HLN7 := Lib.hid (And.intro (show l0 + ll + 1 ≤ 140737488355328 by omega) (show (l0 + ll + 1) * 24 ≤ 140737488355328 by omega))
    have HLN8 := Lib.hid (And.intro (show l0 + ll + 1 + lh ≤ 140737488355328 by omega) (show (l0 + ll + 1 + lh) * 24 ≤ 140737488355328 by omega))
    have HN := Lib.hid (And.intro eN0 (And.intro el0 (And.intro ell elh)))
    have hg1 : g < v2.heap.size ∧ bo < v2.heap.size := ⟨by have := HW0.out.2.size; rw [HQ.out.2.1] at this; omega, hbo⟩
    have p0 := (HW0.out.2.cell (p := ⟨g, 0, none⟩) (show g < v1.heap.size by rw [HQ.out.2.1]; omega)).trans HQ.out.2.2.1
    have p1 := (HW0.out.2.cell (p := ⟨g, 1, none⟩) (show g < v1.heap.size by rw [HQ.out.2.1]; omega)).trans HQ.out.2.2.2.1
    have HW := Lib.hid (fun wz (hz : Below v2.heap.size v2 wz) => show wz.cell? ⟨g, 0, none⟩ = some (.slice A1 L.length c1) ∧ wz.cell? ⟨g, 1, none⟩ = some (.slice A2 G.length c2) ∧ wz.cell? ⟨bo, oo + k * 6, none⟩ = some (.int .i64 x.id.1) ∧ wz.cell? ⟨bo, oo + k * 6 + 1, none⟩ = some (.int .i64 x.id.2) ∧ wz.cell? ⟨bo, oo + k * 6 + 5, none⟩ = some (.int .i32 x.rune) from
      ⟨(hz.cell (p := ⟨g, 0, none⟩) hg1.1).trans p0, (hz.cell (p := ⟨g, 1, none⟩) hg1.1).trans p1, (hz.cell (p := ⟨bo, oo + k * 6, none⟩) hg1.2).trans y0, (hz.cell (p := ⟨bo, oo + k * 6 + 1, none⟩) hg1.2).trans y1, (hz.cell (p := ⟨bo, oo + k * 6 + 5, none⟩) hg1.2).trans y5⟩)
    have HW2 := Lib.hid (fun wz (hz : Below v2.heap.size v2 wz) => HT0.out wz ((HQ.out.1.trans (HW0.out.2.mono HQ.out.1.size)).trans (hz.mono (Nat.le_trans HQ.out.1.size HW0.out.2.size))))
    subst eK
    obtain ⟨wq, ewq⟩ : ∃ v, v = wr := ⟨_, rfl⟩
    subst ewq
    have HON := Lib.hid on
    have HBQ := Lib.hid hbr
    have HFIN := Lib.hid hk
    clear hx hbo y0 y1 y2 y3 y4 y5 eN0 el0 ell elh htot hg1 p0 p1 on hbr hk hlt
    have HS := Lib.hid (fun wz (hz : Below wq.heap.size wq wz) => HW.out wz (HBQ.out.trans (hz.mono HBQ.out.size)))
    have HT := Lib.hid (fun wz (hz : Below wq.heap.size wq wz) => HW2.out wz (HBQ.out.trans (hz.mono HBQ.out.size)))
    have HG := Lib.hid (fun wz (hz : Below wq.heap.size wq wz) => rgone_any x.id wz (HT.out wz hz).1 (HT.out wz hz).2 HGL.out)
    go_upto_region 6 with fail
    refine wp_region_inv 8 [20, 21, 22, 23, 24, 25, 26, 27] [.val (.slice Ao l0 co), .val (.agg #[.slice A1 L.length c1, .slice A2 G.length c2]), .val (.slice (some ⟨bo, oo, none⟩) m cK), .val (.int .i64 (k : Int)), .val (.pointer (some ⟨bo, oo + k * 6, none⟩)), .val (.pointer (some ⟨bo, oo + k * 6, none⟩)), .val (.agg #[.int .i64 x.id.1, .int .i64 x.id.2]), (kRow nodE ll ((lo x).map (nodeOf G)))] (fun wz => Below wq.heap.size wq wz) (by kernel_rfl) (by kernel_rfl) (fun wz wz' hz hb => hz.trans (hb.mono hz.size)) ((Below.refl _ _).drew) (fun u => by simp only [puts, List.foldl_cons, List.foldl_nil]; go_simp; exact rfl) ?_ ?_
    · simp only [List.take_succ_cons, List.take_zero]
      refine Obs.cons (fun u w hS hd => ?_) ?_
      · exact Gv.run (.slice Ao l0 co) rfl (by go_simp) rfl
      refine Obs.cons (fun u w hS hd => ?_) ?_
      · exact Gv.run (.agg #[.slice A1 L.length c1, .slice A2 G.length c2]) rfl (by obtain ⟨k0, k1, k2, k3, k4⟩ := HS.out w hS; go_simp) rfl
      refine Obs.cons (fun u w hS hd => ?_) ?_
      · exact Gv.run (.slice (some ⟨bo, oo, none⟩) m cK) rfl (by go_simp) rfl
      refine Obs.cons (fun u w hS hd => ?_) ?_
      · exact Gv.run (.int .i64 (k : Int)) rfl (by go_simp) rfl
      refine Obs.cons (fun u w hS hd => ?_) ?_
      · have d22 : u 22 = .slice (some ⟨bo, oo, none⟩) m cK := dep hd 2 rfl
        have d23 : u 23 = .int .i64 (k : Int) := dep hd 3 rfl
        rw [d22, d23]
        exact Gv.run (.pointer (some ⟨bo, oo + k * 6, none⟩)) rfl (by go_simp) rfl
      refine Obs.cons (fun u w hS hd => ?_) ?_
      · have d24 : u 24 = .pointer (some ⟨bo, oo + k * 6, none⟩) := dep hd 4 rfl
        rw [d24]
        exact Gv.run (.pointer (some ⟨bo, oo + k * 6, none⟩)) rfl (by go_simp) rfl
      refine Obs.cons (fun u w hS hd => ?_) ?_
      · have d25 : u 25 = .pointer (some ⟨bo, oo + k * 6, none⟩) := dep hd 5 rfl
        rw [d25]
        exact Gv.run (.agg #[.int .i64 x.id.1, .int .i64 x.id.2]) rfl (by obtain ⟨k0, k1, k2, k3, k4⟩ := HS.out w hS; go_simp) rfl
      refine Obs.cons (fun u w hS hd => ?_) ?_
      · have d21 : u 21 = .agg #[.slice A1 L.length c1, .slice A2 G.length c2] := dep hd 1 rfl
        have d26 : u 26 = .agg #[.int .i64 x.id.1, .int .i64 x.id.2] := dep hd 6 rfl
        rw [d21, d26]
        refine Gv.call 68 #[.agg #[.slice A1 L.length c1, .slice A2 G.length c2], idV x.id, .bool false] rfl (by go_simp) ((HI.out x HXM.out w (HT.out w hS)).1.mono ?_)
        rintro e w' ⟨A9, c9, rfl, o9, hb⟩
        exact ⟨_, rfl, ⟨A9, c9, by rw [HLL.out.1], o9.rd⟩, hb⟩
      exact Obs.nil
    intro u1 v3 hS hd
    have d20 : u1 20 = .slice Ao l0 co := hd 0 (by decide)
    obtain ⟨A9, c9, d27, r9⟩ : (kRow nodE ll ((lo x).map (nodeOf G))).ok (u1 27) v3 := hd 7 (by decide)
    rw [d20, d27]
    simp only [List.drop_succ_cons, List.drop_zero]
    have on := HON.out.keep hS
    have hbq := HBQ.out.trans (hS.mono HBQ.out.size)
    have HR9 := Lib.hid r9
    have HO9 := Lib.hid on
    have HB9 := Lib.hid hbq
    clear hS hd d20 d27 r9 on hbq HON HBQ
    go_wp2_with (at_builtin; refine wpList_appR v3 rfl (.tmp 20) (.tmp 27) _ rfl v2.heap.size 77 i0 _ Try.underlying47 hi0 hz0 hz1 hz2 rfl HEQ6.out.1 rfl HO9.out HEQ6.out.2 rfl HR9.out HLN6.out.1 HLN6.out.2 HB9.out.size ?_; intro A8 c8 w8 o8 hb8 hg8)
    obtain ⟨wq, ewq⟩ : ∃ v, v = w8 := ⟨_, rfl⟩
    subst ewq
    have HON := Lib.hid o8
    have HBQ := Lib.hid (HB9.out.trans hb8)
    obtain ⟨Ao, eAo⟩ : ∃ A, A = A8 := ⟨_, rfl⟩
    obtain ⟨co, eco⟩ : ∃ c, c = c8 := ⟨_, rfl⟩
    subst eAo
    subst eco
    clear o8 hb8 hg8 HR9 HO9 HB9 HS HT HG
    have HS := Lib.hid (fun wz (hz : Below wq.heap.size wq wz) => HW.out wz (HBQ.out.trans (hz.mono HBQ.out.size)))
    have HT := Lib.hid (fun wz (hz : Below wq.heap.size wq wz) => HW2.out wz (HBQ.out.trans (hz.mono HBQ.out.size)))
    have HG := Lib.hid (fun wz (hz : Below wq.heap.size wq wz) => rgone_any x.id wz (HT.out wz hz).1 (HT.out wz hz).2 HGL.out)
    go_upto_region 7 with fail
    refine wp_region_inv 20 [29, 30, 31, 32, 33, 34, 35, 36, 37, 38, 39, 40, 41, 42, 43, 44, 45, 46, 47, 48] [.val (.slice Ao (l0 + ll) co), .val (.slice (some ⟨bo, oo, none⟩) m cK), .val (.int .i64 (k : Int)), .val (.pointer (some ⟨bo, oo + k * 6, none⟩)), .val (.pointer (some ⟨bo, oo + k * 6, none⟩)), .val (.agg #[.int .i64 x.id.1, .int .i64 x.id.2]), .val (.slice (some ⟨bo, oo, none⟩) m cK), .val (.int .i64 (k : Int)), .val (.pointer (some ⟨bo, oo + k * 6, none⟩)), .val (.pointer (some ⟨bo, oo + k * 6 + 5, none⟩)), .val (.int .i32 x.rune), .val (.agg #[.slice A1 L.length c1, .slice A2 G.length c2]), .val (.slice (some ⟨bo, oo, none⟩) m cK), .val (.int .i64 (k : Int)), .val (.pointer (some ⟨bo, oo + k * 6, none⟩)), .val (.pointer (some ⟨bo, oo + k * 6, none⟩)), .val (.agg #[.int .i64 x.id.1, .int .i64 x.id.2]), .val (.bool (goneB G x.id)), .val (.agg #[.int .i64 x.id.1, .int .i64 x.id.2, .int .i32 x.rune, .bool (goneB G x.id)]), (kRow nodE 1 [nodeOf G x])] (fun wz => Below wq.heap.size wq wz) (by kernel_rfl) (by kernel_rfl) (fun wz wz' hz hb => hz.trans (hb.mono hz.size)) ((Below.refl _ _).drew) (fun u => by simp only [puts, List.foldl_cons, List.foldl_nil]; go_simp; exact rfl) ?_ ?_
    · simp only [List.take_succ_cons, List.take_zero]
      refine Obs.cons (fun u w hS hd => ?_) ?_
      · exact Gv.run (.slice Ao (l0 + ll) co) rfl (by go_simp) rfl
      refine Obs.cons (fun u w hS hd => ?_) ?_
      · exact Gv.run (.slice (some ⟨bo, oo, none⟩) m cK) rfl (by go_simp) rfl
      refine Obs.cons (fun u w hS hd => ?_) ?_
      · exact Gv.run (.int .i64 (k : Int)) rfl (by go_simp) rfl
      refine Obs.cons (fun u w hS hd => ?_) ?_
      · have d30 : u 30 = .slice (some ⟨bo, oo, none⟩) m cK := dep hd 1 rfl
        have d31 : u 31 = .int .i64 (k : Int) := dep hd 2 rfl
        rw [d30, d31]
        exact Gv.run (.pointer (some ⟨bo, oo + k * 6, none⟩)) rfl (by go_simp) rfl
      refine Obs.cons (fun u w hS hd => ?_) ?_
      · have d32 : u 32 = .pointer (some ⟨bo, oo + k * 6, none⟩) := dep hd 3 rfl
        rw [d32]
        exact Gv.run (.pointer (some ⟨bo, oo + k * 6, none⟩)) rfl (by go_simp) rfl
      refine Obs.cons (fun u w hS hd => ?_) ?_
      · have d33 : u 33 = .pointer (some ⟨bo, oo + k * 6, none⟩) := dep hd 4 rfl
        rw [d33]
        exact Gv.run (.agg #[.int .i64 x.id.1, .int .i64 x.id.2]) rfl (by obtain ⟨k0, k1, k2, k3, k4⟩ := HS.out w hS; go_simp) rfl
      refine Obs.cons (fun u w hS hd => ?_) ?_
      · exact Gv.run (.slice (some ⟨bo, oo, none⟩) m cK) rfl (by go_simp) rfl
      refine Obs.cons (fun u w hS hd => ?_) ?_
      · exact Gv.run (.int .i64 (k : Int)) rfl (by go_simp) rfl
      refine Obs.cons (fun u w hS hd => ?_) ?_
      · have d35 : u 35 = .slice (some ⟨bo, oo, none⟩) m cK := dep hd 6 rfl
        have d36 : u 36 = .int .i64 (k : Int) := dep hd 7 rfl
        rw [d35, d36]
        exact Gv.run (.pointer (some ⟨bo, oo + k * 6, none⟩)) rfl (by go_simp) rfl
      refine Obs.cons (fun u w hS hd => ?_) ?_
      · have d37 : u 37 = .pointer (some ⟨bo, oo + k * 6, none⟩) := dep hd 8 rfl
        rw [d37]
        exact Gv.run (.pointer (some ⟨bo, oo + k * 6 + 5, none⟩)) rfl (by go_simp) rfl
      refine Obs.cons (fun u w hS hd => ?_) ?_
      · have d38 : u 38 = .pointer (some ⟨bo, oo + k * 6 + 5, none⟩) := dep hd 9 rfl
        rw [d38]
        exact Gv.run (.int .i32 x.rune) rfl (by obtain ⟨k0, k1, k2, k3, k4⟩ := HS.out w hS; go_simp) rfl
      refine Obs.cons (fun u w hS hd => ?_) ?_
      · exact Gv.run (.agg #[.slice A1 L.length c1, .slice A2 G.length c2]) rfl (by obtain ⟨k0, k1, k2, k3, k4⟩ := HS.out w hS; go_simp) rfl
      refine Obs.cons (fun u w hS hd => ?_) ?_
      · exact Gv.run (.slice (some ⟨bo, oo, none⟩) m cK) rfl (by go_simp) rfl
      refine Obs.cons (fun u w hS hd => ?_) ?_
      · exact Gv.run (.int .i64 (k : Int)) rfl (by go_simp) rfl
      refine Obs.cons (fun u w hS hd => ?_) ?_
      · have d41 : u 41 = .slice (some ⟨bo, oo, none⟩) m cK := dep hd 12 rfl
        have d42 : u 42 = .int .i64 (k : Int) := dep hd 13 rfl
        rw [d41, d42]
        exact Gv.run (.pointer (some ⟨bo, oo + k * 6, none⟩)) rfl (by go_simp) rfl
      refine Obs.cons (fun u w hS hd => ?_) ?_
      · have d43 : u 43 = .pointer (some ⟨bo, oo + k * 6, none⟩) := dep hd 14 rfl
        rw [d43]
        exact Gv.run (.pointer (some ⟨bo, oo + k * 6, none⟩)) rfl (by go_simp) rfl
      refine Obs.cons (fun u w hS hd => ?_) ?_
      · have d44 : u 44 = .pointer (some ⟨bo, oo + k * 6, none⟩) := dep hd 15 rfl
        rw [d44]
        exact Gv.run (.agg #[.int .i64 x.id.1, .int .i64 x.id.2]) rfl (by obtain ⟨k0, k1, k2, k3, k4⟩ := HS.out w hS; go_simp) rfl
      refine Obs.cons (fun u w hS hd => ?_) ?_
      · have d40 : u 40 = .agg #[.slice A1 L.length c1, .slice A2 G.length c2] := dep hd 11 rfl
        have d45 : u 45 = .agg #[.int .i64 x.id.1, .int .i64 x.id.2] := dep hd 16 rfl
        rw [d40, d45]
        refine Gv.call 67 #[.agg #[.slice A1 L.length c1, .slice A2 G.length c2], .agg #[.int .i64 x.id.1, .int .i64 x.id.2]] rfl (by go_simp) ((HG.out w hS).mono ?_)
        rintro e w' ⟨rfl, hb⟩
        exact ⟨_, rfl, rfl, hb⟩
      refine Obs.cons (fun u w hS hd => ?_) ?_
      · have d34 : u 34 = .agg #[.int .i64 x.id.1, .int .i64 x.id.2] := dep hd 5 rfl
        have d39 : u 39 = .int .i32 x.rune := dep hd 10 rfl
        have d46 : u 46 = .bool (goneB G x.id) := dep hd 17 rfl
        rw [d34, d39, d46]
        exact Gv.run (.agg #[.int .i64 x.id.1, .int .i64 x.id.2, .int .i32 x.rune, .bool (goneB G x.id)]) rfl (by go_simp) rfl
      refine Obs.cons (fun u w hS hd => ?_) ?_
      · have d47 : u 47 = .agg #[.int .i64 x.id.1, .int .i64 x.id.2, .int .i32 x.rune, .bool (goneB G x.id)] := dep hd 18 rfl
        rw [d47]
        refine Gv.make (.slice (some ⟨w.heap.size, 0, none⟩) 1 1) (w.alloc (.cells #[.int .i64 x.id.1, .int .i64 x.id.2, .int .i32 x.rune, .bool (goneB G x.id)] 77)) rfl (by go_simp) ⟨_, _, rfl, ?_⟩ ((Below.refl _ w).alloc (Nat.le_refl _) _)
        exact (OwnR.lit (E := nodE) (w := w) 77 (Nat.le_refl _) #[.int .i64 x.id.1, .int .i64 x.id.2, .int .i32 x.rune, .bool (goneB G x.id)] [nodeOf G x] (by simp [maxLen]) rfl).rd
      exact Obs.nil
    intro u1 v3 hS hd
    have d29 : u1 29 = .slice Ao (l0 + ll) co := hd 0 (by decide)
    obtain ⟨A9, c9, d48, r9⟩ : (kRow nodE 1 ([nodeOf G x])).ok (u1 48) v3 := hd 19 (by decide)
    rw [d29, d48]
    simp only [List.drop_succ_cons, List.drop_zero]
    have on := HON.out.keep hS
    have hbq := HBQ.out.trans (hS.mono HBQ.out.size)
    have HR9 := Lib.hid r9
    have HO9 := Lib.hid on
    have HB9 := Lib.hid hbq
    clear hS hd d29 d48 r9 on hbq HON HBQ
    go_wp2_with (at_builtin; refine wpList_appR v3 rfl (.tmp 29) (.tmp 48) _ rfl v2.heap.size 77 i0 _ Try.underlying47 hi0 hz0 hz1 hz2 rfl HEQ7.out.1 rfl HO9.out HEQ7.out.2 rfl HR9.out HLN7.out.1 HLN7.out.2 HB9.out.size ?_; intro A8 c8 w8 o8 hb8 hg8)
    obtain ⟨wq, ewq⟩ : ∃ v, v = w8 := ⟨_, rfl⟩
    subst ewq
    have HON := Lib.hid o8
    have HBQ := Lib.hid (HB9.out.trans hb8)
    obtain ⟨Ao, eAo⟩ : ∃ A, A = A8 := ⟨_, rfl⟩
    obtain ⟨co, eco⟩ : ∃ c, c = c8 := ⟨_, rfl⟩
    subst eAo
    subst eco
    clear o8 hb8 hg8 HR9 HO9 HB9 HS HT HG
    have HS := Lib.hid (fun wz (hz : Below wq.heap.size wq wz) => HW.out wz (HBQ.out.trans (hz.mono HBQ.out.size)))
    have HT := Lib.hid (fun wz (hz : Below wq.heap.size wq wz) => HW2.out wz (HBQ.out.trans (hz.mono HBQ.out.size)))
    have HG := Lib.hid (fun wz (hz : Below wq.heap.size wq wz) => rgone_any x.id wz (HT.out wz hz).1 (HT.out wz hz).2 HGL.out)
    go_upto_region 8 with fail
    refine wp_region_inv 8 [50, 51, 52, 53, 54, 55, 56, 57] [.val (.slice Ao (l0 + ll + 1) co), .val (.agg #[.slice A1 L.length c1, .slice A2 G.length c2]), .val (.slice (some ⟨bo, oo, none⟩) m cK), .val (.int .i64 (k : Int)), .val (.pointer (some ⟨bo, oo + k * 6, none⟩)), .val (.pointer (some ⟨bo, oo + k * 6, none⟩)), .val (.agg #[.int .i64 x.id.1, .int .i64 x.id.2]), (kRow nodE lh ((hi x).map (nodeOf G)))] (fun wz => Below wq.heap.size wq wz) (by kernel_rfl) (by kernel_rfl) (fun wz wz' hz hb => hz.trans (hb.mono hz.size)) ((Below.refl _ _).drew) (fun u => by simp only [puts, List.foldl_cons, List.foldl_nil]; go_simp; exact rfl) ?_ ?_
    · simp only [List.take_succ_cons, List.take_zero]
      refine Obs.cons (fun u w hS hd => ?_) ?_
      · exact Gv.run (.slice Ao (l0 + ll + 1) co) rfl (by go_simp) rfl
      refine Obs.cons (fun u w hS hd => ?_) ?_
      · exact Gv.run (.agg #[.slice A1 L.length c1, .slice A2 G.length c2]) rfl (by obtain ⟨k0, k1, k2, k3, k4⟩ := HS.out w hS; go_simp) rfl
      refine Obs.cons (fun u w hS hd => ?_) ?_
      · exact Gv.run (.slice (some ⟨bo, oo, none⟩) m cK) rfl (by go_simp) rfl
      refine Obs.cons (fun u w hS hd => ?_) ?_
      · exact Gv.run (.int .i64 (k : Int)) rfl (by go_simp) rfl
      refine Obs.cons (fun u w hS hd => ?_) ?_
      · have d52 : u 52 = .slice (some ⟨bo, oo, none⟩) m cK := dep hd 2 rfl
        have d53 : u 53 = .int .i64 (k : Int) := dep hd 3 rfl
        rw [d52, d53]
        exact Gv.run (.pointer (some ⟨bo, oo + k * 6, none⟩)) rfl (by go_simp) rfl
      refine Obs.cons (fun u w hS hd => ?_) ?_
      · have d54 : u 54 = .pointer (some ⟨bo, oo + k * 6, none⟩) := dep hd 4 rfl
        rw [d54]
        exact Gv.run (.pointer (some ⟨bo, oo + k * 6, none⟩)) rfl (by go_simp) rfl
      refine Obs.cons (fun u w hS hd => ?_) ?_
      · have d55 : u 55 = .pointer (some ⟨bo, oo + k * 6, none⟩) := dep hd 5 rfl
        rw [d55]
        exact Gv.run (.agg #[.int .i64 x.id.1, .int .i64 x.id.2]) rfl (by obtain ⟨k0, k1, k2, k3, k4⟩ := HS.out w hS; go_simp) rfl
      refine Obs.cons (fun u w hS hd => ?_) ?_
      · have d51 : u 51 = .agg #[.slice A1 L.length c1, .slice A2 G.length c2] := dep hd 1 rfl
        have d56 : u 56 = .agg #[.int .i64 x.id.1, .int .i64 x.id.2] := dep hd 6 rfl
        rw [d51, d56]
        refine Gv.call 68 #[.agg #[.slice A1 L.length c1, .slice A2 G.length c2], idV x.id, .bool true] rfl (by go_simp) ((HI.out x HXM.out w (HT.out w hS)).2.mono ?_)
        rintro e w' ⟨A9, c9, rfl, o9, hb⟩
        exact ⟨_, rfl, ⟨A9, c9, by rw [HLL.out.2], o9.rd⟩, hb⟩
      exact Obs.nil
    intro u1 v3 hS hd
    have d50 : u1 50 = .slice Ao (l0 + ll + 1) co := hd 0 (by decide)
    obtain ⟨A9, c9, d57, r9⟩ : (kRow nodE lh ((hi x).map (nodeOf G))).ok (u1 57) v3 := hd 7 (by decide)
    rw [d50, d57]
    simp only [List.drop_succ_cons, List.drop_zero]
    have on := HON.out.keep hS
    have hbq := HBQ.out.trans (hS.mono HBQ.out.size)
    have HR9 := Lib.hid r9
    have HO9 := Lib.hid on
    have HB9 := Lib.hid hbq
    clear hS hd d50 d57 r9 on hbq HON HBQ
    go_wp2_with (at_builtin; refine wpList_appR v3 rfl (.tmp 50) (.tmp 57) _ rfl v2.heap.size 77 i0 _ Try.underlying47 hi0 hz0 hz1 hz2 rfl HEQ8.out.1 rfl HO9.out HEQ8.out.2 rfl HR9.out HLN8.out.1 HLN8.out.2 HB9.out.size ?_; intro A8 c8 w8 o8 hb8 hg8)
    have HFO := Lib.hid (And.intro o8 (HB9.out.trans hb8))
    clear o8 hb8 hg8 HR9 HO9 HB9 HS HT HG
    go_roundw
    case measure => simp [intF]; have := HFIN.out; omega
    refine ⟨k + 1, by omega, by go_num, ⟨A8, c8, ?_, ?_⟩, HFO.out.2⟩
    · rw [HE.out.1, HN.out.2.1, HN.out.2.2.1, HN.out.2.2.2]
      simp only [List.length_append, List.length_cons]
      congr 1
      omega
    · rw [HE.out.1]
      have h := HFO.out.1
      simpa using h
end Go.Proofs.Ytpjeggbkhbghaaa
namespace Go.Proofs.Ytpjeggbkhbghaaa
open Go Go.RowKit
set_option maxRecDepth 20000
theorem rbelow_any {v : Value} {B : Nat} {L : List Ins} {G : List IDt} (hok : Ok L) (hl : L.length ≤ 4096) (hg : G.length ≤ 1000000) : ∀ (n : Nat) (p : IDt) (s : Bool) (w : World), Deep L n p → RdT w B v L G → B ≤ w.heap.size →
    Calls Try.prog 68 #[v, idV p, .bool s] w fun e w' => ∃ A c, e = .returned (.slice A (belL (n + 1) L p s).length c) ∧ OwnR nodE w' w.heap.size 77 A c ((belL (n + 1) L p s).map (nodeOf G)) ∧ Below w.heap.size w w' := by
  intro n
  induction n with
  | zero =>
    intro p s w hd h hB
    cases hd with
    | zero h0 =>
      have hk := kids_none h0 s
      have := below_step (fun _ => []) (fun _ => []) p s w h hB hl hg (by rw [hk]; intro x hx; cases hx) (by rw [hk]; exact Nat.zero_le _)
      rw [hk] at this
      rw [bel_none h0]
      exact this
  | succ n ih =>
    intro p s w hd h hB
    cases hd with
    | succ h1 =>
      refine below_step (fun x => belL (n + 1) L x.id false) (fun x => belL (n + 1) L x.id true) p s w h hB hl hg (fun x hx wz hz => ?_) ?_
      · have hm := (mem_kids p s).1 hx
        have hdx := h1 x hm.1 (hangs_iff.1 hm.2).1
        exact ⟨ih x.id false wz hdx hz.1 hz.2, ih x.id true wz hdx hz.1 hz.2⟩
      · exact Nat.le_trans (bel_len hok s (.succ h1)) hl
theorem rnodes_any {v : Value} {B : Nat} {L : List Ins} {G : List IDt} (hok : Ok L) (hl : L.length ≤ 4096) (hg : G.length ≤ 1000000) (w : World) (h : RdT w B v L G) (hB : B ≤ w.heap.size) :
    Calls Try.prog 48 #[v] w fun e w' => ∃ A c, e = .returned (.slice A (nodesL L).length c) ∧ OwnR nodE w' w.heap.size 77 A c ((nodesL L).map (nodeOf G)) ∧ Below w.heap.size w w' := by
  obtain ⟨A1, c1, A2, c2, rfl, r1, r2⟩ := h
  obtain ⟨v1, ev⟩ : ∃ v, v = w.alloc (.cells #[.slice A1 L.length c1, .slice A2 G.length c2] 91) := ⟨_, rfl⟩
  obtain ⟨g, eg⟩ : ∃ g, g = w.heap.size := ⟨_, rfl⟩
  have hb : Below w.heap.size w v1 := by rw [ev]; exact (Below.refl _ _).alloc (Nat.le_refl _) _
  have hq : v1.cell? ⟨g, 0, none⟩ = some (.slice A1 L.length c1) ∧ v1.cell? ⟨g, 1, none⟩ = some (.slice A2 G.length c2) := by
    rw [ev, eg]
    simp
  have KB := Lib.hid (rbelow_any hok hl hg L.length (0, 0) true v1 (hok.deep _) ⟨A1, c1, A2, c2, rfl, r1.keep (hb.mono hB), r2.keep (hb.mono hB)⟩ (Nat.le_trans hB hb.size))
  have HV := Lib.hid (And.intro ev eg)
  have HB := Lib.hid hb
  obtain ⟨q0, q1⟩ := hq
  clear ev eg hb r1 r2 hok hl hg hB
  go_enter Try.func48, Try.ntmps48
  go_upto_region 1 with fail
  rw [← HV.out.1, ← HV.out.2]
  clear HV
  go_wp2_with fail
  go_at_call 68
  refine KB.out.mono ?_
  rintro e v2 ⟨A, c, rfl, o2, h2⟩
  go_wp2_with fail
  go_ret
  exact ⟨A, c, rfl, o2.mono HB.out.size, HB.out.trans (h2.mono HB.out.size)⟩
def onN (y : Nod) : Bool := !y.gone
theorem live_nodes (G : List IDt) (N : List Ins) : (N.map (nodeOf G)).filter onN = (liveL G N).map (nodeOf G) := by
  unfold liveL
  rw [List.filter_map]
  congr 1
  refine List.filter_congr fun y _ => ?_
  show (!goneB G y.id) = _
  rw [goneB_eq]
  simp
end Go.Proofs.Ytpjeggbkhbghaaa
