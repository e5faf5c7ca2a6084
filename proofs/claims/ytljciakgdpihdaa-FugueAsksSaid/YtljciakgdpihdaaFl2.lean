/-
  Layer 15: FuguePlays. By an AI agent.
-/
import Derived.Test.YtljciakgdpihdaaFl1
namespace Go.Proofs.Ytljciakgdpihdaa
open Go Go.RowKit
set_option maxRecDepth 20000
section
variable {R : TreeP} (K : FugC R)
include K
theorem fugueplays_much {A : Option Addr} {c n : Nat} (hn : 60 < n) (w : World) :
    Calls Try.prog 3 #[.slice A n c] w fun e w' => e = .returned (.bool true) ∧ Below w.heap.size w w' := by
  have g1 : (60 : Int) < (n : Int) := by omega
  clear hn
  go_enter Try.func3, Try.ntmps3
  go_wp2_with fail
  go_at_call 11
  refine (awake15 K w).mono ?_
  rintro z v9 ⟨rfl, h0⟩
  go_wp2_with fail
  go_ret
  exact ⟨rfl, h0⟩
set_option maxHeartbeats 12800000 in
theorem fugueplays_law {A : Option Addr} {c n : Nat} {l : List Dot} (hn : l.length = n) (hl : n ≤ 60) (w : World) (r : RdR doE w w.heap.size A c l) :
    Calls Try.prog 3 #[.slice A n c] w fun e w' => e = .returned (.bool true) ∧ Below w.heap.size w w' := by
  have g1 : ¬ (60 : Int) < (n : Int) := by omega
  have HN := Lib.hid hn
  have HL := Lib.hid (show l.length ≤ 4096 by omega)
  have HR := Lib.hid (fun wz (hz : Below w.heap.size w wz) => (r.keep hz : RdR doE wz w.heap.size A c l))
  clear hn r
  go_enter Try.func3, Try.ntmps3
  go_wp2_with fail
  go_at_call 12
  refine (play_new K w).mono ?_
  rintro z v2 ⟨p, rfl, hp⟩
  obtain ⟨v3, e3⟩ : ∃ v, v = v2.alloc (.cells #[.slice none 0 0, .slice none 0 0] 29) := ⟨_, rfl⟩
  obtain ⟨gr, egr⟩ : ∃ g, g = v2.heap.size := ⟨_, rfl⟩
  rw [← e3, ← egr] at hp
  have HP := Lib.hid hp
  have HV := Lib.hid (And.intro e3 egr)
  clear hp e3 egr
  go_upto_region 4 with fail
  rw [← HV.out.1, ← HV.out.2]
  clear HV
  go_wp2_with fail
  go_loopw [17] (fun i wr => ∃ k : Nat, k ≤ n ∧ i = .int .i64 (k : Int) ∧ Play R w gr p (txtK l k) wr) (fun i _ => n - (intF i).toNat)
  case atStart => exact ⟨0, Nat.zero_le _, rfl, HP.out⟩
  case round =>
    obtain ⟨k, hk, rfl, hp⟩ := hrel
    clear HP
    by_cases hlt : k < n
    · have g2 : (k : Int) < (n : Int) := by omega
      obtain ⟨x, hx⟩ := getD_of (L := l) (k := k) (by rw [HN.out]; exact hlt)
      obtain ⟨b, o, rfl, hbB, m0, m1, m2, m3, m4, m5, m6, m7, m8⟩ := do_at (HR.out wr hp.base) hx
      obtain ⟨v5, e5⟩ : ∃ v, v = wr.alloc (.cells (doC x) 35) := ⟨_, rfl⟩
      obtain ⟨g5, eg5⟩ : ∃ g, g = wr.heap.size := ⟨_, rfl⟩
      have hd : DoB v5 g5 x := by rw [e5, eg5]; exact do_box wr x
      have hp5 := Play.keep K hp (w' := v5) (by rw [e5]; exact (Below.refl _ _).alloc (Nat.le_refl _) _)
      have ht := txtK_ok (k := k) HL.out
      have HT := Lib.hid (show Ok (txtK l k).L ∧ (txtK l k).L.length ≤ 4096 ∧ (txtK l k).G.length ≤ 1000000 from ⟨ht.1, Nat.le_trans ht.2.1 HL.out, Nat.le_trans ht.2.2 (Nat.le_trans HL.out (by decide))⟩)
      have HX := Lib.hid (txtK_succ hx)
      have HK := Lib.hid hlt
      have HD := Lib.hid (And.intro hd hp5)
      have E5 := Lib.hid (And.intro e5 eg5)
      have hl9 := hl
      clear hd hp5 ht hx hlt hk e5 eg5 hp hbB
      go_upto_region 7 with fail
      rw [← E5.out.1, ← E5.out.2]
      clear E5 m0 m1 m2 m3 m4 m5 m6 m7 m8
      obtain ⟨⟨m0, m1, m2, m3, m4, m5, m6, m7, m8⟩, u1, u2, hPB, o5⟩ := HD.out
      have y0 := o5.c0
      have y1 := o5.c1
      have HQ := Lib.hid (And.intro hPB o5)
      clear hPB o5 HD
      go_wp2_with fail
      go_at_call 13
      refine (play_both K HQ.out.1 HQ.out.2 HT.out.1 HT.out.2.1 HT.out.2.2 x).mono ?_
      rintro z v6 ⟨z1, z2, rfl, hPB, o6⟩
      obtain ⟨A3, n3, c3, A4, n4, c4, rfl, rfl⟩ := hPB.slices
      clear m0 m1 m2 m3 m4 m5 m6 m7 m8 y0 y1
      obtain ⟨v7, e7⟩ : ∃ v, v = v6.alloc (.cells #[.slice A3 n3 c3, .slice A4 n4 c4] 29) := ⟨_, rfl⟩
      obtain ⟨g7, eg7⟩ : ∃ g, g = v6.heap.size := ⟨_, rfl⟩
      have hb7 : Below v6.heap.size v6 v7 := by rw [e7]; exact (Below.refl _ _).alloc (Nat.le_refl _) _
      have o7 : O2 v7 v6.heap.size 29 g7 (.slice A3 n3 c3) (.slice A4 n4 c4) := by rw [e7, eg7]; exact O2.newz (Nat.le_refl _) _ _ _
      have HZ := Lib.hid (And.intro (PlayB.keep K hPB hb7) (And.intro (show O2 v7 w.heap.size 29 gr u1 u2 from OwnF.keep o6 hb7) o7))
      have E7 := Lib.hid (And.intro e7 eg7)
      clear hPB o6 HQ e7 eg7 hb7 o7
      go_upto_region 8 with fail
      rw [← E7.out.1, ← E7.out.2]
      clear E7
      obtain ⟨hPB, o6, o7⟩ := HZ.out
      have y0 := o6.c0
      have y1 := o6.c1
      have f0 := o6.f0
      have f1 := o6.f1
      have x0' := o7.c0
      have x1' := o7.c1
      obtain ⟨v8, e8⟩ : ∃ v, v = set2 v7 gr (.slice A3 n3 c3) (.slice A4 n4 c4) := ⟨_, rfl⟩
      have hs8 := PlayB.store K hPB o6
      have o8 : O2 v8 w.heap.size 29 gr (.slice A3 n3 c3) (.slice A4 n4 c4) := by rw [e8]; exact o6.set_ _ _
      rw [← e8, ← HX.out] at hs8
      have H8 := Lib.hid hs8
      obtain ⟨u3, u4, hPB8, o8'⟩ := hs8
      have eq3 : u3 = .slice A3 n3 c3 := by have h1 := o8.c0; rw [o8'.c0] at h1; exact Option.some.inj h1
      have eq4 : u4 = .slice A4 n4 c4 := by have h1 := o8.c1; rw [o8'.c1] at h1; exact Option.some.inj h1
      subst eq3 eq4
      obtain ⟨F, hR, hV, _, _, hbo⟩ := hPB8
      have ht := txtK_ok (k := k + 1) HL.out
      obtain ⟨t, et⟩ : ∃ t, t = txtK l (k + 1) := ⟨_, rfl⟩
      rw [← et] at ht hR hV
      have hok := ht.1
      have hl4 : t.L.length ≤ 4096 := Nat.le_trans ht.2.1 HL.out
      have hg6 : t.G.length ≤ 1000000 := Nat.le_trans ht.2.2 (Nat.le_trans HL.out (by decide))
      obtain ⟨m, em⟩ : ∃ m, m = (nodesL t.L).length := ⟨_, rfl⟩
      obtain ⟨q, eq⟩ : ∃ m, m = (liveL t.G (nodesL t.L)).length := ⟨_, rfl⟩
      obtain ⟨TX, eTX⟩ : ∃ m, m = textN ((liveL t.G (nodesL t.L)).map (nodeOf t.G)) := ⟨_, rfl⟩
      have hm4 : m ≤ 4096 := by rw [em]; exact Nat.le_trans (nodes_len hok) hl4
      have HT8 := Lib.hid (fun wz (hz : Below v8.heap.size v8 wz) => show R wz F p t.L t.G ∧ RdT wz v8.heap.size (.agg #[.slice A3 n3 c3, .slice A4 n4 c4]) t.L t.G ∧ O2 wz w.heap.size 29 gr (.slice A3 n3 c3) (.slice A4 n4 c4) ∧ v8.heap.size ≤ wz.heap.size from
        ⟨K.next hR hz, hV.keep hz, OwnF.keep o8 hz, hz.size⟩)
      have HS := Lib.hid (fun wz (hz : Below v8.heap.size v8 wz) => And.intro (HT8.out wz hz).2.2.1.c0 (HT8.out wz hz).2.2.1.c1)
      have HNo := Lib.hid (fun wz (hz : Below v8.heap.size v8 wz) => (K.nodes wz (HT8.out wz hz).1 hok hl4).mono (R' := fun e w' => ∃ A9 c9, e = .returned (.slice A9 (nodesL t.L).length c9) ∧ RdR nodE w' w'.heap.size A9 c9 ((nodesL t.L).map (nodeOf t.G)) ∧ Below wz.heap.size wz w') fun e w' ⟨A9, c9, he, hr, _, hb⟩ => ⟨A9, c9, he, hr, hb⟩)
      have HRNo := Lib.hid (fun wz (hz : Below v8.heap.size v8 wz) => (rnodes_any hok hl4 hg6 wz (HT8.out wz hz).2.1 (HT8.out wz hz).2.2.2).mono (R' := fun e w' => ∃ A9 c9, e = .returned (.slice A9 (nodesL t.L).length c9) ∧ RdR nodE w' w'.heap.size A9 c9 ((nodesL t.L).map (nodeOf t.G)) ∧ Below wz.heap.size wz w') fun e w' ⟨A9, c9, he, hr, hb⟩ => ⟨A9, c9, he, hr.rd, hb⟩)
      have HRLi := Lib.hid (fun wz (hz : Below v8.heap.size v8 wz) => (rlive_any hok hl4 hg6 wz (HT8.out wz hz).2.1 (HT8.out wz hz).2.2.2).mono (R' := fun e w' => ∃ A9 c9, e = .returned (.slice A9 (liveL t.G (nodesL t.L)).length c9) ∧ RdR nodE w' w'.heap.size A9 c9 ((liveL t.G (nodesL t.L)).map (nodeOf t.G)) ∧ Below wz.heap.size wz w') fun e w' ⟨A9, c9, he, hr, hb⟩ => ⟨A9, c9, he, hr.rd, hb⟩)
      have HTx := Lib.hid (fun wz (hz : Below v8.heap.size v8 wz) => (K.text wz (HT8.out wz hz).1 hok hl4))
      have HRTx := Lib.hid (fun wz (hz : Below v8.heap.size v8 wz) => (rtextF_any hok hl4 hg6 wz (HT8.out wz hz).2.1 (HT8.out wz hz).2.2.2))
      have HLe := Lib.hid (fun wz (hz : Below v8.heap.size v8 wz) => (K.len wz (HT8.out wz hz).1 hok hl4))
      have HSa := Lib.hid (fun (A8 A9 : Option Addr) (c8 c9 : Nat) (wz : World) (r8 : RdR nodE wz wz.heap.size A8 c8 ((nodesL t.L).map (nodeOf t.G))) (r9 : RdR nodE wz wz.heap.size A9 c9 ((nodesL t.L).map (nodeOf t.G))) => show Calls Try.prog 14 #[.slice A8 m c8, .slice A9 m c9] wz fun e w' => e = .returned (.bool true) ∧ Below wz.heap.size wz w' from by
        have h := rsame_any wz r8 r9 (Nat.le_refl _) (Nat.le_refl _) (by rw [List.length_map, ← em]; exact Nat.le_trans hm4 (by decide))
        rw [List.length_map, ← em, sameB_yes rfl] at h
        exact h)
      rw [← em] at HNo HRNo
      rw [← eq] at HRLi HLe
      rw [← eTX] at HTx HRTx
      have E8 := Lib.hid e8
      clear e8 o8 o8' hR hV hbo ht et hok hl4 hg6 em eq eTX hm4 hPB o6 o7 HZ HT HX
      go_upto_region 9 with fail
      rw [show (v7.setCell ⟨gr, 0, none⟩ (.slice A3 n3 c3)).setCell ⟨gr, 1, none⟩ (.slice A4 n4 c4) = v8 by rw [E8.out]; rfl]
      clear E8 y0 y1 f0 f1 x0' x1'
      refine wp_region_inv 24 [29, 30, 31, 32, 33, 34, 35, 36, 37, 38, 39, 40, 41, 42, 43, 44, 45, 46, 47, 48, 49, 50, 51, 52] [.val (.bool true), .val (.bool false), .val (.bool false), .val (p), (kRow nodE m ((nodesL t.L).map (nodeOf t.G))), .val (.agg #[.slice A3 n3 c3, .slice A4 n4 c4]), (kRow nodE m ((nodesL t.L).map (nodeOf t.G))), .val (.bool true), .val (.bool false), .val (.bool false), .val (.bool false), .val (p), .val (.string TX), .val (.agg #[.slice A3 n3 c3, .slice A4 n4 c4]), .val (.string TX), .val (.bool false), .val (.bool false), .val (.bool false), .val (p), .val (.int .i64 (q : Int)), .val (.agg #[.slice A3 n3 c3, .slice A4 n4 c4]), (kRow nodE q ((liveL t.G (nodesL t.L)).map (nodeOf t.G))), .val (.int .i64 (q : Int)), .val (.bool false)] (fun wz => Below v8.heap.size v8 wz) (by kernel_rfl) (by kernel_rfl) (fun wz wz' hz hb => hz.trans (hb.mono hz.size)) ((Below.refl _ _).drew) (fun u => by simp only [puts, List.foldl_cons, List.foldl_nil]; go_simp; exact rfl) ?_ ?_
      · simp only [List.take_succ_cons, List.take_zero]
        refine Obs.cons (fun u w hS hd => ?_) ?_
        · exact Gv.run (.bool true) rfl (by go_simp) rfl
        refine Obs.cons (fun u w hS hd => ?_) ?_
        · have d29 : u 29 = .bool true := dep hd 0 rfl
          rw [d29]
          exact Gv.run (.bool false) rfl (by go_simp) rfl
        refine Obs.cons (fun u w hS hd => ?_) ?_
        · have d30 : u 30 = .bool false := dep hd 1 rfl
          rw [d30]
          exact Gv.run (.bool false) rfl (by go_simp) rfl
        refine Obs.cons (fun u w hS hd => ?_) ?_
        · have d31 : u 31 = .bool false := dep hd 2 rfl
          rw [d31]
          exact Gv.run (p) rfl (by go_simp) rfl
        refine Obs.cons (fun u w hS hd => ?_) ?_
        · have d32 : u 32 = p := dep hd 3 rfl
          have d31 : u 31 = .bool false := dep hd 2 rfl
          rw [d32, d31]
          refine Gv.call 15 #[p] rfl (by go_simp) ((HNo.out w hS).mono ?_)
          rintro e w' ⟨A9, c9, rfl, r9, hb⟩
          exact ⟨_, rfl, ⟨A9, c9, rfl, r9⟩, hb⟩
        refine Obs.cons (fun u w hS hd => ?_) ?_
        · have d31 : u 31 = .bool false := dep hd 2 rfl
          rw [d31]
          exact Gv.run (.agg #[.slice A3 n3 c3, .slice A4 n4 c4]) rfl (by obtain ⟨k0, k1⟩ := HS.out w hS; go_simp) rfl
        refine Obs.cons (fun u w hS hd => ?_) ?_
        · have d34 : u 34 = .agg #[.slice A3 n3 c3, .slice A4 n4 c4] := dep hd 5 rfl
          have d31 : u 31 = .bool false := dep hd 2 rfl
          rw [d34, d31]
          refine Gv.call 16 #[.agg #[.slice A3 n3 c3, .slice A4 n4 c4]] rfl (by go_simp) ((HRNo.out w hS).mono ?_)
          rintro e w' ⟨A9, c9, rfl, r9, hb⟩
          exact ⟨_, rfl, ⟨A9, c9, rfl, r9⟩, hb⟩
        refine Obs.cons (fun u w hS hd => ?_) ?_
        · have d31 : u 31 = .bool false := dep hd 2 rfl
          rw [d31]
          obtain ⟨A8, c8, e8, r8⟩ : (kRow nodE m ((nodesL t.L).map (nodeOf t.G))).ok (u 33) w := dep hd 4 rfl
          obtain ⟨A9, c9, e9, r9⟩ : (kRow nodE m ((nodesL t.L).map (nodeOf t.G))).ok (u 35) w := dep hd 6 rfl
          rw [e8, e9]
          refine Gv.call 14 #[.slice A8 m c8, .slice A9 m c9] rfl (by go_simp) ((HSa.out A8 A9 c8 c9 w r8 r9).mono ?_)
          rintro e w' ⟨rfl, hb⟩
          exact ⟨_, rfl, rfl, hb⟩
        refine Obs.cons (fun u w hS hd => ?_) ?_
        · have d36 : u 36 = .bool true := dep hd 7 rfl
          have d31 : u 31 = .bool false := dep hd 2 rfl
          rw [d36, d31]
          exact Gv.run (.bool false) rfl (by go_simp) rfl
        refine Obs.cons (fun u w hS hd => ?_) ?_
        · have d31 : u 31 = .bool false := dep hd 2 rfl
          have d37 : u 37 = .bool false := dep hd 8 rfl
          rw [d31, d37]
          exact Gv.run (.bool false) rfl (by go_simp) rfl
        refine Obs.cons (fun u w hS hd => ?_) ?_
        · have d38 : u 38 = .bool false := dep hd 9 rfl
          rw [d38]
          exact Gv.run (.bool false) rfl (by go_simp) rfl
        refine Obs.cons (fun u w hS hd => ?_) ?_
        · have d39 : u 39 = .bool false := dep hd 10 rfl
          rw [d39]
          exact Gv.run (p) rfl (by go_simp) rfl
        refine Obs.cons (fun u w hS hd => ?_) ?_
        · have d40 : u 40 = p := dep hd 11 rfl
          have d39 : u 39 = .bool false := dep hd 10 rfl
          rw [d40, d39]
          refine Gv.call 17 #[p] rfl (by go_simp) ((HTx.out w hS).mono ?_)
          rintro e w' ⟨rfl, hb⟩
          exact ⟨_, rfl, rfl, hb⟩
        refine Obs.cons (fun u w hS hd => ?_) ?_
        · have d39 : u 39 = .bool false := dep hd 10 rfl
          rw [d39]
          exact Gv.run (.agg #[.slice A3 n3 c3, .slice A4 n4 c4]) rfl (by obtain ⟨k0, k1⟩ := HS.out w hS; go_simp) rfl
        refine Obs.cons (fun u w hS hd => ?_) ?_
        · have d42 : u 42 = .agg #[.slice A3 n3 c3, .slice A4 n4 c4] := dep hd 13 rfl
          have d39 : u 39 = .bool false := dep hd 10 rfl
          rw [d42, d39]
          refine Gv.call 18 #[.agg #[.slice A3 n3 c3, .slice A4 n4 c4]] rfl (by go_simp) ((HRTx.out w hS).mono ?_)
          rintro e w' ⟨rfl, hb⟩
          exact ⟨_, rfl, rfl, hb⟩
        refine Obs.cons (fun u w hS hd => ?_) ?_
        · have d41 : u 41 = .string TX := dep hd 12 rfl
          have d43 : u 43 = .string TX := dep hd 14 rfl
          have d39 : u 39 = .bool false := dep hd 10 rfl
          rw [d41, d43, d39]
          exact Gv.run (.bool false) rfl (by go_simp) rfl
        refine Obs.cons (fun u w hS hd => ?_) ?_
        · have d39 : u 39 = .bool false := dep hd 10 rfl
          have d44 : u 44 = .bool false := dep hd 15 rfl
          rw [d39, d44]
          exact Gv.run (.bool false) rfl (by go_simp) rfl
        refine Obs.cons (fun u w hS hd => ?_) ?_
        · have d45 : u 45 = .bool false := dep hd 16 rfl
          rw [d45]
          exact Gv.run (.bool false) rfl (by go_simp) rfl
        refine Obs.cons (fun u w hS hd => ?_) ?_
        · have d46 : u 46 = .bool false := dep hd 17 rfl
          rw [d46]
          exact Gv.run (p) rfl (by go_simp) rfl
        refine Obs.cons (fun u w hS hd => ?_) ?_
        · have d47 : u 47 = p := dep hd 18 rfl
          have d46 : u 46 = .bool false := dep hd 17 rfl
          rw [d47, d46]
          refine Gv.call 19 #[p] rfl (by go_simp) ((HLe.out w hS).mono ?_)
          rintro e w' ⟨rfl, hb⟩
          exact ⟨_, rfl, rfl, hb⟩
        refine Obs.cons (fun u w hS hd => ?_) ?_
        · have d46 : u 46 = .bool false := dep hd 17 rfl
          rw [d46]
          exact Gv.run (.agg #[.slice A3 n3 c3, .slice A4 n4 c4]) rfl (by obtain ⟨k0, k1⟩ := HS.out w hS; go_simp) rfl
        refine Obs.cons (fun u w hS hd => ?_) ?_
        · have d49 : u 49 = .agg #[.slice A3 n3 c3, .slice A4 n4 c4] := dep hd 20 rfl
          have d46 : u 46 = .bool false := dep hd 17 rfl
          rw [d49, d46]
          refine Gv.call 20 #[.agg #[.slice A3 n3 c3, .slice A4 n4 c4]] rfl (by go_simp) ((HRLi.out w hS).mono ?_)
          rintro e w' ⟨A9, c9, rfl, r9, hb⟩
          exact ⟨_, rfl, ⟨A9, c9, rfl, r9⟩, hb⟩
        refine Obs.cons (fun u w hS hd => ?_) ?_
        · have d46 : u 46 = .bool false := dep hd 17 rfl
          rw [d46]
          obtain ⟨A9, c9, e9, r9⟩ : (kRow nodE q ((liveL t.G (nodesL t.L)).map (nodeOf t.G))).ok (u 50) w := dep hd 21 rfl
          rw [e9]
          exact Gv.run (.int .i64 (q : Int)) rfl (by go_simp) rfl
        refine Obs.cons (fun u w hS hd => ?_) ?_
        · have d48 : u 48 = .int .i64 (q : Int) := dep hd 19 rfl
          have d51 : u 51 = .int .i64 (q : Int) := dep hd 22 rfl
          have d46 : u 46 = .bool false := dep hd 17 rfl
          rw [d48, d51, d46]
          exact Gv.run (.bool false) rfl (by go_simp) rfl
        exact Obs.nil
      intro u v9 hS hd
      have d46 : u 46 = .bool false := hd 17 (by decide)
      have d52 : u 52 = .bool false := hd 23 (by decide)
      simp only [List.drop_succ_cons, List.drop_zero]
      have H9 := Lib.hid (Play.keep K H8.out hS)
      clear hS hd
      rw [d46, d52]
      clear d46 d52
      go_wp2_with fail
      go_roundw
      case rel => exact ⟨k + 1, HK.out, by go_num, H9.out⟩
      case measure => simp [intF]; have := HK.out; omega
    · obtain rfl : k = n := by omega
      have hbo := hp.base
      clear HR hp
      go_wp2_with fail
      go_at_call 11
      refine (awake15 K wr).mono ?_
      rintro z v9 ⟨rfl, h0⟩
      have H9 := Lib.hid (hbo.trans (h0.mono hbo.size))
      clear hbo h0
      go_wp2_with fail
      go_ret
      exact ⟨rfl, H9.out⟩

end
end Go.Proofs.Ytljciakgdpihdaa
