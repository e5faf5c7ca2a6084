/-
  The document's reader: Text (layer 13). By an AI agent.
-/
import Derived.Test.YtonfdnihllhcbaaWi6
namespace Go.Proofs.Ytonfdnihllhcbaa
open Go Go.RowKit
set_option maxRecDepth 20000
theorem numR_err {bs : List UInt8} {e least most : Int} (h : (numR bs e least most).2.1 ≠ 0) : (numR bs e least most).1 = bs ∧ (numR bs e least most).2.2 = 0 := by
  unfold numR at h ⊢
  split
  · exact ⟨rfl, rfl⟩
  · rename_i h1
    rw [if_neg h1] at h
    split
    · exact ⟨rfl, rfl⟩
    · rename_i h2
      rw [if_neg h2] at h
      split
      · exact ⟨rfl, rfl⟩
      · rename_i h3
        rw [if_neg h3] at h
        exact absurd rfl h
set_option maxHeartbeats 6400000 in
theorem rtextA_any {A : Option Addr} {B c : Nat} {bs : List UInt8} (e most : Int) (w : World) (hr : Rd w B A c bs) (hB : B ≤ w.heap.size) :
    Calls Try.prog 33 #[atV A bs.length c e, .int .i64 most] w fun x w' => ∃ A' c' A2 c2, x = .returned (.tuple #[atV A' (textR bs e most).1.length c' (textR bs e most).2.1, .slice A2 (textR bs e most).2.2.length c2]) ∧ Rd w' B A' c' (textR bs e most).1 ∧ Rd w' B A2 c2 (textR bs e most).2.2 ∧ Below w.heap.size w w' := by
  have hnil : ∀ wz : World, Rd wz B none 0 [] := fun _ => ⟨Nat.le_refl _, fun _ => ⟨rfl, rfl⟩, fun h => absurd rfl h⟩
  obtain ⟨n, en⟩ : ∃ n, n = bs.length := ⟨_, rfl⟩
  obtain ⟨v1, g, gz, e1, eg, ez, o1, oz, hgz, hc⟩ := at_both w A none n c 0 0 e 0
  have hr1 := hr.keep (hc.mono hB)
  have KN := Lib.hid (rnumA_any e 0 (Far : Int) v1 hr1 (Nat.le_trans hB hc.size))
  obtain ⟨Z, hZ⟩ : ∃ Z, Z = textR bs e most := ⟨_, rfl⟩
  rw [← hZ]
  unfold textR at hZ
  obtain ⟨N, hN⟩ : ∃ N, N = numR bs e 0 Far := ⟨_, rfl⟩
  rw [← hN] at KN hZ
  obtain ⟨rs, e2, x⟩ := N
  simp only at KN hZ
  rw [← en] at KN ⊢
  have HE := Lib.hid en
  have HB := Lib.hid hB
  have HR1 := Lib.hid hr1
  clear hr hr1 hB hN en
  go_enter Try.func33, Try.ntmps33
  go_wp2_with fail
  rw [← e1, ← ez, ← eg]
  clear e1 ez eg
  go_at_call 32
  refine KN.out.mono ?_
  rintro z v2 ⟨A2, c2, rfl, r2, h0⟩
  replace oz := oz.keep h0
  replace o1 := o1.keep h0
  have hr1 := HR1.out.keep (h0.mono (Nat.le_trans HB.out hc.size))
  replace hc := hc.trans (h0.mono hc.size)
  clear h0 KN HR1
  have h3 : Below v2.heap.size v2 (v2.alloc (.cells (atC A2 rs.length c2 e2) 34)) := (Below.refl _ _).alloc (Nat.le_refl _) _
  have o3 := OAt.newz (w := v2) (B := v2.heap.size) (Nat.le_refl _) A2 rs.length c2 e2
  obtain ⟨v3, e3⟩ : ∃ v, v = v2.alloc (.cells (atC A2 rs.length c2 e2) 34) := ⟨_, rfl⟩
  obtain ⟨g3, eg3⟩ : ∃ g, g = v2.heap.size := ⟨_, rfl⟩
  rw [← e3] at h3 o3
  have hgg : gz < g3 ∧ g < g3 := by rw [eg3]; exact ⟨oz.lt, o1.lt⟩
  replace oz := oz.keep h3
  replace o1 := o1.keep h3
  replace r2 := r2.keep (h3.mono (Nat.le_trans HB.out hc.size))
  replace hr1 := hr1.keep (h3.mono (Nat.le_trans HB.out hc.size))
  have o3' : OAt v3 w.heap.size g3 A2 rs.length c2 e2 := by rw [eg3]; exact o3.mono hc.size
  replace hc := hc.trans (h3.mono hc.size)
  obtain ⟨l, el⟩ : ∃ l, l = rs.length := ⟨_, rfl⟩
  have hcap2 := r2.cap
  rw [← el] at o3' e3 hZ hcap2
  have HZ := Lib.hid (And.intro o1 (And.intro oz (And.intro o3' (And.intro hc (And.intro r2 (And.intro hr1 hgg))))))
  have HEL := Lib.hid el
  have HE3 := Lib.hid (And.intro e3 eg3)
  clear o3 o3' oz o1 r2 hr1 h3 hc e3 eg3 hgg
  rw [← HEL.out]
  clear el
  go_upto_region 2 with fail
  rw [← HE3.out.1, ← HE3.out.2]
  clear HE3
  obtain ⟨o1, oz, o3, hc, r2, hr1, hgg⟩ := HZ.out
  clear HZ
  have k0 := o1.c0
  have k1 := o1.c1
  have z0 := oz.c0
  have z1 := oz.c1
  have f0 := oz.f0
  have f1 := oz.f1
  have m0 := o3.c0
  have m1 := o3.c1
  by_cases h1 : e2 = 0
  case neg =>
    have HN := Lib.hid (show Z = (rs, e2, []) by rw [hZ, if_pos h1])
    have g1 : (e2 != 0) = true := by simp [h1]
    have o2 := oz.set_ A2 l c2 e2
    have hb2 := oz.below A2 l c2 e2
    have HO := Lib.hid (And.intro o2 (And.intro (hc.trans hb2) (r2.keep (hb2.mono HB.out))))
    clear oz hc o2 hb2 o1 o3 r2 hr1 h1 hZ hcap2
    go_wp2_with fail
    refine bodyPost_ret (at_results2 Try.results33 _ HO.out.1 rfl rfl) rfl ?_
    rw [HN.out]
    exact ⟨A2, c2, none, 0, by rw [HEL.out]; rfl, HO.out.2.2, hnil _, HO.out.2.1⟩
  subst h1
  rw [if_neg (by simp)] at hZ
  by_cases h2 : max most 0 < (x : Int)
  case pos =>
    have HN := Lib.hid (show Z = (bs, 2, []) by rw [hZ, if_pos h2])
    have hor : (most < 0 ∧ (0 : Int) < (x : Int)) ∨ (¬ most < 0 ∧ most < (x : Int)) := by omega
    have HF := Lib.hid (fun v => rfail_any A n c e 2 v)
    have HO0 := Lib.hid (And.intro oz (And.intro hc hr1))
    clear oz hc o1 o3 r2 hr1 h2 hZ hcap2
    rcases hor with ⟨q1, q2⟩ | ⟨q1, q2⟩
    all_goals
      go_wp2_with fail
      go_at_call 40
      refine (HF.out _).mono ?_
      rintro z v4 ⟨rfl, h0⟩
      clear k0 k1 z0 z1 f0 f1 m0 m1 HF
      obtain ⟨oz, hc, hr1⟩ := HO0.out
      replace oz := oz.keep h0
      replace hr1 := hr1.keep (h0.mono (Nat.le_trans HB.out hc.size))
      replace hc := hc.trans (h0.mono hc.size)
      clear h0 HO0
      have z0 := oz.c0
      have z1 := oz.c1
      have f0 := oz.f0
      have f1 := oz.f1
      have o2 := oz.set_ A n c 2
      have hb2 := oz.below A n c 2
      have HO := Lib.hid (And.intro o2 (And.intro (hc.trans hb2) (hr1.keep (hb2.mono HB.out))))
      clear oz hr1 hc o2 hb2
      go_wp2_with fail
      refine bodyPost_ret (at_results2 Try.results33 _ HO.out.1 rfl rfl) rfl ?_
      rw [HN.out]
      exact ⟨A, c, none, 0, by rw [HE.out]; rfl, HO.out.2.2, hnil _, HO.out.2.1⟩
  rw [if_neg h2] at hZ
  have hor : (most < 0 ∧ ¬ (0 : Int) < (x : Int)) ∨ (¬ most < 0 ∧ ¬ most < (x : Int)) := by omega
  clear h2
  by_cases h3 : l < x
  case pos =>
    have HN := Lib.hid (show Z = (bs, 3, []) by rw [hZ, if_pos h3])
    have q3 : (l : Int) < (x : Int) := by omega
    obtain ⟨q1, q2⟩ : ¬ most < 0 ∧ ¬ most < (x : Int) := by omega
    clear hor
    have HF := Lib.hid (fun v => rfail_any A n c e 3 v)
    have HO0 := Lib.hid (And.intro oz (And.intro hc hr1))
    clear oz hc o1 o3 r2 hr1 h3 hZ hcap2
    go_wp2_with fail
    go_at_call 40
    refine (HF.out _).mono ?_
    rintro z v4 ⟨rfl, h0⟩
    clear k0 k1 z0 z1 f0 f1 m0 m1 HF
    obtain ⟨oz, hc, hr1⟩ := HO0.out
    replace oz := oz.keep h0
    replace hr1 := hr1.keep (h0.mono (Nat.le_trans HB.out hc.size))
    replace hc := hc.trans (h0.mono hc.size)
    clear h0 HO0
    have z0 := oz.c0
    have z1 := oz.c1
    have f0 := oz.f0
    have f1 := oz.f1
    have o2 := oz.set_ A n c 3
    have hb2 := oz.below A n c 3
    have HO := Lib.hid (And.intro o2 (And.intro (hc.trans hb2) (hr1.keep (hb2.mono HB.out))))
    clear oz hr1 hc o2 hb2
    go_wp2_with fail
    refine bodyPost_ret (at_results2 Try.results33 _ HO.out.1 rfl rfl) rfl ?_
    rw [HN.out]
    exact ⟨A, c, none, 0, by rw [HE.out]; rfl, HO.out.2.2, hnil _, HO.out.2.1⟩
  case neg =>
    have q3 : ¬ (l : Int) < (x : Int) := by omega
    have HN := Lib.hid (show Z = (rs.drop x, 0, rs.take x) by rw [hZ, if_neg h3])
    have hdl : (rs.drop x).length = l - x := by rw [List.length_drop, HEL.out]
    have htl : (rs.take x).length = x := by rw [List.length_take, ← HEL.out]; omega
    have HL := Lib.hid (And.intro (show x ≤ l by omega) (And.intro (show x ≤ c2 by omega) (And.intro hdl htl)))
    have hd := r2.drop_ (l := x) (by rw [← HEL.out]; omega)
    have ht := r2.cut0 (n := x) (by rw [← HEL.out]; omega)
    obtain ⟨A4, eA4⟩ : ∃ A4, A4 = subA A2 c2 x := ⟨_, rfl⟩
    obtain ⟨A5, eA5⟩ : ∃ A5, A5 = subA A2 c2 0 := ⟨_, rfl⟩
    rw [← eA4] at hd
    rw [← eA5] at ht
    have HA2 := Lib.hid eA4
    have HA3 := Lib.hid eA5
    have HD := Lib.hid (And.intro hd (And.intro ht (And.intro hc (And.intro oz o3))))
    clear hZ h3 hdl htl hd ht eA4 eA5 hr1 r2 oz hc o1 o3 k0 k1 hcap2 HE
    rcases hor with ⟨q1, q2⟩ | ⟨q1, q2⟩
    all_goals
      go_upto_region 8 with fail
      clear z0 z1 f0 f1 m0 m1 q1 q2 q3
      obtain ⟨hd, ht, hc, oz, o3⟩ := HD.out
      have hs1 := hc.size
      refine wp_region_par 10 8 [some 30, some 31, some 32, some 33, some 34, some 35, some 36, some 37, some 38, none] [9] [some (.pointer (some ⟨g3, 0, none⟩)), some (.slice A2 l c2), some (.int .i64 (x : Int)), some (.slice A4 (l - x) (c2 - x)), some (atV A4 (l - x) (c2 - x) 0), some (.pointer (some ⟨g3, 0, none⟩)), some (.slice A2 l c2), some (.int .i64 (x : Int)), some (.slice A5 x c2), none]
        (fun L _ wz => OAt wz w.heap.size g3 A2 l c2 0 ∧ (L 9 = false → OAt wz w.heap.size gz none 0 0 0) ∧ (L 9 = true → OAt wz w.heap.size gz A4 (l - x) (c2 - x) 0) ∧ Below w.heap.size v3 wz) (by kernel_rfl) (by kernel_rfl)
        (fun _ => ⟨o3, fun _ => oz, fun h => absurd h (by decide), (Below.refl _ _).drew⟩) (fun u => by simp only [List.filterMap_cons, List.filterMap_nil, puts, List.foldl_cons, List.foldl_nil]; go_simp; exact rfl) ?_ ?_
      · simp only [List.take_succ_cons, List.take_zero]
        refine Par.soft rfl rfl (.pointer (some ⟨g3, 0, none⟩)) rfl (fun u w L V hT hh => ⟨rfl, by go_simp⟩) ?_
        refine Par.soft rfl rfl (.slice A2 l c2) rfl (fun u w L V hT hh => ⟨rfl, by have d30 : u 30 = .pointer (some ⟨g3, 0, none⟩) := hh.val 0 _ rfl rfl; rw [d30]; have k0 := hT.1.c0; go_simp⟩) ?_
        refine Par.soft rfl rfl (.int .i64 (x : Int)) rfl (fun u w L V hT hh => ⟨rfl, by go_simp⟩) ?_
        refine Par.soft rfl rfl (.slice A4 (l - x) (c2 - x)) rfl (fun u w L V hT hh => ⟨rfl, by have d31 : u 31 = .slice A2 l c2 := hh.val 1 _ rfl rfl; have d32 : u 32 = .int .i64 (x : Int) := hh.val 2 _ rfl rfl; rw [d31, d32, HA2.out]; exact slice_op_lo rfl rfl rfl HL.out.1⟩) ?_
        refine Par.soft rfl rfl (atV A4 (l - x) (c2 - x) 0) rfl (fun u w L V hT hh => ⟨rfl, by have d33 : u 33 = .slice A4 (l - x) (c2 - x) := hh.val 3 _ rfl rfl; rw [d33]; go_simp⟩) ?_
        refine Par.soft rfl rfl (.pointer (some ⟨g3, 0, none⟩)) rfl (fun u w L V hT hh => ⟨rfl, by go_simp⟩) ?_
        refine Par.soft rfl rfl (.slice A2 l c2) rfl (fun u w L V hT hh => ⟨rfl, by have d35 : u 35 = .pointer (some ⟨g3, 0, none⟩) := hh.val 5 _ rfl rfl; rw [d35]; have k0 := hT.1.c0; go_simp⟩) ?_
        refine Par.soft rfl rfl (.int .i64 (x : Int)) rfl (fun u w L V hT hh => ⟨rfl, by go_simp⟩) ?_
        refine Par.soft rfl rfl (.slice A5 x c2) rfl (fun u w L V hT hh => ⟨rfl, by have d36 : u 36 = .slice A2 l c2 := hh.val 6 _ rfl rfl; have d37 : u 37 = .int .i64 (x : Int) := hh.val 7 _ rfl rfl; rw [d36, d37, HA3.out]; exact slice_op_hi0 rfl rfl rfl HL.out.2.1⟩) ?_
        refine Par.hard rfl (fun u w' L V hT hh => ?_) Par.nil
        have d34 : u 34 = atV A4 (l - x) (c2 - x) 0 := hh.val 4 _ rfl rfl
        rw [d34]
        obtain ⟨q1, q2, _, q4⟩ := hT
        have oz := q2 (hh.not_ 9 rfl)
        have z0 := oz.c0
        have z1 := oz.c1
        have f0 := oz.f0
        have f1 := oz.f1
        refine StepP.store (setAt w' gz A4 (l - x) (c2 - x) 0) rfl rfl (by unfold setAt; go_simp) ⟨fun c hc => by simp at hc, OwnF.only q1 (setAt_only w' gz _ _ _ _) (by omega), fun h => absurd h (by simp [lset]), fun _ => oz.set_ _ _ _ _, q4.trans (oz.below _ _ _ _)⟩
      · rintro u v4 hv ⟨L, V, ⟨q1, _, q3, q4⟩, hl⟩
        have d38 : u 38 = .slice A5 x c2 := hv 8 _ (by decide) rfl
        have d34 : u 34 = atV A4 (l - x) (c2 - x) 0 := hv 4 _ (by decide) rfl
        rw [d38, d34]
        have oz2 := q3 (hl 9 (by decide) rfl).1
        have HO := Lib.hid (And.intro oz2 (And.intro (hc.trans q4) (And.intro (hd.keep (q4.mono HB.out)) (ht.keep (q4.mono HB.out)))))
        clear oz hc hd ht d34 d38 o3 HD q1 q3 q4 oz2 hl hv
        simp only [List.drop_succ_cons, List.drop_zero]
        go_wp2_with fail
        refine bodyPost_ret (at_results2 Try.results33 _ HO.out.1 rfl rfl) rfl ?_
        rw [HN.out]
        exact ⟨_, _, _, _, by rw [show ((rs.drop x, 0, rs.take x) : List UInt8 × Int × List UInt8).1.length = l - x from HL.out.2.2.1, show ((rs.drop x, 0, rs.take x) : List UInt8 × Int × List UInt8).2.2.length = x from HL.out.2.2.2]; rfl, HO.out.2.2.1, HO.out.2.2.2, HO.out.2.1⟩
end Go.Proofs.Ytonfdnihllhcbaa
