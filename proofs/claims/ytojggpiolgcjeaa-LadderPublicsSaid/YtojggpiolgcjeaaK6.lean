/-
  The ladder's add (layer 5), over letters. Written by tools/gen_k5.py. By an AI agent.
-/
import Derived.Test.YtojggpiolgcjeaaK1
namespace Go.Proofs.Ytojggpiolgcjeaa
open Go Go.RowKit
attribute [local irreducible] wd set4w set8p
set_option maxRecDepth 20000
theorem add_start (p1 p2 q1 q2 y : Nat) (w : World) : ∃ v, v = (((w.alloc (A8p p1 p2)).alloc (A8p q1 q2)).alloc (A4 y)).alloc Z8p ∧ v.heap.size = w.heap.size + 4 ∧ O8 v w.heap.size w.heap.size p1 p2 ∧ O8 v w.heap.size (w.heap.size + 1) q1 q2 ∧ O4 v w.heap.size (w.heap.size + 2) y ∧ O8 v w.heap.size (w.heap.size + 3) 0 0 ∧ Below w.heap.size w v := by
  have s1 : (w.alloc (A8p p1 p2)).heap.size = w.heap.size + 1 := by simp
  have s2 : ((w.alloc (A8p p1 p2)).alloc (A8p q1 q2)).heap.size = w.heap.size + 2 := by simp
  have s3 : (((w.alloc (A8p p1 p2)).alloc (A8p q1 q2)).alloc (A4 y)).heap.size = w.heap.size + 3 := by simp
  have h1 := O8.new (w := w) (Nat.le_refl _) p1 p2
  have h2 := O8.new (w := w.alloc (A8p p1 p2)) (B := w.heap.size) (by omega) q1 q2
  have h3 := O4.new (w := (w.alloc (A8p p1 p2)).alloc (A8p q1 q2)) (B := w.heap.size) (by omega) y
  have h4 := O8.newz (w := ((w.alloc (A8p p1 p2)).alloc (A8p q1 q2)).alloc (A4 y)) (B := w.heap.size) (by omega)
  rw [s1] at h2
  rw [s2] at h3
  rw [s3] at h4
  exact ⟨_, rfl, by simp, ((h1.alloc _).alloc _).alloc _, (h2.alloc _).alloc _, h3.alloc _, h4, ((((Below.refl _ w).alloc (Nat.le_refl _) _).alloc (by omega) _).alloc (by omega) _).alloc (by omega) _⟩
set_option maxHeartbeats 3200000 in
theorem add_gen {p1 p2 q1 q2 y a1 a2 da b1 b2 cb s1 s2 t1 r1 r2 : Nat}
    (k1 : ∀ w, Calls Try.prog 55 #[nv q1, nv q2] w fun e w' => e = .returned (nv a1) ∧ Below w.heap.size w w')
    (k2 : ∀ w, Calls Try.prog 54 #[nv p1, nv p2] w fun e w' => e = .returned (nv a2) ∧ Below w.heap.size w w')
    (k3 : ∀ w, Calls Try.prog 39 #[nv a1, nv a2] w fun e w' => e = .returned (nv da) ∧ Below w.heap.size w w')
    (k4 : ∀ w, Calls Try.prog 54 #[nv q1, nv q2] w fun e w' => e = .returned (nv b1) ∧ Below w.heap.size w w')
    (k5 : ∀ w, Calls Try.prog 55 #[nv p1, nv p2] w fun e w' => e = .returned (nv b2) ∧ Below w.heap.size w w')
    (k6 : ∀ w, Calls Try.prog 39 #[nv b1, nv b2] w fun e w' => e = .returned (nv cb) ∧ Below w.heap.size w w')
    (k7 : ∀ w, Calls Try.prog 54 #[nv da, nv cb] w fun e w' => e = .returned (nv s1) ∧ Below w.heap.size w w')
    (k8 : ∀ w, Calls Try.prog 55 #[nv da, nv cb] w fun e w' => e = .returned (nv s2) ∧ Below w.heap.size w w')
    (k9 : ∀ w, Calls Try.prog 39 #[nv s1, nv s1] w fun e w' => e = .returned (nv r1) ∧ Below w.heap.size w w')
    (k10 : ∀ w, Calls Try.prog 39 #[nv s2, nv s2] w fun e w' => e = .returned (nv t1) ∧ Below w.heap.size w w')
    (k11 : ∀ w, Calls Try.prog 39 #[nv y, nv t1] w fun e w' => e = .returned (nv r2) ∧ Below w.heap.size w w') (w : World) :
    Calls Try.prog 38 #[prv p1 p2, prv q1 q2, nv y] w fun e w' => e = .returned (prv r1 r2) ∧ Below w.heap.size w w' := by
  have K1 := Lib.hid k1
  have K2 := Lib.hid k2
  have K3 := Lib.hid k3
  have K4 := Lib.hid k4
  have K5 := Lib.hid k5
  have K6 := Lib.hid k6
  have K7 := Lib.hid k7
  have K8 := Lib.hid k8
  have K9 := Lib.hid k9
  have K10 := Lib.hid k10
  have K11 := Lib.hid k11
  clear k1 k2 k3 k4 k5 k6 k7 k8 k9 k10 k11
  go_enter Try.func38, Try.ntmps38
  go_upto_region 1 with fail
  obtain ⟨v0, ev, hs0, o3, o4, o5, o6, hc⟩ := add_start p1 p2 q1 q2 y w
  rw [← ev]
  clear ev
  obtain ⟨g3, eg3⟩ : ∃ g, g = w.heap.size := ⟨_, rfl⟩
  obtain ⟨g4, eg4⟩ : ∃ g, g = w.heap.size + 1 := ⟨_, rfl⟩
  obtain ⟨g5, eg5⟩ : ∃ g, g = w.heap.size + 2 := ⟨_, rfl⟩
  obtain ⟨g6, eg6⟩ : ∃ g, g = w.heap.size + 3 := ⟨_, rfl⟩
  replace o3 : O8 v0 w.heap.size g3 p1 p2 := by rw [eg3]; exact o3
  replace o4 : O8 v0 w.heap.size g4 q1 q2 := by rw [eg4]; exact o4
  replace o5 : O4 v0 w.heap.size g5 y := by rw [eg5]; exact o5
  replace o6 : O8 v0 w.heap.size g6 0 0 := by rw [eg6]; exact o6
  rw [show (Value.pointer (some ⟨w.heap.size, 0, none⟩)) = .pointer (some ⟨g3, 0, none⟩) by rw [eg3], show (Value.pointer (some ⟨w.heap.size + 1, 0, none⟩)) = .pointer (some ⟨g4, 0, none⟩) by rw [eg4], show (Value.pointer (some ⟨w.heap.size + 2, 0, none⟩)) = .pointer (some ⟨g5, 0, none⟩) by rw [eg5], show (Value.pointer (some ⟨w.heap.size + 3, 0, none⟩)) = .pointer (some ⟨g6, 0, none⟩) by rw [eg6]]
  clear eg3 eg4 eg5 eg6 hs0
  refine wp_region_box2 13 [some 11, some 12, some 13, some 14, some 15, some 16, some 17, some 18, some 19, some 20, some 21, some 7, none] [.val (.pointer (some ⟨g4, 0, none⟩)), .val (nv q1), .val (.pointer (some ⟨g4, 4, none⟩)), .val (nv q2), .val (nv a1), .val (.pointer (some ⟨g3, 0, none⟩)), .val (nv p1), .val (.pointer (some ⟨g3, 4, none⟩)), .val (nv p2), .val (nv a2), .val (nv da), .box 36 4, .holds 11 36 4 (wv da)] v0.heap.size (fun wz => Below v0.heap.size v0 wz) (by kernel_rfl) (by kernel_rfl)
    (fun _ _ h _ hb => h.trans hb) ((Below.refl _ _).drew) (Nat.le_refl _) (fun u => by simp only [List.filterMap_cons, List.filterMap_nil, id, puts, List.foldl_cons, List.foldl_nil]; go_simp; exact rfl) ?_ ?_
  · simp only [List.take_succ_cons, List.take_zero]
    refine ObsB.cons (fun u w L hL hS hBw hd => ?_) ?_
    · exact GB.run 11 rfl (.pointer (some ⟨g4, 0, none⟩)) rfl (run_pfield 0 (by decide) rfl rfl) rfl rfl
    refine ObsB.cons (fun u w L hL hS hBw hd => ?_) ?_
    · have d11 : u 11 = .pointer (some ⟨g4, 0, none⟩) := depB hd 0 rfl
      rw [d11]
      exact GB.run 12 rfl (nv q1) rfl (run_xload rfl rfl (o4.keep hS)) rfl rfl
    refine ObsB.cons (fun u w L hL hS hBw hd => ?_) ?_
    · exact GB.run 13 rfl (.pointer (some ⟨g4, 4, none⟩)) rfl (run_pfield 1 (by decide) rfl rfl) rfl rfl
    refine ObsB.cons (fun u w L hL hS hBw hd => ?_) ?_
    · have d13 : u 13 = .pointer (some ⟨g4, 4, none⟩) := depB hd 2 rfl
      rw [d13]
      exact GB.run 14 rfl (nv q2) rfl (run_zload rfl rfl (o4.keep hS)) rfl rfl
    refine ObsB.cons (fun u w L hL hS hBw hd => ?_) ?_
    · have d12 : u 12 = nv q1 := depB hd 1 rfl
      have d14 : u 14 = nv q2 := depB hd 3 rfl
      rw [d12, d14]
      refine GB.call 15 rfl 55 #[nv q1, nv q2] rfl (by go_simp) rfl ((K1.out w).mono ?_)
      rintro e w' ⟨rfl, hb⟩
      exact ⟨_, rfl, rfl, hb⟩
    refine ObsB.cons (fun u w L hL hS hBw hd => ?_) ?_
    · exact GB.run 16 rfl (.pointer (some ⟨g3, 0, none⟩)) rfl (run_pfield 0 (by decide) rfl rfl) rfl rfl
    refine ObsB.cons (fun u w L hL hS hBw hd => ?_) ?_
    · have d16 : u 16 = .pointer (some ⟨g3, 0, none⟩) := depB hd 5 rfl
      rw [d16]
      exact GB.run 17 rfl (nv p1) rfl (run_xload rfl rfl (o3.keep hS)) rfl rfl
    refine ObsB.cons (fun u w L hL hS hBw hd => ?_) ?_
    · exact GB.run 18 rfl (.pointer (some ⟨g3, 4, none⟩)) rfl (run_pfield 1 (by decide) rfl rfl) rfl rfl
    refine ObsB.cons (fun u w L hL hS hBw hd => ?_) ?_
    · have d18 : u 18 = .pointer (some ⟨g3, 4, none⟩) := depB hd 7 rfl
      rw [d18]
      exact GB.run 19 rfl (nv p2) rfl (run_zload rfl rfl (o3.keep hS)) rfl rfl
    refine ObsB.cons (fun u w L hL hS hBw hd => ?_) ?_
    · have d17 : u 17 = nv p1 := depB hd 6 rfl
      have d19 : u 19 = nv p2 := depB hd 8 rfl
      rw [d17, d19]
      refine GB.call 20 rfl 54 #[nv p1, nv p2] rfl (by go_simp) rfl ((K2.out w).mono ?_)
      rintro e w' ⟨rfl, hb⟩
      exact ⟨_, rfl, rfl, hb⟩
    refine ObsB.cons (fun u w L hL hS hBw hd => ?_) ?_
    · have d15 : u 15 = nv a1 := depB hd 4 rfl
      have d20 : u 20 = nv a2 := depB hd 9 rfl
      rw [d15, d20]
      refine GB.call 21 rfl 39 #[nv a1, nv a2] rfl (by go_simp) rfl ((K3.out w).mono ?_)
      rintro e w' ⟨rfl, hb⟩
      exact ⟨_, rfl, rfl, hb⟩
    refine ObsB.cons (fun u w L hL hS hBw hd => ?_) ?_
    · exact GB.alloc 7 rfl rfl #[.int .u64 0, .int .u64 0, .int .u64 0, .int .u64 0] 36 4 (fun _ => .int .u64 0) rfl rfl (by go_simp) hBw (by decide) rfl
    refine ObsB.cons (fun u w L hL hS hBw hd => ?_) ?_
    · have d21 : u 21 = nv da := depB hd 10 rfl
      obtain ⟨g, fg, e7, o7⟩ : (Fact.box 36 4).ok v0.heap.size [some 11, some 12, some 13, some 14, some 15, some 16, some 17, some 18, some 19, some 20, some 21, some 7, none] 11 u w L := depB hd 11 rfl
      exact GB.store rfl 11 g 36 4 (wv da) rfl rfl rfl e7 (run_nstore rfl (by exact e7) (by exact d21) o7) (only4 w g da) (put4o o7 da)
    exact ObsB.nil
  intro u1 v1 hS hd hne
  obtain ⟨g7, e_g7, o_g7⟩ : (Fact.holds 11 36 4 (wv da)).ok v0.heap.size [some 11, some 12, some 13, some 14, some 15, some 16, some 17, some 18, some 19, some 20, some 21, some 7, none] 12 u1 v1 (fun _ => true) := hd 12 (by decide)
  replace e_g7 : u1 7 = .pointer (some ⟨g7, 0, none⟩) := e_g7
  replace o_g7 : O4 v1 v0.heap.size g7 da := o_g7
  rw [e_g7]
  clear hd hne e_g7
  have o7 := o_g7.mono hc.size
  clear o_g7
  replace o3 := o3.keep hS
  replace o4 := o4.keep hS
  replace o5 := o5.keep hS
  replace o6 := o6.keep hS
  replace hc := hc.trans (hS.mono hc.size)
  clear hS
  simp only [List.drop_succ_cons, List.drop_zero]
  go_upto_region 2 with fail
  refine wp_region_box2 13 [some 22, some 23, some 24, some 25, some 26, some 27, some 28, some 29, some 30, some 31, some 32, some 8, none] [.val (.pointer (some ⟨g4, 0, none⟩)), .val (nv q1), .val (.pointer (some ⟨g4, 4, none⟩)), .val (nv q2), .val (nv b1), .val (.pointer (some ⟨g3, 0, none⟩)), .val (nv p1), .val (.pointer (some ⟨g3, 4, none⟩)), .val (nv p2), .val (nv b2), .val (nv cb), .box 36 4, .holds 11 36 4 (wv cb)] v1.heap.size (fun wz => Below v1.heap.size v1 wz) (by kernel_rfl) (by kernel_rfl)
    (fun _ _ h _ hb => h.trans hb) ((Below.refl _ _).drew) (Nat.le_refl _) (fun u => by simp only [List.filterMap_cons, List.filterMap_nil, id, puts, List.foldl_cons, List.foldl_nil]; go_simp; exact rfl) ?_ ?_
  · simp only [List.take_succ_cons, List.take_zero]
    refine ObsB.cons (fun u w L hL hS hBw hd => ?_) ?_
    · exact GB.run 22 rfl (.pointer (some ⟨g4, 0, none⟩)) rfl (run_pfield 0 (by decide) rfl rfl) rfl rfl
    refine ObsB.cons (fun u w L hL hS hBw hd => ?_) ?_
    · have d22 : u 22 = .pointer (some ⟨g4, 0, none⟩) := depB hd 0 rfl
      rw [d22]
      exact GB.run 23 rfl (nv q1) rfl (run_xload rfl rfl (o4.keep hS)) rfl rfl
    refine ObsB.cons (fun u w L hL hS hBw hd => ?_) ?_
    · exact GB.run 24 rfl (.pointer (some ⟨g4, 4, none⟩)) rfl (run_pfield 1 (by decide) rfl rfl) rfl rfl
    refine ObsB.cons (fun u w L hL hS hBw hd => ?_) ?_
    · have d24 : u 24 = .pointer (some ⟨g4, 4, none⟩) := depB hd 2 rfl
      rw [d24]
      exact GB.run 25 rfl (nv q2) rfl (run_zload rfl rfl (o4.keep hS)) rfl rfl
    refine ObsB.cons (fun u w L hL hS hBw hd => ?_) ?_
    · have d23 : u 23 = nv q1 := depB hd 1 rfl
      have d25 : u 25 = nv q2 := depB hd 3 rfl
      rw [d23, d25]
      refine GB.call 26 rfl 54 #[nv q1, nv q2] rfl (by go_simp) rfl ((K4.out w).mono ?_)
      rintro e w' ⟨rfl, hb⟩
      exact ⟨_, rfl, rfl, hb⟩
    refine ObsB.cons (fun u w L hL hS hBw hd => ?_) ?_
    · exact GB.run 27 rfl (.pointer (some ⟨g3, 0, none⟩)) rfl (run_pfield 0 (by decide) rfl rfl) rfl rfl
    refine ObsB.cons (fun u w L hL hS hBw hd => ?_) ?_
    · have d27 : u 27 = .pointer (some ⟨g3, 0, none⟩) := depB hd 5 rfl
      rw [d27]
      exact GB.run 28 rfl (nv p1) rfl (run_xload rfl rfl (o3.keep hS)) rfl rfl
    refine ObsB.cons (fun u w L hL hS hBw hd => ?_) ?_
    · exact GB.run 29 rfl (.pointer (some ⟨g3, 4, none⟩)) rfl (run_pfield 1 (by decide) rfl rfl) rfl rfl
    refine ObsB.cons (fun u w L hL hS hBw hd => ?_) ?_
    · have d29 : u 29 = .pointer (some ⟨g3, 4, none⟩) := depB hd 7 rfl
      rw [d29]
      exact GB.run 30 rfl (nv p2) rfl (run_zload rfl rfl (o3.keep hS)) rfl rfl
    refine ObsB.cons (fun u w L hL hS hBw hd => ?_) ?_
    · have d28 : u 28 = nv p1 := depB hd 6 rfl
      have d30 : u 30 = nv p2 := depB hd 8 rfl
      rw [d28, d30]
      refine GB.call 31 rfl 55 #[nv p1, nv p2] rfl (by go_simp) rfl ((K5.out w).mono ?_)
      rintro e w' ⟨rfl, hb⟩
      exact ⟨_, rfl, rfl, hb⟩
    refine ObsB.cons (fun u w L hL hS hBw hd => ?_) ?_
    · have d26 : u 26 = nv b1 := depB hd 4 rfl
      have d31 : u 31 = nv b2 := depB hd 9 rfl
      rw [d26, d31]
      refine GB.call 32 rfl 39 #[nv b1, nv b2] rfl (by go_simp) rfl ((K6.out w).mono ?_)
      rintro e w' ⟨rfl, hb⟩
      exact ⟨_, rfl, rfl, hb⟩
    refine ObsB.cons (fun u w L hL hS hBw hd => ?_) ?_
    · exact GB.alloc 8 rfl rfl #[.int .u64 0, .int .u64 0, .int .u64 0, .int .u64 0] 36 4 (fun _ => .int .u64 0) rfl rfl (by go_simp) hBw (by decide) rfl
    refine ObsB.cons (fun u w L hL hS hBw hd => ?_) ?_
    · have d32 : u 32 = nv cb := depB hd 10 rfl
      obtain ⟨g, fg, e8, o8⟩ : (Fact.box 36 4).ok v1.heap.size [some 22, some 23, some 24, some 25, some 26, some 27, some 28, some 29, some 30, some 31, some 32, some 8, none] 11 u w L := depB hd 11 rfl
      exact GB.store rfl 11 g 36 4 (wv cb) rfl rfl rfl e8 (run_nstore rfl (by exact e8) (by exact d32) o8) (only4 w g cb) (put4o o8 cb)
    exact ObsB.nil
  intro u2 v2 hS hd hne
  obtain ⟨g8, e_g8, o_g8⟩ : (Fact.holds 11 36 4 (wv cb)).ok v1.heap.size [some 22, some 23, some 24, some 25, some 26, some 27, some 28, some 29, some 30, some 31, some 32, some 8, none] 12 u2 v2 (fun _ => true) := hd 12 (by decide)
  replace e_g8 : u2 8 = .pointer (some ⟨g8, 0, none⟩) := e_g8
  replace o_g8 : O4 v2 v1.heap.size g8 cb := o_g8
  rw [e_g8]
  clear hd hne e_g8
  have o8 := o_g8.mono hc.size
  clear o_g8
  replace o3 := o3.keep hS
  replace o4 := o4.keep hS
  replace o5 := o5.keep hS
  replace o6 := o6.keep hS
  replace o7 := o7.keep hS
  replace hc := hc.trans (hS.mono hc.size)
  clear hS
  simp only [List.drop_succ_cons, List.drop_zero]
  go_upto_region 3 with fail
  clear o3 o4
  refine wp_region_box2 10 [some 33, some 34, some 35, some 36, some 37, some 38, some 9, some 10, none, none] [.val (nv da), .val (nv cb), .val (nv s1), .val (nv da), .val (nv cb), .val (nv s2), .box 36 4, .box 36 4, .holds 6 36 4 (wv s1), .holds 7 36 4 (wv s2)] v2.heap.size (fun wz => Below v2.heap.size v2 wz) (by kernel_rfl) (by kernel_rfl)
    (fun _ _ h _ hb => h.trans hb) ((Below.refl _ _).drew) (Nat.le_refl _) (fun u => by simp only [List.filterMap_cons, List.filterMap_nil, id, puts, List.foldl_cons, List.foldl_nil]; go_simp; exact rfl) ?_ ?_
  · simp only [List.take_succ_cons, List.take_zero]
    refine ObsB.cons (fun u w L hL hS hBw hd => ?_) ?_
    · exact GB.run 33 rfl (nv da) rfl (run_nload rfl rfl (o7.keep hS)) rfl rfl
    refine ObsB.cons (fun u w L hL hS hBw hd => ?_) ?_
    · exact GB.run 34 rfl (nv cb) rfl (run_nload rfl rfl (o8.keep hS)) rfl rfl
    refine ObsB.cons (fun u w L hL hS hBw hd => ?_) ?_
    · have d33 : u 33 = nv da := depB hd 0 rfl
      have d34 : u 34 = nv cb := depB hd 1 rfl
      rw [d33, d34]
      refine GB.call 35 rfl 54 #[nv da, nv cb] rfl (by go_simp) rfl ((K7.out w).mono ?_)
      rintro e w' ⟨rfl, hb⟩
      exact ⟨_, rfl, rfl, hb⟩
    refine ObsB.cons (fun u w L hL hS hBw hd => ?_) ?_
    · exact GB.run 36 rfl (nv da) rfl (run_nload rfl rfl (o7.keep hS)) rfl rfl
    refine ObsB.cons (fun u w L hL hS hBw hd => ?_) ?_
    · exact GB.run 37 rfl (nv cb) rfl (run_nload rfl rfl (o8.keep hS)) rfl rfl
    refine ObsB.cons (fun u w L hL hS hBw hd => ?_) ?_
    · have d36 : u 36 = nv da := depB hd 3 rfl
      have d37 : u 37 = nv cb := depB hd 4 rfl
      rw [d36, d37]
      refine GB.call 38 rfl 55 #[nv da, nv cb] rfl (by go_simp) rfl ((K8.out w).mono ?_)
      rintro e w' ⟨rfl, hb⟩
      exact ⟨_, rfl, rfl, hb⟩
    refine ObsB.cons (fun u w L hL hS hBw hd => ?_) ?_
    · exact GB.alloc 9 rfl rfl #[.int .u64 0, .int .u64 0, .int .u64 0, .int .u64 0] 36 4 (fun _ => .int .u64 0) rfl rfl (by go_simp) hBw (by decide) rfl
    refine ObsB.cons (fun u w L hL hS hBw hd => ?_) ?_
    · exact GB.alloc 10 rfl rfl #[.int .u64 0, .int .u64 0, .int .u64 0, .int .u64 0] 36 4 (fun _ => .int .u64 0) rfl rfl (by go_simp) hBw (by decide) rfl
    refine ObsB.cons (fun u w L hL hS hBw hd => ?_) ?_
    · have d35 : u 35 = nv s1 := depB hd 2 rfl
      obtain ⟨g, fg, e9, o9⟩ : (Fact.box 36 4).ok v2.heap.size [some 33, some 34, some 35, some 36, some 37, some 38, some 9, some 10, none, none] 6 u w L := depB hd 6 rfl
      exact GB.store rfl 6 g 36 4 (wv s1) rfl rfl rfl e9 (run_nstore rfl (by exact e9) (by exact d35) o9) (only4 w g s1) (put4o o9 s1)
    refine ObsB.cons (fun u w L hL hS hBw hd => ?_) ?_
    · have d38 : u 38 = nv s2 := depB hd 5 rfl
      obtain ⟨g, fg, e10, o10⟩ : (Fact.box 36 4).ok v2.heap.size [some 33, some 34, some 35, some 36, some 37, some 38, some 9, some 10, none, none] 7 u w L := depB hd 7 rfl
      exact GB.store rfl 7 g 36 4 (wv s2) rfl rfl rfl e10 (run_nstore rfl (by exact e10) (by exact d38) o10) (only4 w g s2) (put4o o10 s2)
    exact ObsB.nil
  intro u3 v3 hS hd hne
  obtain ⟨g9, e_g9, o_g9⟩ : (Fact.holds 6 36 4 (wv s1)).ok v2.heap.size [some 33, some 34, some 35, some 36, some 37, some 38, some 9, some 10, none, none] 8 u3 v3 (fun _ => true) := hd 8 (by decide)
  replace e_g9 : u3 9 = .pointer (some ⟨g9, 0, none⟩) := e_g9
  replace o_g9 : O4 v3 v2.heap.size g9 s1 := o_g9
  obtain ⟨g10, e_g10, o_g10⟩ : (Fact.holds 7 36 4 (wv s2)).ok v2.heap.size [some 33, some 34, some 35, some 36, some 37, some 38, some 9, some 10, none, none] 9 u3 v3 (fun _ => true) := hd 9 (by decide)
  replace e_g10 : u3 10 = .pointer (some ⟨g10, 0, none⟩) := e_g10
  replace o_g10 : O4 v3 v2.heap.size g10 s2 := o_g10
  rw [e_g9, e_g10]
  clear hd hne e_g9 e_g10
  have o9 := o_g9.mono hc.size
  have o10 := o_g10.mono hc.size
  clear o_g9 o_g10 o7 o8
  replace o5 := o5.keep hS
  replace o6 := o6.keep hS
  replace hc := hc.trans (hS.mono hc.size)
  clear hS
  simp only [List.drop_succ_cons, List.drop_zero]
  go_upto_region 4 with fail
  refine wp_region_inv 9 [39, 40, 41, 42, 43, 44, 45, 46, 47] [.val (nv s1), .val (nv s1), .val (nv r1), .val (nv y), .val (nv s2), .val (nv s2), .val (nv t1), .val (nv r2), .val (prv r1 r2)] (fun wz => Below v3.heap.size v3 wz) (by kernel_rfl) (by kernel_rfl) (fun wz wz' hz hb => hz.trans (hb.mono hz.size)) ((Below.refl _ _).drew) (fun u => by simp only [puts, List.foldl_cons, List.foldl_nil]; go_simp; exact rfl) ?_ ?_
  · simp only [List.take_succ_cons, List.take_zero]
    refine Obs.cons (fun u w hS hd => ?_) ?_
    · exact Gv.run (nv s1) rfl (run_nload rfl rfl (o9.keep hS)) rfl
    refine Obs.cons (fun u w hS hd => ?_) ?_
    · exact Gv.run (nv s1) rfl (run_nload rfl rfl (o9.keep hS)) rfl
    refine Obs.cons (fun u w hS hd => ?_) ?_
    · have d39 : u 39 = nv s1 := dep hd 0 rfl
      have d40 : u 40 = nv s1 := dep hd 1 rfl
      rw [d39, d40]
      refine Gv.call 39 #[nv s1, nv s1] rfl (by go_simp) ((K9.out w).mono ?_)
      rintro e w' ⟨rfl, hb⟩
      exact ⟨_, rfl, rfl, hb⟩
    refine Obs.cons (fun u w hS hd => ?_) ?_
    · exact Gv.run (nv y) rfl (run_nload rfl rfl (o5.keep hS)) rfl
    refine Obs.cons (fun u w hS hd => ?_) ?_
    · exact Gv.run (nv s2) rfl (run_nload rfl rfl (o10.keep hS)) rfl
    refine Obs.cons (fun u w hS hd => ?_) ?_
    · exact Gv.run (nv s2) rfl (run_nload rfl rfl (o10.keep hS)) rfl
    refine Obs.cons (fun u w hS hd => ?_) ?_
    · have d43 : u 43 = nv s2 := dep hd 4 rfl
      have d44 : u 44 = nv s2 := dep hd 5 rfl
      rw [d43, d44]
      refine Gv.call 39 #[nv s2, nv s2] rfl (by go_simp) ((K10.out w).mono ?_)
      rintro e w' ⟨rfl, hb⟩
      exact ⟨_, rfl, rfl, hb⟩
    refine Obs.cons (fun u w hS hd => ?_) ?_
    · have d42 : u 42 = nv y := dep hd 3 rfl
      have d45 : u 45 = nv t1 := dep hd 6 rfl
      rw [d42, d45]
      refine Gv.call 39 #[nv y, nv t1] rfl (by go_simp) ((K11.out w).mono ?_)
      rintro e w' ⟨rfl, hb⟩
      exact ⟨_, rfl, rfl, hb⟩
    refine Obs.cons (fun u w hS hd => ?_) ?_
    · have d41 : u 41 = nv r1 := dep hd 2 rfl
      have d46 : u 46 = nv r2 := dep hd 7 rfl
      rw [d41, d46]
      exact Gv.run (prv r1 r2) rfl (by go_simp) rfl
    exact Obs.nil
  intro u4 v5 hS hd
  have d47 : u4 47 = prv r1 r2 := hd 8 (by decide)
  rw [d47]
  clear hd d47 o9 o10 o5
  replace o6 := o6.keep hS
  replace hc := hc.trans (hS.mono hc.size)
  clear hS
  simp only [List.drop_succ_cons, List.drop_zero]
  have q0o6 := o6.put r1 r2
  replace hc := hc.trans ((o6.below r1 r2).mono (by first | assumption | omega | exact Nat.le_refl _ | exact Nat.le_add_right _ _))
  go_wp2_with (first | ((with_reducible refine p_store o6 r1 r2 ?_ ?_ ?_); rfl; rfl))
  replace o6 := q0o6
  exact bodyPost_ret (pres Try.results38 _ o6 rfl) rfl ⟨rfl, hc⟩
end Go.Proofs.Ytojggpiolgcjeaa
