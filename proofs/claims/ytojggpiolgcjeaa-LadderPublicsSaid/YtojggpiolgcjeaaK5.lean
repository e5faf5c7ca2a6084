/-
  The ladder's double (layer 5), over letters. Written by tools/gen_k5.py. By an AI agent.
-/
import Derived.Test.YtojggpiolgcjeaaK1
namespace Go.Proofs.Ytojggpiolgcjeaa
open Go Go.RowKit
attribute [local irreducible] wd set4w set8p
set_option maxRecDepth 20000
set_option maxHeartbeats 3200000 in
theorem double_gen {x z a b aa bb e1 t1 s1 r1 r2 : Nat}
    (ka : ∀ w, Calls Try.prog 54 #[nv x, nv z] w fun e w' => e = .returned (nv a) ∧ Below w.heap.size w w')
    (ks : ∀ w, Calls Try.prog 55 #[nv x, nv z] w fun e w' => e = .returned (nv b) ∧ Below w.heap.size w w')
    (kaa : ∀ w, Calls Try.prog 39 #[nv a, nv a] w fun e w' => e = .returned (nv aa) ∧ Below w.heap.size w w')
    (kbb : ∀ w, Calls Try.prog 39 #[nv b, nv b] w fun e w' => e = .returned (nv bb) ∧ Below w.heap.size w w')
    (ke : ∀ w, Calls Try.prog 55 #[nv aa, nv bb] w fun e w' => e = .returned (nv e1) ∧ Below w.heap.size w w')
    (k1 : ∀ w, Calls Try.prog 39 #[nv aa, nv bb] w fun e w' => e = .returned (nv r1) ∧ Below w.heap.size w w')
    (kt : ∀ w, Calls Try.prog 39 #[lit4 121665 0 0 0, nv e1] w fun e w' => e = .returned (nv t1) ∧ Below w.heap.size w w')
    (kw : ∀ w, Calls Try.prog 54 #[nv aa, nv t1] w fun e w' => e = .returned (nv s1) ∧ Below w.heap.size w w')
    (k2 : ∀ w, Calls Try.prog 39 #[nv e1, nv s1] w fun e w' => e = .returned (nv r2) ∧ Below w.heap.size w w') (w : World) :
    Calls Try.prog 36 #[prv x z] w fun e w' => e = .returned (prv r1 r2) ∧ Below w.heap.size w w' := by
  have KA := Lib.hid ka
  have KS := Lib.hid ks
  have KAA := Lib.hid kaa
  have KBB := Lib.hid kbb
  have KE := Lib.hid ke
  have K1 := Lib.hid k1
  have KT := Lib.hid kt
  have KW := Lib.hid kw
  have K2 := Lib.hid k2
  clear ka ks kaa kbb ke k1 kt kw k2
  go_enter Try.func36, Try.ntmps36
  go_upto_region 1 with fail
  have o1 : O8 ((w.alloc (A8p x z)).alloc Z8p) w.heap.size w.heap.size x z := (O8.new (Nat.le_refl _) x z).alloc _
  have o2 : O8 ((w.alloc (A8p x z)).alloc Z8p) (w.heap.size + 1) (w.heap.size + 1) 0 0 := by
    have h := O8.newz (w := w.alloc (A8p x z)) (B := (w.alloc (A8p x z)).heap.size) (Nat.le_refl _)
    rwa [show (w.alloc (A8p x z)).heap.size = w.heap.size + 1 by simp] at h
  have hc : Below w.heap.size w ((w.alloc (A8p x z)).alloc Z8p) := ((Below.refl _ w).alloc (Nat.le_refl _) _).alloc (by simp) _
  have hs0 : ((w.alloc (A8p x z)).alloc Z8p).heap.size = w.heap.size + 2 := by simp
  replace o2 := o2.mono (Nat.le_add_right w.heap.size 1)
  obtain ⟨v0, ev⟩ : ∃ v, v = (w.alloc (A8p x z)).alloc Z8p := ⟨_, rfl⟩
  rw [← ev] at o1 o2 hc hs0 ⊢
  clear ev
  obtain ⟨g1, eg1⟩ : ∃ g, g = w.heap.size := ⟨_, rfl⟩
  obtain ⟨g2, eg2⟩ : ∃ g, g = w.heap.size + 1 := ⟨_, rfl⟩
  replace o1 : O8 v0 w.heap.size g1 x z := by rw [eg1]; exact o1
  replace o2 : O8 v0 w.heap.size g2 0 0 := by rw [eg2]; exact o2
  rw [show (Value.pointer (some ⟨w.heap.size, 0, none⟩)) = .pointer (some ⟨g1, 0, none⟩) by rw [eg1], show (Value.pointer (some ⟨w.heap.size + 1, 0, none⟩)) = .pointer (some ⟨g2, 0, none⟩) by rw [eg2]]
  have l2 : g2 < v0.heap.size := o2.lt
  clear eg1 eg2 hs0
  refine wp_region_box2 14 [some 6, some 7, some 8, some 9, some 10, some 11, some 12, some 13, some 14, some 15, some 3, some 4, none, none] [.val (.pointer (some ⟨g1, 0, none⟩)), .val (nv x), .val (.pointer (some ⟨g1, 4, none⟩)), .val (nv z), .val (nv a), .val (.pointer (some ⟨g1, 0, none⟩)), .val (nv x), .val (.pointer (some ⟨g1, 4, none⟩)), .val (nv z), .val (nv b), .box 36 4, .box 36 4, .holds 10 36 4 (wv a), .holds 11 36 4 (wv b)] v0.heap.size (fun wz => Below v0.heap.size v0 wz) (by kernel_rfl) (by kernel_rfl)
    (fun _ _ h _ hb => h.trans hb) ((Below.refl _ _).drew) (Nat.le_refl _) (fun u => by simp only [List.filterMap_cons, List.filterMap_nil, id, puts, List.foldl_cons, List.foldl_nil]; go_simp; exact rfl) ?_ ?_
  · simp only [List.take_succ_cons, List.take_zero]
    refine ObsB.cons (fun u w L hL hS hBw hd => ?_) ?_
    · exact GB.run 6 rfl (.pointer (some ⟨g1, 0, none⟩)) rfl (run_pfield 0 (by decide) rfl rfl) rfl rfl
    refine ObsB.cons (fun u w L hL hS hBw hd => ?_) ?_
    · have d6 : u 6 = .pointer (some ⟨g1, 0, none⟩) := depB hd 0 rfl
      rw [d6]
      exact GB.run 7 rfl (nv x) rfl (run_xload rfl rfl (o1.keep hS)) rfl rfl
    refine ObsB.cons (fun u w L hL hS hBw hd => ?_) ?_
    · exact GB.run 8 rfl (.pointer (some ⟨g1, 4, none⟩)) rfl (run_pfield 1 (by decide) rfl rfl) rfl rfl
    refine ObsB.cons (fun u w L hL hS hBw hd => ?_) ?_
    · have d8 : u 8 = .pointer (some ⟨g1, 4, none⟩) := depB hd 2 rfl
      rw [d8]
      exact GB.run 9 rfl (nv z) rfl (run_zload rfl rfl (o1.keep hS)) rfl rfl
    refine ObsB.cons (fun u w L hL hS hBw hd => ?_) ?_
    · have d7 : u 7 = nv x := depB hd 1 rfl
      have d9 : u 9 = nv z := depB hd 3 rfl
      rw [d7, d9]
      refine GB.call 10 rfl 54 #[nv x, nv z] rfl (by go_simp) rfl ((KA.out w).mono ?_)
      rintro e w' ⟨rfl, hb⟩
      exact ⟨_, rfl, rfl, hb⟩
    refine ObsB.cons (fun u w L hL hS hBw hd => ?_) ?_
    · exact GB.run 11 rfl (.pointer (some ⟨g1, 0, none⟩)) rfl (run_pfield 0 (by decide) rfl rfl) rfl rfl
    refine ObsB.cons (fun u w L hL hS hBw hd => ?_) ?_
    · have d11 : u 11 = .pointer (some ⟨g1, 0, none⟩) := depB hd 5 rfl
      rw [d11]
      exact GB.run 12 rfl (nv x) rfl (run_xload rfl rfl (o1.keep hS)) rfl rfl
    refine ObsB.cons (fun u w L hL hS hBw hd => ?_) ?_
    · exact GB.run 13 rfl (.pointer (some ⟨g1, 4, none⟩)) rfl (run_pfield 1 (by decide) rfl rfl) rfl rfl
    refine ObsB.cons (fun u w L hL hS hBw hd => ?_) ?_
    · have d13 : u 13 = .pointer (some ⟨g1, 4, none⟩) := depB hd 7 rfl
      rw [d13]
      exact GB.run 14 rfl (nv z) rfl (run_zload rfl rfl (o1.keep hS)) rfl rfl
    refine ObsB.cons (fun u w L hL hS hBw hd => ?_) ?_
    · have d12 : u 12 = nv x := depB hd 6 rfl
      have d14 : u 14 = nv z := depB hd 8 rfl
      rw [d12, d14]
      refine GB.call 15 rfl 55 #[nv x, nv z] rfl (by go_simp) rfl ((KS.out w).mono ?_)
      rintro e w' ⟨rfl, hb⟩
      exact ⟨_, rfl, rfl, hb⟩
    refine ObsB.cons (fun u w L hL hS hBw hd => ?_) ?_
    · exact GB.alloc 3 rfl rfl #[.int .u64 0, .int .u64 0, .int .u64 0, .int .u64 0] 36 4 (fun _ => .int .u64 0) rfl rfl (by go_simp) hBw (by decide) rfl
    refine ObsB.cons (fun u w L hL hS hBw hd => ?_) ?_
    · exact GB.alloc 4 rfl rfl #[.int .u64 0, .int .u64 0, .int .u64 0, .int .u64 0] 36 4 (fun _ => .int .u64 0) rfl rfl (by go_simp) hBw (by decide) rfl
    refine ObsB.cons (fun u w L hL hS hBw hd => ?_) ?_
    · have d10 : u 10 = nv a := depB hd 4 rfl
      obtain ⟨g, fg, e3, o3⟩ : (Fact.box 36 4).ok v0.heap.size [some 6, some 7, some 8, some 9, some 10, some 11, some 12, some 13, some 14, some 15, some 3, some 4, none, none] 10 u w L := depB hd 10 rfl
      exact GB.store rfl 10 g 36 4 (wv a) rfl rfl rfl e3 (run_nstore rfl (by exact e3) (by exact d10) o3) (only4 w g a) (put4o o3 a)
    refine ObsB.cons (fun u w L hL hS hBw hd => ?_) ?_
    · have d15 : u 15 = nv b := depB hd 9 rfl
      obtain ⟨g, fg, e4, o4⟩ : (Fact.box 36 4).ok v0.heap.size [some 6, some 7, some 8, some 9, some 10, some 11, some 12, some 13, some 14, some 15, some 3, some 4, none, none] 11 u w L := depB hd 11 rfl
      exact GB.store rfl 11 g 36 4 (wv b) rfl rfl rfl e4 (run_nstore rfl (by exact e4) (by exact d15) o4) (only4 w g b) (put4o o4 b)
    exact ObsB.nil
  intro u1 v1 hS hd hne
  obtain ⟨g3, e_g3, o_g3⟩ : (Fact.holds 10 36 4 (wv a)).ok v0.heap.size [some 6, some 7, some 8, some 9, some 10, some 11, some 12, some 13, some 14, some 15, some 3, some 4, none, none] 12 u1 v1 (fun _ => true) := hd 12 (by decide)
  replace e_g3 : u1 3 = .pointer (some ⟨g3, 0, none⟩) := e_g3
  replace o_g3 : O4 v1 v0.heap.size g3 a := o_g3
  obtain ⟨g4, e_g4, o_g4⟩ : (Fact.holds 11 36 4 (wv b)).ok v0.heap.size [some 6, some 7, some 8, some 9, some 10, some 11, some 12, some 13, some 14, some 15, some 3, some 4, none, none] 13 u1 v1 (fun _ => true) := hd 13 (by decide)
  replace e_g4 : u1 4 = .pointer (some ⟨g4, 0, none⟩) := e_g4
  replace o_g4 : O4 v1 v0.heap.size g4 b := o_g4
  have n_g3_g4 : g3 ≠ g4 := fun h => hne 10 11 (by decide) (by decide) (by decide) rfl rfl (show u1 3 = u1 4 by rw [e_g3, e_g4, h])
  rw [e_g3, e_g4]
  clear hd hne e_g3 e_g4
  have l3 := o_g3.ge
  have l4 := o_g4.ge
  have o3 := o_g3.mono hc.size
  have o4 := o_g4.mono hc.size
  clear o_g3 o_g4
  have n23 : g2 ≠ g3 := by omega
  have n24 : g2 ≠ g4 := by omega
  clear o1
  replace o2 := o2.keep hS
  replace hc := hc.trans (hS.mono hc.size)
  clear hS
  simp only [List.drop_succ_cons, List.drop_zero]
  go_upto_region 2 with fail
  refine wp_region_inv 6 [16, 17, 18, 19, 20, 21] [.val (nv a), .val (nv a), .val (nv aa), .val (nv b), .val (nv b), .val (nv bb)] (fun wz => Below v1.heap.size v1 wz) (by kernel_rfl) (by kernel_rfl) (fun wz wz' hz hb => hz.trans (hb.mono hz.size)) ((Below.refl _ _).drew) (fun u => by simp only [puts, List.foldl_cons, List.foldl_nil]; go_simp; exact rfl) ?_ ?_
  · simp only [List.take_succ_cons, List.take_zero]
    refine Obs.cons (fun u w hS hd => ?_) ?_
    · exact Gv.run (nv a) rfl (run_nload rfl rfl (o3.keep hS)) rfl
    refine Obs.cons (fun u w hS hd => ?_) ?_
    · exact Gv.run (nv a) rfl (run_nload rfl rfl (o3.keep hS)) rfl
    refine Obs.cons (fun u w hS hd => ?_) ?_
    · have d16 : u 16 = nv a := dep hd 0 rfl
      have d17 : u 17 = nv a := dep hd 1 rfl
      rw [d16, d17]
      refine Gv.call 39 #[nv a, nv a] rfl (by go_simp) ((KAA.out w).mono ?_)
      rintro e w' ⟨rfl, hb⟩
      exact ⟨_, rfl, rfl, hb⟩
    refine Obs.cons (fun u w hS hd => ?_) ?_
    · exact Gv.run (nv b) rfl (run_nload rfl rfl (o4.keep hS)) rfl
    refine Obs.cons (fun u w hS hd => ?_) ?_
    · exact Gv.run (nv b) rfl (run_nload rfl rfl (o4.keep hS)) rfl
    refine Obs.cons (fun u w hS hd => ?_) ?_
    · have d19 : u 19 = nv b := dep hd 3 rfl
      have d20 : u 20 = nv b := dep hd 4 rfl
      rw [d19, d20]
      refine Gv.call 39 #[nv b, nv b] rfl (by go_simp) ((KBB.out w).mono ?_)
      rintro e w' ⟨rfl, hb⟩
      exact ⟨_, rfl, rfl, hb⟩
    exact Obs.nil
  intro u2 v2 hS hd
  have d18 : u2 18 = nv aa := hd 2 (by decide)
  have d21 : u2 21 = nv bb := hd 5 (by decide)
  rw [d18, d21]
  clear hd d18 d21
  replace o2 := o2.keep hS
  replace o3 := o3.keep hS
  replace o4 := o4.keep hS
  replace hc := hc.trans (hS.mono hc.size)
  have s12 := hS.size
  clear hS
  simp only [List.drop_succ_cons, List.drop_zero]
  have q0o2 := o2.only (only4 v2 g3 aa) (by first | assumption | (exact Ne.symm (by assumption)) | omega)
  have q0o4 := o4.only (only4 v2 g3 aa) (by first | assumption | (exact Ne.symm (by assumption)) | omega)
  have q0o3 := o3.put aa
  replace hc := hc.trans ((o3.below aa).mono (by first | assumption | omega | exact Nat.le_refl _ | exact Nat.le_add_right _ _))
  have q1o2 := q0o2.only (only4 (set4w v2 g3 aa) g4 bb) (by first | assumption | (exact Ne.symm (by assumption)) | omega)
  have q1o3 := q0o3.only (only4 (set4w v2 g3 aa) g4 bb) (by first | assumption | (exact Ne.symm (by assumption)) | omega)
  have q1o4 := q0o4.put bb
  replace hc := hc.trans ((q0o4.below bb).mono (by first | assumption | omega | exact Nat.le_refl _ | exact Nat.le_add_right _ _))
  go_upto_region 3 with (first | ((with_reducible refine n_store o3 aa ?_ ?_ ?_); rfl; rfl) | ((with_reducible refine n_store q0o4 bb ?_ ?_ ?_); rfl; rfl))
  obtain ⟨v3, ev⟩ : ∃ v, v = (set4w (set4w v2 g3 aa) g4 bb) := ⟨_, rfl⟩
  rw [← ev] at hc q1o2 q1o3 q1o4 ⊢
  clear ev
  replace o2 := q1o2
  replace o3 := q1o3
  replace o4 := q1o4
  clear q0o2 q0o3 q0o4
  go_wp2_with (first | ((with_reducible refine n_load o3 ?_ ?_); rfl) | ((with_reducible refine n_load o4 ?_ ?_); rfl))
  go_at_call 55
  refine (KE.out _).mono ?_
  rintro e w4 ⟨rfl, h0⟩
  replace o2 := o2.keep h0
  replace o3 := o3.keep h0
  replace o4 := o4.keep h0
  replace hc := hc.trans (h0.mono hc.size)
  have s34 := h0.size
  clear h0
  have o5 : O4 (w4.alloc Z4) w.heap.size w4.heap.size 0 := (O4.newz (Nat.le_refl _)).mono hc.size
  have hn5 : ∀ g, g < w4.heap.size → g ≠ w4.heap.size := fun g h => Nat.ne_of_lt h
  have n25 := hn5 g2 o2.lt
  have n35 := hn5 g3 o3.lt
  have n45 := hn5 g4 o4.lt
  replace o2 := o2.alloc Z4
  replace o3 := o3.alloc Z4
  replace o4 := o4.alloc Z4
  replace hc := hc.alloc hc.size Z4
  clear hn5
  have hs4 := hc.size
  have q0o2 := o2.only (only4 (w4.alloc Z4) w4.heap.size e1) (by first | assumption | (exact Ne.symm (by assumption)) | omega)
  have q0o3 := o3.only (only4 (w4.alloc Z4) w4.heap.size e1) (by first | assumption | (exact Ne.symm (by assumption)) | omega)
  have q0o4 := o4.only (only4 (w4.alloc Z4) w4.heap.size e1) (by first | assumption | (exact Ne.symm (by assumption)) | omega)
  have q0o5 := o5.put e1
  replace hc := hc.trans ((o5.below e1).mono (by first | assumption | omega | exact Nat.le_refl _ | exact Nat.le_add_right _ _))
  go_upto_region 4 with (first | ((with_reducible refine n_store o5 e1 ?_ ?_ ?_); rfl; rfl))
  obtain ⟨v4, ev⟩ : ∃ v, v = (set4w (w4.alloc Z4) w4.heap.size e1) := ⟨_, rfl⟩
  rw [← ev] at hc q0o2 q0o3 q0o4 q0o5 ⊢
  clear ev
  replace o2 := q0o2
  replace o3 := q0o3
  replace o4 := q0o4
  replace o5 := q0o5
  obtain ⟨g5, eg⟩ : ∃ g, g = w4.heap.size := ⟨_, rfl⟩
  rw [← eg] at o5 n25 n35 n45 ⊢
  clear eg
  refine wp_region_inv 11 [25, 26, 27, 28, 29, 30, 31, 32, 33, 34, 35] [.val (nv aa), .val (nv bb), .val (nv r1), .val (nv e1), .val (nv aa), .val (lit4 121665 0 0 0), .val (nv e1), .val (nv t1), .val (nv s1), .val (nv r2), .val (prv r1 r2)] (fun wz => Below v4.heap.size v4 wz) (by kernel_rfl) (by kernel_rfl) (fun wz wz' hz hb => hz.trans (hb.mono hz.size)) ((Below.refl _ _).drew) (fun u => by simp only [puts, List.foldl_cons, List.foldl_nil]; go_simp; exact rfl) ?_ ?_
  · simp only [List.take_succ_cons, List.take_zero]
    refine Obs.cons (fun u w hS hd => ?_) ?_
    · exact Gv.run (nv aa) rfl (run_nload rfl rfl (o3.keep hS)) rfl
    refine Obs.cons (fun u w hS hd => ?_) ?_
    · exact Gv.run (nv bb) rfl (run_nload rfl rfl (o4.keep hS)) rfl
    refine Obs.cons (fun u w hS hd => ?_) ?_
    · have d25 : u 25 = nv aa := dep hd 0 rfl
      have d26 : u 26 = nv bb := dep hd 1 rfl
      rw [d25, d26]
      refine Gv.call 39 #[nv aa, nv bb] rfl (by go_simp) ((K1.out w).mono ?_)
      rintro e w' ⟨rfl, hb⟩
      exact ⟨_, rfl, rfl, hb⟩
    refine Obs.cons (fun u w hS hd => ?_) ?_
    · exact Gv.run (nv e1) rfl (run_nload rfl rfl (o5.keep hS)) rfl
    refine Obs.cons (fun u w hS hd => ?_) ?_
    · exact Gv.run (nv aa) rfl (run_nload rfl rfl (o3.keep hS)) rfl
    refine Obs.cons (fun u w hS hd => ?_) ?_
    · exact Gv.run (lit4 121665 0 0 0) rfl (by go_simp) rfl
    refine Obs.cons (fun u w hS hd => ?_) ?_
    · exact Gv.run (nv e1) rfl (run_nload rfl rfl (o5.keep hS)) rfl
    refine Obs.cons (fun u w hS hd => ?_) ?_
    · have d30 : u 30 = lit4 121665 0 0 0 := dep hd 5 rfl
      have d31 : u 31 = nv e1 := dep hd 6 rfl
      rw [d30, d31]
      refine Gv.call 39 #[lit4 121665 0 0 0, nv e1] rfl (by go_simp) ((KT.out w).mono ?_)
      rintro e w' ⟨rfl, hb⟩
      exact ⟨_, rfl, rfl, hb⟩
    refine Obs.cons (fun u w hS hd => ?_) ?_
    · have d29 : u 29 = nv aa := dep hd 4 rfl
      have d32 : u 32 = nv t1 := dep hd 7 rfl
      rw [d29, d32]
      refine Gv.call 54 #[nv aa, nv t1] rfl (by go_simp) ((KW.out w).mono ?_)
      rintro e w' ⟨rfl, hb⟩
      exact ⟨_, rfl, rfl, hb⟩
    refine Obs.cons (fun u w hS hd => ?_) ?_
    · have d28 : u 28 = nv e1 := dep hd 3 rfl
      have d33 : u 33 = nv s1 := dep hd 8 rfl
      rw [d28, d33]
      refine Gv.call 39 #[nv e1, nv s1] rfl (by go_simp) ((K2.out w).mono ?_)
      rintro e w' ⟨rfl, hb⟩
      exact ⟨_, rfl, rfl, hb⟩
    refine Obs.cons (fun u w hS hd => ?_) ?_
    · have d27 : u 27 = nv r1 := dep hd 2 rfl
      have d34 : u 34 = nv r2 := dep hd 9 rfl
      rw [d27, d34]
      exact Gv.run (prv r1 r2) rfl (by go_simp) rfl
    exact Obs.nil
  intro u4 v5 hS hd
  have d35 : u4 35 = prv r1 r2 := hd 10 (by decide)
  rw [d35]
  clear hd d35
  replace o2 := o2.keep hS
  replace o3 := o3.keep hS
  replace o4 := o4.keep hS
  replace o5 := o5.keep hS
  replace hc := hc.trans (hS.mono hc.size)
  clear hS
  simp only [List.drop_succ_cons, List.drop_zero]
  clear o3 o4 o5
  have q0o2 := o2.put r1 r2
  replace hc := hc.trans ((o2.below r1 r2).mono (by first | assumption | omega | exact Nat.le_refl _ | exact Nat.le_add_right _ _))
  go_wp2_with (first | ((with_reducible refine p_store o2 r1 r2 ?_ ?_ ?_); rfl; rfl))
  replace o2 := q0o2
  exact bodyPost_ret (pres Try.results36 _ o2 rfl) rfl ⟨rfl, hc⟩
end Go.Proofs.Ytojggpiolgcjeaa
