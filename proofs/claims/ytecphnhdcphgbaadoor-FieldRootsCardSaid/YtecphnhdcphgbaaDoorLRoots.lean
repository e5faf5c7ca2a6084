import Derived.Test.YtecphnhdcphgbaaDoorR17
import Derived.Test.YtecphnhdcphgbaaDoorLaw3
namespace Go.Proofs.YtecphnhdcphgbaaDoor
open Go Go.RowKit
attribute [local irreducible] wd by8 d16 set16w fl
set_option maxRecDepth 20000
set_option maxHeartbeats 1600000 in
theorem roots_gen {a x r : Nat} {t : Bool} (hbr : r < W4)
    (k1 : ∀ w, Calls Tryd.prog 5 #[nv a] w fun e w' => e = .returned (fv x) ∧ Below w.heap.size w w')
    (k2 : ∀ w, Glb w → Calls Tryd.prog 18 #[nv a] w fun e w' => e = .returned (.tuple #[nv r, .bool t]) ∧ Below w.heap.size w w')
    (k3 : ∀ w, Calls Tryd.prog 19 #[fv x] w fun e w' => e = .returned (.tuple #[fv r, .bool t]) ∧ Below w.heap.size w w')
    (k4 : ∀ w, Calls Tryd.prog 9 #[fv r] w fun e w' => e = .returned (nv r) ∧ Below w.heap.size w w')
    (k5 : ∀ w, Calls Tryd.prog 20 #[fv x] w fun e w' => e = .returned (.bool t) ∧ Below w.heap.size w w') (w : World) (hG : Glb w) :
    Calls Tryd.prog 4 #[nv a] w fun e w' => e = .returned (.bool true) ∧ Below w.heap.size w w' := by
  have K1 := Lib.hid k1
  have K2 := Lib.hid k2
  have K3 := Lib.hid k3
  have K4 := Lib.hid k4
  have K5 := Lib.hid k5
  clear k1 k2 k3 k4 k5
  obtain ⟨v0, e0⟩ : ∃ v, v = w.alloc (A4 a) := ⟨_, rfl⟩
  have oa : O4 v0 w.heap.size w.heap.size a := by rw [e0]; exact O4.new (Nat.le_refl _) a
  have hc : Below w.heap.size w v0 := by rw [e0]; exact (Below.refl _ w).alloc (Nat.le_refl _) _
  have HG := Lib.hid hG
  clear hG
  unfold nv
  go_enter Tryd.func4, Tryd.ntmps4
  go_upto_region 1 with fail
  rw [← e0]
  clear e0
  obtain ⟨s0, s1, s2, s3⟩ := oa.c4
  go_wp2_with fail
  clear s0 s1 s2 s3
  go_at_call 5
  refine (K1.out _).mono ?_
  rintro e v1 ⟨rfl, h0⟩
  replace oa := oa.keep h0
  replace hc := hc.trans (h0.mono hc.size)
  clear h0
  have ox0 := O16.zero (own_Z16 (w := v1) (B := w.heap.size) hc.size)
  have ox := Lib.hid (ox0.put x)
  have hb0 := ox0.below x
  have hva := oa.lt
  replace oa := (oa.alloc Z16).other16 (g' := v1.heap.size) (by omega) x
  replace hc := (hc.alloc hc.size Z16).trans hb0
  clear ox0 hb0
  obtain ⟨ox0⟩ : Nonempty (O16 (v1.alloc Z16) w.heap.size v1.heap.size 0) := ⟨O16.zero (own_Z16 (w := v1) (B := w.heap.size) (by have := hva; omega))⟩
  go_upto_region 2 with (first | ((with_reducible refine fl_store ox0 x ?_ ?_ ?_); rfl; rfl))
  replace ox := ox.out
  obtain ⟨v2, e2⟩ : ∃ u, u = set16w (v1.alloc Z16) v1.heap.size x := ⟨_, rfl⟩
  rw [← e2] at oa ox hc ⊢
  obtain ⟨gx, hgx⟩ : ∃ g, g = v1.heap.size := ⟨_, rfl⟩
  rw [← hgx] at ox ⊢
  clear e2 ox0 hva hgx
  obtain ⟨s0, s1, s2, s3⟩ := oa.c4
  go_wp2_with fail
  clear s0 s1 s2 s3
  go_at_call 18
  refine (K2.out _ (HG.out.keep hc HG.out.pos)).mono ?_
  rintro e v3 ⟨rfl, h0⟩
  replace ox := ox.keep h0
  replace hc := hc.trans (h0.mono hc.size)
  clear h0 oa
  have owr4 := O4.new (w := v3) hc.size r
  replace ox := ox.alloc (A4 r)
  replace hc := hc.alloc hc.size (A4 r)
  go_upto_region 3 with fail
  obtain ⟨v4, e4⟩ : ∃ u, u = v3.alloc (A4 r) := ⟨_, rfl⟩
  rw [← e4] at ox owr4 hc ⊢
  clear e4
  go_wp2_with ((with_reducible refine fl_load ox ?_ ?_); rfl)
  go_at_call 19
  refine (K3.out _).mono ?_
  rintro e v5 ⟨rfl, h0⟩
  replace ox := ox.keep h0
  replace owr4 := owr4.keep h0
  replace hc := hc.trans (h0.mono hc.size)
  clear h0
  have ow0 := O16.zero (own_Z16 (w := v5) (B := w.heap.size) hc.size)
  have ow := Lib.hid (ow0.put r)
  have hb0 := ow0.below r
  have hvx := ox.lt
  have hv4 := owr4.lt
  replace ox := (ox.alloc Z16).other (g' := v5.heap.size) (by omega) r
  replace owr4 := (owr4.alloc Z16).other16 (g' := v5.heap.size) (by omega) r
  replace hc := (hc.alloc hc.size Z16).trans hb0
  clear ow0 hb0
  obtain ⟨ow0⟩ : Nonempty (O16 (v5.alloc Z16) w.heap.size v5.heap.size 0) := ⟨O16.zero (own_Z16 (w := v5) (B := w.heap.size) (by have := ox.ge; omega))⟩
  go_upto_region 4 with (first | ((with_reducible refine fl_store ow0 r ?_ ?_ ?_); rfl; rfl))
  have owr := ow.out
  obtain ⟨v6, e6⟩ : ∃ u, u = set16w (v5.alloc Z16) v5.heap.size r := ⟨_, rfl⟩
  rw [← e6] at owr owr4 ox hc ⊢
  clear e6 ow0 ow hvx hv4
  have hG2 := HG.out.keep hc HG.out.pos
  have HGG := Lib.hid (fun wz (hz : Below v6.heap.size v6 wz) => hG2.next hz)
  clear hG2
  have HS := Lib.hid (keep4 owr4)
  have hs := hc.size
  refine wp_region_inv 18 [20, 21, 22, 23, 24, 25, 26, 27, 28, 29, 30, 31, 32, 33, 34, 35, 36, 37] [.val (nv r), .val (fv r), .val (nv r), .val (.bool true), .val (.bool true), .val (.bool t), .val (.bool t), .val (.bool true), .val (.bool true), .val (.bool true), .val (.bool t), .val (fv x), .val (.bool t), .val (.bool true), .val (.bool true), .val (.bool true), .val (.bool true), .val (.bool true)] (fun wz => Below v6.heap.size v6 wz) (by kernel_rfl) (by kernel_rfl) (fun wz wz' hz hb => hz.trans (hb.mono hz.size)) ((Below.refl _ _).drew) (fun u => by simp only [puts, List.foldl_cons, List.foldl_nil]; go_simp; exact rfl) ?_ ?_
  · simp only [List.take_succ_cons, List.take_zero]
    refine Obs.cons (fun u w hS hd => ?_) ?_
    · obtain ⟨s0, s1, s2, s3⟩ := HS.out w hS
      refine Gv.run (nv r) rfl (by go_simp) rfl
    refine Obs.cons (fun u w hS hd => ?_) ?_
    · exact Gv.run (fv r) rfl (run_fload rfl rfl (owr.keep hS)) rfl
    refine Obs.cons (fun u w hS hd => ?_) ?_
    · have d21 : u 21 = fv r := dep hd 1 rfl
      rw [d21]
      refine Gv.call 9 #[fv r] rfl (by go_simp) ((K4.out w).mono ?_)
      rintro e w' ⟨rfl, hb⟩
      exact ⟨_, rfl, rfl, hb⟩
    refine Obs.cons (fun u w hS hd => ?_) ?_
    · have d20 : u 20 = nv r := dep hd 0 rfl
      rw [d20]
      have d22 : u 22 = nv r := dep hd 2 rfl
      rw [d22]
      exact Gv.run (.bool true) rfl (run_eq4 rfl rfl rfl hbr hbr (decide_eq_true rfl) w) rfl
    refine Obs.cons (fun u w hS hd => ?_) ?_
    · have d23 : u 23 = .bool true := dep hd 3 rfl
      rw [d23]
      exact Gv.run (.bool true) rfl (by go_simp) rfl
    refine Obs.cons (fun u w hS hd => ?_) ?_
    · have d24 : u 24 = .bool true := dep hd 4 rfl
      rw [d24]
      exact Gv.run (.bool t) rfl (by go_simp) rfl
    refine Obs.cons (fun u w hS hd => ?_) ?_
    · have d24 : u 24 = .bool true := dep hd 4 rfl
      rw [d24]
      exact Gv.run (.bool t) rfl (by go_simp) rfl
    refine Obs.cons (fun u w hS hd => ?_) ?_
    · have d24 : u 24 = .bool true := dep hd 4 rfl
      rw [d24]
      have d25 : u 25 = .bool t := dep hd 5 rfl
      rw [d25]
      have d26 : u 26 = .bool t := dep hd 6 rfl
      rw [d26]
      exact Gv.run (.bool true) rfl (by go_simp) rfl
    refine Obs.cons (fun u w hS hd => ?_) ?_
    · have d24 : u 24 = .bool true := dep hd 4 rfl
      rw [d24]
      have d27 : u 27 = .bool true := dep hd 7 rfl
      rw [d27]
      exact Gv.run (.bool true) rfl (by go_simp) rfl
    refine Obs.cons (fun u w hS hd => ?_) ?_
    · have d28 : u 28 = .bool true := dep hd 8 rfl
      rw [d28]
      exact Gv.run (.bool true) rfl (by go_simp) rfl
    refine Obs.cons (fun u w hS hd => ?_) ?_
    · have d29 : u 29 = .bool true := dep hd 9 rfl
      rw [d29]
      exact Gv.run (.bool t) rfl (by go_simp) rfl
    refine Obs.cons (fun u w hS hd => ?_) ?_
    · have d29 : u 29 = .bool true := dep hd 9 rfl
      rw [d29]
      exact Gv.run (fv x) (by rfl) (run_fload rfl rfl (ox.keep hS)) rfl
    refine Obs.cons (fun u w hS hd => ?_) ?_
    · have d29 : u 29 = .bool true := dep hd 9 rfl
      rw [d29]
      have d31 : u 31 = fv x := dep hd 11 rfl
      rw [d31]
      refine Gv.call 20 #[fv x] rfl (by go_simp) ((K5.out w).mono ?_)
      rintro e w' ⟨rfl, hb⟩
      exact ⟨_, rfl, rfl, hb⟩
    refine Obs.cons (fun u w hS hd => ?_) ?_
    · have d29 : u 29 = .bool true := dep hd 9 rfl
      rw [d29]
      have d30 : u 30 = .bool t := dep hd 10 rfl
      rw [d30]
      have d32 : u 32 = .bool t := dep hd 12 rfl
      rw [d32]
      exact Gv.run (.bool true) rfl (by go_simp) rfl
    refine Obs.cons (fun u w hS hd => ?_) ?_
    · have d29 : u 29 = .bool true := dep hd 9 rfl
      rw [d29]
      have d33 : u 33 = .bool true := dep hd 13 rfl
      rw [d33]
      exact Gv.run (.bool true) rfl (by go_simp) rfl
    refine Obs.cons (fun u w hS hd => ?_) ?_
    · have d34 : u 34 = .bool true := dep hd 14 rfl
      rw [d34]
      exact Gv.run (.bool true) rfl (by go_simp) rfl
    refine Obs.cons (fun u w hS hd => ?_) ?_
    · have d35 : u 35 = .bool true := dep hd 15 rfl
      rw [d35]
      refine Gv.call 17 #[] rfl (by go_simp) ((awake_any w (HGG.out w hS)).mono ?_)
      rintro e w' ⟨rfl, hb⟩
      exact ⟨_, rfl, rfl, hb⟩
    refine Obs.cons (fun u w hS hd => ?_) ?_
    · have d35 : u 35 = .bool true := dep hd 15 rfl
      rw [d35]
      have d36 : u 36 = .bool true := dep hd 16 rfl
      rw [d36]
      exact Gv.run (.bool true) rfl (by go_simp) rfl
    exact Obs.nil
  · intro u w hS hd
    have dl : u 37 = .bool true := hd 17 (by decide)
    rw [dl]
    simp only [List.drop_succ_cons, List.drop_zero]
    go_wp2_with fail
    go_ret
    exact ⟨rfl, hc.trans (hS.mono hs)⟩
theorem rtr_lt (a : Nat) : rtr a < W4 := by unfold rtr; split; exact rt2_W4 a; exact W4_pos
theorem roots_law {a : Nat} (ha : a < W4) (w : World) (hG : Glb w) :
    Calls Tryd.prog 4 #[nv a] w fun e w' => e = .returned (.bool true) ∧ Below w.heap.size w w' := by
  have hx := Nat.mod_lt a P25_pos
  exact roots_gen (x := a % P25) (r := rtr (a % P25)) (t := decide (rtq (a % P25) = 1)) (rtr_lt _) (fun w => rof_any ha w) (fun w hG => froot_any ha w hG) (fun w => rroot_any hx w) (fun w => rnum_any (rtr_lt _) w) (fun w => rsquare_any hx w) w hG
end Go.Proofs.YtecphnhdcphgbaaDoor
