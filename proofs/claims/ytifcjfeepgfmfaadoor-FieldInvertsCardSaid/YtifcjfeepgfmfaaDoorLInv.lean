import Derived.Test.YtifcjfeepgfmfaaDoorR11
namespace Go.Proofs.YtifcjfeepgfmfaaDoor
open Go Go.RowKit
theorem set16w_eq (w : World) (g y : Nat) : w.setCells g 0 (fl y) = set16w w g y := rfl
attribute [local irreducible] wd by8 d16 set16w fl
set_option maxRecDepth 20000
set_option warningAsError false in
set_option maxHeartbeats 1600000 in
theorem rinvert_any {a : Nat} (ha : a < P25) (w : World) :
    Calls Tryd.prog 32 #[fv a] w fun e w' => e = .returned (fv (a ^ (P25 - 2) % P25)) ∧ Below w.heap.size w w' := by
  have hE : (P25 - 2) / 1 = P25 - 2 := Nat.div_one _
  have k1 := fun w => rless_any (n := 2) (b := 1) (by decide) (by decide) (by decide) w
  rw [hE] at k1
  have k1' : ∀ w, Calls Tryd.prog 59 #[.int .i64 2, .int .i64 1] w fun e w' => ∃ A c m, e = .returned (.slice A m c) ∧ DOwn w' w.heap.size A c m (P25 - 2) ∧ Below w.heap.size w w' := k1
  have hEW : P25 - 2 < W4 := Nat.lt_of_le_of_lt (Nat.sub_le _ _) P25_W4
  have K1 := Lib.hid k1'
  have KL := Lib.hid (fun n (hn : Can n (P25 - 2)) => Can.le32 hn hEW)
  have K2 : Hid (∀ (A : Option Addr) (c n : Nat) (w : World), Dig w w.heap.size A c n (P25 - 2) → n ≤ 32 → Calls Tryd.prog 29 #[fv a, .slice A n c] w fun r' w' => r' = .returned (fv (a ^ (P25 - 2) % P25)) ∧ Below w.heap.size w w') := Lib.hid (fun A c n w h hn => rpower_any ha (by omega) w h (Nat.le_refl _))
  have hs : (w.alloc (A16 a)).heap.size = w.heap.size + 1 := by simp
  have ox := (O16.new (w := w) (Nat.le_refl _) a).alloc Z16
  have oz := O16.zero (own_Z16 (w := w.alloc (A16 a)) (B := w.heap.size) (by omega))
  rw [hs] at oz
  have hc := ((Below.refl _ w).alloc (Nat.le_refl _) (A16 a)).alloc (by omega) Z16
  clear k1 k1' hE hEW ha hs
  generalize P25 - 2 = E at *
  obtain ⟨r, hr⟩ : ∃ r, r = a ^ E % P25 := ⟨_, rfl⟩
  rw [← hr] at K2 ⊢
  clear hr
  go_enter Tryd.func32, Tryd.ntmps32
  go_upto_region 1 with fail
  obtain ⟨v0, e0⟩ : ∃ u, u = (w.alloc (A16 a)).alloc Z16 := ⟨_, rfl⟩
  rw [← e0] at ox oz hc ⊢
  clear e0
  have hs := hc.size
  have finf : (Tryd.prog.info? 26).map (·.size) = some (fl a).length := by rw [fl_len]; exact f_info
  have farr := f_arr
  have flen := fl_len a
  have fone : ∀ v ∈ fl a, v.oneCell' = true := fun v hv => by
    have h := fl_one a
    rw [Array.all_eq_true_iff_forall_mem] at h
    exact h v (by simpa using hv)
  have hne : w.heap.size + 1 ≠ w.heap.size := by omega
  have finr : (Tryd.prog.info? 26).map (·.size) = some (fl r).toArray.size := by rw [List.size_toArray, fl_len]; exact f_info
  have foner := fl_one r
  have fonr : ∀ v ∈ fl r, v.oneCell' = true := fun v hv => by
    have h := fl_one r
    rw [Array.all_eq_true_iff_forall_mem] at h
    exact h v (by simpa using hv)
  have flenr := fl_len r
  have HC : ∀ wz, Below v0.heap.size v0 wz → wz.rangeAt w.heap.size 0 (fl a) ∧ wz.there (w.heap.size + 1) 0 16 := fun wz hz => ⟨OwnF.range (ox.keep hz) (by rw [fl_len]; exact Nat.le_refl _) (fun k hk => fl_get (by rwa [fl_len] at hk)), OwnF.there (oz.keep hz)⟩
  have HS := Lib.hid HC
  clear HC
  obtain ⟨sr, st⟩ := HS.out v0 (Below.refl _ _)
  have hd : Below v0.heap.size v0 v0.drew := (Below.refl _ v0).drew
  go_region_held3 (fun wz => wz.rangeAt w.heap.size 0 (fl a) ∧ wz.there (w.heap.size + 1) 0 16)
    (first | exact HS.out _ hd | exact ⟨World.rangeAt_setCells_apart (HS.out _ hd).1 _ _ _ (.inl (by omega)), World.there_setCells (HS.out _ hd).2 _ _ _⟩)
    (first | (go_at_call 59; (with_reducible refine (K1.out _).mono ?_); rintro e' wt ⟨At, ct, nt, rfl, dt, h9⟩; have p1 := dt.dig; have l1 := KL.out _ dt.can; replace hd := hd.trans (h9.mono hd.size); clear dt) | (go_at_call 29; (with_reducible refine (K2.out _ _ _ _ p1 l1).mono ?_); rintro e' wx ⟨rfl, h9⟩; replace hd := hd.trans (h9.mono hd.size)))
  all_goals
    have hop := Lib.hid ((oz.keep hd).put r)
    have hbl := (oz.keep hd).below r
    rw [set16w_eq]
    go_wp2_with fail
    exact bodyPost_ret (fres Tryd.results32 _ hop.out rfl) rfl ⟨rfl, (hc.trans (hd.mono hs)).trans hbl⟩
end Go.Proofs.YtifcjfeepgfmfaaDoor
namespace Go.Proofs.YtifcjfeepgfmfaaDoor
open Go Go.RowKit
attribute [local irreducible] wd by8 d16 set16w fl
set_option maxRecDepth 20000
set_option maxHeartbeats 1600000 in
theorem inverts_gen {a r x : Nat} (hbr : r < W4)
    (k1 : ∀ w, Calls Tryd.prog 31 #[nv a] w fun e w' => e = .returned (nv r) ∧ Below w.heap.size w w')
    (k2 : ∀ w, Calls Tryd.prog 13 #[nv a] w fun e w' => e = .returned (fv x) ∧ Below w.heap.size w w')
    (k3 : ∀ w, Calls Tryd.prog 32 #[fv x] w fun e w' => e = .returned (fv r) ∧ Below w.heap.size w w')
    (k4 : ∀ w, Calls Tryd.prog 17 #[fv r] w fun e w' => e = .returned (nv r) ∧ Below w.heap.size w w')
    (w : World) (hG : Glb w) :
    Calls Tryd.prog 6 #[nv a] w fun e w' => e = .returned (.bool true) ∧ Below w.heap.size w w' := by
  obtain ⟨v2, e2⟩ : ∃ v, v = w.alloc (A4 a) := ⟨_, rfl⟩
  have oa : O4 v2 w.heap.size w.heap.size a := by rw [e2]; exact O4.new (Nat.le_refl _) a
  have hc : Below w.heap.size w v2 := by rw [e2]; exact (Below.refl _ w).alloc (Nat.le_refl _) _
  have hG2 := hG.keep hc hG.pos
  have HGG := Lib.hid (fun wz (hz : Below v2.heap.size v2 wz) => hG2.next hz)
  clear hG hG2
  have K1 := Lib.hid k1
  have K2 := Lib.hid k2
  have K3 := Lib.hid k3
  have K4 := Lib.hid k4
  clear k1 k2 k3 k4
  unfold nv
  go_enter Tryd.func6, Tryd.ntmps6
  go_upto_region 1 with fail
  rw [← e2]
  clear e2
  have HS := Lib.hid (keep4 oa)
  have hs := hc.size
  refine wp_region_seq 10 (fun wz => Below v2.heap.size v2 wz) (by kernel_rfl) (by kernel_rfl) (Below.refl _ v2).drew ?_
  simp only [List.take_succ_cons, List.take_zero, List.drop_succ_cons, List.drop_zero]
  refine Seq.run (nv a) rfl (fun wz hz => by obtain ⟨s0, s1, s2, s3⟩ := HS.out wz hz; go_simp) ?_
  go_simp
  refine Seq.call (nv r) 31 #[nv a] rfl (fun wz hz => by go_simp) (fun wz hz => (K1.out wz).mono fun e w' ⟨he, h1⟩ => ⟨he, hz.trans (h1.mono hz.size)⟩) ?_
  go_simp
  refine Seq.run (nv a) rfl (fun wz hz => by obtain ⟨s0, s1, s2, s3⟩ := HS.out wz hz; go_simp) ?_
  go_simp
  refine Seq.call (fv x) 13 #[nv a] rfl (fun wz hz => by go_simp) (fun wz hz => (K2.out wz).mono fun e w' ⟨he, h1⟩ => ⟨he, hz.trans (h1.mono hz.size)⟩) ?_
  go_simp
  refine Seq.call (fv r) 32 #[fv x] rfl (fun wz hz => by go_simp) (fun wz hz => (K3.out wz).mono fun e w' ⟨he, h1⟩ => ⟨he, hz.trans (h1.mono hz.size)⟩) ?_
  go_simp
  refine Seq.call (nv r) 17 #[fv r] rfl (fun wz hz => by go_simp) (fun wz hz => (K4.out wz).mono fun e w' ⟨he, h1⟩ => ⟨he, hz.trans (h1.mono hz.size)⟩) ?_
  go_simp
  refine Seq.run (.bool true) rfl (fun wz hz => run_eq4 rfl rfl rfl hbr hbr (decide_eq_true rfl) wz) ?_
  go_simp
  refine Seq.run (.bool true) rfl (fun wz hz => by go_simp) ?_
  go_simp
  refine Seq.callG (.bool true) 25 #[] (by rfl) (fun wz hz => by go_simp) (fun wz hz => (awake_any wz (HGG.out wz hz)).mono fun e w' ⟨he, h1⟩ => ⟨he, hz.trans (h1.mono hz.size)⟩) ?_
  go_simp
  refine Seq.run (.bool true) rfl (fun wz hz => by go_simp) ?_
  go_simp
  refine Seq.nil fun v3 hd => ?_
  go_wp2_with fail
  go_ret
  exact ⟨rfl, hc.trans (hd.mono hs)⟩
theorem inverts_law {a : Nat} (ha : a < W4) (w : World) (hG : Glb w) :
    Calls Tryd.prog 6 #[nv a] w fun e w' => e = .returned (.bool true) ∧ Below w.heap.size w w' :=
  inverts_gen (r := a ^ (P25 - 2) % P25) (x := a % P25) (red_W4 _) (fun w => finvert_any ha w) (fun w => rof_any ha w)
    (fun w => by
      have h := rinvert_any (Nat.mod_lt a P25_pos) w
      rw [← Nat.pow_mod] at h
      exact h) (fun w => rnum_any (red_W4 _) w) w hG
end Go.Proofs.YtifcjfeepgfmfaaDoor
