import Derived.Test.YtifcjfeepgfmfaaDoorFPow
import Derived.Test.YtifcjfeepgfmfaaDoorEq
namespace Go.Proofs.YtifcjfeepgfmfaaDoor
open Go Go.RowKit
theorem l_less2 : nv (P25 + W4 - 2) = lit4 18446744073709551595 18446744073709551615 18446744073709551615 9223372036854775807 := by kernel_rfl
theorem P25_2 : (P25 + W4 - 2) % W4 = P25 - 2 := by decide +kernel
attribute [local irreducible] wd by8
set_option maxRecDepth 20000
set_option maxHeartbeats 800000 in
theorem finvert_walk {a d b r P : Nat} (kpr : ∀ w, Calls Tryd.prog 14 #[] w fun e w' => e = .returned (nv P) ∧ Below w.heap.size w w')
    (ksub : ∀ w, Calls Tryd.prog 46 #[nv P, lit4 2 0 0 0] w fun e w' => e = .returned (.tuple #[nv d, .int .u64 (b : Int)]) ∧ Below w.heap.size w w')
    (kpow : ∀ w, Calls Tryd.prog 28 #[nv a, nv d] w fun e w' => e = .returned (nv r) ∧ Below w.heap.size w w') (w : World) :
    Calls Tryd.prog 31 #[nv a] w fun e w' => e = .returned (nv r) ∧ Below w.heap.size w w' := by
  have KP := Lib.hid kpr
  have KS := Lib.hid ksub
  have KW := Lib.hid kpow
  clear kpr ksub kpow
  unfold nv
  go_enter Tryd.func31, Tryd.ntmps31
  go_wp2_with fail
  go_at_call 14
  refine (KP.out _).mono ?_
  rintro e v1 ⟨rfl, h0⟩
  obtain ⟨oz, hc⟩ := zres2 h0
  have oa := box1 h0
  clear h0
  go_wp2_with fail
  go_at_call 46
  refine (KS.out _).mono ?_
  rintro e v2 ⟨rfl, h0⟩
  replace oz := oz.keep h0
  replace oa := oa.keep h0
  replace hc := hc.trans (h0.mono hc.size)
  clear h0
  have od := O4.new (w := v2) hc.size d
  replace oz := oz.alloc (A4 d)
  replace oa := oa.alloc (A4 d)
  replace hc := hc.alloc hc.size (A4 d)
  obtain ⟨a0, a1, a2, a3⟩ := oa.c4
  obtain ⟨d0, d1, d2, d3⟩ := od.c4
  go_wp2_with fail
  clear a0 a1 a2 a3 d0 d1 d2 d3
  go_at_call 28
  refine (KW.out _).mono ?_
  rintro e v3 ⟨rfl, h0⟩
  replace oz := oz.keep h0
  replace hc := hc.trans (h0.mono hc.size)
  clear h0
  obtain ⟨z0, z1, z2, z3⟩ := oz.c4
  obtain ⟨f0, f1, f2, f3⟩ := oz.f4
  obtain ⟨wz, ez, or, hb, _⟩ := oz.out r
  obtain ⟨r0, r1, r2, r3⟩ := or.c4
  go_wp2_with fail
  rw [← ez]
  refine bodyPost_ret (v := nv r) (by simp [results, Tryd.results31, go_sem, r0, r1, r2, r3]) rfl ⟨rfl, hc.trans hb⟩
theorem finvert_any {a : Nat} (ha : a < W4) (w : World) :
    Calls Tryd.prog 31 #[nv a] w fun e w' => e = .returned (nv (a ^ (P25 - 2) % P25)) ∧ Below w.heap.size w w' := by
  refine finvert_walk (d := P25 + W4 - 2) (b := bw P25 2 4) prime_any (fun w => ?_) (fun w => ?_) w
  · have h := sub_any P25 2 (by decide +kernel) w
    rw [nv_small (x := 2) (by decide)] at h
    exact h
  · have h := fpower_any ha (e := P25 - 2) (Nat.lt_of_le_of_lt (Nat.sub_le _ _) P25_W4) w
    rw [← P25_2, nv_mod (P25 + W4 - 2), P25_2] at h
    exact h
/-- 1, if the square of r is a. -/
theorem squares_walk {x a p q : Nat} (hp : p < W4) (haW : a < W4) (kmul : ∀ w, Calls Tryd.prog 26 #[nv x, nv x] w fun e w' => e = .returned (nv p) ∧ Below w.heap.size w w') (hq : q = if p = a then 1 else 0) (w : World) :
    Calls Tryd.prog 60 #[nv x, nv a] w fun e w' => e = .returned (.int .u64 (q : Int)) ∧ Below w.heap.size w w' := by
  have heq := eq4 p a hp haW
  have KM := Lib.hid kmul
  clear kmul
  obtain ⟨v2, e2⟩ : ∃ v, v = (w.alloc (A4 x)).alloc (A4 a) := ⟨_, rfl⟩
  have ox : O4 v2 w.heap.size w.heap.size x := by rw [e2]; exact (O4.new (Nat.le_refl _) x).alloc _
  have oa : O4 v2 w.heap.size (w.heap.size + 1) a := by
    rw [e2]; have h := O4.new (w := w.alloc (A4 x)) (B := w.heap.size) (by simp) a; simpa using h
  have hc : Below w.heap.size w v2 := by rw [e2]; exact ((Below.refl _ w).alloc (Nat.le_refl _) _).alloc (by simp) _
  have HS := Lib.hid (keep44 ox oa)
  have hs := hc.size
  unfold nv at heq
  have HE := Lib.hid heq
  clear heq
  unfold nv
  rcases (show p = a ∨ p ≠ a by omega) with h | h
  · rw [if_pos h] at hq
    have hd : decide (p = a) = true := decide_eq_true h
    have HD := Lib.hid hd
    clear h hd
    subst hq
    go_enter Tryd.func60, Tryd.ntmps60
    go_upto_region 1 with fail
    rw [← e2]
    clear e2
    refine wp_region_seq 4 (fun wz => Below v2.heap.size v2 wz) (by kernel_rfl) (by kernel_rfl) (Below.refl _ v2).drew ?_
    simp only [List.take_succ_cons, List.take_zero, List.drop_succ_cons, List.drop_zero]
    refine Seq.run (nv x) rfl (fun wz hz => by obtain ⟨s0, s1, s2, s3, t0, t1, t2, t3⟩ := HS.out wz hz; go_simp) ?_
    refine Seq.run (nv x) rfl (fun wz hz => by obtain ⟨s0, s1, s2, s3, t0, t1, t2, t3⟩ := HS.out wz hz; go_simp) ?_
    refine Seq.call (nv p) 26 #[nv x, nv x] rfl (fun wz hz => by go_simp) (fun wz hz => (KM.out wz).mono fun e w' ⟨he, h1⟩ => ⟨he, hz.trans (h1.mono hz.size)⟩) ?_
    refine Seq.run (nv a) rfl (fun wz hz => by obtain ⟨s0, s1, s2, s3, t0, t1, t2, t3⟩ := HS.out wz hz; go_simp) ?_
    refine Seq.nil fun wz hd => ?_
    have heq := HE.out
    have hD := HD.out
    go_wp2_with fail
    go_ret
    exact ⟨rfl, hc.trans (hd.mono hs)⟩
  · rw [if_neg h] at hq
    have hd : decide (p = a) = false := decide_eq_false h
    have HD := Lib.hid hd
    clear h hd
    subst hq
    go_enter Tryd.func60, Tryd.ntmps60
    go_upto_region 1 with fail
    rw [← e2]
    clear e2
    refine wp_region_seq 4 (fun wz => Below v2.heap.size v2 wz) (by kernel_rfl) (by kernel_rfl) (Below.refl _ v2).drew ?_
    simp only [List.take_succ_cons, List.take_zero, List.drop_succ_cons, List.drop_zero]
    refine Seq.run (nv x) rfl (fun wz hz => by obtain ⟨s0, s1, s2, s3, t0, t1, t2, t3⟩ := HS.out wz hz; go_simp) ?_
    refine Seq.run (nv x) rfl (fun wz hz => by obtain ⟨s0, s1, s2, s3, t0, t1, t2, t3⟩ := HS.out wz hz; go_simp) ?_
    refine Seq.call (nv p) 26 #[nv x, nv x] rfl (fun wz hz => by go_simp) (fun wz hz => (KM.out wz).mono fun e w' ⟨he, h1⟩ => ⟨he, hz.trans (h1.mono hz.size)⟩) ?_
    refine Seq.run (nv a) rfl (fun wz hz => by obtain ⟨s0, s1, s2, s3, t0, t1, t2, t3⟩ := HS.out wz hz; go_simp) ?_
    refine Seq.nil fun wz hd => ?_
    have heq := HE.out
    have hD := HD.out
    go_wp2_with fail
    go_ret
    exact ⟨rfl, hc.trans (hd.mono hs)⟩
theorem squares_any {x a : Nat} (hx : x < W4) (ha : a < W4) (w : World) :
    Calls Tryd.prog 60 #[nv x, nv a] w fun e w' => e = .returned (.int .u64 ((if x * x % P25 = a then 1 else 0 : Nat) : Int)) ∧ Below w.heap.size w w' :=
  squares_walk (red_W4 _) ha (fun w => fmul_any hx hx w) rfl w
end Go.Proofs.YtifcjfeepgfmfaaDoor
