import Derived.Test.YtifcjfeepgfmfaaDoorO4
namespace Go.Proofs.YtifcjfeepgfmfaaDoor
open Go Go.RowKit
def H25 : Nat := 57896044618658097711785492504343953926634992332820282019728792003956564819968
theorem H25_eq : W4 = 2 * H25 := by decide +kernel
theorem H25_P : H25 = P25 + 19 := by decide +kernel
theorem top_bit {a : Nat} (ha : a < W4) : wd a 3 / 9223372036854775808 = a / H25 := by
  unfold wd dgt
  have h1 : a / 18446744073709551616 ^ 3 < 18446744073709551616 := Nat.div_lt_of_lt_mul (by rw [← Nat.pow_succ]; exact ha)
  rw [Nat.mod_eq_of_lt h1, Nat.div_div_eq_div_mul]
  rfl
theorem wd_low {a k : Nat} (hk : k < 3) : wd (a % H25) k = wd a k := by
  have e : H25 = 18446744073709551616 ^ 3 * 9223372036854775808 := by decide +kernel
  have h1 : (a % H25) % 18446744073709551616 ^ 3 = a % 18446744073709551616 ^ 3 := by rw [e, Nat.mod_mul_right_mod]
  unfold wd
  rw [← dgt_mod _ hk, h1, dgt_mod _ hk]
theorem wd_top {a : Nat} (ha : a < W4) : wd (a % H25) 3 = wd a 3 % 9223372036854775808 := by
  have e : H25 = 18446744073709551616 ^ 3 * 9223372036854775808 := by decide +kernel
  have h1 : a / 18446744073709551616 ^ 3 < 18446744073709551616 := Nat.div_lt_of_lt_mul (by rw [← Nat.pow_succ]; exact ha)
  unfold wd dgt
  rw [e, Nat.mod_mul_right_div_self, Nat.mod_eq_of_lt h1, Nat.mod_eq_of_lt (by have := Nat.mod_lt (a / 18446744073709551616 ^ 3) (show 0 < 9223372036854775808 by decide); omega)]
theorem O4.top {w : World} {B g a : Nat} (h : O4 w B g a) {v : Value} (hv : v = .int .u64 (wd (a % H25) 3 : Int)) : O4 (w.setCell ⟨g, 3, none⟩ v) B g (a % H25) := by
  subst hv
  refine OwnF.congr (OwnF.set_ h 3 _) fun k hk => ?_
  by_cases h3 : k = 3
  · subst h3; rfl
  · rw [if_neg h3]
    unfold wv
    rw [wd_low (by omega)]
theorem O4.oth1 {w : World} {B g g' x : Nat} (h : O4 w B g x) (hg : g' ≠ g) (k : Nat) (v : Value) : O4 (w.setCell ⟨g', k, none⟩ v) B g x := OwnF.other h (p := ⟨g', k, none⟩) hg v
def hv (a k : Nat) : Nat := 2 * k + a / H25
def su (a k : Nat) : Nat := a % H25 + 19 * hv a k
theorem hv_le {a k : Nat} (ha : a < W4) (hk : k ≤ 4294967296) : hv a k ≤ 8589934593 := by
  have := Nat.div_lt_of_lt_mul (show a < H25 * 2 by rw [Nat.mul_comm, ← H25_eq]; exact ha)
  unfold hv; omega
theorem su_lt {a k : Nat} (ha : a < W4) (hk : k ≤ 4294967296) : su a k < 2 * P25 := by
  have h1 := hv_le ha hk
  have h2 := Nat.mod_lt a (show 0 < H25 by decide +kernel)
  have h3 : H25 + 200000000000 < 2 * P25 := by decide +kernel
  unfold su; omega
theorem su_mod (a k : Nat) : su a k % P25 = (a + W4 * k) % P25 := by
  have h := Nat.mod_add_div a H25
  have e : a + W4 * k = su a k + P25 * hv a k := by
    unfold su hv
    rw [H25_eq]
    rw [show 2 * H25 * k = H25 * (2 * k) by rw [Nat.mul_comm 2 H25, Nat.mul_assoc]]
    generalize a / H25 = q at *
    have h1 : a = a % H25 + H25 * q := by omega
    have h2 : H25 * (2 * k) + H25 * q = H25 * (2 * k + q) := by rw [Nat.mul_add]
    have h3 : H25 * (2 * k + q) = P25 * (2 * k + q) + 19 * (2 * k + q) := by rw [H25_P, Nat.add_mul]
    omega
  rw [e, Nat.add_mul_mod_self_left]
theorem nv_small {x : Nat} (h : x < 18446744073709551616) : nv x = lit4 x 0 0 0 := by
  have h0 : wd x 0 = x := by unfold wd dgt; rw [Nat.pow_zero, Nat.div_one, Nat.mod_eq_of_lt h]
  have hk : ∀ k, 1 ≤ k → wd x k = 0 := fun k hk => dgt_zero_of_lt (Nat.lt_of_lt_of_le h (by have := Nat.pow_le_pow_right (n := 18446744073709551616) (by decide) hk; rwa [Nat.pow_one] at this))
  unfold nv
  rw [h0, hk 1 (by omega), hk 2 (by omega), hk 3 (by omega)]
  rfl
theorem pick_left {s : Nat} (h : s < 2 * P25) : (if (if s < P25 then 1 else 0) = 0 then s + W4 - P25 else s) % W4 = s % P25 := by
  have hP : P25 < W4 := P25_W4
  have hP2 : 2 * P25 < W4 := by decide +kernel
  by_cases h1 : s < P25
  · rw [if_pos h1, if_neg (by decide), Nat.mod_eq_of_lt (by omega), Nat.mod_eq_of_lt h1]
  · rw [if_neg h1, if_pos rfl, show s + W4 - P25 = s - P25 + W4 by omega, Nat.add_mod_right, Nat.mod_eq_of_lt (by omega), Nat.mod_eq_sub_mod (by omega), Nat.mod_eq_of_lt (by omega)]
theorem nv_mod (x : Nat) : nv (x % W4) = nv x := by
  unfold nv wd
  rw [show W4 = 18446744073709551616 ^ 4 from rfl, dgt_mod x (by decide), dgt_mod x (by decide), dgt_mod x (by decide), dgt_mod x (by decide)]
theorem or_halves {k q : Nat} (hk : k ≤ 4294967296) (hq : q ≤ 1) : bits .or .u64 (2 * (k : Int)) (q : Int) = ((2 * k + q : Nat) : Int) := by
  have e : (2 * (k : Int)) = ((2 * k : Nat) : Int) := by omega
  rw [e, bits_or_u64_nat _ _ (by omega) (by omega)]
  have : 2 * k ||| q = 2 * k + q := by
    have := Nat.two_pow_add_eq_or_of_lt (i := 1) (b := q) (by omega) k
    rw [Nat.pow_one] at this
    exact this.symm
  rw [this]
theorem and_top {x : Nat} (h : x < 18446744073709551616) : bits .and .u64 (x : Int) 9223372036854775807 = ((x % 9223372036854775808 : Nat) : Int) := by
  have := bits_and_u64_nat x 9223372036854775807 h (by omega)
  rw [show (9223372036854775807 : Nat) = 2 ^ 63 - 1 from rfl, Nat.and_two_pow_sub_one_eq_mod] at this
  exact this
/-- What stood in a block is there no matter who else was called. -/
theorem set4_rest {w : World} {B g x : Nat} (h : O4 w B g x) : ∀ wz, Below w.heap.size w wz → wz.cell? ⟨g, 0, none⟩ = some (.int .u64 (wd x 0 : Int)) ∧ wz.cell? ⟨g, 1, none⟩ = some (.int .u64 (wd x 1 : Int)) ∧ wz.cell? ⟨g, 2, none⟩ = some (.int .u64 (wd x 2 : Int)) ∧ wz.cell? ⟨g, 3, none⟩ = some (.int .u64 (wd x 3 : Int)) := fun _ hz => (h.keep hz).c4
theorem bw_one {x y : Nat} (hx : x < W4) (hy : y < W4) : bw x y 4 = if x < y then 1 else 0 := brw_full hx hy
attribute [local irreducible] wd by8
set_option maxRecDepth 20000 in
set_option maxHeartbeats 800000 in
theorem settle_walk {a k a3 h1 h19 s c d b r : Nat} (e1 : bits .or .u64 (2 * (k : Int)) ((wd a 3 : Int) / 9223372036854775808) = (h1 : Int)) (e2 : bits .and .u64 (wd a 3 : Int) 9223372036854775807 = (a3 : Int)) (e3 : IntKind.u64.wrap (19 * (h1 : Int)) = (h19 : Int))
    (kadd : ∀ w, Calls Tryd.prog 47 #[lit4 (wd a 0) (wd a 1) (wd a 2) a3, lit4 h19 0 0 0] w fun e w' => e = .returned (.tuple #[nv s, .int .u64 (c : Int)]) ∧ Below w.heap.size w w')
    (ksub : ∀ w, Calls Tryd.prog 46 #[nv s, nv P25] w fun e w' => e = .returned (.tuple #[nv d, .int .u64 (b : Int)]) ∧ Below w.heap.size w w')
    (kpick : ∀ w, Calls Tryd.prog 55 #[.int .u64 (b : Int), nv d, nv s] w fun e w' => e = .returned (nv r) ∧ Below w.heap.size w w')
    (g1 : IntKind.u64.wrap ((k : Int) * 2) = 2 * (k : Int)) (w : World) :
    Calls Tryd.prog 44 #[nv a, .int .u64 k] w fun e w' => e = .returned (nv r) ∧ Below w.heap.size w w' := by
  obtain ⟨P, hP⟩ : ∃ P, P = P25 := ⟨_, rfl⟩
  have kpr := prime_any
  rw [← hP] at ksub kpr
  clear hP
  have KS := Lib.hid ksub
  have KP := Lib.hid kpick
  have KA := Lib.hid kadd
  clear ksub kpick kadd
  unfold nv
  go_enter Tryd.func44, Tryd.ntmps44
  go_wp2_with fail
  go_at_call 47
  refine (KA.out _).mono ?_
  rintro e v1 ⟨rfl, h0⟩
  clear e1 e2 e3
  obtain ⟨oz, hc⟩ := zres2 h0
  have os := O4.new (w := v1) hc.size s
  replace oz := oz.alloc (A4 s)
  replace hc := hc.alloc hc.size (A4 s)
  clear h0
  go_upto_region 4 with fail
  obtain ⟨v2, e2⟩ : ∃ v, v = v1.alloc (A4 s) := ⟨_, rfl⟩
  rw [← e2] at os oz hc ⊢
  clear e2
  have HS := Lib.hid (keep4 os)
  have hs := hc.size
  go_cut [8, 9] from 28 to 33 (fun p8 c9 wx => ∃ g, p8 = .pointer (some ⟨g, 0, none⟩) ∧ c9 = .int .u64 (b : Int) ∧ O4 wx w.heap.size g d ∧ Below v2.heap.size v2 wx)
  case first =>
    obtain ⟨s0, s1, s2, s3⟩ := HS.out v2 (Below.refl _ _)
    have hd : Below v2.heap.size v2 v2.drew := (Below.refl _ v2).drew
    go_region_held3 (fun wz => wz.cell? ⟨v1.heap.size, 0, none⟩ = some (.int .u64 (wd s 0 : Int)) ∧ wz.cell? ⟨v1.heap.size, 1, none⟩ = some (.int .u64 (wd s 1 : Int)) ∧ wz.cell? ⟨v1.heap.size, 2, none⟩ = some (.int .u64 (wd s 2 : Int)) ∧ wz.cell? ⟨v1.heap.size, 3, none⟩ = some (.int .u64 (wd s 3 : Int)))
      (first | exact HS.out _ hd | exact HS.out _ (hd.alloc hd.size _) | exact HS.out _ (by repeat (first | exact hd | (refine Below.setCell ?_ (by first | omega | (simp; done) | (simp; omega)) _) | (refine Below.alloc ?_ (by first | omega | (simp; done) | (simp; omega)) _) | refine Below.drew ?_)))
      (first | (go_at_call 14; (with_reducible refine (kpr _).mono ?_); rintro e wp ⟨rfl, h1⟩; (first | (replace ob := ob.keep h1) | (have ob := keepZd h1; have hg := Nat.le_refl v2.heap.size) | (have ob := keepZ h1; have hg := hd.size) | skip); (first | (replace hd := (hd.alloc hd.size Z4).trans (h1.mono (Nat.le_trans hd.size (by simp)))) | (replace hd := hd.trans (h1.mono hd.size))); clear h1) | (go_at_call 46; (with_reducible refine (KS.out _).mono ?_); rintro e wn ⟨rfl, h1⟩; (first | (replace ob := ob.keep h1) | (have ob := keepZd h1; have hg := Nat.le_refl v2.heap.size) | (have ob := keepZ h1; have hg := hd.size) | skip); (first | (replace hd := (hd.alloc hd.size Z4).trans (h1.mono (Nat.le_trans hd.size (by simp)))) | (replace hd := hd.trans (h1.mono hd.size))); clear h1; (try (obtain ⟨o0, o1, o2, o3⟩ := ob.c4; obtain ⟨q0, q1, q2, q3⟩ := ob.f4))))
    all_goals
      go_wp2_with fail
      go_meet
      first
        | exact ⟨_, rfl, rfl, O4.new (Nat.le_trans hs hd.size) d, hd.alloc hd.size _⟩
        | exact ⟨_, rfl, rfl, (ob.put d).mono (Nat.le_trans hs hg), hd.trans ((ob.below d).mono hg)⟩
  case rest =>
    obtain ⟨g, rfl, rfl, od, hd⟩ := hcut
    replace os := os.keep hd
    replace oz := oz.keep hd
    replace hc := hc.trans (hd.mono hs)
    clear hd hs HS
    obtain ⟨s0, s1, s2, s3⟩ := os.c4
    obtain ⟨d0, d1, d2, d3⟩ := od.c4
    go_wp2_with fail
    clear s0 s1 s2 s3 d0 d1 d2 d3
    go_at_call 55
    refine (KP.out _).mono ?_
    rintro e w3 ⟨rfl, h1⟩
    replace oz := oz.keep h1
    replace hc := hc.trans (h1.mono hc.size)
    obtain ⟨z0, z1, z2, z3⟩ := oz.c4
    obtain ⟨f0, f1, f2, f3⟩ := oz.f4
    obtain ⟨wz, ez, or, hb, _⟩ := oz.out r
    obtain ⟨r0, r1, r2, r3⟩ := or.c4
    go_wp2_with fail
    rw [← ez]
    refine bodyPost_ret (v := nv r) (by simp [results, Tryd.results44, go_sem, r0, r1, r2, r3]) rfl ⟨rfl, hc.trans hb⟩
theorem settle_any {a k : Nat} (ha : a < W4) (hk : k ≤ 4294967296) (w : World) :
    Calls Tryd.prog 44 #[nv a, .int .u64 k] w fun e w' => e = .returned (nv ((a + W4 * k) % P25)) ∧ Below w.heap.size w w' := by
  have hh := hv_le ha hk
  have hq : a / H25 ≤ 1 := by
    have := Nat.div_lt_of_lt_mul (show a < H25 * 2 by rw [Nat.mul_comm, ← H25_eq]; exact ha)
    omega
  have hsu := su_lt ha hk
  have hs4 : su a k < W4 := Nat.lt_trans hsu (by decide +kernel)
  have hbw := bw_one hs4 P25_W4
  refine settle_walk (a3 := wd (a % H25) 3) (h1 := hv a k) (h19 := 19 * hv a k) (s := su a k) (c := cw (a % H25) (19 * hv a k) 4) (d := su a k + W4 - P25) (b := bw (su a k) P25 4) ?_ ?_ ?_ (fun w => ?_) (fun w => sub_any _ _ P25_W4 w) (fun w => ?_) ?_ w
  · rw [show ((wd a 3 : Int) / 9223372036854775808) = ((wd a 3 / 9223372036854775808 : Nat) : Int) by rw [Int.natCast_ediv]; rfl, top_bit ha, or_halves hk hq]; rfl
  · rw [and_top (wd_lt _ _), wd_top ha]
  · rw [IntKind.wrap_u64]; omega
  · have h := add_any (a % H25) (19 * hv a k) w
    rw [nv_small (x := 19 * hv a k) (by omega), show nv (a % H25) = lit4 (wd a 0) (wd a 1) (wd a 2) (wd (a % H25) 3) by unfold nv; rw [wd_low (k := 0) (by decide), wd_low (k := 1) (by decide), wd_low (k := 2) (by decide)]] at h
    exact h
  · have h := pick_any (bw (su a k) P25 4) (su a k + W4 - P25) (su a k) (by have := bw_le (su a k) P25 4; omega) w
    rw [← nv_mod (if bw (su a k) P25 4 = 0 then su a k + W4 - P25 else su a k), hbw, pick_left hsu, su_mod] at h
    rw [hbw]
    exact h
  · rw [IntKind.wrap_u64]; omega
end Go.Proofs.YtifcjfeepgfmfaaDoor
