/-
  The ladder's climb (layer 5), over letters. Written by tools/gen_k8.py. By an AI agent.
-/
import Derived.Test.YtojggpiolgcjeaaK4
import Derived.Test.YtojggpiolgcjeaaK7
import Derived.WalkMore
namespace Go.Proofs.Ytojggpiolgcjeaa
open Go Go.RowKit
theorem lp10 : prv 1 0 = .agg #[.int .u64 1, .int .u64 0, .int .u64 0, .int .u64 0, .int .u64 0, .int .u64 0, .int .u64 0, .int .u64 0] := by kernel_rfl
theorem lpy1 (y : Nat) : prv y 1 = .agg #[.int .u64 (wd y 0 : Int), .int .u64 (wd y 1 : Int), .int .u64 (wd y 2 : Int), .int .u64 (wd y 3 : Int), .int .u64 1, .int .u64 0, .int .u64 0, .int .u64 0] := by
  have h0 : wd 1 0 = 1 := by decide +kernel
  have h1 : wd 1 1 = 0 := by decide +kernel
  have h2 : wd 1 2 = 0 := by decide +kernel
  have h3 : wd 1 3 = 0 := by decide +kernel
  unfold prv
  rw [h0, h1, h2, h3]
  rfl
theorem climb_start (y : Nat) (w : World) : ∃ v, v = (w.alloc (A4 y)).alloc Z4 ∧ v.heap.size = w.heap.size + 2 ∧ O4 v w.heap.size w.heap.size y ∧ O4 v w.heap.size (w.heap.size + 1) 0 ∧ Below w.heap.size w v := by
  have s1 : (w.alloc (A4 y)).heap.size = w.heap.size + 1 := by simp
  have h1 := O4.new (w := w) (Nat.le_refl _) y
  have h2 := O4.newz (w := w.alloc (A4 y)) (B := w.heap.size) (by omega)
  rw [s1] at h2
  exact ⟨_, rfl, by simp, h1.alloc _, h2, ((Below.refl _ w).alloc (Nat.le_refl _) _).alloc (by omega) _⟩
theorem O4.keepAt {w w' : World} {B g x : Nat} (h : O4 w B g x) (hb : Below (g + 1) w w') : O4 w' B g x := OwnF.keepAt h hb
attribute [local irreducible] wd set4w set8p dX dZ aX aZ clam fsub ladderN by8
set_option maxRecDepth 20000
set_option maxHeartbeats 3200000 in
theorem climb_any {A : Option Addr} {B c K y : Nat} (hlow : ∀ a, a < 3 → ¬ K / 2 ^ a % 2 = 1) (hy : y < W4) (w : World) (hr : Rd w B A c (gen (bf K) 32)) (hB : B ≤ w.heap.size) :
    Calls Try.prog 21 #[.slice A 32 c, nv y] w fun e w' => e = .returned (nv (ladderN (y % P25) K)) ∧ Below w.heap.size w w' := by
  have kd : ∀ a b : Nat, a < W4 → b < W4 → ∀ w, Calls Try.prog 36 #[prv a b] w fun e w' => e = .returned (prv (dX a b) (dZ a b)) ∧ Below w.heap.size w w' := fun _ _ ha hb w => double_any ha hb w
  have kp : ∀ a b c d : Nat, a < W4 → b < W4 → c < W4 → d < W4 → ∀ w, Calls Try.prog 38 #[prv a b, prv c d, nv y] w fun e w' => e = .returned (prv (aX a b c d) (aZ a b c d y)) ∧ Below w.heap.size w w' := fun _ _ _ _ ha hb hc hd w => addp_any ha hb hc hd hy w
  obtain ⟨res, hres⟩ : ∃ r, r = ladderN (y % P25) K := ⟨_, rfl⟩
  rw [← hres]
  have HRES := Lib.hid hres
  have HKD := Lib.hid kd
  have HKP := Lib.hid kp
  have HLOW := Lib.hid hlow
  clear hres kd kp hlow
  have hst := Rel.start (K := K) hy
  have hdl : ∀ i, i < 32 → nth (gen (bf K) 32) i = by8 K i := fun i hi => by rw [nth_gen hi, bf_nat]
  have HDL := Lib.hid hdl
  clear hdl
  unfold nv
  go_enter Try.func21, Try.ntmps21
  go_wp2_with fail
  go_step3
  go_upto_region 1 with fail
  obtain ⟨v0, ev, hs0, o3, o4, hc⟩ := climb_start y w
  rw [← ev]
  clear ev
  obtain ⟨g3, eg3⟩ : ∃ g, g = w.heap.size := ⟨_, rfl⟩
  obtain ⟨g4, eg4⟩ : ∃ g, g = w.heap.size + 1 := ⟨_, rfl⟩
  have l3 : g3 + 1 ≤ v0.heap.size := by omega
  have l4 : g4 + 1 ≤ v0.heap.size := by omega
  replace o3 : O4 v0 w.heap.size g3 y := by rw [eg3]; exact o3
  replace o4 : O4 v0 w.heap.size g4 0 := by rw [eg4]; exact o4
  rw [show (Value.pointer (some ⟨w.heap.size, 0, none⟩)) = .pointer (some ⟨g3, 0, none⟩) by rw [eg3], show (Value.pointer (some ⟨w.heap.size + 1, 0, none⟩)) = .pointer (some ⟨g4, 0, none⟩) by rw [eg4]]
  clear eg3 eg4 hs0
  refine wp_region_box2 9 [some 10, some 11, some 12, some 13, some 14, some 5, some 6, none, none] [.val (lit4 1 0 0 0), .val (prv 1 0), .val (nv y), .val (lit4 1 0 0 0), .val (prv y 1), .box 54 8, .box 54 8, .holds 5 54 8 (pw 1 0), .holds 6 54 8 (pw y 1)] v0.heap.size (fun wz => Below v0.heap.size v0 wz) (by kernel_rfl) (by kernel_rfl)
    (fun _ _ h _ hb => h.trans hb) ((Below.refl _ _).drew) (Nat.le_refl _) (fun u => by simp only [List.filterMap_cons, List.filterMap_nil, id, puts, List.foldl_cons, List.foldl_nil]; go_simp; exact rfl) ?_ ?_
  · simp only [List.take_succ_cons, List.take_zero]
    refine ObsB.cons (fun u w L hL hS hBw hd => ?_) ?_
    · exact GB.run 10 rfl (lit4 1 0 0 0) rfl (by go_simp) rfl rfl
    refine ObsB.cons (fun u w L hL hS hBw hd => ?_) ?_
    · have d10 : u 10 = lit4 1 0 0 0 := depB hd 0 rfl
      rw [d10]
      exact GB.run 11 rfl (prv 1 0) rfl (by rw [lp10]; go_simp) rfl rfl
    refine ObsB.cons (fun u w L hL hS hBw hd => ?_) ?_
    · exact GB.run 12 rfl (nv y) rfl (run_nload rfl rfl (o3.keep hS)) rfl rfl
    refine ObsB.cons (fun u w L hL hS hBw hd => ?_) ?_
    · exact GB.run 13 rfl (lit4 1 0 0 0) rfl (by go_simp) rfl rfl
    refine ObsB.cons (fun u w L hL hS hBw hd => ?_) ?_
    · have d12 : u 12 = nv y := depB hd 2 rfl
      have d13 : u 13 = lit4 1 0 0 0 := depB hd 3 rfl
      rw [d12, d13]
      exact GB.run 14 rfl (prv y 1) rfl (by rw [lpy1 y]; go_simp) rfl rfl
    refine ObsB.cons (fun u w L hL hS hBw hd => ?_) ?_
    · exact GB.alloc 5 rfl rfl #[.int .u64 0, .int .u64 0, .int .u64 0, .int .u64 0, .int .u64 0, .int .u64 0, .int .u64 0, .int .u64 0] 54 8 (fun _ => .int .u64 0) rfl rfl (by go_simp) hBw (by decide) rfl
    refine ObsB.cons (fun u w L hL hS hBw hd => ?_) ?_
    · exact GB.alloc 6 rfl rfl #[.int .u64 0, .int .u64 0, .int .u64 0, .int .u64 0, .int .u64 0, .int .u64 0, .int .u64 0, .int .u64 0] 54 8 (fun _ => .int .u64 0) rfl rfl (by go_simp) hBw (by decide) rfl
    refine ObsB.cons (fun u w L hL hS hBw hd => ?_) ?_
    · have d11 : u 11 = prv 1 0 := depB hd 1 rfl
      obtain ⟨g, fg, e5, o5⟩ : (Fact.box 54 8).ok v0.heap.size [some 10, some 11, some 12, some 13, some 14, some 5, some 6, none, none] 5 u w L := depB hd 5 rfl
      exact GB.store rfl 5 g 54 8 (pw 1 0) rfl rfl rfl e5 (run_pstore rfl (by exact e5) (by exact d11) o5) (only8p w g 1 0) (put8p o5 1 0)
    refine ObsB.cons (fun u w L hL hS hBw hd => ?_) ?_
    · have d14 : u 14 = prv y 1 := depB hd 4 rfl
      obtain ⟨g, fg, e6, o6⟩ : (Fact.box 54 8).ok v0.heap.size [some 10, some 11, some 12, some 13, some 14, some 5, some 6, none, none] 6 u w L := depB hd 6 rfl
      exact GB.store rfl 6 g 54 8 (pw y 1) rfl rfl rfl e6 (run_pstore rfl (by exact e6) (by exact d14) o6) (only8p w g y 1) (put8p o6 y 1)
    exact ObsB.nil
  intro u1 v1 hS hd hne
  obtain ⟨g5, e_g5, o_g5⟩ : (Fact.holds 5 54 8 (pw 1 0)).ok v0.heap.size [some 10, some 11, some 12, some 13, some 14, some 5, some 6, none, none] 7 u1 v1 (fun _ => true) := hd 7 (by decide)
  replace e_g5 : u1 5 = .pointer (some ⟨g5, 0, none⟩) := e_g5
  replace o_g5 : O8 v1 v0.heap.size g5 1 0 := o_g5
  obtain ⟨g6, e_g6, o_g6⟩ : (Fact.holds 6 54 8 (pw y 1)).ok v0.heap.size [some 10, some 11, some 12, some 13, some 14, some 5, some 6, none, none] 8 u1 v1 (fun _ => true) := hd 8 (by decide)
  replace e_g6 : u1 6 = .pointer (some ⟨g6, 0, none⟩) := e_g6
  replace o_g6 : O8 v1 v0.heap.size g6 y 1 := o_g6
  have n_g5_g6 : g5 ≠ g6 := fun h => hne 5 6 (by decide) (by decide) (by decide) rfl rfl (show u1 5 = u1 6 by rw [e_g5, e_g6, h])
  rw [e_g5, e_g6]
  clear hd hne e_g5 e_g6
  have l5 := o_g5.ge
  have l6 := o_g6.ge
  replace o3 := o3.keep hS
  replace o4 := o4.keep hS
  replace hr := (hr.keep (hc.mono hB)).keep (hS.mono (Nat.le_trans hB hc.size))
  have hw0 : w.heap.size ≤ v0.heap.size := hc.size
  replace hc := hc.trans (hS.mono hc.size)
  have hB0 : B ≤ v0.heap.size := Nat.le_trans hB hw0
  clear hS
  simp only [List.drop_succ_cons, List.drop_zero]
  go_wp2_with fail
  go_step3
  go_wp2_with fail
  go_loopw [15] (fun i wr => ∃ n : Nat, n ≤ 255 ∧ i = .int .i64 (n : Int) ∧ ∃ p1 p2 q1 q2, Rel (y % P25) K n p1 p2 q1 q2 ∧ O8 wr v0.heap.size g5 p1 p2 ∧ O8 wr v0.heap.size g6 q1 q2 ∧ O4 wr w.heap.size g3 y ∧ O4 wr w.heap.size g4 0 ∧ Rd wr B A c (gen (bf K) 32) ∧ Below w.heap.size w wr)
    (fun i _ => 255 - (intOf i).toNat)
  case atStart => exact ⟨0, by omega, rfl, 1, 0, y, 1, hst, o_g5, o_g6, o3, o4, hr, hc⟩
  case round =>
    clear o_g5 o_g6 o3 o4 hr hc hst
    obtain ⟨n, hn, rfl, p1, p2, q1, q2, hR, o5, o6, o3, o4, hr, hc⟩ := hrel
    have n53 : g5 ≠ g3 := by omega
    have n54 : g5 ≠ g4 := by omega
    have n63 : g6 ≠ g3 := by omega
    have n64 : g6 ≠ g4 := by omega
    by_cases hlt : n < 255
    · have g1 : (n : Int) < 255 := by omega
      have gm : IntKind.i64.wrap (254 - (n : Int)) = ((254 - n : Nat) : Int) := by rw [IntKind.wrap_i64]; omega
      have gi : IntKind.i64.wrap ((n : Int) + 1) = ((n + 1 : Nat) : Int) := by rw [IntKind.wrap_i64]; omega
      by_cases h3 : 252 ≤ n
      · have g3l : ((254 - n : Nat) : Int) < 3 := by omega
        have hR2 := hR.last h3 (HLOW.out _ (by omega))
        have KD := Lib.hid (HKD.out p1 p2 hR.1 hR.2.1)
        clear hR
        go_wp2_with ((with_reducible refine p_load o5 ?_ ?_); rfl)
        go_at_call 36
        refine (KD.out _).mono ?_
        rintro e y1 ⟨rfl, h0⟩
        replace o3 := o3.keep h0
        replace o4 := o4.keep h0
        replace o5 := o5.keep h0
        replace o6 := o6.keep h0
        replace hr := hr.keep (h0.mono (Nat.le_trans hB hc.size))
        replace hc := hc.trans (h0.mono hc.size)
        clear h0 KD
        generalize dX p1 p2 = d1 at *
        generalize dZ p1 p2 = d2 at *
        have hO := only8p y1 g5 d1 d2
        have q5 := o5.put d1 d2
        have q6 := o6.only hO (by assumption)
        have q3 := o3.only hO n53
        have q4 := o4.only hO n54
        have qb := o5.below d1 d2
        have qr := hr.keep (qb.mono hB0)
        have qc := hc.trans (qb.mono hw0)
        clear o3 o4 o6 hr hc hO qb
        go_wp2_with ((with_reducible refine p_store o5 d1 d2 ?_ ?_ ?_); rfl; rfl)
        exact ⟨⟨n + 1, by omega, rfl, d1, d2, q1, q2, hR2, q5, q6, q3, q4, qr, qc⟩, by simp [intOf]; omega⟩
      · have g3l : ¬ ((254 - n : Nat) : Int) < 3 := by omega
        obtain ⟨m, hm⟩ : ∃ m, m = 254 - n := ⟨_, rfl⟩
        have hm8 : m < 256 := by omega
        have hq : (m : Int).tdiv 8 = ((m / 8 : Nat) : Int) := by rw [Int.tdiv_eq_ediv_of_nonneg (by omega)]; omega
        have hq2 : (m : Int) / 8 = ((m / 8 : Nat) : Int) := by omega
        have hmm : (m : Int).tmod 8 = ((m % 8 : Nat) : Int) := by rw [Int.tmod_eq_emod_of_nonneg (by omega)]; omega
        have wq0 : IntKind.i64.wrap ((m / 8 : Nat) : Int) = ((m / 8 : Nat) : Int) := by rw [IntKind.wrap_i64]; omega
        have hq32 : ((m / 8 : Nat) : Int) < 32 := by omega
        have hq0 : (0 : Int) ≤ ((m / 8 : Nat) : Int) := by omega
        have hm0 : (0 : Int) ≤ ((m % 8 : Nat) : Int) := by omega
        obtain ⟨b1, o1, rfl, hb1, c1⟩ := hr.at_ (k := m / 8) (by rw [gen_length]; omega)
        rw [HDL.out (m / 8) (by omega)] at c1
        have hdl := by8_lt K (m / 8)
        have hbit : by8 K (m / 8) / 2 ^ (m % 8) % 2 = K / 2 ^ m % 2 := bit_of K m
        have hs1 : by8 K (m / 8) / 2 ^ (m % 8) ≤ by8 K (m / 8) := Nat.div_le_self _ _
        obtain ⟨dv, hdv⟩ : ∃ d, d = by8 K (m / 8) / 2 ^ (m % 8) := ⟨_, rfl⟩
        have gsh : ((by8 K (m / 8) : Nat) : Int) / 2 ^ (m % 8) = (dv : Int) := by rw [hdv, Int.natCast_ediv, Int.natCast_pow]; rfl
        rw [← hdv] at hbit hs1
        have gan : bits .and .u64 (dv : Int) 1 = ((K / 2 ^ m % 2 : Nat) : Int) := by
          have h := bits_and_u64_nat dv 1 (by omega) (by decide)
          rw [Nat.and_one_is_mod, hbit] at h
          exact h
        have gcv : IntKind.u64.wrap (dv : Int) = (dv : Int) := by rw [IntKind.wrap_u64]; omega
        have hb01 : K / 2 ^ m % 2 ≤ 1 := by omega
        obtain ⟨a1, ha1⟩ : ∃ a, a = if K / 2 ^ m % 2 = 1 then q1 else p1 := ⟨_, rfl⟩
        obtain ⟨a2, ha2⟩ : ∃ a, a = if K / 2 ^ m % 2 = 1 then q2 else p2 := ⟨_, rfl⟩
        obtain ⟨b3, hb3⟩ : ∃ a, a = if K / 2 ^ m % 2 = 1 then p1 else q1 := ⟨_, rfl⟩
        obtain ⟨b4, hb4⟩ : ∃ a, a = if K / 2 ^ m % 2 = 1 then p2 else q2 := ⟨_, rfl⟩
        obtain ⟨w1, w2, w3, w4, hR2⟩ := hR.both (by omega) (by rw [← hm]) ha1 ha2 hb3 hb4
        have KS := Lib.hid (fun w (og : O8 w v0.heap.size g5 p1 p2) (oh : O8 w v0.heap.size g6 q1 q2) => swap_any hb01 n_g5_g6 w og oh)
        rw [← ha1, ← ha2, ← hb3, ← hb4] at KS
        have KS2 := Lib.hid (fun (d1 d2 s1 s2 : Nat) w (og : O8 w v0.heap.size g5 d1 d2) (oh : O8 w v0.heap.size g6 s1 s2) => swap_any hb01 n_g5_g6 w og oh)
        have KD := Lib.hid (HKD.out a1 a2 w1 w2)
        have KP := Lib.hid (HKP.out a1 a2 b3 b4 w1 w2 w3 w4)
        rw [← hm] at gm g3l
        generalize K / 2 ^ m % 2 = bt at *
        generalize dX a1 a2 = d1 at *
        generalize dZ a1 a2 = d2 at *
        generalize aX a1 a2 b3 b4 = s1 at *
        generalize aZ a1 a2 b3 b4 y = s2 at *
        have c2 : wr.cell? ⟨b1, o1 + m / 8, none⟩ = some (.int .u8 (by8 K (m / 8) : Int)) := c1
        clear hR ha1 ha2 hb3 hb4 hbit hdv hs1 hdl hm w1 w2 w3 w4 hm8 c1
        generalize by8 K (m / 8) = bv at *
        obtain ⟨mq, hmq⟩ : ∃ x, x = m / 8 := ⟨_, rfl⟩
        obtain ⟨mr, hmr⟩ : ∃ x, x = m % 8 := ⟨_, rfl⟩
        rw [← hmq] at hq wq0 hq32 hq0 c2
        rw [← hmr] at hmm hm0 gsh
        have hmin : min mr 8 = mr := Nat.min_eq_left (by omega)
        clear hmq hmr hq2
        go_wp2_with fail
        go_at_call 37
        with_reducible refine (KS.out _ o5 o6).mono ?_
        rintro e y1 ⟨rfl, s5, s6, h0⟩
        clear o5 o6 c2 KS
        have o5 : O8 y1 v0.heap.size g5 a1 a2 := s5
        have o6 : O8 y1 v0.heap.size g6 b3 b4 := s6
        replace o3 := o3.keepAt (h0.mono l3)
        replace o4 := o4.keepAt (h0.mono l4)
        replace hr := hr.keep (h0.mono hB0)
        replace hc := hc.trans (h0.mono hw0)
        clear h0 s5 s6
        go_upto_region 10 with fail
        refine wp_region_inv 6 [36, 37, 38, 39, 40, 41] [.val (prv a1 a2), .val (prv d1 d2), .val (prv a1 a2), .val (prv b3 b4), .val (nv y), .val (prv s1 s2)] (fun wz => Below y1.heap.size y1 wz) (by kernel_rfl) (by kernel_rfl) (fun wz wz' hz hb => hz.trans (hb.mono hz.size)) ((Below.refl _ _).drew) (fun u => by simp only [puts, List.foldl_cons, List.foldl_nil]; go_simp; exact rfl) ?_ ?_
        · simp only [List.take_succ_cons, List.take_zero]
          refine Obs.cons (fun u w hS hd => ?_) ?_
          · exact Gv.run (prv a1 a2) rfl (run_pload rfl rfl (o5.keep hS)) rfl
          refine Obs.cons (fun u w hS hd => ?_) ?_
          · have d36 : u 36 = prv a1 a2 := dep hd 0 rfl
            rw [d36]
            refine Gv.call 36 #[prv a1 a2] rfl (by go_simp) ((KD.out w).mono ?_)
            rintro e w' ⟨rfl, hb⟩
            exact ⟨_, rfl, rfl, hb⟩
          refine Obs.cons (fun u w hS hd => ?_) ?_
          · exact Gv.run (prv a1 a2) rfl (run_pload rfl rfl (o5.keep hS)) rfl
          refine Obs.cons (fun u w hS hd => ?_) ?_
          · exact Gv.run (prv b3 b4) rfl (run_pload rfl rfl (o6.keep hS)) rfl
          refine Obs.cons (fun u w hS hd => ?_) ?_
          · exact Gv.run (nv y) rfl (run_nload rfl rfl (o3.keep hS)) rfl
          refine Obs.cons (fun u w hS hd => ?_) ?_
          · have d38 : u 38 = prv a1 a2 := dep hd 2 rfl
            have d39 : u 39 = prv b3 b4 := dep hd 3 rfl
            have d40 : u 40 = nv y := dep hd 4 rfl
            rw [d38, d39, d40]
            refine Gv.call 38 #[prv a1 a2, prv b3 b4, nv y] rfl (by go_simp) ((KP.out w).mono ?_)
            rintro e w' ⟨rfl, hb⟩
            exact ⟨_, rfl, rfl, hb⟩
          exact Obs.nil
        intro u2 y3 hS hd
        have d37 : u2 37 = prv d1 d2 := hd 1 (by decide)
        have d41 : u2 41 = prv s1 s2 := hd 5 (by decide)
        rw [d37, d41]
        clear hd d37 d41
        have hw3 := hc.size
        replace o3 := o3.keep hS
        replace o4 := o4.keep hS
        replace o5 := o5.keep hS
        replace o6 := o6.keep hS
        replace hr := hr.keep (hS.mono (Nat.le_trans hB hw3))
        replace hc := hc.trans (hS.mono hw3)
        clear hS hw3 KD KP
        simp only [List.drop_succ_cons, List.drop_zero]
        have hO := only8p y3 g5 d1 d2
        have q5 := o5.put d1 d2
        have q6 := o6.only hO (by assumption)
        have q3 := o3.only hO n53
        have q4 := o4.only hO n54
        have qb := o5.below d1 d2
        have hO2 := only8p (set8p y3 g5 d1 d2) g6 s1 s2
        have t6 := q6.put s1 s2
        have t5 := q5.only hO2 (Ne.symm n_g5_g6)
        have t3 := q3.only hO2 n63
        have t4 := q4.only hO2 n64
        replace qb := qb.trans (q6.below s1 s2)
        have qr := hr.keep (qb.mono hB0)
        have qc := hc.trans (qb.mono hw0)
        clear o3 o4 hr hc hO hO2 qb q3 q4 q5
        go_upto_region 11 with (first | ((with_reducible refine p_store o5 d1 d2 ?_ ?_ ?_); rfl; rfl) | ((with_reducible refine p_store q6 s1 s2 ?_ ?_ ?_); rfl; rfl))
        obtain ⟨y4, ey⟩ : ∃ v, v = set8p (set8p y3 g5 d1 d2) g6 s1 s2 := ⟨_, rfl⟩
        rw [← ey] at t3 t4 t5 t6 qr qc ⊢
        clear ey q6 o5 o6
        go_wp2_with fail
        go_at_call 37
        with_reducible refine (KS2.out d1 d2 s1 s2 _ t5 t6).mono ?_
        rintro e y5 ⟨rfl, s5, s6, h0⟩
        replace t3 := t3.keepAt (h0.mono l3)
        replace t4 := t4.keepAt (h0.mono l4)
        replace qr := qr.keep (h0.mono hB0)
        replace qc := qc.trans (h0.mono hw0)
        clear h0 t5 t6
        go_wp2_with fail
        exact ⟨⟨n + 1, by omega, rfl, _, _, _, _, hR2, s5, s6, t3, t4, qr, qc⟩, by simp [intOf]; omega⟩
    · obtain rfl : n = 255 := by omega
      have he := hR.end
      have KI := Lib.hid (fun w => finvert_any hR.2.1 w)
      have KM := Lib.hid (fun w => fmul_any hR.1 (red_W4 (p2 ^ (P25 - 2))) w)
      rw [he, ← HRES.out] at KM
      clear hR he
      generalize p2 ^ (P25 - 2) % P25 = iv at *
      have ge : ¬ ((255 : Nat) : Int) < 255 := by decide
      go_upto_region 13 with fail
      refine wp_region_inv 6 [45, 46, 47, 48, 49, 50] [.val (.pointer (some ⟨g5, 0, none⟩)), .val (nv p1), .val (.pointer (some ⟨g5, 4, none⟩)), .val (nv p2), .val (nv iv), .val (nv res)] (fun wz => Below wr.heap.size wr wz) (by kernel_rfl) (by kernel_rfl) (fun wz wz' hz hb => hz.trans (hb.mono hz.size)) ((Below.refl _ _).drew) (fun u => by simp only [puts, List.foldl_cons, List.foldl_nil]; go_simp; exact rfl) ?_ ?_
      · simp only [List.take_succ_cons, List.take_zero]
        refine Obs.cons (fun u w hS hd => ?_) ?_
        · exact Gv.run (.pointer (some ⟨g5, 0, none⟩)) rfl (run_pfield 0 (by decide) rfl rfl) rfl
        refine Obs.cons (fun u w hS hd => ?_) ?_
        · have d45 : u 45 = .pointer (some ⟨g5, 0, none⟩) := dep hd 0 rfl
          rw [d45]
          exact Gv.run (nv p1) rfl (run_xload rfl rfl (o5.keep hS)) rfl
        refine Obs.cons (fun u w hS hd => ?_) ?_
        · exact Gv.run (.pointer (some ⟨g5, 4, none⟩)) rfl (run_pfield 1 (by decide) rfl rfl) rfl
        refine Obs.cons (fun u w hS hd => ?_) ?_
        · have d47 : u 47 = .pointer (some ⟨g5, 4, none⟩) := dep hd 2 rfl
          rw [d47]
          exact Gv.run (nv p2) rfl (run_zload rfl rfl (o5.keep hS)) rfl
        refine Obs.cons (fun u w hS hd => ?_) ?_
        · have d48 : u 48 = nv p2 := dep hd 3 rfl
          rw [d48]
          refine Gv.call 40 #[nv p2] rfl (by go_simp) ((KI.out w).mono ?_)
          rintro e w' ⟨rfl, hb⟩
          exact ⟨_, rfl, rfl, hb⟩
        refine Obs.cons (fun u w hS hd => ?_) ?_
        · have d46 : u 46 = nv p1 := dep hd 1 rfl
          have d49 : u 49 = nv iv := dep hd 4 rfl
          rw [d46, d49]
          refine Gv.call 39 #[nv p1, nv iv] rfl (by go_simp) ((KM.out w).mono ?_)
          rintro e w' ⟨rfl, hb⟩
          exact ⟨_, rfl, rfl, hb⟩
        exact Obs.nil
      intro u2 y3 hS hd
      have d50 : u2 50 = nv res := hd 5 (by decide)
      rw [d50]
      replace o4 := o4.keep hS
      replace hc := hc.trans (hS.mono hc.size)
      clear hS hd d50
      simp only [List.drop_succ_cons, List.drop_zero]
      have q4 := o4.put res
      have qc := hc.trans (o4.below res)
      go_wp2_with ((with_reducible refine n_store o4 res ?_ ?_ ?_); rfl; rfl)
      exact bodyPost_ret (nres Try.results21 _ q4 rfl) rfl ⟨rfl, qc⟩
end Go.Proofs.Ytojggpiolgcjeaa
