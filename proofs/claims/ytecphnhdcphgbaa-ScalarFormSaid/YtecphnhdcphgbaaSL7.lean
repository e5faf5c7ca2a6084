import Derived.Test.YtecphnhdcphgbaaSLaw
namespace Go.Proofs.Ytecphnhdcphgbaa
open Go Go.RowKit
attribute [local irreducible] wd by8
set_option maxRecDepth 20000
set_option maxHeartbeats 3200000 in
theorem sform_good {a x m c : Nat} {A : Option Addr} {bs : List UInt8} (hbx : x < W4) (hl32 : bs.length = 32)
    (km : ∀ w, Calls Try.prog 21 #[nv m] w fun e w' => ∃ A c, e = .returned (.slice A 32 c) ∧ Rd w' w'.heap.size A c bs ∧ Below w.heap.size w w')
    (ke : ∀ w, Calls Try.prog 21 #[nv a] w fun e w' => ∃ A c, e = .returned (.slice A 32 c) ∧ Own w' w.heap.size 5 A c (gen (bf x) 32) ∧ Below w.heap.size w w')
    (kn : ∀ w, Calls Try.prog 19 #[nv a] w fun e w' => e = .returned (nv x) ∧ Below w.heap.size w w')
    (k1 : ∀ (w : World) (A : Option Addr) (c : Nat), Rd w w.heap.size A c (gen (bf x) 32) → Calls Try.prog 12 #[.slice A 32 c] w fun e w' => e = .returned (.tuple #[nv x, .int .i64 0]) ∧ Below w.heap.size w w')
    (kd : ∀ (B c : Nat) (A : Option Addr) (w : World), Rd w B A c bs → B ≤ w.heap.size → Calls Try.prog 12 #[.slice A bs.length c] w fun e w' => e = .returned (.tuple #[nv m, .int .i64 0]) ∧ Below w.heap.size w w')
    (w : World) (hr : Rd w w.heap.size A c bs) (hl : bs.length ≤ 140737488355328) :
    Calls Try.prog 9 #[nv a, .slice A bs.length c] w fun e w' => e = .returned (.bool true) ∧ Below w.heap.size w w' := by
  have KM := Lib.hid km
  have HL := Lib.hid hl32
  clear km hl32
  obtain ⟨i0, hi, hz0, hz1, hz2⟩ := info_parts infoByte
  obtain ⟨v0, e0⟩ : ∃ v, v = w.alloc (AE 25 a) := ⟨_, rfl⟩
  have oa : T4 v0 w.heap.size w.heap.size a := by rw [e0]; exact T4.new (Nat.le_refl _) _ a
  have hc : Below w.heap.size w v0 := by rw [e0]; exact (Below.refl _ w).alloc (Nat.le_refl _) _
  have KE := Lib.hid ke
  have KN := Lib.hid kn
  have KD := Lib.hid kd
  have K1 := Lib.hid k1
  clear ke kn kd k1
  unfold nv
  go_enter Try.func9, Try.ntmps9
  go_wp2_with fail
  rw [← e0]
  clear e0
  go_at_call 21
  refine (KE.out _).mono ?_
  rintro e v1 ⟨A1, c1, rfl, o1, h0⟩
  replace oa := oa.keep h0
  replace hc := hc.trans (h0.mono hc.size)
  clear h0
  go_wp2_with fail
  go_at_call 12
  refine (K1.out _ _ _ o1.rd).mono ?_
  rintro e v2 ⟨rfl, h0⟩
  replace oa := oa.keep h0
  replace hc := hc.trans (h0.mono hc.size)
  clear h0 o1
  go_upto_region 2 with fail
  have ox := T4.new (w := v2) hc.size 25 x
  replace oa := oa.alloc (AE 25 x)
  replace hc := hc.alloc hc.size (AE 25 x)
  obtain ⟨v3, e3⟩ : ∃ v, v = v2.alloc (AE 25 x) := ⟨_, rfl⟩
  rw [← e3] at oa ox hc ⊢
  clear e3
  have HS := Lib.hid (tkeep44 oa ox)
  have hs := hc.size
  refine wp_region_inv 7 [15, 16, 17, 18, 19, 20, 21] [.val (.int .i64 0), .val (.bool false), .val (.bool false), .val (nv x), .val (nv a), .val (nv x), .val (.bool false)] (fun wz => Below v3.heap.size v3 wz) (by kernel_rfl) (by kernel_rfl) (fun wz wz' hz hb => hz.trans (hb.mono hz.size)) ((Below.refl _ _).drew) (fun u => by simp only [puts, List.foldl_cons, List.foldl_nil]; go_simp; exact rfl) ?_ ?_
  · simp only [List.take_succ_cons, List.take_zero]
    refine Obs.cons (fun u w hS hd => ?_) ?_
    · exact Gv.run (.int .i64 0) rfl (by go_simp) rfl
    refine Obs.cons (fun u w hS hd => ?_) ?_
    · have d15 : u 15 = .int .i64 0 := dep hd 0 rfl
      rw [d15]
      exact Gv.run (.bool false) rfl (by go_simp) rfl
    refine Obs.cons (fun u w hS hd => ?_) ?_
    · have d16 : u 16 = .bool false := dep hd 1 rfl
      rw [d16]
      exact Gv.run (.bool false) rfl (by go_simp) rfl
    refine Obs.cons (fun u w hS hd => ?_) ?_
    · have d17 : u 17 = .bool false := dep hd 2 rfl
      rw [d17]
      obtain ⟨-, -, -, -, s0, s1, s2, s3⟩ := HS.out w hS
      refine Gv.run (nv x) rfl (by go_simp) rfl
    refine Obs.cons (fun u w hS hd => ?_) ?_
    · have d17 : u 17 = .bool false := dep hd 2 rfl
      rw [d17]
      obtain ⟨s0, s1, s2, s3, -⟩ := HS.out w hS
      refine Gv.run (nv a) rfl (by go_simp) rfl
    refine Obs.cons (fun u w hS hd => ?_) ?_
    · have d17 : u 17 = .bool false := dep hd 2 rfl
      rw [d17]
      have d19 : u 19 = nv a := dep hd 4 rfl
      rw [d19]
      refine Gv.call 19 #[nv a] rfl (by go_simp) ((KN.out w).mono ?_)
      rintro e w' ⟨rfl, hb⟩
      exact ⟨_, rfl, rfl, hb⟩
    refine Obs.cons (fun u w hS hd => ?_) ?_
    · have d17 : u 17 = .bool false := dep hd 2 rfl
      rw [d17]
      have d18 : u 18 = nv x := dep hd 3 rfl
      rw [d18]
      have d20 : u 20 = nv x := dep hd 5 rfl
      rw [d20]
      exact Gv.run (.bool false) rfl (run_neS rfl rfl rfl hbx hbx (by rw [decide_eq_true rfl]; rfl) w) rfl
    exact Obs.nil
  · intro u0 v4 hd hd0
    have dl : u0 21 = .bool false := hd0 6 (by decide)
    have dl2 : u0 17 = .bool false := hd0 2 (by decide)
    rw [dl, dl2]
    clear hd0 dl dl2
    simp only [List.drop_succ_cons, List.drop_zero]
    replace hc := hc.trans (hd.mono hs)
    clear hd HS hs ox oa
    have hrb := hr.keep hc
    have h2 : Rd (v4.alloc (.cells #[] 5)) w.heap.size A c bs := hrb.keep ((Below.refl _ v4).alloc hc.size _)
    have h3 : Own (v4.alloc (.cells #[] 5)) v4.heap.size 5 (some ⟨v4.heap.size, 0, none⟩) 0 [] := World.ownsRow_made v4 #[] 0 (Nat.le_refl _) (by decide) (by decide)
    have h4 : Below v4.heap.size v4 (v4.alloc (.cells #[] 5)) := (Below.refl _ v4).alloc (Nat.le_refl _) _
    go_wp2_with (at_builtin; refine wpList_app _ rfl (.tmp 24) (.tmp 25) _ rfl v4.heap.size 5 i0 _ Try.underlying22 hi hz0 hz1 hz2 rfl (xs := []) rfl h3 rfl h2 (by simpa using hl) (by simp) ?_; intro A' c' w' ho hb)
    replace ho : Own w' v4.heap.size 5 A' c' bs := ho
    replace hc := hc.trans ((h4.trans hb).mono hc.size)
    clear h2 h3 h4 hb hrb
    go_at_call 12
    refine (KD.out _ _ _ _ ho.rd (Nat.le_refl _)).mono ?_
    rintro e v5 ⟨rfl, h0⟩
    replace hc := hc.trans (h0.mono hc.size)
    clear h0 ho
    have om := T4.new (w := v5) hc.size 25 m
    replace hc := hc.alloc hc.size (AE 25 m)
    go_upto_region 5 with fail
    obtain ⟨v6, e6⟩ : ∃ v, v = v5.alloc (AE 25 m) := ⟨_, rfl⟩
    rw [← e6] at om hc ⊢
    clear e6
    have hs := hc.size
    have HS := Lib.hid (tkeep4 om)
    have hrb := hr.keep hc
    have RB := Lib.hid (fun wz (hz : Below v6.heap.size v6 wz) => (hrb.keep (hz.mono hs)).mono (Nat.le_trans hs hz.size))
    have hl := HL.out
    clear hrb
    refine wp_region_inv 22 [30, 31, 32, 33, 34, 35, 36, 37, 38, 39, 40, 41, 42, 43, 44, 45, 46, 47, 48, 49, 50, 51] [.val (.int .i64 0), .val (.bool false), .val (.bool false), .val (undef), .val (undef), .val (undef), .val (.bool false), .val (.bool false), .val (.int .i64 0), .val (.bool true), .val (.bool true), .val (nv m), .byt bs, .val (.string ⟨bs.toArray⟩), .byt bs, .val (.string ⟨bs.toArray⟩), .val (.bool true), .val (.bool true), .val (.bool true), .val (.bool true), .val (.bool true), .val (.bool true)] (fun wz => Below v6.heap.size v6 wz) (by kernel_rfl) (by kernel_rfl) (fun wz wz' hz hb => hz.trans (hb.mono hz.size)) ((Below.refl _ _).drew) (fun u => by simp only [puts, List.foldl_cons, List.foldl_nil]; go_simp; exact rfl) ?_ ?_
    · simp only [List.take_succ_cons, List.take_zero]
      refine Obs.cons (fun u w hS hd => ?_) ?_
      · exact Gv.run (.int .i64 0) rfl (by go_simp) rfl
      refine Obs.cons (fun u w hS hd => ?_) ?_
      · have d30 : u 30 = .int .i64 0 := dep hd 0 rfl
        rw [d30]
        exact Gv.run (.bool false) rfl (by go_simp) rfl
      refine Obs.cons (fun u w hS hd => ?_) ?_
      · have d31 : u 31 = .bool false := dep hd 1 rfl
        rw [d31]
        exact Gv.run (.bool false) rfl (by go_simp) rfl
      refine Obs.cons (fun u w hS hd => ?_) ?_
      · have d32 : u 32 = .bool false := dep hd 2 rfl
        rw [d32]
        exact Gv.skip (by rfl) rfl
      refine Obs.cons (fun u w hS hd => ?_) ?_
      · have d32 : u 32 = .bool false := dep hd 2 rfl
        rw [d32]
        exact Gv.skip (by rfl) rfl
      refine Obs.cons (fun u w hS hd => ?_) ?_
      · have d32 : u 32 = .bool false := dep hd 2 rfl
        rw [d32]
        exact Gv.skip (by rfl) rfl
      refine Obs.cons (fun u w hS hd => ?_) ?_
      · have d32 : u 32 = .bool false := dep hd 2 rfl
        rw [d32]
        have d35 : u 35 = undef := dep hd 5 rfl
        rw [d35]
        exact Gv.run (.bool false) rfl (by go_simp) rfl
      refine Obs.cons (fun u w hS hd => ?_) ?_
      · have d36 : u 36 = .bool false := dep hd 6 rfl
        rw [d36]
        exact Gv.run (.bool false) rfl (by go_simp) rfl
      refine Obs.cons (fun u w hS hd => ?_) ?_
      · have d37 : u 37 = .bool false := dep hd 7 rfl
        rw [d37]
        exact Gv.run (.int .i64 0) rfl (by go_simp) rfl
      refine Obs.cons (fun u w hS hd => ?_) ?_
      · have d37 : u 37 = .bool false := dep hd 7 rfl
        rw [d37]
        have d38 : u 38 = .int .i64 0 := dep hd 8 rfl
        rw [d38]
        exact Gv.run (.bool true) rfl (by go_simp) rfl
      refine Obs.cons (fun u w hS hd => ?_) ?_
      · have d37 : u 37 = .bool false := dep hd 7 rfl
        rw [d37]
        have d39 : u 39 = .bool true := dep hd 9 rfl
        rw [d39]
        exact Gv.run (.bool true) rfl (by go_simp) rfl
      refine Obs.cons (fun u w hS hd => ?_) ?_
      · have d40 : u 40 = .bool true := dep hd 10 rfl
        rw [d40]
        obtain ⟨s0, s1, s2, s3⟩ := HS.out w hS
        refine Gv.run (nv m) rfl (by go_simp) rfl
      refine Obs.cons (fun u w hS hd => ?_) ?_
      · have d40 : u 40 = .bool true := dep hd 10 rfl
        rw [d40]
        have d41 : u 41 = nv m := dep hd 11 rfl
        rw [d41]
        refine Gv.call 21 #[nv m] rfl (by go_simp) ((KM.out w).mono ?_)
        rintro e w' ⟨A, c, rfl, R, hb⟩
        exact ⟨_, rfl, ⟨A, c, by rw [hl], R⟩, hb⟩
      refine Obs.cons (fun u w hS hd => ?_) ?_
      · have d40 : u 40 = .bool true := dep hd 10 rfl
        rw [d40]
        obtain ⟨A42, c42, d42, g42⟩ : (Know.byt bs).ok (u 42) w := dep hd 12 rfl
        rw [hl] at d42
        rw [d42]
        exact Gv.run (.string ⟨bs.toArray⟩) rfl (run_conv rfl rfl (str32 w hl g42)) rfl
      refine Obs.cons (fun u w hS hd => ?_) ?_
      · have d40 : u 40 = .bool true := dep hd 10 rfl
        rw [d40]
        exact Gv.run (.slice A bs.length c) rfl (by go_simp) (⟨_, _, rfl, RB.out w hS⟩)
      refine Obs.cons (fun u w hS hd => ?_) ?_
      · have d40 : u 40 = .bool true := dep hd 10 rfl
        rw [d40]
        obtain ⟨A44, c44, d44, g44⟩ : (Know.byt bs).ok (u 44) w := dep hd 14 rfl
        rw [hl] at d44
        rw [d44]
        exact Gv.run (.string ⟨bs.toArray⟩) rfl (run_conv rfl rfl (str32 w hl g44)) rfl
      refine Obs.cons (fun u w hS hd => ?_) ?_
      · have d40 : u 40 = .bool true := dep hd 10 rfl
        rw [d40]
        have d43 : u 43 = .string ⟨bs.toArray⟩ := dep hd 13 rfl
        rw [d43]
        have d45 : u 45 = .string ⟨bs.toArray⟩ := dep hd 15 rfl
        rw [d45]
        exact Gv.run (.bool true) rfl (by go_simp) rfl
      refine Obs.cons (fun u w hS hd => ?_) ?_
      · have d37 : u 37 = .bool false := dep hd 7 rfl
        rw [d37]
        have d40 : u 40 = .bool true := dep hd 10 rfl
        rw [d40]
        have d46 : u 46 = .bool true := dep hd 16 rfl
        rw [d46]
        exact Gv.run (.bool true) rfl (by go_simp) rfl
      refine Obs.cons (fun u w hS hd => ?_) ?_
      · have d37 : u 37 = .bool false := dep hd 7 rfl
        rw [d37]
        have d47 : u 47 = .bool true := dep hd 17 rfl
        rw [d47]
        exact Gv.run (.bool true) rfl (by go_simp) rfl
      refine Obs.cons (fun u w hS hd => ?_) ?_
      · have d48 : u 48 = .bool true := dep hd 18 rfl
        rw [d48]
        exact Gv.run (.bool true) rfl (by go_simp) rfl
      refine Obs.cons (fun u w hS hd => ?_) ?_
      · have d49 : u 49 = .bool true := dep hd 19 rfl
        rw [d49]
        refine Gv.call 15 #[] rfl (by go_simp) ((awake_any w).mono ?_)
        rintro e w' ⟨rfl, hb⟩
        exact ⟨_, rfl, rfl, hb⟩
      refine Obs.cons (fun u w hS hd => ?_) ?_
      · have d49 : u 49 = .bool true := dep hd 19 rfl
        rw [d49]
        have d50 : u 50 = .bool true := dep hd 20 rfl
        rw [d50]
        exact Gv.run (.bool true) rfl (by go_simp) rfl
      exact Obs.nil
    · intro u w hS hd
      have dl : u 51 = .bool true := hd 21 (by decide)
      rw [dl]
      simp only [List.drop_succ_cons, List.drop_zero]
      go_wp2_with fail
      go_ret
      exact ⟨rfl, hc.trans (hS.mono hs)⟩
set_option maxHeartbeats 3200000 in
theorem sform_bad {a x z c : Nat} {E : Int} {A : Option Addr} {bs : List UInt8} (hbx : x < W4) (hzz : z = 0) (hE : (E != 0) = true) (hE' : (E == 0) = false)
    (ke : ∀ w, Calls Try.prog 21 #[nv a] w fun e w' => ∃ A c, e = .returned (.slice A 32 c) ∧ Own w' w.heap.size 5 A c (gen (bf x) 32) ∧ Below w.heap.size w w')
    (kn : ∀ w, Calls Try.prog 19 #[nv a] w fun e w' => e = .returned (nv x) ∧ Below w.heap.size w w')
    (k1 : ∀ (w : World) (A : Option Addr) (c : Nat), Rd w w.heap.size A c (gen (bf x) 32) → Calls Try.prog 12 #[.slice A 32 c] w fun e w' => e = .returned (.tuple #[nv x, .int .i64 0]) ∧ Below w.heap.size w w')
    (kd : ∀ (B c : Nat) (A : Option Addr) (w : World), Rd w B A c bs → B ≤ w.heap.size → Calls Try.prog 12 #[.slice A bs.length c] w fun e w' => e = .returned (.tuple #[nv z, .int .i64 E]) ∧ Below w.heap.size w w')
    (w : World) (hr : Rd w w.heap.size A c bs) (hl : bs.length ≤ 140737488355328) :
    Calls Try.prog 9 #[nv a, .slice A bs.length c] w fun e w' => e = .returned (.bool true) ∧ Below w.heap.size w w' := by
  have hbz : z < W4 := by rw [hzz]; exact W4_pos
  have hz0' : decide (z = 0) = true := decide_eq_true hzz
  have H1 := Lib.hid hE
  have H2 := Lib.hid hE'
  clear hzz hE hE'
  obtain ⟨i0, hi, hz0, hz1, hz2⟩ := info_parts infoByte
  obtain ⟨v0, e0⟩ : ∃ v, v = w.alloc (AE 25 a) := ⟨_, rfl⟩
  have oa : T4 v0 w.heap.size w.heap.size a := by rw [e0]; exact T4.new (Nat.le_refl _) _ a
  have hc : Below w.heap.size w v0 := by rw [e0]; exact (Below.refl _ w).alloc (Nat.le_refl _) _
  have KE := Lib.hid ke
  have KN := Lib.hid kn
  have KD := Lib.hid kd
  have K1 := Lib.hid k1
  clear ke kn kd k1
  unfold nv
  go_enter Try.func9, Try.ntmps9
  go_wp2_with fail
  rw [← e0]
  clear e0
  go_at_call 21
  refine (KE.out _).mono ?_
  rintro e v1 ⟨A1, c1, rfl, o1, h0⟩
  replace oa := oa.keep h0
  replace hc := hc.trans (h0.mono hc.size)
  clear h0
  go_wp2_with fail
  go_at_call 12
  refine (K1.out _ _ _ o1.rd).mono ?_
  rintro e v2 ⟨rfl, h0⟩
  replace oa := oa.keep h0
  replace hc := hc.trans (h0.mono hc.size)
  clear h0 o1
  go_upto_region 2 with fail
  have ox := T4.new (w := v2) hc.size 25 x
  replace oa := oa.alloc (AE 25 x)
  replace hc := hc.alloc hc.size (AE 25 x)
  obtain ⟨v3, e3⟩ : ∃ v, v = v2.alloc (AE 25 x) := ⟨_, rfl⟩
  rw [← e3] at oa ox hc ⊢
  clear e3
  have HS := Lib.hid (tkeep44 oa ox)
  have hs := hc.size
  refine wp_region_inv 7 [15, 16, 17, 18, 19, 20, 21] [.val (.int .i64 0), .val (.bool false), .val (.bool false), .val (nv x), .val (nv a), .val (nv x), .val (.bool false)] (fun wz => Below v3.heap.size v3 wz) (by kernel_rfl) (by kernel_rfl) (fun wz wz' hz hb => hz.trans (hb.mono hz.size)) ((Below.refl _ _).drew) (fun u => by simp only [puts, List.foldl_cons, List.foldl_nil]; go_simp; exact rfl) ?_ ?_
  · simp only [List.take_succ_cons, List.take_zero]
    refine Obs.cons (fun u w hS hd => ?_) ?_
    · exact Gv.run (.int .i64 0) rfl (by go_simp) rfl
    refine Obs.cons (fun u w hS hd => ?_) ?_
    · have d15 : u 15 = .int .i64 0 := dep hd 0 rfl
      rw [d15]
      exact Gv.run (.bool false) rfl (by go_simp) rfl
    refine Obs.cons (fun u w hS hd => ?_) ?_
    · have d16 : u 16 = .bool false := dep hd 1 rfl
      rw [d16]
      exact Gv.run (.bool false) rfl (by go_simp) rfl
    refine Obs.cons (fun u w hS hd => ?_) ?_
    · have d17 : u 17 = .bool false := dep hd 2 rfl
      rw [d17]
      obtain ⟨-, -, -, -, s0, s1, s2, s3⟩ := HS.out w hS
      refine Gv.run (nv x) rfl (by go_simp) rfl
    refine Obs.cons (fun u w hS hd => ?_) ?_
    · have d17 : u 17 = .bool false := dep hd 2 rfl
      rw [d17]
      obtain ⟨s0, s1, s2, s3, -⟩ := HS.out w hS
      refine Gv.run (nv a) rfl (by go_simp) rfl
    refine Obs.cons (fun u w hS hd => ?_) ?_
    · have d17 : u 17 = .bool false := dep hd 2 rfl
      rw [d17]
      have d19 : u 19 = nv a := dep hd 4 rfl
      rw [d19]
      refine Gv.call 19 #[nv a] rfl (by go_simp) ((KN.out w).mono ?_)
      rintro e w' ⟨rfl, hb⟩
      exact ⟨_, rfl, rfl, hb⟩
    refine Obs.cons (fun u w hS hd => ?_) ?_
    · have d17 : u 17 = .bool false := dep hd 2 rfl
      rw [d17]
      have d18 : u 18 = nv x := dep hd 3 rfl
      rw [d18]
      have d20 : u 20 = nv x := dep hd 5 rfl
      rw [d20]
      exact Gv.run (.bool false) rfl (run_neS rfl rfl rfl hbx hbx (by rw [decide_eq_true rfl]; rfl) w) rfl
    exact Obs.nil
  · intro u0 v4 hd hd0
    have dl : u0 21 = .bool false := hd0 6 (by decide)
    have dl2 : u0 17 = .bool false := hd0 2 (by decide)
    rw [dl, dl2]
    clear hd0 dl dl2
    simp only [List.drop_succ_cons, List.drop_zero]
    replace hc := hc.trans (hd.mono hs)
    clear hd HS hs ox oa
    have hrb := hr.keep hc
    have h2 : Rd (v4.alloc (.cells #[] 5)) w.heap.size A c bs := hrb.keep ((Below.refl _ v4).alloc hc.size _)
    have h3 : Own (v4.alloc (.cells #[] 5)) v4.heap.size 5 (some ⟨v4.heap.size, 0, none⟩) 0 [] := World.ownsRow_made v4 #[] 0 (Nat.le_refl _) (by decide) (by decide)
    have h4 : Below v4.heap.size v4 (v4.alloc (.cells #[] 5)) := (Below.refl _ v4).alloc (Nat.le_refl _) _
    go_wp2_with (at_builtin; refine wpList_app _ rfl (.tmp 24) (.tmp 25) _ rfl v4.heap.size 5 i0 _ Try.underlying22 hi hz0 hz1 hz2 rfl (xs := []) rfl h3 rfl h2 (by simpa using hl) (by simp) ?_; intro A' c' w' ho hb)
    replace ho : Own w' v4.heap.size 5 A' c' bs := ho
    replace hc := hc.trans ((h4.trans hb).mono hc.size)
    clear h2 h3 h4 hb hrb
    go_at_call 12
    refine (KD.out _ _ _ _ ho.rd (Nat.le_refl _)).mono ?_
    rintro e v5 ⟨rfl, h0⟩
    replace hc := hc.trans (h0.mono hc.size)
    clear h0 ho
    have om := T4.new (w := v5) hc.size 25 z
    replace hc := hc.alloc hc.size (AE 25 z)
    go_upto_region 5 with fail
    obtain ⟨v6, e6⟩ : ∃ v, v = v5.alloc (AE 25 z) := ⟨_, rfl⟩
    rw [← e6] at om hc ⊢
    clear e6
    have hs := hc.size
    have HS := Lib.hid (tkeep4 om)
    refine wp_region_inv 22 [30, 31, 32, 33, 34, 35, 36, 37, 38, 39, 40, 41, 42, 43, 44, 45, 46, 47, 48, 49, 50, 51] [.val (.int .i64 E), .val (.bool true), .val (.bool true), .val (nv z), .val (lit4 0 0 0 0), .val (.bool true), .val (.bool true), .val (.bool true), .val (undef), .val (undef), .val (undef), .val (undef), .val (undef), .val (undef), .val (undef), .val (undef), .val (undef), .val (undef), .val (.bool true), .val (.bool true), .val (.bool true), .val (.bool true)] (fun wz => Below v6.heap.size v6 wz) (by kernel_rfl) (by kernel_rfl) (fun wz wz' hz hb => hz.trans (hb.mono hz.size)) ((Below.refl _ _).drew) (fun u => by simp only [puts, List.foldl_cons, List.foldl_nil]; go_simp; exact rfl) ?_ ?_
    · simp only [List.take_succ_cons, List.take_zero]
      refine Obs.cons (fun u w hS hd => ?_) ?_
      · exact Gv.run (.int .i64 E) rfl (by go_simp) rfl
      refine Obs.cons (fun u w hS hd => ?_) ?_
      · have d30 : u 30 = .int .i64 E := dep hd 0 rfl
        rw [d30]
        exact Gv.run (.bool true) rfl (by have hE := H1.out; go_simp) rfl
      refine Obs.cons (fun u w hS hd => ?_) ?_
      · have d31 : u 31 = .bool true := dep hd 1 rfl
        rw [d31]
        exact Gv.run (.bool true) rfl (by go_simp) rfl
      refine Obs.cons (fun u w hS hd => ?_) ?_
      · have d32 : u 32 = .bool true := dep hd 2 rfl
        rw [d32]
        obtain ⟨s0, s1, s2, s3⟩ := HS.out w hS
        refine Gv.run (nv z) rfl (by go_simp) rfl
      refine Obs.cons (fun u w hS hd => ?_) ?_
      · have d32 : u 32 = .bool true := dep hd 2 rfl
        rw [d32]
        exact Gv.run (lit4 0 0 0 0) rfl (by go_simp) rfl
      refine Obs.cons (fun u w hS hd => ?_) ?_
      · have d32 : u 32 = .bool true := dep hd 2 rfl
        rw [d32]
        have d33 : u 33 = nv z := dep hd 3 rfl
        rw [d33]
        have d34 : u 34 = lit4 0 0 0 0 := dep hd 4 rfl
        rw [d34]
        exact Gv.run (.bool true) (by rfl) (run_eqS (x := z) (y := 0) rfl rfl (by exact nv_z.symm) hbz W4_pos hz0' w) rfl
      refine Obs.cons (fun u w hS hd => ?_) ?_
      · have d32 : u 32 = .bool true := dep hd 2 rfl
        rw [d32]
        have d35 : u 35 = .bool true := dep hd 5 rfl
        rw [d35]
        exact Gv.run (.bool true) rfl (by go_simp) rfl
      refine Obs.cons (fun u w hS hd => ?_) ?_
      · have d36 : u 36 = .bool true := dep hd 6 rfl
        rw [d36]
        exact Gv.run (.bool true) rfl (by go_simp) rfl
      refine Obs.cons (fun u w hS hd => ?_) ?_
      · have d37 : u 37 = .bool true := dep hd 7 rfl
        rw [d37]
        exact Gv.skip (by rfl) rfl
      refine Obs.cons (fun u w hS hd => ?_) ?_
      · have d37 : u 37 = .bool true := dep hd 7 rfl
        rw [d37]
        exact Gv.skip (by rfl) rfl
      refine Obs.cons (fun u w hS hd => ?_) ?_
      · have d37 : u 37 = .bool true := dep hd 7 rfl
        rw [d37]
        exact Gv.skip (by rfl) rfl
      refine Obs.cons (fun u w hS hd => ?_) ?_
      · have d40 : u 40 = undef := dep hd 10 rfl
        rw [d40]
        exact Gv.skip (by rfl) rfl
      refine Obs.cons (fun u w hS hd => ?_) ?_
      · have d40 : u 40 = undef := dep hd 10 rfl
        rw [d40]
        exact Gv.skip (by rfl) rfl
      refine Obs.cons (fun u w hS hd => ?_) ?_
      · have d40 : u 40 = undef := dep hd 10 rfl
        rw [d40]
        exact Gv.skip (by rfl) rfl
      refine Obs.cons (fun u w hS hd => ?_) ?_
      · have d40 : u 40 = undef := dep hd 10 rfl
        rw [d40]
        exact Gv.skip (by rfl) rfl
      refine Obs.cons (fun u w hS hd => ?_) ?_
      · have d40 : u 40 = undef := dep hd 10 rfl
        rw [d40]
        exact Gv.skip (by rfl) rfl
      refine Obs.cons (fun u w hS hd => ?_) ?_
      · have d40 : u 40 = undef := dep hd 10 rfl
        rw [d40]
        exact Gv.skip (by rfl) rfl
      refine Obs.cons (fun u w hS hd => ?_) ?_
      · have d37 : u 37 = .bool true := dep hd 7 rfl
        rw [d37]
        exact Gv.skip (by rfl) rfl
      refine Obs.cons (fun u w hS hd => ?_) ?_
      · have d37 : u 37 = .bool true := dep hd 7 rfl
        rw [d37]
        have d47 : u 47 = undef := dep hd 17 rfl
        rw [d47]
        exact Gv.run (.bool true) rfl (by go_simp) rfl
      refine Obs.cons (fun u w hS hd => ?_) ?_
      · have d48 : u 48 = .bool true := dep hd 18 rfl
        rw [d48]
        exact Gv.run (.bool true) rfl (by go_simp) rfl
      refine Obs.cons (fun u w hS hd => ?_) ?_
      · have d49 : u 49 = .bool true := dep hd 19 rfl
        rw [d49]
        refine Gv.call 15 #[] rfl (by go_simp) ((awake_any w).mono ?_)
        rintro e w' ⟨rfl, hb⟩
        exact ⟨_, rfl, rfl, hb⟩
      refine Obs.cons (fun u w hS hd => ?_) ?_
      · have d49 : u 49 = .bool true := dep hd 19 rfl
        rw [d49]
        have d50 : u 50 = .bool true := dep hd 20 rfl
        rw [d50]
        exact Gv.run (.bool true) rfl (by go_simp) rfl
      exact Obs.nil
    · intro u w hS hd
      have dl : u 51 = .bool true := hd 21 (by decide)
      rw [dl]
      simp only [List.drop_succ_cons, List.drop_zero]
      go_wp2_with fail
      go_ret
      exact ⟨rfl, hc.trans (hS.mono hs)⟩
theorem form_law {a c : Nat} {A : Option Addr} {bs : List UInt8} {w0 : World} (ha : a < W4) (hr : Rd w0 w0.heap.size A c bs) (hl : bs.length ≤ 140737488351232) (w : World) (hw : w = w0) :
    Calls Try.prog 9 #[nv a, .slice A bs.length c] w fun e w' => e = .returned (.bool true) ∧ Below w.heap.size w w' := by
  subst hw
  have k1 : ∀ (w : World) (A : Option Addr) (c : Nat), Rd w w.heap.size A c (gen (bf (a % LL)) 32) → Calls Try.prog 12 #[.slice A 32 c] w fun e w' => e = .returned (.tuple #[nv (a % LL), .int .i64 0]) ∧ Below w.heap.size w w' := fun w A c hr => by
    have h := tdec_gen (LL_lt a) w hr (Nat.le_refl _)
    rw [if_pos (Nat.mod_lt a LL_pos), if_pos (Nat.mod_lt a LL_pos)] at h
    exact h
  have hl' : bs.length ≤ 140737488355328 := by omega
  by_cases h : bs.length = 32
  · by_cases h2 : vb bs < LL
    · refine sform_good (m := vb bs) (LL_lt a) h (fun w => ?_) (fun w => tbytes_any ha w) (fun w => tnum_any ha w) k1 (fun B c A w hr hB => ?_) w hr hl'
      · have h3 := tbytes_any (vb_lt h) w
        rw [Nat.mod_eq_of_lt h2, gen_vb h] at h3
        exact h3.mono fun e w' ⟨A, c, he, ho, hb⟩ => ⟨A, c, he, ho.rd, hb⟩
      · have h3 := tdecode_any w hr hB h
        rw [if_pos h2, if_pos h2] at h3
        exact h3
    · refine sform_bad (z := 0) (E := 6) (LL_lt a) rfl rfl rfl (fun w => tbytes_any ha w) (fun w => tnum_any ha w) k1 (fun B c A w hr hB => ?_) w hr hl'
      have h3 := tdecode_any w hr hB h
      rw [if_neg h2, if_neg h2] at h3
      exact h3
  · exact sform_bad (z := 0) (E := 1) (LL_lt a) rfl rfl rfl (fun w => tbytes_any ha w) (fun w => tnum_any ha w) k1 (fun B c A w hr hB => tdecode_len h w) w hr hl'
end Go.Proofs.Ytecphnhdcphgbaa
