
import Derived.Test.YtkbkalhcdbklkaaGreatDoorS1
import Derived.Test.YtkbkalhcdbklkaaGreatDoorS2
namespace Go.Proofs.YtkbkalhcdbklkaaGreatDoor
open Go Go.RowKit
attribute [local irreducible] wd by8
set_option maxRecDepth 20000
theorem tof_walk {A : Option Addr} {c x r n : Nat} (w : World) (kd : Calls Tryz.prog 94 #[.slice A n c] (w.alloc (ZE 44)) fun e w' => e = .returned (.tuple #[dv x, .int .i64 0]) ∧ Below (w.alloc (ZE 44)).heap.size (w.alloc (ZE 44)) w')
  (kset : ∀ w, Calls Tryz.prog 54 #[dv x] w fun e w' => e = .returned (nv r) ∧ Below w.heap.size w w') :
  Calls Tryz.prog 50 #[.slice A n c] w fun e w' => e = .returned (.tuple #[nv r, .int .i64 0]) ∧ Below w.heap.size w w' := by
 have KD := Lib.hid kd
 have KS := Lib.hid kset
 clear kd kset
 go_enter Tryz.func50, Tryz.ntmps50
 go_wp2_with fail
 go_at_call 94
 refine KD.out.mono ?_
 rintro e v1 ⟨rfl, h0⟩
 obtain ⟨oz, hc⟩ := tres1 h0
 have hne : v1.heap.size ≠ w.heap.size := Nat.ne_of_gt oz.lt
 have oa := own_A8 (w := v1) (B := w.heap.size) hc.size x
 replace oz := oz.alloc (A8 x)
 replace hc := hc.alloc hc.size (A8 x)
 obtain ⟨s0, s1, s2, s3, s4, s5, s6, s7⟩ := keep8 oa _ (Below.refl _ _)
 clear h0 oa KD
 go_wp2_with fail
 clear s0 s1 s2 s3 s4 s5 s6 s7
 go_at_call 54
 refine (KS.out _).mono ?_
 rintro e v2 ⟨rfl, h0⟩
 replace oz := oz.keep h0
 replace hc := bnx hc h0
 clear h0
 obtain ⟨z0, z1, z2, z3⟩ := oz.c4
 obtain ⟨f0, f1, f2, f3⟩ := oz.f4
 obtain ⟨wz, ez, or, hbz, _⟩ := oz.out r
 obtain ⟨r0, r1, r2, r3⟩ := or.c4
 go_wp2_with fail
 rw [← ez]
 refine bodyPost_ret (v := .tuple #[nv r, .int .i64 0]) (by simp [results, Tryz.results50, go_sem, r0, r1, r2, r3]) rfl ⟨rfl, hc.trans hbz⟩
theorem vb_W8 {bs : List UInt8} (h : bs.length ≤ 64) : vb bs < W8 := by
 rw [W8_256]
 exact Nat.lt_of_lt_of_le (vk_lt bs _) (Nat.pow_le_pow_right (by decide) h)
theorem tof_good {B c : Nat} {A : Option Addr} {bs : List UInt8} (w : World) (hr : Rd w B A c bs) (hB : B ≤ w.heap.size) (hl : bs.length ≤ 64) :
  Calls Tryz.prog 50 #[.slice A bs.length c] w fun e w' => e = .returned (.tuple #[nv (vb bs % LL), .int .i64 0]) ∧ Below w.heap.size w w' :=
 tof_walk w (double_good (w.alloc (ZE 44)) (hr.keep ((Below.refl _ w).alloc hB (ZE 44))) (by simp; omega) hl) (fun w => tsettle_any (vb_W8 hl) w)
theorem rorder_any (w : World) : Calls Tryz.prog 60 #[] w fun e w' => ∃ A c, e = .returned (.slice A 32 c) ∧ DOwn w' w.heap.size A c 32 LL ∧ Below w.heap.size w w' := by
 have o1 := OwnF.lit (w := w) (B := w.heap.size) 3 (Nat.le_refl _) #[.int .i64 237, .int .i64 211, .int .i64 245, .int .i64 92, .int .i64 26, .int .i64 99, .int .i64 18, .int .i64 88, .int .i64 214, .int .i64 156, .int .i64 247, .int .i64 162, .int .i64 222, .int .i64 249, .int .i64 222, .int .i64 20, .int .i64 0, .int .i64 0, .int .i64 0, .int .i64 0, .int .i64 0, .int .i64 0, .int .i64 0, .int .i64 0, .int .i64 0, .int .i64 0, .int .i64 0, .int .i64 0, .int .i64 0, .int .i64 0, .int .i64 0, .int .i64 16] 32 (dg8 LL) (by decide) (by kernel_rfl)
 have hl : LL < 256 ^ 32 := by decide +kernel
 have hcan : Can 32 LL := can_of (n := 31) (by unfold by8; decide +kernel)
 have D : DOwn _ w.heap.size (some ⟨w.heap.size, 0, none⟩) 32 32 LL := ⟨o1, hl, hcan⟩
 have hc := (Below.refl w.heap.size w).alloc (Nat.le_refl _) (.cells #[.int .i64 237, .int .i64 211, .int .i64 245, .int .i64 92, .int .i64 26, .int .i64 99, .int .i64 18, .int .i64 88, .int .i64 214, .int .i64 156, .int .i64 247, .int .i64 162, .int .i64 222, .int .i64 249, .int .i64 222, .int .i64 20, .int .i64 0, .int .i64 0, .int .i64 0, .int .i64 0, .int .i64 0, .int .i64 0, .int .i64 0, .int .i64 0, .int .i64 0, .int .i64 0, .int .i64 0, .int .i64 0, .int .i64 0, .int .i64 0, .int .i64 0, .int .i64 16] 3)
 clear o1 hl hcan
 go_enter Tryz.func60, Tryz.ntmps60
 go_wp2_with fail
 go_ret
 exact ⟨_, _, rfl, D, hc⟩
theorem DOwn.few {w : World} {B c n x m : Nat} {A : Option Addr} (h : DOwn w B A c n x) (hx : x < 256 ^ m) : n ≤ m := h.can m hx
theorem rleft_any {A : Option Addr} {B c n x : Nat} (w : World) (h : Dig w B A c n x) (hB : B ≤ w.heap.size) (hn : n ≤ 1000) :
  Calls Tryz.prog 29 #[.slice A n c] w fun e w' => ∃ A c n, e = .returned (.slice A n c) ∧ DOwn w' w.heap.size A c n (x % LL) ∧ Below w.heap.size w w' := by
 have KO := Lib.hid rorder_any
 go_enter Tryz.func29, Tryz.ntmps29
 go_wp2_with fail
 go_at_call 60
 refine (KO.out _).mono ?_
 rintro e v1 ⟨A1, c1, rfl, d1, h0⟩
 have KL := Lib.hid (left_any v1 ((h.keep (h0.mono hB)).mono (B' := v1.heap.size) (Nat.le_trans hB h0.size)) d1.dig (Nat.le_refl _) hn (by decide) LL_pos)
 clear d1
 go_wp2_with fail
 go_at_call 59
 refine KL.out.mono ?_
 rintro e v2 ⟨A2, c2, n2, rfl, d2, h1⟩
 clear KL
 go_wp2_with fail
 go_ret
 exact ⟨A2, c2, n2, rfl, d2.mono h0.size, bnx h0 h1⟩
end Go.Proofs.YtkbkalhcdbklkaaGreatDoor
