import Derived.Test.YtifcjfeepgfmfaaDoorFRoot2
import Derived.Test.YtifcjfeepgfmfaaDoorBytes
import Derived.Test.YtifcjfeepgfmfaaDoorFrom
namespace Go.Proofs.YtifcjfeepgfmfaaDoor
open Go Go.RowKit
attribute [local irreducible] wd by8
set_option maxRecDepth 20000
theorem nv_z : nv 0 = lit4 0 0 0 0 := nv_small (by decide)
theorem decode_len {A : Option Addr} {n c : Nat} (hn : n ≠ 32) (w : World) :
    Calls Tryd.prog 36 #[.slice A n c] w fun e w' => e = .returned (.tuple #[nv 0, .int .i64 1]) ∧ Below w.heap.size w w' := by
  have g1 : ((n : Int) == 32) = false := by simp; omega
  have g2 : ((n : Int) != 32) = true := by simp; omega
  clear hn
  rw [nv_z]
  go_enter Tryd.func36, Tryd.ntmps36
  go_wp2_with fail
  refine bodyPost_ret (v := .tuple #[lit4 0 0 0 0, .int .i64 1]) (by simp [results, Tryd.results36, go_sem]) rfl ⟨rfl, (Below.refl _ w).alloc (Nat.le_refl _) _⟩
set_option maxHeartbeats 400000 in
theorem decode_walk {A : Option Addr} {c x : Nat} {q : Bool} (w : World) (kfrom : Calls Tryd.prog 62 #[.slice A 32 c] (w.alloc Z4) fun e w' => e = .returned (.tuple #[nv x, .int .i64 0]) ∧ Below (w.alloc Z4).heap.size (w.alloc Z4) w')
    (kr : ∀ w, Calls Tryd.prog 18 #[nv x] w fun e w' => e = .returned (.bool q) ∧ Below w.heap.size w w') :
    Calls Tryd.prog 36 #[.slice A 32 c] w fun e w' => e = .returned (.tuple #[nv (if q then x else 0), .int .i64 (if q then 0 else 6)]) ∧ Below w.heap.size w w' := by
  have KF := Lib.hid kfrom
  have KR := Lib.hid kr
  clear kfrom kr
  cases q
  · rw [if_neg (by decide), if_neg (by decide), nv_z]
    go_enter Tryd.func36, Tryd.ntmps36
    go_wp2_with fail
    go_at_call 62
    refine KF.out.mono ?_
    rintro e v1 ⟨rfl, h0⟩
    obtain ⟨oz, hc⟩ := zres1 h0
    clear h0 KF
    have ox := O4.new (w := v1) hc.size x
    have hne : v1.heap.size ≠ w.heap.size := Nat.ne_of_gt oz.lt
    replace oz := oz.alloc (A4 x)
    replace hc := hc.alloc hc.size (A4 x)
    obtain ⟨s0, s1, s2, s3⟩ := ox.c4
    go_wp2_with fail
    clear s0 s1 s2 s3
    go_at_call 18
    refine (KR.out _).mono ?_
    rintro e v2 ⟨rfl, h0⟩
    replace oz := oz.keep h0
    replace hc := hc.trans (h0.mono hc.size)
    clear h0
    obtain ⟨z0, z1, z2, z3⟩ := oz.c4
    obtain ⟨f0, f1, f2, f3⟩ := oz.f4
    obtain ⟨wz, ez, or, hb, _⟩ := oz.out 0
    obtain ⟨r0, r1, r2, r3⟩ := or.c4
    have y0 : wd 0 0 = 0 := by unfold wd; rfl
    have y1 : wd 0 1 = 0 := by unfold wd; rfl
    have y2 : wd 0 2 = 0 := by unfold wd; rfl
    have y3 : wd 0 3 = 0 := by unfold wd; rfl
    rw [y0] at ez r0 z0
    rw [y1] at ez r1 z1
    rw [y2] at ez r2 z2
    rw [y3] at ez r3 z3
    simp only [Int.cast_ofNat_Int] at ez r0 r1 r2 r3 z0 z1 z2 z3
    clear y0 y1 y2 y3
    go_wp2_with fail
    rw [← ez]
    refine bodyPost_ret (v := .tuple #[lit4 0 0 0 0, .int .i64 6]) (by simp [results, Tryd.results36, go_sem, r0, r1, r2, r3]) rfl ⟨rfl, hc.trans hb⟩
  · rw [if_pos rfl, if_pos rfl]
    unfold nv
    go_enter Tryd.func36, Tryd.ntmps36
    go_wp2_with fail
    go_at_call 62
    refine KF.out.mono ?_
    rintro e v1 ⟨rfl, h0⟩
    obtain ⟨oz, hc⟩ := zres1 h0
    clear h0 KF
    have ox := O4.new (w := v1) hc.size x
    have hne : v1.heap.size ≠ w.heap.size := Nat.ne_of_gt oz.lt
    replace oz := oz.alloc (A4 x)
    replace hc := hc.alloc hc.size (A4 x)
    obtain ⟨s0, s1, s2, s3⟩ := ox.c4
    go_wp2_with fail
    clear s0 s1 s2 s3
    go_at_call 18
    refine (KR.out _).mono ?_
    rintro e v2 ⟨rfl, h0⟩
    replace oz := oz.keep h0
    replace ox := ox.keep h0
    replace hc := hc.trans (h0.mono hc.size)
    clear h0
    obtain ⟨s0, s1, s2, s3⟩ := ox.c4
    obtain ⟨z0, z1, z2, z3⟩ := oz.c4
    obtain ⟨f0, f1, f2, f3⟩ := oz.f4
    obtain ⟨wz, ez, or, hb, _⟩ := oz.out x
    obtain ⟨r0, r1, r2, r3⟩ := or.c4
    go_wp2_with fail
    rw [← ez]
    refine bodyPost_ret (v := .tuple #[nv x, .int .i64 0]) (by simp [results, Tryd.results36, go_sem, r0, r1, r2, r3]) rfl ⟨rfl, hc.trans hb⟩
theorem vb_lt {bs : List UInt8} (h : bs.length = 32) : vb bs < W4 := by
  have := vk_lt bs bs.length
  rw [h] at this
  unfold vb
  rw [h]
  exact Nat.lt_of_lt_of_eq this (by decide +kernel)
theorem decode_any {B c : Nat} {A : Option Addr} {bs : List UInt8} (w : World) (hr : Rd w B A c bs) (hB : B ≤ w.heap.size) (hl : bs.length = 32) :
    Calls Tryd.prog 36 #[.slice A bs.length c] w fun e w' => e = .returned (.tuple #[nv (if decide (vb bs < P25) then vb bs else 0), .int .i64 (if decide (vb bs < P25) then 0 else 6)]) ∧ Below w.heap.size w w' := by
  have h0 := from_good (w.alloc Z4) (hr.keep ((Below.refl _ w).alloc hB Z4)) (by simp; omega) (Nat.le_of_eq hl)
  rw [hl] at h0 ⊢
  exact decode_walk w h0 (fun w => right_any (vb_lt hl) w)
theorem encode_any {a : Nat} (ha : a < W4) (w : World) :
    Calls Tryd.prog 38 #[nv a] w fun e w' => ∃ A c, e = .returned (.slice A 32 c) ∧ Own w' w.heap.size 5 A c (gen (bf (a % P25)) 32) ∧ Below w.heap.size w w' := by
  have kr := fun w => reduce_any ha w
  have kb := fun w => bytes_any (a % P25) w
  generalize a % P25 = r at *
  have hc := (Below.refl _ w).alloc (Nat.le_refl _) (A4 a)
  clear ha
  unfold nv
  go_enter Tryd.func38, Tryd.ntmps38
  go_wp2_with fail
  go_at_call 16
  refine (kr _).mono ?_
  rintro e v1 ⟨rfl, h0⟩
  replace hc := hc.trans (h0.mono hc.size)
  go_wp2_with fail
  go_at_call 65
  refine (kb _).mono ?_
  rintro e v2 ⟨A, c, rfl, ho, h1⟩
  go_wp2_with fail
  go_ret
  exact ⟨A, c, rfl, ho.mono hc.size, hc.trans (h1.mono hc.size)⟩
end Go.Proofs.YtifcjfeepgfmfaaDoor
