
import Derived.Test.YtkbkalhcdbklkaaGreatDoorMS
namespace Go.Proofs.YtkbkalhcdbklkaaGreatDoor
open Go Go.RowKit
attribute [local irreducible] wd by8 d16 set16w fl val cyr FF gl fold
set_option maxRecDepth 20000
set_option maxHeartbeats 3200000 in
theorem rmul_any {x y : Nat} (hx : x < W4) (hy : y < W4) (w : World) :
  Calls Tryz.prog 82 #[fv x, fv y] w fun e w' => e = .returned (fv (x * y % P25)) ∧ Below w.heap.size w w' := by
 obtain ⟨r, hr⟩ : ∃ r, r = x * y % P25 := ⟨_, rfl⟩
 rw [← hr]
 have HR := Lib.hid hr
 have HX := Lib.hid hx
 have HY := Lib.hid hy
 have s1 : (w.alloc (A16 x)).heap.size = w.heap.size + 1 := by simp
 have s2 : ((w.alloc (A16 x)).alloc (A16 y)).heap.size = w.heap.size + 2 := by simp
 have s3 : (((w.alloc (A16 x)).alloc (A16 y)).alloc Z16).heap.size = w.heap.size + 3 := by simp
 have ox := (((O16.new (w := w) (Nat.le_refl _) x).alloc (A16 y)).alloc Z16).alloc A31
 have oy := ((O16.new (w := w.alloc (A16 x)) (B := w.heap.size) (by omega) y).alloc Z16).alloc A31
 have oz := (O16.zero (own_Z16 (w := (w.alloc (A16 x)).alloc (A16 y)) (B := w.heap.size) (by omega))).alloc A31
 have od := own_31 (w := ((w.alloc (A16 x)).alloc (A16 y)).alloc Z16) (B := w.heap.size) (by omega)
 rw [s1] at oy
 rw [s2] at oz
 rw [s3] at od
 have hc := ((((Below.refl _ w).alloc (Nat.le_refl _) (A16 x)).alloc (by omega) (A16 y)).alloc (by omega) Z16).alloc (by omega) A31
 unfold A31 at ox oy oz od hc
 clear hr hx hy s1 s2 s3
 go_enter Tryz.func82, Tryz.ntmps82
 go_wp2_with fail
 obtain ⟨v0, e0⟩ : ∃ u, u = (((w.alloc (A16 x)).alloc (A16 y)).alloc Z16).alloc A31 := ⟨_, rfl⟩
 have e0' := e0
 unfold A31 at e0
 rw [← e0] at ox oy oz od hc ⊢
 clear e0 e0'
 go_loopw [6] (fun ii wr => ∃ i : Nat, i ≤ 16 ∧ ii = .int .i64 i ∧ O16 wr w.heap.size w.heap.size x ∧ O16 wr w.heap.size (w.heap.size + 1) y ∧ O16 wr w.heap.size (w.heap.size + 2) 0 ∧ (∃ D, Conv x y i 0 D ∧ OwnF wr w.heap.size 137 (some ⟨w.heap.size + 3, 0, none⟩) 31 31 (nvf D)) ∧ Below w.heap.size w wr)
  (fun ii _ => 16 - (intOf ii).toNat)
 case atStart => exact ⟨0, by omega, rfl, ox, oy, oz, ⟨_, Conv.start x y, od⟩, hc⟩
 case round =>
  clear ox oy oz od hc
  obtain ⟨i, hi, rfl, ox, oy, oz, ⟨D, hD, od⟩, hc⟩ := hrel
  have HD := Lib.hid hD
  clear hD
  by_cases hlt : i < 16
  ·have g1 : (i : Int) < 16 := by omega
   obtain ⟨w0, e0⟩ : ∃ w0 : World, w0 = wr := ⟨_, rfl⟩
   subst e0
   go_wp2_with fail
   go_loopw [7] (fun kk wr => ∃ k : Nat, k ≤ 16 ∧ kk = .int .i64 k ∧ O16 wr w.heap.size w.heap.size x ∧ O16 wr w.heap.size (w.heap.size + 1) y ∧ O16 wr w.heap.size (w.heap.size + 2) 0 ∧ (∃ D, Conv x y i k D ∧ OwnF wr w.heap.size 137 (some ⟨w.heap.size + 3, 0, none⟩) 31 31 (nvf D)) ∧ Below w.heap.size w wr)
    (fun kk _ => 16 - (intOf kk).toNat)
   case atStart => exact ⟨0, by omega, rfl, ox, oy, oz, ⟨D, HD.out, od⟩, hc⟩
   case round =>
    clear ox oy oz od hc HD
    obtain ⟨k, hk, rfl, ox, oy, oz, ⟨D, hD, od⟩, hc⟩ := hrel
    have HD := Lib.hid hD
    have hle := hD.le (i + k)
    unfold SQ at hle
    clear hD
    by_cases hlt2 : k < 16
    ·have g2 : (k : Int) < 16 := by omega
     have c1 : wr.cell? ⟨w.heap.size, i, none⟩ = some (.int .i64 (d16 x i : Int)) := OwnF.cell ox hlt
     have c2 : wr.cell? ⟨w.heap.size + 1, k, none⟩ = some (.int .i64 (d16 y k : Int)) := OwnF.cell oy hlt2
     have c3 : wr.cell? ⟨w.heap.size + 3, i + k, none⟩ = some (.int .i64 (D (i + k) : Int)) := OwnF.cell od (by omega)
     have f3 := OwnF.free od (i + k)
     have hw : IntKind.i64.wrap ((i : Int) + (k : Int)) = (i : Int) + (k : Int) := by rw [IntKind.wrap_i64]; omega
     have h8 : (i : Int) + (k : Int) < 31 := by omega
     have h0 : 0 ≤ (i : Int) + (k : Int) := by omega
     have tn : ((i : Int) + (k : Int)).toNat = i + k := by omega
     have hp : d16 x i * d16 y k ≤ 65535 * 65535 := Nat.mul_le_mul (by have := d16_lt x i; omega) (by have := d16_lt y k; omega)
     have hm : IntKind.i64.wrap ((d16 x i : Int) * (d16 y k : Int)) = ((d16 x i * d16 y k : Nat) : Int) := by
      rw [← Int.natCast_mul, IntKind.wrap_i64]; omega
     have ha : IntKind.i64.wrap ((D (i + k) : Int) + ((d16 x i * d16 y k : Nat) : Int)) = ((D (i + k) + d16 x i * d16 y k : Nat) : Int) := by rw [IntKind.wrap_i64]; omega
     have hne1 : w.heap.size + 3 ≠ w.heap.size := by omega
     obtain ⟨m, hmm⟩ : ∃ m, m = d16 x i * d16 y k := ⟨_, rfl⟩
     rw [← hmm] at hm ha
     obtain ⟨s, hss⟩ : ∃ s, s = D (i + k) + m := ⟨_, rfl⟩
     rw [← hss] at ha
     have HM := Lib.hid hmm
     have HS := Lib.hid hss
     clear hp hle hmm hss
     go_wp2_with fail
     refine wp_region_still_tail 14 (by kernel_rfl) (by kernel_rfl) ?_
     simp only [List.take_succ_cons, List.take_zero, List.drop_succ_cons, List.drop_zero]
     repeat still_step
     refine wpStill_nil ?_
     change wpList _ _ _ _ _ wr.drew
     go_wp2_with fail
     refine ⟨⟨k + 1, by omega, by go_num, (ox.oth (by first | (simp; done) | (simp; omega)) _).drew, (oy.oth (by first | (simp; done) | (simp; omega)) _).drew, (oz.oth (by first | (simp; done) | (simp; omega)) _).drew, ⟨_, HD.out.step hlt hlt2, ?_⟩, (hc.setCell (by first | (simp; done) | (simp; omega)) _).drew⟩, by simp [intOf]; omega⟩
     refine (OwnF.congr (OwnF.set_ od (i + k) _) fun j _ => ?_).drew
     unfold nvf
     by_cases e : j = i + k
     ·rw [if_pos e]; simp only [e, if_true]; rw [HS.out, HM.out]
     ·rw [if_neg e]; simp only [e, if_false]
    ·obtain rfl : k = 16 := by omega
     go_wp2_with fail
     go_roundw
     case rel => exact ⟨i + 1, by omega, by go_num, ox, oy, oz, ⟨D, HD.out.next HY.out, od⟩, hc⟩
     case measure => simp [intOf]; omega
  ·obtain rfl : i = 16 := by omega
   obtain ⟨wq, ewq⟩ : ∃ wq : World, wq = wr := ⟨_, rfl⟩
   subst ewq
   obtain ⟨hval, hbb⟩ := HD.out.fin HX.out
   have hle : ∀ j, D j ≤ 256 * 4294836225 := HD.out.le
   have HV := Lib.hid hval
   have HB := Lib.hid hbb
   have HL := Lib.hid hle
   clear hval hbb hle HD
   have hne2 := Nat.ne_of_gt oz.lt
   have on := own_Z16 (w := wq) (B := w.heap.size) hc.size
   have hsz : w.heap.size + 3 < wq.heap.size := OwnF.lt od
   have hbz := (Below.refl wq.heap.size wq).alloc (Nat.le_refl _) Z16
   replace od := OwnF.keep od hbz
   replace oz := oz.keep hbz
   replace hc := bnx hc hbz
   have hgo : (wq.alloc Z16).heap.size = wq.heap.size + 1 := by simp
   have HGO := Lib.hid hgo
   clear hbz ox oy hgo
   go_wp2_with fail
   simp only [Int.cast_ofNat_Int]
   obtain ⟨w0, e0⟩ : ∃ w0 : World, w0 = wq.alloc Z16 := ⟨_, rfl⟩
   rw [← e0] at on od oz hc ⊢
   clear e0
   have hno : wq.heap.size ≠ w.heap.size + 3 := by omega
   go_loopw [9] (fun ii wr => ∃ k : Nat, k ≤ 16 ∧ ii = .int .i64 k ∧ OwnF wr w.heap.size 68 (some ⟨wq.heap.size, 0, none⟩) 16 16 (fov D k) ∧ OwnF wr w.heap.size 137 (some ⟨w.heap.size + 3, 0, none⟩) 31 31 (nvf D) ∧ O16 wr w.heap.size (w.heap.size + 2) 0 ∧ Below w.heap.size w wr)
    (fun ii _ => 16 - (intOf ii).toNat)
   case atStart => exact ⟨0, by omega, rfl, on.congr (fun j _ => by unfold fov; rw [if_neg (by omega)]; rfl), od, oz, hc⟩
   case round =>
    clear on od oz hc
    obtain ⟨k, hk, rfl, on, od, oz, hc⟩ := hrel
    by_cases hlt : k < 16
    ·have g1 : (k : Int) < 16 := by omega
     have c1 : wr.cell? ⟨w.heap.size + 3, k, none⟩ = some (.int .i64 (D k : Int)) := OwnF.cell od (by omega)
     have c2 := OwnF.cell on hlt
     have f2 := OwnF.free on k
     have on1 := OwnF.set_ on k (.int .i64 (D k : Int))
     have od1 := OwnF.other od (p := ⟨wq.heap.size, k, none⟩) hno (.int .i64 (D k : Int))
     have oz1 := oz.oth (p := ⟨wq.heap.size, k, none⟩) hne2 (.int .i64 (D k : Int))
     have hc1 := hc.setCell (p := ⟨wq.heap.size, k, none⟩) (by first | (simp; done) | (simp; omega)) (.int .i64 (D k : Int))
     have hw : IntKind.i64.wrap ((k : Int) + 16) = (k : Int) + 16 := by rw [IntKind.wrap_i64]; omega
     have b1 := HL.out k
     have b2 := HL.out (k + 16)
     by_cases hlt2 : k < 15
     ·have g2 : (k : Int) + 16 < 31 := by omega
      have c3 := OwnF.cell on1 hlt
      rw [if_pos rfl] at c3
      have f3 := OwnF.free on1 k
      have c4 : (wr.setCell ⟨wq.heap.size, k, none⟩ (.int .i64 (D k : Int))).cell? ⟨w.heap.size + 3, k + 16, none⟩ = some (.int .i64 (D (k + 16) : Int)) := OwnF.cell od1 (by omega)
      have a1 : IntKind.i64.wrap (38 * (D (k + 16) : Int)) = 38 * (D (k + 16) : Int) := by rw [IntKind.wrap_i64]; omega
      obtain ⟨s, hs⟩ : ∃ s, s = fold D k := ⟨_, rfl⟩
      have a2 : IntKind.i64.wrap ((D k : Int) + 38 * (D (k + 16) : Int)) = (s : Int) := by rw [hs, fold_lt hlt2, IntKind.wrap_i64]; omega
      have HS := Lib.hid hs
      have g3 : 0 ≤ (k : Int) + 16 := by omega
      have g4 : ((k : Int) + 16).toNat = k + 16 := by omega
      clear hs b1 b2
      go_wp2_with fail
      obtain ⟨w1, e1⟩ : ∃ w1 : World, w1 = wr.setCell ⟨wq.heap.size, k, none⟩ (.int .i64 (D k : Int)) := ⟨_, rfl⟩
      rw [← e1] at on1 od1 oz1 hc1 c3 c4 f3 ⊢
      clear e1 c1 c2 f2 on od oz hc
      refine wp_region_still_tail 10 (by kernel_rfl) (by kernel_rfl) ?_
      simp only [List.take_succ_cons, List.take_zero, List.drop_succ_cons, List.drop_zero]
      repeat still_step
      refine wpStill_nil ?_
      change wpList _ _ _ _ _ w1.drew
      go_wp2_with fail
      go_roundw
      case rel =>
       refine ⟨k + 1, by omega, by go_num, ?_, (OwnF.other od1 (p := ⟨wq.heap.size, k, none⟩) hno _).drew, (oz1.oth (p := ⟨wq.heap.size, k, none⟩) hne2 _).drew, (hc1.setCell (by first | (simp; done) | (simp; omega)) _).drew⟩
       refine (OwnF.congr (OwnF.set_ on1 k _) fun j _ => ?_).drew
       by_cases e : j = k
       ·rw [if_pos e]
        have := fov_set (D := D) (k := k) (v := (s : Int)) (by rw [HS.out]) j
        rwa [if_pos e] at this
       ·rw [if_neg e, if_neg e]
        have := fov_set (D := D) (k := k) (v := (s : Int)) (by rw [HS.out]) j
        rwa [if_neg e] at this
      case measure => simp [intOf]; omega
     ·obtain rfl : k = 15 := by omega
      clear b1 b2
      go_wp2_with fail
      go_roundw
      case rel => exact ⟨16, by omega, by go_num, OwnF.congr on1 fun j _ => fov_set (by rw [fold_15]) j, od1, oz1, hc1⟩
      case measure => simp [intOf]
    ·obtain rfl : k = 16 := by omega
     have oo : OwnF wr w.heap.size 68 (some ⟨wq.heap.size, 0, none⟩) 16 16 (nvf (fold D)) := OwnF.congr on fun j hj => fov_in hj
     have kst := fun w => settled_any HB.out w
     rw [fold_val, HV.out, ← HR.out] at kst
     have KST := Lib.hid kst
     clear kst on od
     go_wp2_with ((with_reducible refine gl_load oo ?_ ?_); rfl)
     go_at_call 114
     refine (KST.out _).mono ?_
     rintro e v9 ⟨rfl, h0⟩
     replace oz := oz.keep h0
     replace hc := bnx hc h0
     clear h0 oo
     have hop := Lib.hid (oz.put r)
     have hbz := oz.below r
     go_wp2_with (first | ((with_reducible refine fl_store oz r ?_ ?_ ?_); rfl; rfl))
     exact bodyPost_ret (fres Tryz.results82 _ hop.out rfl) rfl ⟨rfl, hc.trans hbz⟩
end Go.Proofs.YtkbkalhcdbklkaaGreatDoor
namespace Go.Proofs.YtkbkalhcdbklkaaGreatDoor
open Go Go.RowKit
def pe (a e i k : Nat) : Nat := a ^ (e % 256 ^ i + 256 ^ i * (by8 e i % 2 ^ k)) % P25
def pb (a i k : Nat) : Nat := a ^ (256 ^ i * 2 ^ k) % P25
theorem pe_start (a e : Nat) : pe a e 0 0 = 1 := by
 have e1 : e % 256 ^ 0 + 256 ^ 0 * (by8 e 0 % 2 ^ 0) = 0 := by simp [Nat.mod_one]
 unfold pe; rw [e1, Nat.pow_zero]; decide +kernel
theorem pb_start {a : Nat} (ha : a < P25) : pb a 0 0 = a := by
 have e1 : 256 ^ 0 * 2 ^ 0 = 1 := rfl
 unfold pb; rw [e1, Nat.pow_one, Nat.mod_eq_of_lt ha]
theorem pb_step (a i k : Nat) : pb a i k * pb a i k % P25 = pb a i (k + 1) := by
 unfold pb; rw [← Nat.mul_mod, ← Nat.pow_add, Nat.pow_succ, ← Nat.mul_assoc, Nat.mul_two]
theorem bits_succ (d k : Nat) : d % 2 ^ (k + 1) = d % 2 ^ k + 2 ^ k * (d / 2 ^ k % 2) := mod_pow_succ' 2 d k
theorem pe_one {a e i k : Nat} (h : by8 e i / 2 ^ k % 2 = 1) : pe a e i k * pb a i k % P25 = pe a e i (k + 1) := by
 unfold pe pb; rw [← Nat.mul_mod, ← Nat.pow_add, bits_succ, h, Nat.mul_one, Nat.mul_add, Nat.add_assoc]
theorem pe_zero {a e i k : Nat} (h : by8 e i / 2 ^ k % 2 = 0) : pe a e i k = pe a e i (k + 1) := by
 unfold pe; rw [bits_succ, h, Nat.mul_zero, Nat.add_zero]
theorem pe_next (a e i : Nat) : pe a e i 8 = pe a e (i + 1) 0 := by
 have e1 : by8 e i % 2 ^ 8 = by8 e i := Nat.mod_eq_of_lt (by8_lt e i)
 have e2 : e % 256 ^ (i + 1) + 256 ^ (i + 1) * (by8 e (i + 1) % 2 ^ 0) = e % 256 ^ i + 256 ^ i * by8 e i := by
  rw [Nat.pow_zero, Nat.mod_one, Nat.mul_zero, Nat.add_zero, mod_pow_succ' 256 e i]; rfl
 unfold pe
 rw [e1, e2]
theorem pb_next (a i : Nat) : pb a i 8 = pb a (i + 1) 0 := by
 have e1 : 256 ^ (i + 1) * 2 ^ 0 = 256 ^ i * 2 ^ 8 := by rw [Nat.pow_zero, Nat.mul_one, Nat.pow_succ 256 i]
 unfold pb
 rw [e1]
theorem pe_end {a e n : Nat} (h : e < 256 ^ n) : pe a e n 0 = a ^ e % P25 := by
 unfold pe; rw [Nat.pow_zero, Nat.mod_one, Nat.mul_zero, Nat.add_zero, Nat.mod_eq_of_lt h]
theorem pe_W4 (a e i k : Nat) : pe a e i k < W4 := red_W4 _
theorem pb_W4 (a i k : Nat) : pb a i k < W4 := red_W4 _
attribute [local irreducible] wd by8 d16 set16w fl pe pb
set_option maxRecDepth 20000
set_option maxHeartbeats 3200000 in
theorem rpower_any {A : Option Addr} {B c n a e : Nat} (ha : a < P25) (hn : n ≤ 1000) (w : World) (h : Dig w B A c n e) (hB : B ≤ w.heap.size) :
  Calls Tryz.prog 115 #[fv a, .slice A n c] w fun r w' => r = .returned (fv (a ^ e % P25)) ∧ Below w.heap.size w w' := by
 obtain ⟨r, hr⟩ : ∃ r, r = a ^ e % P25 := ⟨_, rfl⟩
 rw [← hr]
 have HR := Lib.hid hr
 have HA := Lib.hid ha
 have K1 := Lib.hid (fun w => int_any (n := 1) (by decide) w)
 clear hr ha
 go_enter Tryz.func115, Tryz.ntmps115
 go_wp2_with fail
 go_at_call 83
 refine (K1.out _).mono ?_
 rintro e' v1 ⟨rfl, h0⟩
 obtain ⟨oz, hc⟩ := fres2 h0
 have oa := fbox1 h0
 clear h0
 have hoz := O16.zero (own_Z16 (w := v1) (B := w.heap.size) hc.size)
 have hb1 : Below v1.heap.size v1 (set16w (v1.alloc Z16) v1.heap.size 1) := ((Below.refl v1.heap.size v1).alloc (Nat.le_refl _) Z16).trans ((O16.zero (own_Z16 (w := v1) (Nat.le_refl _))).below 1)
 have oo := hoz.put 1
 have hn1 : v1.heap.size ≠ w.heap.size := Nat.ne_of_gt oa.lt
 have hn2 : v1.heap.size ≠ w.heap.size + 1 := Nat.ne_of_gt oz.lt
 go_wp2_with ((with_reducible refine fl_store hoz 1 ?_ ?_ ?_); rfl; rfl)
 obtain ⟨v2, e2⟩ : ∃ v, v = set16w (v1.alloc Z16) v1.heap.size 1 := ⟨_, rfl⟩
 rw [← e2] at hb1 oo ⊢
 clear e2 hoz
 replace oz := oz.keep hb1
 replace oa := oa.keep hb1
 replace hc := bnx hc hb1
 clear hb1
 go_loopw [6] (fun ii wr => ∃ i : Nat, i ≤ n ∧ ii = .int .i64 i ∧ O16 wr w.heap.size v1.heap.size (pe a e i 0) ∧ O16 wr w.heap.size w.heap.size (pb a i 0) ∧ O16 wr w.heap.size (w.heap.size + 1) 0 ∧ Below w.heap.size w wr)
  (fun ii _ => n - (intOf ii).toNat)
 case atStart => exact ⟨0, by omega, rfl, by rw [pe_start]; exact oo, by rw [pb_start HA.out]; exact oa, oz, hc⟩
 case round =>
  clear oo oa oz hc
  obtain ⟨i, hi, rfl, oo, oa, oz, hc⟩ := hrel
  by_cases hlt : i < n
  ·have g1 : (i : Int) < (n : Int) := by omega
   obtain ⟨b1, o1, rfl, hb1, c1⟩ := (h.keep (hc.mono hB)).rd.at_ hlt
   unfold dg8 at c1
   have gc := h.rd.cap
   obtain ⟨w0, e0⟩ : ∃ w0 : World, w0 = wr := ⟨_, rfl⟩
   subst e0
   go_wp2_with fail
   go_loopw [7, 8] (fun dd kk wr => ∃ k : Nat, k ≤ 8 ∧ kk = .int .i64 k ∧ dd = .int .i64 ((by8 e i / 2 ^ k : Nat) : Int) ∧ O16 wr w.heap.size v1.heap.size (pe a e i k) ∧ O16 wr w.heap.size w.heap.size (pb a i k) ∧ O16 wr w.heap.size (w.heap.size + 1) 0 ∧ Below w.heap.size w wr)
    (fun _ kk _ => 8 - (intOf kk).toNat)
   case atStart => exact ⟨0, by omega, rfl, by rw [Nat.pow_zero, Nat.div_one], oo, oa, oz, hc⟩
   case round =>
    clear oo oa oz hc c1
    obtain ⟨k, hk, rfl, rfl, oo, oa, oz, hc⟩ := hrel
    by_cases hlt2 : k < 8
    ·have g2 : (k : Int) < 8 := by omega
     have kb := fun w => rmul_any (pb_W4 a i k) (pb_W4 a i k) w
     rw [pb_step] at kb
     have KB := Lib.hid kb
     have ko := fun w => rmul_any (pe_W4 a e i k) (pb_W4 a i k) w
     have hd : by8 e i / 2 ^ (k + 1) = by8 e i / 2 ^ k / 2 := by rw [Nat.pow_succ, Nat.div_div_eq_div_mul]
     have hdl : by8 e i / 2 ^ k ≤ 255 := Nat.le_trans (Nat.div_le_self _ _) (by have := by8_lt e i; omega)
     have hbit0 := @pe_zero a e i k
     have hbit1 := @pe_one a e i k
     generalize by8 e i / 2 ^ k = d at *
     have HD := Lib.hid hd
     have ht : ((d : Nat) : Int).tdiv 2 = ((d / 2 : Nat) : Int) := by rw [Int.tdiv_eq_ediv_of_nonneg (by omega)]; rfl
     have hw : IntKind.i64.wrap ((d / 2 : Nat) : Int) = ((d / 2 : Nat) : Int) := by rw [IntKind.wrap_i64]; omega
     have hw2 : IntKind.i64.wrap ((d : Int) / 2) = (d : Int) / 2 := by rw [IntKind.wrap_i64]; omega
     by_cases hb : d % 2 = 1
     ·have hp := hbit1 hb
      rw [hp] at ko
      have KO := Lib.hid ko
      have gb : (((d : Nat) : Int).tmod 2 == 1) = true := by rw [Int.tmod_eq_emod_of_nonneg (by omega)]; simp; omega
      have gb' : (d : Int) % 2 = 1 := by omega
      clear kb ko hd hdl hbit0 hbit1 hb hp
      go_wp2_with (first | ((with_reducible refine fl_load oo ?_ ?_); rfl) | ((with_reducible refine fl_load oa ?_ ?_); rfl))
      go_at_call 82
      refine (KO.out _).mono ?_
      rintro e' v3 ⟨rfl, h0⟩
      replace oo := oo.keep h0
      replace oa := oa.keep h0
      replace oz := oz.keep h0
      replace hc := bnx hc h0
      clear h0
      have hbl := oo.below (pe a e i (k + 1))
      have oa2 := oa.other hn1 (pe a e i (k + 1))
      have oz2 := oz.other hn2 (pe a e i (k + 1))
      have oo2 := oo.put (pe a e i (k + 1))
      replace hc := hc.trans hbl
      clear hbl
      go_wp2_with (first | ((with_reducible refine fl_store oo (pe a e i (k + 1)) ?_ ?_ ?_); rfl; rfl) | ((with_reducible refine fl_load oa2 ?_ ?_); rfl))
      clear oo oa oz
      go_at_call 82
      refine (KB.out _).mono ?_
      rintro e' v4 ⟨rfl, h0⟩
      replace oo2 := oo2.keep h0
      replace oa2 := oa2.keep h0
      replace oz2 := oz2.keep h0
      replace hc := bnx hc h0
      clear h0
      have hbl := oa2.below (pb a i (k + 1))
      have oo3 := oo2.other (Ne.symm hn1) (pb a i (k + 1))
      have oz3 := oz2.other (g' := w.heap.size) (by omega) (pb a i (k + 1))
      have oa3 := oa2.put (pb a i (k + 1))
      replace hc := hc.trans hbl
      clear hbl
      go_wp2_with ((with_reducible refine fl_store oa2 (pb a i (k + 1)) ?_ ?_ ?_); rfl; rfl)
      go_roundw
      case rel => exact ⟨k + 1, by omega, by go_num, by rw [HD.out]; first | rfl | simp, oo3, oa3, oz3, hc⟩
      case measure => simp [intOf]; omega
     ·have hp := hbit0 (by omega)
      have gb : (((d : Nat) : Int).tmod 2 == 1) = false := by rw [Int.tmod_eq_emod_of_nonneg (by omega)]; simp; omega
      have gb' : (d : Int) % 2 = 0 := by omega
      rw [hp] at oo
      clear kb ko hd hdl hbit0 hbit1 hb hp
      go_wp2_with ((with_reducible refine fl_load oa ?_ ?_); rfl)
      go_at_call 82
      refine (KB.out _).mono ?_
      rintro e' v4 ⟨rfl, h0⟩
      replace oo := oo.keep h0
      replace oa := oa.keep h0
      replace oz := oz.keep h0
      replace hc := bnx hc h0
      clear h0
      have hbl := oa.below (pb a i (k + 1))
      have oo3 := oo.other (Ne.symm hn1) (pb a i (k + 1))
      have oz3 := oz.other (g' := w.heap.size) (by omega) (pb a i (k + 1))
      have oa3 := oa.put (pb a i (k + 1))
      replace hc := hc.trans hbl
      clear hbl
      go_wp2_with ((with_reducible refine fl_store oa (pb a i (k + 1)) ?_ ?_ ?_); rfl; rfl)
      go_roundw
      case rel => exact ⟨k + 1, by omega, by go_num, by rw [HD.out]; first | rfl | simp, oo3, oa3, oz3, hc⟩
      case measure => simp [intOf]; omega
    ·obtain rfl : k = 8 := by omega
     rw [pe_next] at oo
     rw [pb_next] at oa
     go_wp2_with fail
     go_roundw
     case rel => exact ⟨i + 1, by omega, by go_num, oo, oa, oz, hc⟩
     case measure => simp [intOf]; omega
  ·obtain rfl : i = n := by omega
   rw [pe_end h.lt, ← HR.out] at oo
   have hop := Lib.hid (oz.put r)
   have hbz := oz.below r
   go_wp2_with (first | ((with_reducible refine fl_store oz r ?_ ?_ ?_); rfl; rfl) | ((with_reducible refine fl_load oo ?_ ?_); rfl))
   exact bodyPost_ret (fres Tryz.results115 _ hop.out rfl) rfl ⟨rfl, hc.trans hbz⟩
end Go.Proofs.YtkbkalhcdbklkaaGreatDoor
namespace Go.Proofs.YtkbkalhcdbklkaaGreatDoor
open Go Go.RowKit
theorem lit_dig {w : World} {n : Nat} (hn : n < 256) : Dig (w.alloc (.cells #[.int .i64 (n : Int)] 3)) (w.alloc (.cells #[.int .i64 (n : Int)] 3)).heap.size (some ⟨w.heap.size, 0, none⟩) 1 1 n :=
 ⟨(OwnF.lit (w := w) (B := w.heap.size) 3 (Nat.le_refl _) #[.int .i64 (n : Int)] 1 (dg8 n) (by decide) (by
  have : by8 n 0 = n := by unfold by8 dgt; rw [Nat.pow_zero, Nat.div_one, Nat.mod_eq_of_lt hn]
  simp [dg8, this])).rd, by rwa [Nat.pow_one]⟩
theorem div_step {M s b : Nat} (hb : 0 < b) : hd M s / b = (by8 M s + 256 * (hd M (s + 1) % b)) / b + 256 * (hd M (s + 1) / b) := by
 rw [hd_step]
 have h := Nat.mod_add_div (hd M (s + 1)) b
 generalize hd M (s + 1) = q at *
 have e : 256 * q + by8 M s = by8 M s + 256 * (q % b) + b * (256 * (q / b)) := by
  conv => lhs; rw [← h]
  rw [Nat.mul_add, Nat.mul_left_comm]; omega
 rw [e, Nat.add_mul_div_left _ _ hb]
set_option maxRecDepth 20000
attribute [local irreducible] wd by8 d16 hd
set_option maxHeartbeats 1600000 in
theorem rless_any {n b : Nat} (hn : n < 256) (hb0 : 0 < b) (hb1 : b < 256) (w : World) :
  Calls Tryz.prog 116 #[.int .i64 (n : Int), .int .i64 (b : Int)] w fun e w' => ∃ A c m, e = .returned (.slice A m c) ∧ DOwn w' w.heap.size A c m ((P25 - n) / b) ∧ Below w.heap.size w w' := by
 obtain ⟨i0, hi, hz0, hz1, hz2⟩ := info_parts infoInt
 have hPn : n ≤ P25 := Nat.le_trans (Nat.le_of_lt hn) (by decide +kernel)
 have hPl : P25 - n < 256 ^ 32 := Nat.lt_of_le_of_lt (Nat.sub_le _ _) P_lt
 have kp := rprime_any
 obtain ⟨P, hPe⟩ : ∃ P, P = P25 := ⟨_, rfl⟩
 rw [← hPe] at kp hPn hPl ⊢
 obtain ⟨M, hM⟩ : ∃ M, M = P - n := ⟨_, rfl⟩
 have km := @minus_any
 rw [← hM] at hPl ⊢
 have HM := Lib.hid hM
 have HP := Lib.hid hPl
 have KP := Lib.hid kp
 have hbz : ((b : Int) == 0) = false := by simp; omega
 clear hPe hM kp hPl km
 go_enter Tryz.func116, Tryz.ntmps116
 go_wp2_with fail
 go_at_call 108
 refine (KP.out _).mono ?_
 rintro e v1 ⟨A1, c1, rfl, d1, h0⟩
 have p1 := d1.dig.next ((Below.refl _ v1).alloc (Nat.le_refl _) (.cells #[.int .i64 (n : Int)] 3))
 have hc := h0.alloc h0.size (.cells #[.int .i64 (n : Int)] 3)
 have pl := lit_dig (w := v1) hn
 clear d1 h0
 go_wp2_with fail
 go_at_call 98
 refine (minus_any _ p1 pl (Nat.le_refl _) (by omega) hPn).mono ?_
 rintro e v2 ⟨A2, c2, m, rfl, d2, h0⟩
 rw [← HM.out] at d2
 replace hc := bnx hc h0
 have hm32 := d2.can 32 HP.out
 have p2 := d2.dig
 have hlt2 := d2.lt
 have HL2 := Lib.hid hlt2
 clear h0 p1 pl d2 hlt2
 have hl1 : IntKind.i64.wrap ((m : Int) - 1) = (m : Int) - 1 := by rw [IntKind.wrap_i64]; omega
 have hs2 := hc.size
 go_wp2_with fail
 go_loopw [6, 7, 8] (fun v rest i wr => ∃ r : Nat, r ≤ m ∧ i = .int .i64 ((r : Int) - 1) ∧ rest = .int .i64 ((hd M r % b : Nat) : Int) ∧ (∃ A c, v = .slice A (m - r) c ∧ OwnF wr v2.heap.size 3 A c (m - r) (dg8 (hd M r / b))) ∧ Below v2.heap.size v2 wr)
  (fun _ _ i _ => (intOf i + 1).toNat)
 case atStart => exact ⟨m, Nat.le_refl _, rfl, by rw [show hd M m = 0 by unfold hd; exact Nat.div_eq_of_lt HL2.out, Nat.zero_mod]; rfl, ⟨none, 0, by rw [Nat.sub_self], by rw [Nat.sub_self]; exact OwnF.nothing _ _ _ _⟩, Below.refl _ _⟩
 case round =>
  obtain ⟨r, hr, rfl, rfl, ⟨Ao, co, rfl, od⟩, hb⟩ := hrel
  by_cases h0 : r = 0
  ·subst h0
   rw [show hd M 0 = M by unfold hd; rw [Nat.pow_zero, Nat.div_one], Nat.sub_zero] at od
   have hMb : M / b < 256 ^ m := Nat.lt_of_le_of_lt (Nat.div_le_self _ _) HL2.out
   rw [Nat.sub_zero]
   go_wp2_with fail
   go_at_call 91
   refine (trim_any (x := M / b) _ ⟨od.rd, hMb⟩ (by omega)).mono ?_
   rintro e w3 ⟨n2, hn2, rfl, hx2, hc2, rfl⟩
   go_wp2_with fail
   go_ret
   exact ⟨Ao, co, n2, rfl, DOwn.trim od hs2 hn2 hx2 hc2, hc.trans (hb.mono hs2)⟩
  ·obtain ⟨s, rfl⟩ : ∃ s, r = s + 1 := ⟨r - 1, by omega⟩
   have gs : ((s + 1 : Nat) : Int) - 1 = (s : Int) := by omega
   rw [gs]
   have g0 : (0 : Int) ≤ (s : Int) := by omega
   have gn : (s : Int) < (m : Int) := by omega
   have gw : IntKind.i64.wrap ((s : Int) - 1) = (s : Int) - 1 := by rw [IntKind.wrap_i64]; omega
   have hdl := by8_lt M s
   obtain ⟨b1, o1, rfl, hb1', c1⟩ := (p2.keep hb).rd.at_ (k := s) (by omega)
   unfold dg8 at c1
   have gcap := p2.rd.cap
   have hrb : hd M (s + 1) % b < b := Nat.mod_lt _ hb0
   have hds := div_step (M := M) (s := s) hb0
   have hms : hd M s % b = (by8 M s + 256 * (hd M (s + 1) % b)) % b := (hd_mod M b s).symm
   generalize hd M (s + 1) % b = q at *
   generalize hd M (s + 1) / b = D at *
   obtain ⟨T, hT⟩ : ∃ T, T = by8 M s + 256 * q := ⟨_, rfl⟩
   rw [← hT] at hds hms
   have hTb : T / b < 256 := Nat.div_lt_of_lt_mul (by rw [hT]; have := Nat.mul_le_mul_left 256 (Nat.succ_le_of_lt hrb); rw [Nat.mul_comm b]; omega)
   have hTl : T < 70000 := by rw [hT]; omega
   have a1 : IntKind.i64.wrap ((q : Int) * 256) = (q : Int) * 256 := by rw [IntKind.wrap_i64]; omega
   have a2 : IntKind.i64.wrap ((q : Int) * 256 + (by8 M s : Int)) = (T : Int) := by rw [hT, IntKind.wrap_i64]; omega
   have a3 : (T : Int).tdiv (b : Int) = ((T / b : Nat) : Int) := by rw [Int.tdiv_eq_ediv_of_nonneg (by omega)]; rfl
   have a4 := (fun (z : Nat) (hz : z < 256) => (by rw [IntKind.wrap_i64]; omega : IntKind.i64.wrap (z : Int) = (z : Int))) (T / b) hTb
   have a5 : (T : Int).tmod (b : Int) = ((T % b : Nat) : Int) := by rw [Int.tmod_eq_emod_of_nonneg (by omega)]; rfl
   have a3' : (T : Int) / (b : Int) = ((T / b : Nat) : Int) := rfl
   have a5' : (T : Int) % (b : Int) = ((T % b : Nat) : Int) := rfl
   rw [← hms] at a5 a5'
   obtain ⟨y, hy⟩ : ∃ y, y = T / b := ⟨_, rfl⟩
   rw [← hy] at a3 a4 a3' hds hTb
   have HDS := Lib.hid hds
   have bl : Below wr.heap.size wr (wr.alloc (.cells #[.int .i64 (y : Int)] 3)) := (Below.refl _ wr).alloc (Nat.le_refl _) _
   have ol : OwnF (wr.alloc (.cells #[.int .i64 (y : Int)] 3)) v2.heap.size 3 (some ⟨wr.heap.size, 0, none⟩) 1 1 (fun _ => .int .i64 (y : Int)) := OwnF.lit _ hb.size _ 1 _ (by decide) rfl
   have rl := od.rd.keep bl
   have hsz : v2.heap.size ≤ (wr.alloc (.cells #[.int .i64 (y : Int)] 3)).heap.size := Nat.le_trans hb.size bl.size
   have HTB := Lib.hid hTb
   clear hds hms hT hTl hrb hy hTb hdl
   go_wp2_with (at_builtin; refine wpList_appF _ rfl (.tmp 31) (.tmp 32) _ rfl v2.heap.size 3 i0 _ Tryz.underlying40 hi hz0 hz1 hz2 (by decide) rfl rfl ol rfl rl (fun _ _ => rfl) (by omega) (by omega) hsz ?_; intro A2 c2 w2 ho2 hb2)
   go_roundw
   case rel =>
    refine ⟨s, by omega, by go_num, rfl, ⟨A2, c2, by rw [show m - s = 1 + (m - (s + 1)) by omega], ?_⟩, (hb.alloc hb.size _).trans hb2⟩
    rw [show m - s = 1 + (m - (s + 1)) by omega]
    refine ho2.congr fun k hk => ?_
    unfold dg8
    rw [HDS.out]
    by_cases h1 : k < 1
    ·obtain rfl : k = 0 := by omega
     rw [if_pos h1, by8_cons0 HTB.out]
    ·obtain ⟨j, rfl⟩ : ∃ j, k = j + 1 := ⟨k - 1, by omega⟩
     rw [if_neg h1, by8_cons HTB.out, Nat.add_sub_cancel]
   case measure => simp [intOf]
end Go.Proofs.YtkbkalhcdbklkaaGreatDoor
