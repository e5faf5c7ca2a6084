/-
  Slices of bytes; the code's take, of both words (layer 6). Written by tools/gen_n25.py. By an AI agent.
-/
import Derived.Test.YtkbkalhcdbklkaaGreatDoorJ10
import Derived.Test.YtkbkalhcdbklkaaGreatDoorN24
import Derived.Test.YtkbkalhcdbklkaaGreatDoorJ22
import Derived.Test.YtkbkalhcdbklkaaGreatDoorJ04
namespace Go.Proofs.YtkbkalhcdbklkaaGreatDoor
open Go Go.RowKit
set_option maxRecDepth 20000
section
attribute [local irreducible] rl setA blN runs subA
end
section
attribute [local irreducible] rl setA blN runs subA
set_option maxHeartbeats 3200000 in
theorem take_64 {V : Nat → Nat} {A0 : Option Addr} {B c0 : Nat} {bs : List UInt8} (hV : ∀ i, V i < 18446744073709551616) (hlen : bs.length ≤ 140737488355328) (w : World) (hG : GlbS w) (hr : Rd w B A0 c0 bs) (hB : B ≤ w.heap.size) :
  Calls Tryz.prog 119 #[av 8 (iv64 V), .slice A0 bs.length c0] w fun e w' => e = .returned (.tuple #[av 8 (iv64 (runs greatS V bs (bs.length / 128))), .slice (subA A0 c0 (bs.length / 128 * 128)) (bs.length - bs.length / 128 * 128) (c0 - bs.length / 128 * 128)]) ∧ Below w.heap.size w w' := by
 have hcap := hr.cap
 obtain ⟨ln, hln⟩ : ∃ l, l = bs.length := ⟨_, rfl⟩
 have hrl : ∀ j i, runs greatS V bs j i < 18446744073709551616 := fun j i => runs_lt (S := greatS) hV bs j i
 have hr0 : runs greatS V bs 0 = V := runs_zero _ _ _
 have hrs : ∀ j, runs greatS V bs (j + 1) = blN greatS (runs greatS V bs j) (nth ((bs.drop (j * 128)).take 128)) := fun j => runs_succ greatS V bs j
 have HRL := Lib.hid hrl
 have HRS := Lib.hid hrs
 rw [← hln] at hcap hlen ⊢
 obtain ⟨wh, hwh⟩ : ∃ x, x = ln / 128 := ⟨_, rfl⟩
 obtain ⟨WN, hWN⟩ : ∃ x, x = wh * 128 := ⟨_, rfl⟩
 have hwl : WN ≤ ln := by omega
 rw [← hwh, ← hWN]
 clear hrl hrs
 have oa := OwnF.lit (w := w) (B := w.heap.size) 86 (Nat.le_refl _) (rl 8 (iv64 V)).toArray 8 (iv64 V) (by decide) (by unfold rl; simp)
 have hc := (Below.refl w.heap.size w).alloc (Nat.le_refl _) (.cells (rl 8 (iv64 V)).toArray 86)
 generalize he1 : (w.alloc (.cells (rl 8 (iv64 V)).toArray 86)) = v1 at oa hc
 have hs1 : v1.heap.size = w.heap.size + 1 := by rw [← he1]; simp
 have oz := OwnF.lit (w := v1) (B := w.heap.size) 86 hc.size #[Value.int .u64 0, Value.int .u64 0, Value.int .u64 0, Value.int .u64 0, Value.int .u64 0, Value.int .u64 0, Value.int .u64 0, Value.int .u64 0] 8 (fun _ => .int .u64 0) (by decide) (by kernel_rfl)
 have h2 := (Below.refl v1.heap.size v1).alloc (Nat.le_refl _) (.cells #[Value.int .u64 0, Value.int .u64 0, Value.int .u64 0, Value.int .u64 0, Value.int .u64 0, Value.int .u64 0, Value.int .u64 0, Value.int .u64 0] 86)
 replace hc := bnx hc h2
 replace oa := OwnF.keep oa h2
 generalize he2 : (v1.alloc (.cells #[Value.int .u64 0, Value.int .u64 0, Value.int .u64 0, Value.int .u64 0, Value.int .u64 0, Value.int .u64 0, Value.int .u64 0, Value.int .u64 0] 86)) = v2 at oa oz hc h2
 clear h2
 obtain ⟨gA, hgA⟩ : ∃ g, g = w.heap.size := ⟨_, rfl⟩
 obtain ⟨gR, hgR⟩ : ∃ g, g = w.heap.size + 1 := ⟨_, rfl⟩
 replace oa : OwnF v2 w.heap.size 86 (some ⟨gA, 0, none⟩) 8 8 (iv64 V) := by rw [hgA]; exact oa
 rw [hs1, ← hgR] at oz
 have hne := Lib.hid (show gR ≠ gA by omega)
 have E1 := Lib.hid he1
 have E2 := Lib.hid he2
 have HGA := Lib.hid hgA
 have HGR := Lib.hid hgR
 clear he1 he2 hgA hgR hs1
 have hq : (ln : Int) / 128 = (wh : Int) := by omega
 have hq' : (ln : Int).tdiv 128 = (wh : Int) := by rw [Int.tdiv_eq_ediv_of_nonneg (by omega), hq]
 have hq2 : IntKind.i64.wrap (wh : Int) = (wh : Int) := by rw [IntKind.wrap_i64]; omega
 have HLN := Lib.hid hln
 have HWH := Lib.hid hwh
 have HWN := Lib.hid hWN
 clear hwh hWN hln
 go_enter Tryz.func119, Tryz.ntmps119
 go_wp2_with fail
 rw [E1.out, E2.out]
 rw [show (Value.pointer (some ⟨w.heap.size, 0, none⟩)) = .pointer (some ⟨gA, 0, none⟩) by rw [HGA.out], show (Value.pointer (some ⟨w.heap.size + 1, 0, none⟩)) = .pointer (some ⟨gR, 0, none⟩) by rw [HGR.out]]
 clear E1 E2 HGA HGR
 go_at_call 121
 refine (size_64 _).mono ?_
 rintro e v3 ⟨rfl, e3⟩
 subst e3
 go_wp2_with fail
 go_loopw [16] (fun i wr => ∃ j : Nat, j ≤ wh ∧ i = .int .i64 (j : Int) ∧ OwnF wr w.heap.size 86 (some ⟨gA, 0, none⟩) 8 8 (iv64 (runs greatS V bs j)) ∧ OwnF wr w.heap.size 86 (some ⟨gR, 0, none⟩) 8 8 (fun _ => .int .u64 0) ∧ Below w.heap.size w wr)
  (fun i _ => wh - (intOf i).toNat)
 case atStart => exact ⟨0, by omega, rfl, by rw [hr0]; exact oa, oz, hc⟩
 case round =>
  clear oa oz hc
  obtain ⟨j, hj, rfl, oa, oz, hc⟩ := hrel
  have hHWN := HWN.out
  by_cases hlt : j < wh
  ·have g1 : (j : Int) < (wh : Int) := by omega
   obtain ⟨L, hL⟩ : ∃ L, L = j * 128 := ⟨_, rfl⟩
   obtain ⟨H, hH⟩ : ∃ H, H = L + 128 := ⟨_, rfl⟩
   obtain ⟨j1, hj1⟩ : ∃ x, x = j + 1 := ⟨_, rfl⟩
   have hH2 : H ≤ WN := by omega
   have E1 := Lib.hid (show IntKind.i64.wrap ((j : Int) * 128) = (L : Int) by rw [IntKind.wrap_i64]; omega)
   have E0 := Lib.hid (show IntKind.i64.wrap ((j : Int) + 1) = (j1 : Int) by rw [IntKind.wrap_i64]; omega)
   have E2 := Lib.hid (show IntKind.i64.wrap ((j1 : Int) * 128) = (H : Int) by rw [IntKind.wrap_i64]; omega)
   have HLH := Lib.hid (show L ≤ H ∧ H ≤ c0 ∧ H - L = 128 by omega)
   have HCL := Lib.hid (fun w1 (hz : Below wr.heap.size wr w1) => OwnF.cl (off := 0) (n := 8) (OwnF.keep oa hz) (by decide) (fun k hk => by rw [Nat.zero_add]))
   have hmm := fun w1 (hz : Below wr.heap.size wr w1) => mix_64 (V := runs greatS V bs j) (A0 := subA A0 c0 L) (B := B) (c0 := c0 - L) (bs := (bs.drop L).take 128) (HRL.out j) (by rw [List.length_take, List.length_drop, ← HLN.out]; omega) w1
    (hG.next (bnx hc hz)) (((hr.keep (hc.mono hB)).keep (hz.mono (Nat.le_trans hB hc.size))).sub_ (by rw [← HLN.out]; omega)) (Nat.le_trans hB (Nat.le_trans hc.size hz.size))
   have hrr := HRS.out j
   rw [← hL] at hrr
   rw [← hrr] at hmm
   have KM := Lib.hid hmm
   have HJ := Lib.hid hj1
   clear hmm hrr hL hH hH2 hHWN hj1
   go_upto_region 6 with fail
   refine wp_region_inv 11 [19, 20, 21, 22, 23, 24, 25, 26, 27, 28, 29] [.val (av 8 (iv64 (runs greatS V bs j))), .val (.slice A0 ln c0), .val (.int .i64 (j : Int)), .val (.int .i64 128), .val (.int .i64 (L : Int)), .val (.int .i64 (j : Int)), .val (.int .i64 (j1 : Int)), .val (.int .i64 128), .val (.int .i64 (H : Int)), .val (.slice (subA A0 c0 L) 128 (c0 - L)), .val (av 8 (iv64 (runs greatS V bs (j + 1))))] (fun wz => Below wr.heap.size wr wz) (by kernel_rfl) (by kernel_rfl) (fun wz wz' hz hb => bnx hz hb) ((Below.refl _ _).drew) (fun u => by simp only [puts, List.foldl_cons, List.foldl_nil]; go_simp; exact rfl) ?_ ?_
   ·simp only [List.take_succ_cons, List.take_zero]
    refine .cons (fun u w hS hd => ?_) ?_
    ·exact Gv.run (av 8 (iv64 (runs greatS V bs j))) rfl (av_run rfl rfl (HCL.out w hS) ty8_64) rfl
    refine .cons (fun u w hS hd => ?_) ?_
    ·exact Gv.run (.slice A0 ln c0) rfl (by go_simp) rfl
    refine .cons (fun u w hS hd => ?_) ?_
    ·exact Gv.run (.int .i64 (j : Int)) rfl (by go_simp) rfl
    refine .cons (fun u w hS hd => ?_) ?_
    ·exact Gv.run (.int .i64 128) rfl (by go_simp) rfl
    refine .cons (fun u w hS hd => ?_) ?_
    ·have d21 : u 21 = .int .i64 (j : Int) := dep hd 2 rfl
     have d22 : u 22 = .int .i64 128 := dep hd 3 rfl
     rw [d21, d22]
     have hq := E1.out
     exact Gv.run (.int .i64 (L : Int)) rfl (by go_simp) rfl
    refine .cons (fun u w hS hd => ?_) ?_
    ·exact Gv.run (.int .i64 (j : Int)) rfl (by go_simp) rfl
    refine .cons (fun u w hS hd => ?_) ?_
    ·have d24 : u 24 = .int .i64 (j : Int) := dep hd 5 rfl
     rw [d24]
     have hq := E0.out
     exact Gv.run (.int .i64 (j1 : Int)) rfl (by go_simp) rfl
    refine .cons (fun u w hS hd => ?_) ?_
    ·exact Gv.run (.int .i64 128) rfl (by go_simp) rfl
    refine .cons (fun u w hS hd => ?_) ?_
    ·have d25 : u 25 = .int .i64 (j1 : Int) := dep hd 6 rfl
     have d26 : u 26 = .int .i64 128 := dep hd 7 rfl
     rw [d25, d26]
     have hq := E2.out
     exact Gv.run (.int .i64 (H : Int)) rfl (by go_simp) rfl
    refine .cons (fun u w hS hd => ?_) ?_
    ·have d20 : u 20 = .slice A0 ln c0 := dep hd 1 rfl
     have d23 : u 23 = .int .i64 (L : Int) := dep hd 4 rfl
     have d27 : u 27 = .int .i64 (H : Int) := dep hd 8 rfl
     rw [d20, d23, d27]
     exact Gv.run (.slice (subA A0 c0 L) 128 (c0 - L)) rfl (slice_op_n rfl rfl rfl rfl HLH.out.1 HLH.out.2.1 HLH.out.2.2) rfl
    refine .cons (fun u w hS hd => ?_) ?_
    ·have d19 : u 19 = av 8 (iv64 (runs greatS V bs j)) := dep hd 0 rfl
     have d28 : u 28 = .slice (subA A0 c0 L) 128 (c0 - L) := dep hd 9 rfl
     rw [d19, d28]
     refine Gv.call 138 #[av 8 (iv64 (runs greatS V bs j)), .slice (subA A0 c0 L) 128 (c0 - L)] rfl (by go_simp) ((KM.out w hS).mono ?_)
     rintro e w' ⟨rfl, hb⟩
     exact ⟨_, rfl, rfl, hb⟩
    exact Obs.nil
   intro u wz hS hd
   have d29 : u 29 = av 8 (iv64 (runs greatS V bs (j + 1))) := hd 10 (by decide)
   rw [d29]
   clear hd d29 KM HCL E0 E1 E2 HLH
   have oaz := OwnF.keep oa hS
   have ozz := Lib.hid (OwnF.only (OwnF.keep oz hS) (av_only wz gA 0 8 (iv64 (runs greatS V bs (j + 1)))) (Ne.symm hne.out))
   have hcz := Lib.hid ((bnx hc hS).trans ((av_only wz gA 0 8 (iv64 (runs greatS V bs (j + 1)))).below (OwnF.ge oa)))
   simp only [List.drop_succ_cons, List.drop_zero]
   go_wp2_with ((with_reducible refine av_store (off := 0) oaz ty8_64 (by decide) (iv64 (runs greatS V bs (j + 1))) (fun k _ => rfl) ?_ ?_ ?_); rfl; rfl)
   exact ⟨⟨j + 1, by omega, by go_num, av_all oaz _, ozz.out, hcz.out⟩, by simp [intOf]; omega⟩
  ·obtain rfl : j = wh := by omega
   have E1 := Lib.hid (show IntKind.i64.wrap ((j : Int) * 128) = (WN : Int) by rw [IntKind.wrap_i64]; omega)
   have hnl : ¬ (j : Int) < (j : Int) := by omega
   clear hHWN
   go_upto_region 8 with fail
   obtain ⟨v5, e5⟩ : ∃ v, v = wr.drew := ⟨_, rfl⟩
   have hS : Below wr.heap.size wr v5 := by rw [e5]; exact (Below.refl _ _).drew
   replace oa := OwnF.keep oa hS
   replace oz := OwnF.keep oz hS
   replace hc := bnx hc hS
   have hcl := Lib.hid (OwnF.cl (off := 0) (n := 8) oa (by decide) (fun k hk => by rw [Nat.zero_add]))
   have hcz := Lib.hid (OwnF.cl (off := 0) (n := 8) (av_all oz (iv64 (runs greatS V bs j))) (by decide) (fun k hk => by rw [Nat.zero_add]))
   have hbz := Lib.hid (hc.trans ((av_only v5 gR 0 8 (iv64 (runs greatS V bs j))).below (OwnF.ge oz)))
   have E5 := Lib.hid e5
   clear hS e5
   refine wp_region_late 7 6 [some 31, some 32, some 33, some 34, some 35, some 36, none] [av 8 (iv64 (runs greatS V bs j)), .slice A0 ln c0, .int .i64 (j : Int), .int .i64 128, .int .i64 (WN : Int), .slice (subA A0 c0 WN) (ln - WN) (c0 - WN), undef] [1, 2, 3, 4, 5] (fun b => cond b (setA v5 gR 0 8 (iv64 (runs greatS V bs j))) v5) (by kernel_rfl) (by kernel_rfl) E5.out (fun u => by simp only [List.filterMap_cons, List.filterMap_nil, id, puts, List.foldl_cons, List.foldl_nil]; go_simp; exact rfl) ?_ ?_
   ·simp only [List.take_succ_cons, List.take_zero]
    refine ObsL.cons (fun u hd => ?_) ?_
    ·exact ⟨rfl, fun b hb => by cases b with
      | true => exact absurd (hb rfl) (by decide)
      | false => exact av_run rfl rfl hcl.out ty8_64⟩
    refine ObsL.cons (fun u hd => ?_) ?_
    ·exact ⟨rfl, fun b _ => by generalize (cond b _ _ : World) = W; go_simp⟩
    refine ObsL.cons (fun u hd => ?_) ?_
    ·exact ⟨rfl, fun b _ => by generalize (cond b _ _ : World) = W; go_simp⟩
    refine ObsL.cons (fun u hd => ?_) ?_
    ·exact ⟨rfl, fun b _ => by generalize (cond b _ _ : World) = W; go_simp⟩
    refine ObsL.cons (fun u hd => ?_) ?_
    ·have d33 : u 33 = .int .i64 (j : Int) := depL hd 2 rfl 33 rfl
     have d34 : u 34 = .int .i64 128 := depL hd 3 rfl 34 rfl
     rw [d33, d34]
     have hq := E1.out
     exact ⟨rfl, fun b _ => by generalize (cond b _ _ : World) = W; go_simp⟩
    refine ObsL.cons (fun u hd => ?_) ?_
    ·have d32 : u 32 = .slice A0 ln c0 := depL hd 1 rfl 32 rfl
     have d35 : u 35 = .int .i64 (WN : Int) := depL hd 4 rfl 35 rfl
     rw [d32, d35]
     exact ⟨rfl, fun b _ => slice_op_lo (A := A0) (n := ln) (c := c0) (l := WN) rfl rfl rfl hwl⟩
    refine ObsL.cons (fun u hd => ?_) ?_
    ·have d31 : u 31 = av 8 (iv64 (runs greatS V bs j)) := depL hd 0 rfl 31 rfl
     rw [d31]
     exact ⟨rfl, av_sets (off := 0) rfl oz ty8_64 (by decide) (iv64 (runs greatS V bs j)) (fun k _ => rfl) rfl rfl⟩
    exact ObsL.nil
   intro u hd
   have d36 : u 36 = .slice (subA A0 c0 WN) (ln - WN) (c0 - WN) := hd 5 (by decide) 36 rfl
   rw [d36]
   clear hd d36
   simp only [List.drop_succ_cons, List.drop_zero]
   change wpList _ _ _ _ _ (setA v5 gR 0 8 (iv64 (runs greatS V bs j)))
   go_wp2_with fail
   exact bodyPost_ret (av_res2 Tryz.results119 _ hcz.out ty8_64 rfl rfl) rfl ⟨rfl, hbz.out⟩
end
end Go.Proofs.YtkbkalhcdbklkaaGreatDoor
