/-
  Arrays as values; the code's schedule, of both words (layer 6). Written by tools/gen_n23.py. By an AI agent.
-/
import Derived.Test.YtkbkalhcdbklkaaGreatDoorJ10
import Derived.Test.YtkbkalhcdbklkaaGreatDoorJ08
import Derived.Test.YtkbkalhcdbklkaaGreatDoorJ08
namespace Go.Proofs.YtkbkalhcdbklkaaGreatDoor
open Go Go.RowKit
set_option maxRecDepth 20000
section
variable {ops : Array Oper} {rest : List Oper} {a : Act} {w : World} {Q : Exit → Act → World → Prop} {B g C N n off : Nat} {e ty : TypeId} {f f' : Nat → Value} {dst : Option Nat} {tp : TypeId} {ps : String} {af : Array Edge} {x y : Operand} {o : Oper}
end
def iv32 (V : Nat → Nat) (j : Nat) : Value := .int .u32 ((V j : Nat) : Int)
def iv64 (V : Nat → Nat) (j : Nat) : Value := .int .u64 ((V j : Nat) : Int)
def wz32 (V : Nat → Nat) (t j : Nat) : Value := if j < t then .int .u32 ((V j : Nat) : Int) else .int .u32 0
theorem wz32_succ (V : Nat → Nat) (t j : Nat) : (if j = t then Value.int .u32 ((V t : Nat) : Int) else wz32 V t j) = wz32 V (t + 1) j := by
 unfold wz32
 by_cases h : j = t
 ·subst h; rw [if_pos rfl, if_pos (by omega)]
 ·rw [if_neg h]
  by_cases h2 : j < t
  ·rw [if_pos h2, if_pos (by omega)]
  ·rw [if_neg h2, if_neg (by omega)]
section
attribute [local irreducible] rl setA wz32 wf be shiftedN
end
theorem ty80_64 : ATy 165 80 := ⟨⟨_, Tryz.underlying165, rfl⟩, by kernel_rfl⟩
theorem ty8_64 : ATy 86 8 := ⟨⟨_, Tryz.underlying86, rfl⟩, by kernel_rfl⟩
def wz64 (V : Nat → Nat) (t j : Nat) : Value := if j < t then .int .u64 ((V j : Nat) : Int) else .int .u64 0
theorem wz64_zero (V : Nat → Nat) : wz64 V 0 = fun _ => .int .u64 0 := by funext j; simp [wz64]
theorem wz64_lt {V : Nat → Nat} {t j : Nat} (h : j < t) : wz64 V t j = .int .u64 ((V j : Nat) : Int) := by simp [wz64, h]
theorem wz64_one (V : Nat → Nat) (t j : Nat) : (wz64 V t j).oneCell' = true := by unfold wz64; split <;> rfl
theorem wz64_succ (V : Nat → Nat) (t j : Nat) : (if j = t then Value.int .u64 ((V t : Nat) : Int) else wz64 V t j) = wz64 V (t + 1) j := by
 unfold wz64
 by_cases h : j = t
 ·subst h; rw [if_pos rfl, if_pos (by omega)]
 ·rw [if_neg h]
  by_cases h2 : j < t
  ·rw [if_pos h2, if_pos (by omega)]
  ·rw [if_neg h2, if_neg (by omega)]
theorem wf_low_64 (y : Nat → Nat) {t : Nat} (h : t < 16) : wf greatS y t = be y (t * 8) 8 := by
 rw [wf_eq, if_pos h]; rfl
theorem wf_high_64 (y : Nat → Nat) {t : Nat} (h : ¬ t < 16) : wf greatS y t = (shiftedN 64 (wf greatS y (t - 2)) (19, 61, 6) + wf greatS y (t - 7) + shiftedN 64 (wf greatS y (t - 15)) (1, 8, 7) + wf greatS y (t - 16)) % 18446744073709551616 := by
 rw [wf_eq, if_neg h]; rfl
section
attribute [local irreducible] rl setA wz64 wf be shiftedN
set_option maxHeartbeats 3200000 in
theorem schedule_64 {A0 : Option Addr} {B c0 : Nat} {bs : List UInt8} (hbs : bs.length = 128) (w : World) (hr : Rd w B A0 c0 bs) (hB : B ≤ w.heap.size) :
  Calls Tryz.prog 146 #[.slice A0 128 c0] w fun e w' => e = .returned (av 80 (wz64 (wf greatS (nth bs)) 80)) ∧ Below w.heap.size w w' := by
 have hcap := hr.cap
 rw [hbs] at hcap
 obtain ⟨b0, o0, rfl, hb0, _⟩ := hr.at_ (k := 0) (by omega)
 have hcell : ∀ k, k < 128 → w.cell? ⟨b0, o0 + k, none⟩ = some (.int .u8 ((nth bs k : Nat) : Int)) := fun k hk => by
  obtain ⟨b2, o2, e2, _, c2⟩ := hr.at_ (k := k) (by omega)
  simp only [Option.some.injEq, Addr.mk.injEq] at e2
  obtain ⟨rfl, rfl, _⟩ := e2
  exact c2
 have hy := nth_lt bs
 have hwl : ∀ t, wf greatS (nth bs) t < 18446744073709551616 := fun t => wf_lt (S := greatS) (by first | exact .inl rfl | exact .inr rfl) hy t
 have hw16 : ∀ t, t < 16 → be (nth bs) (t * 8) 8 = wf greatS (nth bs) t := fun t ht => (wf_low_64 _ ht).symm
 have hwn : ∀ t, ¬ t < 16 → wf greatS (nth bs) t = (shiftedN 64 (wf greatS (nth bs) (t - 2)) (19, 61, 6) + wf greatS (nth bs) (t - 7) + shiftedN 64 (wf greatS (nth bs) (t - 15)) (1, 8, 7) + wf greatS (nth bs) (t - 16)) % 18446744073709551616 := fun t ht => wf_high_64 _ ht
 generalize wf greatS (nth bs) = V at *
 have HCELL := Lib.hid hcell
 have HY := Lib.hid hy
 have HWL := Lib.hid hwl
 have HW16 := Lib.hid hw16
 have HWN := Lib.hid hwn
 clear hcell hy hwl hw16 hwn hr hbs
 have oz1 := OwnF.lit (w := w) (B := w.heap.size) 165 (Nat.le_refl _) Tryz.zeroCells165 80 (fun _ => .int .u64 0) (by decide) (by kernel_rfl)
 have hc1 := (Below.refl w.heap.size w).alloc (Nat.le_refl _) (.cells Tryz.zeroCells165 165)
 generalize he1 : (w.alloc (.cells Tryz.zeroCells165 165)) = v1 at oz1 hc1
 have hs1 : v1.heap.size = w.heap.size + 1 := by rw [← he1]; simp
 have oz2 := OwnF.lit (w := v1) (B := w.heap.size) 165 hc1.size Tryz.zeroCells165 80 (fun _ => .int .u64 0) (by decide) (by kernel_rfl)
 have hc2 := hc1.trans ((Below.refl v1.heap.size v1).alloc (Nat.le_refl _) (.cells Tryz.zeroCells165 165) |>.mono hc1.size)
 replace oz1 := OwnF.keep oz1 ((Below.refl v1.heap.size v1).alloc (Nat.le_refl _) (.cells Tryz.zeroCells165 165))
 generalize he2 : (v1.alloc (.cells Tryz.zeroCells165 165)) = v2 at oz1 oz2 hc2
 obtain ⟨g2, hg2⟩ : ∃ g, g = w.heap.size := ⟨_, rfl⟩
 obtain ⟨g, hg⟩ : ∃ g, g = w.heap.size + 1 := ⟨_, rfl⟩
 replace oz1 : OwnF v2 w.heap.size 165 (some ⟨g2, 0, none⟩) 80 80 (fun _ => .int .u64 0) := by rw [hg2]; exact oz1
 rw [hs1, ← hg] at oz2
 have E1 := Lib.hid he1
 have E2 := Lib.hid he2
 have HG2 := Lib.hid hg2
 have HG := Lib.hid hg
 clear he1 he2 hg hs1 hc1
 go_enter Tryz.func146, Tryz.ntmps146
 go_wp2_with fail
 rw [E1.out, E2.out]
 rw [show (Value.pointer (some ⟨w.heap.size, 0, none⟩)) = .pointer (some ⟨g2, 0, none⟩) by rw [HG2.out], show (Value.pointer (some ⟨w.heap.size + 1, 0, none⟩)) = .pointer (some ⟨g, 0, none⟩) by rw [HG.out]]
 clear E1 E2 hg2
 have hbg : g2 ≠ g := by have := HG2.out; have := HG.out; omega
 have hHB := Lib.hid (show w.heap.size ≤ v2.heap.size from hc2.size)
 have hb02 : b0 < w.heap.size := by omega
 go_at_call 121
 refine (size_64 _).mono ?_
 rintro e v3 ⟨rfl, rfl⟩
 go_wp2_with fail
 go_loopw [9] (fun i wr => ∃ t : Nat, t ≤ 16 ∧ i = .int .i64 (t : Int) ∧ OwnF wr w.heap.size 165 (some ⟨g, 0, none⟩) 80 80 (wz64 V t) ∧ OwnF wr w.heap.size 165 (some ⟨g2, 0, none⟩) 80 80 (fun _ => .int .u64 0) ∧ Below w.heap.size w wr)
  (fun i _ => 16 - (intOf i).toNat)
 case atStart => exact ⟨0, by omega, rfl, by rw [wz64_zero]; exact oz2, oz1, hc2⟩
 case round =>
  clear oz1 oz2 hc2 hHB
  obtain ⟨t, ht, rfl, ow, oz, hb⟩ := hrel
  by_cases hlt : t < 16
  ·have g1 : (t : Int) < 16 := by omega
   obtain ⟨L, hL⟩ : ∃ L, L = t * 8 := ⟨_, rfl⟩
   obtain ⟨H, hH⟩ : ∃ H, H = L + 8 := ⟨_, rfl⟩
   have e1 : IntKind.i64.wrap ((t : Int) * 8) = (L : Int) := by rw [IntKind.wrap_i64]; omega
   have e2 : IntKind.i64.wrap (IntKind.i64.wrap ((t : Int) + 1) * 8) = (H : Int) := by rw [IntKind.wrap_i64, IntKind.wrap_i64]; omega
   have e2' : IntKind.i64.wrap (((t : Int) + 1) * 8) = (H : Int) := by rw [IntKind.wrap_i64]; omega
   have e2'' : IntKind.i64.wrap ((t : Int) + 1) = (t : Int) + 1 := by rw [IntKind.wrap_i64]; omega
   have k1 : (0 : Int) ≤ (L : Int) := by omega
   have k2 : (L : Int) ≤ (H : Int) := by omega
   have k3 : (H : Int) ≤ (c0 : Int) := by omega
   have k4 : ¬ c0 = L := by omega
   have k5 : H - L = 8 := by omega
   have hg := HW16.out t hlt
   rw [← hL] at hg
   have KG := Lib.hid (fun cap w (h : Below b0.succ wr w) => get_64 HY.out (b := b0) (o := o0 + L) (p := L) (c := cap) w (fun k hk => by
    rw [h.cell (p := ⟨b0, o0 + L + k, none⟩) (Nat.lt_succ_self _), hb.cell (p := ⟨b0, o0 + L + k, none⟩) hb02, Nat.add_assoc]
    exact HCELL.out (L + k) (by omega)))
   rw [hg] at KG
   have hset := Lib.hid (OwnF.congr (OwnF.set_ ow t (.int .u64 ((V t : Nat) : Int))) fun j _ => wz64_succ V t j)
   have hoz := Lib.hid (OwnF.other oz (p := ⟨g, t, none⟩) (Ne.symm hbg) (.int .u64 ((V t : Nat) : Int)))
   have hbel := Lib.hid (hb.trans ((Only.setCell wr ⟨g, t, none⟩ (.int .u64 ((V t : Nat) : Int))).below (OwnF.ge ow)))
   have cc := ow.cell (k := t) (by omega)
   have ff := ow.free t
   have hwl := HWL.out t
   generalize V t = vt at *
   clear hL hH hg ow oz hb
   go_wp2_with fail
   go_at_call 155
   refine (KG.out _ _ (Below.refl _ _)).mono ?_
   rintro e v4 ⟨rfl, rfl⟩
   go_wp2_with fail
   exact ⟨⟨t + 1, by omega, by go_num, hset.out, hoz.out, hbel.out⟩, by simp [intOf]; omega⟩
  ·obtain rfl : t = 16 := by omega
   simp only [Int.cast_ofNat_Int]
   go_wp2_with fail
   go_at_call 147
   refine (rounds_64 _).mono ?_
   rintro e v4 ⟨rfl, rfl⟩
   go_wp2_with fail
   clear HY HW16 HCELL
   go_loopw [27] (fun i wr => ∃ j : Nat, j ≤ 64 ∧ i = .int .i64 (j : Int) ∧ OwnF wr w.heap.size 165 (some ⟨g, 0, none⟩) 80 80 (wz64 V (j + 16)) ∧ OwnF wr w.heap.size 165 (some ⟨g2, 0, none⟩) 80 80 (fun _ => .int .u64 0) ∧ Below w.heap.size w wr)
    (fun i _ => 64 - (intOf i).toNat)
   case atStart => exact ⟨0, by omega, rfl, ow, oz, hb⟩
   case round =>
    clear ow oz hb
    obtain ⟨j, hj, rfl, ow, oz, hb⟩ := hrel
    by_cases hlt : j < 64
    ·have g1 : (j : Int) < 64 := by omega
     obtain ⟨t, et⟩ : ∃ t, t = j + 16 := ⟨_, rfl⟩
     have e1 : IntKind.i64.wrap ((j : Int) + 16) = (t : Int) := by rw [IntKind.wrap_i64]; omega
     rw [← et] at ow
     have hbt : t < 80 := by omega
     have ht16 : 16 ≤ t := by omega
     have IT := Lib.hid (show (0 : Int) ≤ (t : Int) ∧ (t : Int) < 80 by omega)
     obtain ⟨m2, em2⟩ : ∃ m, m = t - 2 := ⟨_, rfl⟩
     have S2 := Lib.hid (show IntKind.i64.wrap ((t : Int) - 2) = (m2 : Int) by rw [IntKind.wrap_i64]; omega)
     have I2 := Lib.hid (show (0 : Int) ≤ (m2 : Int) ∧ (m2 : Int) < 80 by omega)
     obtain ⟨m7, em7⟩ : ∃ m, m = t - 7 := ⟨_, rfl⟩
     have S7 := Lib.hid (show IntKind.i64.wrap ((t : Int) - 7) = (m7 : Int) by rw [IntKind.wrap_i64]; omega)
     have I7 := Lib.hid (show (0 : Int) ≤ (m7 : Int) ∧ (m7 : Int) < 80 by omega)
     obtain ⟨m15, em15⟩ : ∃ m, m = t - 15 := ⟨_, rfl⟩
     have S15 := Lib.hid (show IntKind.i64.wrap ((t : Int) - 15) = (m15 : Int) by rw [IntKind.wrap_i64]; omega)
     have I15 := Lib.hid (show (0 : Int) ≤ (m15 : Int) ∧ (m15 : Int) < 80 by omega)
     obtain ⟨m16, em16⟩ : ∃ m, m = t - 16 := ⟨_, rfl⟩
     have S16 := Lib.hid (show IntKind.i64.wrap ((t : Int) - 16) = (m16 : Int) by rw [IntKind.wrap_i64]; omega)
     have I16 := Lib.hid (show (0 : Int) ≤ (m16 : Int) ∧ (m16 : Int) < 80 by omega)
     have hrv := HWN.out t (by omega)
     rw [← em2, ← em7, ← em15, ← em16] at hrv
     have HC : Hid (∀ wz, Below wr.heap.size wr wz → wz.cell? ⟨g, m2, none⟩ = some (.int .u64 ((V m2 : Nat) : Int)) ∧ wz.cell? ⟨g, m7, none⟩ = some (.int .u64 ((V m7 : Nat) : Int)) ∧ wz.cell? ⟨g, m15, none⟩ = some (.int .u64 ((V m15 : Nat) : Int)) ∧ wz.cell? ⟨g, m16, none⟩ = some (.int .u64 ((V m16 : Nat) : Int))) :=
      Lib.hid fun wz hz => by
       have ok := OwnF.keep ow hz
       exact ⟨(ok.cell (k := m2) (by omega)).trans (by rw [wz64_lt (by omega)]), (ok.cell (k := m7) (by omega)).trans (by rw [wz64_lt (by omega)]), (ok.cell (k := m15) (by omega)).trans (by rw [wz64_lt (by omega)]), (ok.cell (k := m16) (by omega)).trans (by rw [wz64_lt (by omega)])⟩
     have hx2 := HWL.out m2
     have hx7 := HWL.out m7
     have hx15 := HWL.out m15
     have hx16 := HWL.out m16
     have HSET := Lib.hid (fun wz (hz : Below wr.heap.size wr wz) => OwnF.congr (OwnF.set_ (OwnF.keep ow hz) t (.int .u64 ((V t : Nat) : Int))) fun j _ => wz64_succ V t j)
     have HOZ := Lib.hid (fun wz (hz : Below wr.heap.size wr wz) => OwnF.other (OwnF.keep oz hz) (p := ⟨g, t, none⟩) (Ne.symm hbg) (.int .u64 ((V t : Nat) : Int)))
     have HBE := Lib.hid (fun wz (hz : Below wr.heap.size wr wz) => (bnx hb hz).trans ((Only.setCell wz ⟨g, t, none⟩ (.int .u64 ((V t : Nat) : Int))).below (OwnF.ge ow)))
     have HCC := Lib.hid (fun wz (hz : Below wr.heap.size wr wz) => And.intro ((OwnF.keep ow hz).cell (k := t) (by omega)) ((OwnF.keep ow hz).free t))
     generalize hvt : V t = r at *
     generalize V m2 = x2 at *
     generalize V m7 = x7 at *
     generalize V m15 = x15 at *
     generalize V m16 = x16 at *
     have KL := Lib.hid (fun w => lower1_64 (x := x2) hx2 w)
     have KE := Lib.hid (fun w => lower0_64 (x := x15) hx15 w)
     have hs2 := shiftedN_lt (b := 64) (by decide) hx2 (19, 61, 6)
     have hs15 := shiftedN_lt (b := 64) (by decide) hx15 (1, 8, 7)
     generalize shiftedN 64 x2 (19, 61, 6) = s2 at *
     generalize shiftedN 64 x15 (1, 8, 7) = s15 at *
     replace hs2 : s2 < 18446744073709551616 := hs2
     replace hs15 : s15 < 18446744073709551616 := hs15
     obtain ⟨p1, ep1⟩ : ∃ p, p = (s2 + x7) % 18446744073709551616 := ⟨_, rfl⟩
     obtain ⟨p2, ep2⟩ : ∃ p, p = (p1 + s15) % 18446744073709551616 := ⟨_, rfl⟩
     have A1 := Lib.hid (show IntKind.u64.wrap ((s2 : Int) + (x7 : Int)) = (p1 : Int) by rw [IntKind.wrap_u64]; omega)
     have A2 := Lib.hid (show IntKind.u64.wrap ((p1 : Int) + (s15 : Int)) = (p2 : Int) by rw [IntKind.wrap_u64]; omega)
     have A3 := Lib.hid (show IntKind.u64.wrap ((p2 : Int) + (x16 : Int)) = (r : Int) by rw [IntKind.wrap_u64]; omega)
     have HET := Lib.hid et
     clear et ow oz hb hx2 hx7 hx15 hx16 hs2 hs15 ep1 ep2 hrv em2 em7 em15 em16
     go_upto_region 12 with fail
     refine wp_region_inv 23 [32, 33, 34, 35, 36, 37, 38, 39, 40, 41, 42, 43, 44, 45, 46, 47, 48, 49, 50, 51, 52, 53, 54] [.val (.int .i64 (t : Int)), .val (.int .i64 (t : Int)), .val (.int .i64 (m2 : Int)), .val (.pointer (some ⟨g, m2, none⟩)), .val (.int .u64 (x2 : Int)), .val (.int .u64 (s2 : Int)), .val (.int .i64 (t : Int)), .val (.int .i64 (m7 : Int)), .val (.pointer (some ⟨g, m7, none⟩)), .val (.int .u64 (x7 : Int)), .val (.int .u64 (p1 : Int)), .val (.int .i64 (t : Int)), .val (.int .i64 (m15 : Int)), .val (.pointer (some ⟨g, m15, none⟩)), .val (.int .u64 (x15 : Int)), .val (.int .u64 (s15 : Int)), .val (.int .u64 (p2 : Int)), .val (.int .i64 (t : Int)), .val (.int .i64 (m16 : Int)), .val (.pointer (some ⟨g, m16, none⟩)), .val (.int .u64 (x16 : Int)), .val (.int .u64 (r : Int)), .val (.pointer (some ⟨g, t, none⟩))] (fun wz => Below wr.heap.size wr wz) (by kernel_rfl) (by kernel_rfl) (fun wz wz' hz hb => bnx hz hb) ((Below.refl _ _).drew) (fun u => by simp only [puts, List.foldl_cons, List.foldl_nil]; go_simp; exact rfl) ?_ ?_
     ·simp only [List.take_succ_cons, List.take_zero]
      refine .cons (fun u w hS hd => ?_) ?_
      ·exact Gv.run (.int .i64 (t : Int)) rfl (by go_simp) rfl
      refine .cons (fun u w hS hd => ?_) ?_
      ·exact Gv.run (.int .i64 (t : Int)) rfl (by go_simp) rfl
      refine .cons (fun u w hS hd => ?_) ?_
      ·have d33 : u 33 = .int .i64 (t : Int) := dep hd 1 rfl
       rw [d33]
       have hq := S2.out
       exact Gv.run (.int .i64 (m2 : Int)) rfl (by go_simp) rfl
      refine .cons (fun u w hS hd => ?_) ?_
      ·have d34 : u 34 = .int .i64 (m2 : Int) := dep hd 2 rfl
       rw [d34]
       exact Gv.run (.pointer (some ⟨g, m2, none⟩)) rfl (by obtain ⟨h1, h2⟩ := I2.out; go_simp) rfl
      refine .cons (fun u w hS hd => ?_) ?_
      ·have d35 : u 35 = .pointer (some ⟨g, m2, none⟩) := dep hd 3 rfl
       rw [d35]
       exact Gv.run (.int .u64 (x2 : Int)) rfl (by obtain ⟨c2, c7, c15, c16⟩ := HC.out w hS; go_simp) rfl
      refine .cons (fun u w hS hd => ?_) ?_
      ·have d36 : u 36 = .int .u64 (x2 : Int) := dep hd 4 rfl
       rw [d36]
       refine Gv.call 156 #[.int .u64 (x2 : Int)] rfl (by go_simp) ((KL.out w).mono ?_)
       rintro e w' ⟨rfl, hb⟩
       exact ⟨_, rfl, rfl, hb⟩
      refine .cons (fun u w hS hd => ?_) ?_
      ·exact Gv.run (.int .i64 (t : Int)) rfl (by go_simp) rfl
      refine .cons (fun u w hS hd => ?_) ?_
      ·have d38 : u 38 = .int .i64 (t : Int) := dep hd 6 rfl
       rw [d38]
       have hq := S7.out
       exact Gv.run (.int .i64 (m7 : Int)) rfl (by go_simp) rfl
      refine .cons (fun u w hS hd => ?_) ?_
      ·have d39 : u 39 = .int .i64 (m7 : Int) := dep hd 7 rfl
       rw [d39]
       exact Gv.run (.pointer (some ⟨g, m7, none⟩)) rfl (by obtain ⟨h1, h2⟩ := I7.out; go_simp) rfl
      refine .cons (fun u w hS hd => ?_) ?_
      ·have d40 : u 40 = .pointer (some ⟨g, m7, none⟩) := dep hd 8 rfl
       rw [d40]
       exact Gv.run (.int .u64 (x7 : Int)) rfl (by obtain ⟨c2, c7, c15, c16⟩ := HC.out w hS; go_simp) rfl
      refine .cons (fun u w hS hd => ?_) ?_
      ·have d37 : u 37 = .int .u64 (s2 : Int) := dep hd 5 rfl
       have d41 : u 41 = .int .u64 (x7 : Int) := dep hd 9 rfl
       rw [d37, d41]
       have hq := A1.out
       exact Gv.run (.int .u64 (p1 : Int)) rfl (by go_simp) rfl
      refine .cons (fun u w hS hd => ?_) ?_
      ·exact Gv.run (.int .i64 (t : Int)) rfl (by go_simp) rfl
      refine .cons (fun u w hS hd => ?_) ?_
      ·have d43 : u 43 = .int .i64 (t : Int) := dep hd 11 rfl
       rw [d43]
       have hq := S15.out
       exact Gv.run (.int .i64 (m15 : Int)) rfl (by go_simp) rfl
      refine .cons (fun u w hS hd => ?_) ?_
      ·have d44 : u 44 = .int .i64 (m15 : Int) := dep hd 12 rfl
       rw [d44]
       exact Gv.run (.pointer (some ⟨g, m15, none⟩)) rfl (by obtain ⟨h1, h2⟩ := I15.out; go_simp) rfl
      refine .cons (fun u w hS hd => ?_) ?_
      ·have d45 : u 45 = .pointer (some ⟨g, m15, none⟩) := dep hd 13 rfl
       rw [d45]
       exact Gv.run (.int .u64 (x15 : Int)) rfl (by obtain ⟨c2, c7, c15, c16⟩ := HC.out w hS; go_simp) rfl
      refine .cons (fun u w hS hd => ?_) ?_
      ·have d46 : u 46 = .int .u64 (x15 : Int) := dep hd 14 rfl
       rw [d46]
       refine Gv.call 157 #[.int .u64 (x15 : Int)] rfl (by go_simp) ((KE.out w).mono ?_)
       rintro e w' ⟨rfl, hb⟩
       exact ⟨_, rfl, rfl, hb⟩
      refine .cons (fun u w hS hd => ?_) ?_
      ·have d42 : u 42 = .int .u64 (p1 : Int) := dep hd 10 rfl
       have d47 : u 47 = .int .u64 (s15 : Int) := dep hd 15 rfl
       rw [d42, d47]
       have hq := A2.out
       exact Gv.run (.int .u64 (p2 : Int)) rfl (by go_simp) rfl
      refine .cons (fun u w hS hd => ?_) ?_
      ·exact Gv.run (.int .i64 (t : Int)) rfl (by go_simp) rfl
      refine .cons (fun u w hS hd => ?_) ?_
      ·have d49 : u 49 = .int .i64 (t : Int) := dep hd 17 rfl
       rw [d49]
       have hq := S16.out
       exact Gv.run (.int .i64 (m16 : Int)) rfl (by go_simp) rfl
      refine .cons (fun u w hS hd => ?_) ?_
      ·have d50 : u 50 = .int .i64 (m16 : Int) := dep hd 18 rfl
       rw [d50]
       exact Gv.run (.pointer (some ⟨g, m16, none⟩)) rfl (by obtain ⟨h1, h2⟩ := I16.out; go_simp) rfl
      refine .cons (fun u w hS hd => ?_) ?_
      ·have d51 : u 51 = .pointer (some ⟨g, m16, none⟩) := dep hd 19 rfl
       rw [d51]
       exact Gv.run (.int .u64 (x16 : Int)) rfl (by obtain ⟨c2, c7, c15, c16⟩ := HC.out w hS; go_simp) rfl
      refine .cons (fun u w hS hd => ?_) ?_
      ·have d48 : u 48 = .int .u64 (p2 : Int) := dep hd 16 rfl
       have d52 : u 52 = .int .u64 (x16 : Int) := dep hd 20 rfl
       rw [d48, d52]
       have hq := A3.out
       exact Gv.run (.int .u64 (r : Int)) rfl (by go_simp) rfl
      refine .cons (fun u w hS hd => ?_) ?_
      ·have d32 : u 32 = .int .i64 (t : Int) := dep hd 0 rfl
       rw [d32]
       exact Gv.run (.pointer (some ⟨g, t, none⟩)) rfl (by obtain ⟨h1, h2⟩ := IT.out; go_simp) rfl
      exact Obs.nil
     intro u wz hS hd
     have d53 : u 53 = .int .u64 (r : Int) := hd 21 (by decide)
     have d54 : u 54 = .pointer (some ⟨g, t, none⟩) := hd 22 (by decide)
     rw [d53, d54]
     obtain ⟨cc, ff⟩ := HCC.out wz hS
     have hset := Lib.hid (HSET.out wz hS)
     have hoz := Lib.hid (HOZ.out wz hS)
     have hbe := Lib.hid (HBE.out wz hS)
     clear hd d53 d54 HSET HOZ HBE HCC HC e1
     simp only [List.drop_succ_cons, List.drop_zero]
     go_wp2_with fail
     exact ⟨⟨j + 1, by omega, by go_num, by rw [show j + 1 + 16 = t + 1 by have := HET.out; omega]; exact hset.out, hoz.out, hbe.out⟩, by simp [intOf]; omega⟩
    ·obtain rfl : j = 64 := by omega
     replace ow : OwnF wr w.heap.size 165 (some ⟨g, 0, none⟩) 80 80 (wz64 V 80) := ow
     have hcl := Lib.hid (OwnF.cl (off := 0) (n := 80) ow (by decide) (fun k hk => by rw [Nat.zero_add]))
     have hcz := Lib.hid (OwnF.cl (off := 0) (n := 80) (f' := wz64 V 80) (av_all oz (wz64 V 80)) (by decide) (fun k hk => by rw [Nat.zero_add]))
     have hbz := hb.trans ((av_only wr g2 0 80 (wz64 V 80)).below (OwnF.ge oz))
     simp only [Int.cast_ofNat_Int]
     go_wp2_with (first | ((with_reducible refine av_load hcl.out ty80_64 ?_ ?_); rfl) | ((with_reducible refine av_store (off := 0) oz ty80_64 (by decide) (wz64 V 80) (fun k _ => wz64_one _ _ k) ?_ ?_ ?_); rfl; rfl))
     exact bodyPost_ret (av_res Tryz.results146 _ hcz.out ty80_64 rfl) rfl ⟨rfl, hbz⟩
end
end Go.Proofs.YtkbkalhcdbklkaaGreatDoor
