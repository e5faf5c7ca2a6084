/-
  Slices of bytes (of layer 6's take). By an AI agent. Slices of bytes; the code's take, of both words (layer 6). Written by tools/gen_n25.py. By an AI agent. More of slices: up to a place, and up to a place with no room behind (beside N25). By an AI agent. The document's join, left, point (layer 9). By an AI agent. The document's parts, Public (layer 9). Written by tools/gen_g3.py. By an AI agent.
-/
import Derived.Test.YtkbkalhcdbklkaaGreatDoorMA
import Derived.Deep.MidRow
import Derived.Test.YtkbkalhcdbklkaaGreatDoorJ08
import Derived.Test.YtkbkalhcdbklkaaGreatDoorN24
import Derived.Test.YtkbkalhcdbklkaaGreatDoorJ02
import Derived.Test.YtkbkalhcdbklkaaGreatDoorJ15
import Derived.Test.YtkbkalhcdbklkaaGreatDoorJ13
import Derived.Test.YtkbkalhcdbklkaaGreatDoorJ13
namespace Go.Proofs.YtkbkalhcdbklkaaGreatDoor
open Go Go.RowKit
set_option maxRecDepth 20000
/-- Where a slice of a slice lies. -/
def subA (A : Option Addr) (c l : Nat) : Option Addr := if c = l then A else A.map (·.add l)
theorem Rd.sub_ {w : World} {B c l n : Nat} {A : Option Addr} {bs : List UInt8} (h : Rd w B A c bs) (hl : l + n ≤ bs.length) : Rd w B (subA A c l) (c - l) ((bs.drop l).take n) := by
  have hlen : ((bs.drop l).take n).length = n := by rw [List.length_take, List.length_drop]; omega
  have hcap := h.cap
  unfold subA
  by_cases hc : c = l
  · rw [if_pos hc]
    have h0 : n = 0 := by omega
    subst h0
    exact ⟨by rw [hlen]; omega, fun _ => ⟨by simp, by omega⟩, fun hne => absurd (by simp) hne⟩
  · rw [if_neg hc]
    refine ⟨by rw [hlen]; omega, fun hA => ?_, fun hne => ?_⟩
    · obtain ⟨e1, e2⟩ := h.nil (by simpa using hA)
      rw [e1] at hl
      simp only [List.length_nil] at hl
      omega
    · have hn : 0 < n := by
        refine Nat.pos_of_ne_zero fun h0 => hne ?_
        rw [h0, List.take_zero]
      obtain ⟨b, o, rfl, hb, hcell⟩ := h.some_ (by rintro rfl; simp at hl; omega)
      refine ⟨b, o + l, by simp [Addr.add_mid], hb, fun k hk => ?_⟩
      rw [hlen] at hk
      rw [Nat.add_assoc, hcell (l + k) (by omega)]
      unfold nth
      rw [List.getElem?_take, if_pos hk, List.getElem?_drop]
theorem Rd.drop_ {w : World} {B c l : Nat} {A : Option Addr} {bs : List UInt8} (h : Rd w B A c bs) (hl : l ≤ bs.length) : Rd w B (subA A c l) (c - l) (bs.drop l) := by
  have h1 := h.sub_ (l := l) (n := bs.length - l) (by omega)
  rwa [List.take_of_length_le (by rw [List.length_drop]; omega)] at h1
/-- No part of a block. -/
def Off (g : Nat) (A : Option Addr) : Prop := ∀ ad, A = some ad → ad.block ≠ g
theorem Addr.add_block (ad : Addr) (l : Nat) : (ad.add l).block = ad.block := by unfold Addr.add; split <;> rfl
theorem Off.sub {g c l : Nat} {A : Option Addr} (h : Off g A) : Off g (subA A c l) := by
  unfold subA
  split
  · exact h
  · intro ad had
    cases A with
    | none => simp at had
    | some a0 =>
      simp only [Option.map_some, Option.some.injEq] at had
      rw [← had, Addr.add_block]
      exact h a0 rfl
theorem infoU8 : (Tryz.prog.info? 5).map (fun i => (i.zero, i.size, i.bytes)) = some (some (.int .u8 0), 1, 1) := by kernel_rfl
theorem size_u8 (w : World) : (sizeOf 5).run Tryz.prog w = .ok 1 w := by
  obtain ⟨i0, hi0, hz0, hz1, hz2⟩ := info_parts infoU8
  simp [sizeOf, typeInfo, hi0, hz1]
theorem slice_run (w : World) {A : Option Addr} {n c l h : Nat} (h1 : l ≤ h) (h2 : h ≤ c) : (Instr.slice 22 (.slice A n c) (some (.int .i64 (l : Int))) (some (.int .i64 (h : Int))) none).run Tryz.prog w = .ok (.slice (subA A c l) (h - l) (c - l)) w := by
  have k1 : (0 : Int) ≤ (l : Int) ∧ (l : Int) ≤ (h : Int) := by omega
  have k2 : (0 : Int) ≤ (h : Int) ∧ (h : Int) ≤ (c : Int) := by omega
  unfold Instr.slice Instr.sliceBounds Instr.sliceBound subA
  simp [Sem.run_bind, asIntOf, run_underlying Tryz.underlying22 w, size_u8 w, h1, h2]
theorem slice_run_lo (w : World) {A : Option Addr} {n c l : Nat} (h1 : l ≤ n) : (Instr.slice 22 (.slice A n c) (some (.int .i64 (l : Int))) none none).run Tryz.prog w = .ok (.slice (subA A c l) (n - l) (c - l)) w := by
  unfold Instr.slice Instr.sliceBounds Instr.sliceBound subA
  simp [Sem.run_bind, asIntOf, run_underlying Tryz.underlying22 w, size_u8 w, h1]
theorem slice_op {o : Oper} {a : Act} {w : World} {x lo hi : Operand} {A : Option Addr} {n c l h : Nat} (ho : o.op = .slice 22 x (some lo) (some hi) none) (e1 : a.eval x = .slice A n c) (e2 : a.eval lo = .int .i64 (l : Int)) (e3 : a.eval hi = .int .i64 (h : Int)) (h1 : l ≤ h) (h2 : h ≤ c) :
    (execOp a.eval o).run Tryz.prog w = .ok (.value (.slice (subA A c l) (h - l) (c - l))) w := by
  unfold execOp
  simp only [ho, e1, e2, e3, Option.map_some, Option.map_none, Instr.sliceAt, Sem.run_bind, run_underlying Tryz.underlying22 w, slice_run w h1 h2, Result.andThen_ok, Sem.run_pure]
theorem slice_op_n {o : Oper} {a : Act} {w : World} {x lo hi : Operand} {A : Option Addr} {n c l h m : Nat} (ho : o.op = .slice 22 x (some lo) (some hi) none) (e1 : a.eval x = .slice A n c) (e2 : a.eval lo = .int .i64 (l : Int)) (e3 : a.eval hi = .int .i64 (h : Int)) (h1 : l ≤ h) (h2 : h ≤ c) (hm : h - l = m) :
    (execOp a.eval o).run Tryz.prog w = .ok (.value (.slice (subA A c l) m (c - l))) w := by
  rw [← hm]
  exact slice_op ho e1 e2 e3 h1 h2
theorem slice_op_lo {o : Oper} {a : Act} {w : World} {x lo : Operand} {A : Option Addr} {n c l : Nat} (ho : o.op = .slice 22 x (some lo) none none) (e1 : a.eval x = .slice A n c) (e2 : a.eval lo = .int .i64 (l : Int)) (h1 : l ≤ n) :
    (execOp a.eval o).run Tryz.prog w = .ok (.value (.slice (subA A c l) (n - l) (c - l))) w := by
  unfold execOp
  simp only [ho, e1, e2, Option.map_some, Option.map_none, Instr.sliceAt, Sem.run_bind, run_underlying Tryz.underlying22 w, slice_run_lo w h1, Result.andThen_ok, Sem.run_pure]
end Go.Proofs.YtkbkalhcdbklkaaGreatDoor
namespace Go.Proofs.YtkbkalhcdbklkaaGreatDoor
open Go Go.RowKit
set_option maxRecDepth 20000
section
attribute [local irreducible] rl setA blN runs subA
end

section
attribute [local irreducible] rl setA blN runs subA
set_option maxHeartbeats 3200000 in
theorem take_64 {V : Nat → Nat} {A0 : Option Addr} {B c0 : Nat} {bs : List UInt8} (hV : ∀ i, V i < 18446744073709551616) (hlen : bs.length ≤ 140737488355328) (w : World) (hG : GlbS w) (hr : Rd w B A0 c0 bs) (hB : B ≤ w.heap.size) :
    Calls Tryz.prog 119 #[av 8 (iv64 V), .slice A0 bs.length c0] w fun e w' => e = .returned (.tuple #[av 8 (iv64 (runs greatS V bs (bs.length / 128))), .slice (subA A0 c0 (bs.length / 128 * 128)) (bs.length - bs.length / 128 * 128) (c0 - bs.length / 128 * 128)]) ∧ Below w.heap.size w w' := by
  have hcap := hr.cap
  obtain ⟨ln, hln⟩ : ∃ l, l = bs.length := ⟨_, rfl⟩
  have hrl : ∀ j i, runs greatS V bs j i < 18446744073709551616 := fun j i => runs_lt (S := greatS) hV bs j i
  have hr0 : runs greatS V bs 0 = V := runs_zero _ _ _
  have hrs : ∀ j, runs greatS V bs (j + 1) = blN greatS (runs greatS V bs j) (nth ((bs.drop (j * 128)).take 128)) := fun j => runs_succ greatS V bs j
  have HRL := Lib.hid hrl
  have HRS := Lib.hid hrs
  rw [← hln] at hcap hlen ⊢
  obtain ⟨wh, hwh⟩ : ∃ x, x = ln / 128 := ⟨_, rfl⟩
  obtain ⟨WN, hWN⟩ : ∃ x, x = wh * 128 := ⟨_, rfl⟩
  have hwl : WN ≤ ln := by omega
  rw [← hwh, ← hWN]
  clear hrl hrs
  have oa := OwnF.lit (w := w) (B := w.heap.size) 86 (Nat.le_refl _) (rl 8 (iv64 V)).toArray 8 (iv64 V) (by decide) (by unfold rl; simp)
  have hc := (Below.refl w.heap.size w).alloc (Nat.le_refl _) (.cells (rl 8 (iv64 V)).toArray 86)
  generalize he1 : (w.alloc (.cells (rl 8 (iv64 V)).toArray 86)) = v1 at oa hc
  have hs1 : v1.heap.size = w.heap.size + 1 := by rw [← he1]; simp
  have oz := OwnF.lit (w := v1) (B := w.heap.size) 86 hc.size #[Value.int .u64 0, Value.int .u64 0, Value.int .u64 0, Value.int .u64 0, Value.int .u64 0, Value.int .u64 0, Value.int .u64 0, Value.int .u64 0] 8 (fun _ => .int .u64 0) (by decide) (by kernel_rfl)
  have h2 := (Below.refl v1.heap.size v1).alloc (Nat.le_refl _) (.cells #[Value.int .u64 0, Value.int .u64 0, Value.int .u64 0, Value.int .u64 0, Value.int .u64 0, Value.int .u64 0, Value.int .u64 0, Value.int .u64 0] 86)
  replace hc := hc.trans (h2.mono hc.size)
  replace oa := OwnF.keep oa h2
  generalize he2 : (v1.alloc (.cells #[Value.int .u64 0, Value.int .u64 0, Value.int .u64 0, Value.int .u64 0, Value.int .u64 0, Value.int .u64 0, Value.int .u64 0, Value.int .u64 0] 86)) = v2 at oa oz hc h2
  clear h2
  obtain ⟨gA, hgA⟩ : ∃ g, g = w.heap.size := ⟨_, rfl⟩
  obtain ⟨gR, hgR⟩ : ∃ g, g = w.heap.size + 1 := ⟨_, rfl⟩
  replace oa : OwnF v2 w.heap.size 86 (some ⟨gA, 0, none⟩) 8 8 (iv64 V) := by rw [hgA]; exact oa
  rw [hs1, ← hgR] at oz
  have hne := Lib.hid (show gR ≠ gA by omega)
  have E1 := Lib.hid he1
  have E2 := Lib.hid he2
  have HGA := Lib.hid hgA
  have HGR := Lib.hid hgR
  clear he1 he2 hgA hgR hs1
  have hq : (ln : Int) / 128 = (wh : Int) := by omega
  have hq' : (ln : Int).tdiv 128 = (wh : Int) := by rw [Int.tdiv_eq_ediv_of_nonneg (by omega), hq]
  have hq2 : IntKind.i64.wrap (wh : Int) = (wh : Int) := by rw [IntKind.wrap_i64]; omega
  have HLN := Lib.hid hln
  have HWH := Lib.hid hwh
  have HWN := Lib.hid hWN
  clear hwh hWN hln
  go_enter Tryz.func119, Tryz.ntmps119
  go_wp2_with fail
  rw [E1.out, E2.out]
  rw [show (Value.pointer (some ⟨w.heap.size, 0, none⟩)) = .pointer (some ⟨gA, 0, none⟩) by rw [HGA.out], show (Value.pointer (some ⟨w.heap.size + 1, 0, none⟩)) = .pointer (some ⟨gR, 0, none⟩) by rw [HGR.out]]
  clear E1 E2 HGA HGR
  go_at_call 121
  refine (size_64 _).mono ?_
  rintro e v3 ⟨rfl, e3⟩
  subst e3
  go_wp2_with fail
  go_loopw [16] (fun i wr => ∃ j : Nat, j ≤ wh ∧ i = .int .i64 (j : Int) ∧ OwnF wr w.heap.size 86 (some ⟨gA, 0, none⟩) 8 8 (iv64 (runs greatS V bs j)) ∧ OwnF wr w.heap.size 86 (some ⟨gR, 0, none⟩) 8 8 (fun _ => .int .u64 0) ∧ Below w.heap.size w wr)
    (fun i _ => wh - (intOf i).toNat)
  case atStart => exact ⟨0, by omega, rfl, by rw [hr0]; exact oa, oz, hc⟩
  case round =>
    clear oa oz hc
    obtain ⟨j, hj, rfl, oa, oz, hc⟩ := hrel
    have hHWN := HWN.out
    by_cases hlt : j < wh
    · have g1 : (j : Int) < (wh : Int) := by omega
      obtain ⟨L, hL⟩ : ∃ L, L = j * 128 := ⟨_, rfl⟩
      obtain ⟨H, hH⟩ : ∃ H, H = L + 128 := ⟨_, rfl⟩
      obtain ⟨j1, hj1⟩ : ∃ x, x = j + 1 := ⟨_, rfl⟩
      have hH2 : H ≤ WN := by omega
      have E1 := Lib.hid (show IntKind.i64.wrap ((j : Int) * 128) = (L : Int) by rw [IntKind.wrap_i64]; omega)
      have E0 := Lib.hid (show IntKind.i64.wrap ((j : Int) + 1) = (j1 : Int) by rw [IntKind.wrap_i64]; omega)
      have E2 := Lib.hid (show IntKind.i64.wrap ((j1 : Int) * 128) = (H : Int) by rw [IntKind.wrap_i64]; omega)
      have HLH := Lib.hid (show L ≤ H ∧ H ≤ c0 ∧ H - L = 128 by omega)
      have HCL := Lib.hid (fun w1 (hz : Below wr.heap.size wr w1) => OwnF.cl (off := 0) (n := 8) (OwnF.keep oa hz) (by decide) (fun k hk => by rw [Nat.zero_add]))
      have hmm := fun w1 (hz : Below wr.heap.size wr w1) => mix_64 (V := runs greatS V bs j) (A0 := subA A0 c0 L) (B := B) (c0 := c0 - L) (bs := (bs.drop L).take 128) (HRL.out j) (by rw [List.length_take, List.length_drop, ← HLN.out]; omega) w1
        (hG.next (hc.trans (hz.mono hc.size))) (((hr.keep (hc.mono hB)).keep (hz.mono (Nat.le_trans hB hc.size))).sub_ (by rw [← HLN.out]; omega)) (Nat.le_trans hB (Nat.le_trans hc.size hz.size))
      have hrr := HRS.out j
      rw [← hL] at hrr
      rw [← hrr] at hmm
      have KM := Lib.hid hmm
      have HJ := Lib.hid hj1
      clear hmm hrr hL hH hH2 hHWN hj1
      go_upto_region 6 with fail
      refine wp_region_inv 11 [19, 20, 21, 22, 23, 24, 25, 26, 27, 28, 29] [.val (av 8 (iv64 (runs greatS V bs j))), .val (.slice A0 ln c0), .val (.int .i64 (j : Int)), .val (.int .i64 128), .val (.int .i64 (L : Int)), .val (.int .i64 (j : Int)), .val (.int .i64 (j1 : Int)), .val (.int .i64 128), .val (.int .i64 (H : Int)), .val (.slice (subA A0 c0 L) 128 (c0 - L)), .val (av 8 (iv64 (runs greatS V bs (j + 1))))] (fun wz => Below wr.heap.size wr wz) (by kernel_rfl) (by kernel_rfl) (fun wz wz' hz hb => hz.trans (hb.mono hz.size)) ((Below.refl _ _).drew) (fun u => by simp only [puts, List.foldl_cons, List.foldl_nil]; go_simp; exact rfl) ?_ ?_
      · simp only [List.take_succ_cons, List.take_zero]
        refine Obs.cons (fun u w hS hd => ?_) ?_
        · exact Gv.run (av 8 (iv64 (runs greatS V bs j))) rfl (av_run rfl rfl (HCL.out w hS) ty8_64) rfl
        refine Obs.cons (fun u w hS hd => ?_) ?_
        · exact Gv.run (.slice A0 ln c0) rfl (by go_simp) rfl
        refine Obs.cons (fun u w hS hd => ?_) ?_
        · exact Gv.run (.int .i64 (j : Int)) rfl (by go_simp) rfl
        refine Obs.cons (fun u w hS hd => ?_) ?_
        · exact Gv.run (.int .i64 128) rfl (by go_simp) rfl
        refine Obs.cons (fun u w hS hd => ?_) ?_
        · have d21 : u 21 = .int .i64 (j : Int) := dep hd 2 rfl
          have d22 : u 22 = .int .i64 128 := dep hd 3 rfl
          rw [d21, d22]
          have hq := E1.out
          exact Gv.run (.int .i64 (L : Int)) rfl (by go_simp) rfl
        refine Obs.cons (fun u w hS hd => ?_) ?_
        · exact Gv.run (.int .i64 (j : Int)) rfl (by go_simp) rfl
        refine Obs.cons (fun u w hS hd => ?_) ?_
        · have d24 : u 24 = .int .i64 (j : Int) := dep hd 5 rfl
          rw [d24]
          have hq := E0.out
          exact Gv.run (.int .i64 (j1 : Int)) rfl (by go_simp) rfl
        refine Obs.cons (fun u w hS hd => ?_) ?_
        · exact Gv.run (.int .i64 128) rfl (by go_simp) rfl
        refine Obs.cons (fun u w hS hd => ?_) ?_
        · have d25 : u 25 = .int .i64 (j1 : Int) := dep hd 6 rfl
          have d26 : u 26 = .int .i64 128 := dep hd 7 rfl
          rw [d25, d26]
          have hq := E2.out
          exact Gv.run (.int .i64 (H : Int)) rfl (by go_simp) rfl
        refine Obs.cons (fun u w hS hd => ?_) ?_
        · have d20 : u 20 = .slice A0 ln c0 := dep hd 1 rfl
          have d23 : u 23 = .int .i64 (L : Int) := dep hd 4 rfl
          have d27 : u 27 = .int .i64 (H : Int) := dep hd 8 rfl
          rw [d20, d23, d27]
          exact Gv.run (.slice (subA A0 c0 L) 128 (c0 - L)) rfl (slice_op_n rfl rfl rfl rfl HLH.out.1 HLH.out.2.1 HLH.out.2.2) rfl
        refine Obs.cons (fun u w hS hd => ?_) ?_
        · have d19 : u 19 = av 8 (iv64 (runs greatS V bs j)) := dep hd 0 rfl
          have d28 : u 28 = .slice (subA A0 c0 L) 128 (c0 - L) := dep hd 9 rfl
          rw [d19, d28]
          refine Gv.call 138 #[av 8 (iv64 (runs greatS V bs j)), .slice (subA A0 c0 L) 128 (c0 - L)] rfl (by go_simp) ((KM.out w hS).mono ?_)
          rintro e w' ⟨rfl, hb⟩
          exact ⟨_, rfl, rfl, hb⟩
        exact Obs.nil
      intro u wz hS hd
      have d29 : u 29 = av 8 (iv64 (runs greatS V bs (j + 1))) := hd 10 (by decide)
      rw [d29]
      clear hd d29 KM HCL E0 E1 E2 HLH
      have oaz := OwnF.keep oa hS
      have ozz := Lib.hid (OwnF.only (OwnF.keep oz hS) (av_only wz gA 0 8 (iv64 (runs greatS V bs (j + 1)))) (Ne.symm hne.out))
      have hcz := Lib.hid ((hc.trans (hS.mono hc.size)).trans ((av_only wz gA 0 8 (iv64 (runs greatS V bs (j + 1)))).below (OwnF.ge oa)))
      simp only [List.drop_succ_cons, List.drop_zero]
      go_wp2_with ((with_reducible refine av_store (off := 0) oaz ty8_64 (by decide) (iv64 (runs greatS V bs (j + 1))) (fun k _ => rfl) ?_ ?_ ?_); rfl; rfl)
      exact ⟨⟨j + 1, by omega, by go_num, av_all oaz _, ozz.out, hcz.out⟩, by simp [intOf]; omega⟩
    · obtain rfl : j = wh := by omega
      have E1 := Lib.hid (show IntKind.i64.wrap ((j : Int) * 128) = (WN : Int) by rw [IntKind.wrap_i64]; omega)
      have hnl : ¬ (j : Int) < (j : Int) := by omega
      clear hHWN
      go_upto_region 8 with fail
      obtain ⟨v5, e5⟩ : ∃ v, v = wr.drew := ⟨_, rfl⟩
      have hS : Below wr.heap.size wr v5 := by rw [e5]; exact (Below.refl _ _).drew
      replace oa := OwnF.keep oa hS
      replace oz := OwnF.keep oz hS
      replace hc := hc.trans (hS.mono hc.size)
      have hcl := Lib.hid (OwnF.cl (off := 0) (n := 8) oa (by decide) (fun k hk => by rw [Nat.zero_add]))
      have hcz := Lib.hid (OwnF.cl (off := 0) (n := 8) (av_all oz (iv64 (runs greatS V bs j))) (by decide) (fun k hk => by rw [Nat.zero_add]))
      have hbz := Lib.hid (hc.trans ((av_only v5 gR 0 8 (iv64 (runs greatS V bs j))).below (OwnF.ge oz)))
      have E5 := Lib.hid e5
      clear hS e5
      refine wp_region_late 7 6 [some 31, some 32, some 33, some 34, some 35, some 36, none] [av 8 (iv64 (runs greatS V bs j)), .slice A0 ln c0, .int .i64 (j : Int), .int .i64 128, .int .i64 (WN : Int), .slice (subA A0 c0 WN) (ln - WN) (c0 - WN), undef] [1, 2, 3, 4, 5] (fun b => cond b (setA v5 gR 0 8 (iv64 (runs greatS V bs j))) v5) (by kernel_rfl) (by kernel_rfl) E5.out (fun u => by simp only [List.filterMap_cons, List.filterMap_nil, id, puts, List.foldl_cons, List.foldl_nil]; go_simp; exact rfl) ?_ ?_
      · simp only [List.take_succ_cons, List.take_zero]
        refine ObsL.cons (fun u hd => ?_) ?_
        · exact ⟨rfl, fun b hb => by cases b with
            | true => exact absurd (hb rfl) (by decide)
            | false => exact av_run rfl rfl hcl.out ty8_64⟩
        refine ObsL.cons (fun u hd => ?_) ?_
        · exact ⟨rfl, fun b _ => by generalize (cond b _ _ : World) = W; go_simp⟩
        refine ObsL.cons (fun u hd => ?_) ?_
        · exact ⟨rfl, fun b _ => by generalize (cond b _ _ : World) = W; go_simp⟩
        refine ObsL.cons (fun u hd => ?_) ?_
        · exact ⟨rfl, fun b _ => by generalize (cond b _ _ : World) = W; go_simp⟩
        refine ObsL.cons (fun u hd => ?_) ?_
        · have d33 : u 33 = .int .i64 (j : Int) := depL hd 2 rfl 33 rfl
          have d34 : u 34 = .int .i64 128 := depL hd 3 rfl 34 rfl
          rw [d33, d34]
          have hq := E1.out
          exact ⟨rfl, fun b _ => by generalize (cond b _ _ : World) = W; go_simp⟩
        refine ObsL.cons (fun u hd => ?_) ?_
        · have d32 : u 32 = .slice A0 ln c0 := depL hd 1 rfl 32 rfl
          have d35 : u 35 = .int .i64 (WN : Int) := depL hd 4 rfl 35 rfl
          rw [d32, d35]
          exact ⟨rfl, fun b _ => slice_op_lo (A := A0) (n := ln) (c := c0) (l := WN) rfl rfl rfl hwl⟩
        refine ObsL.cons (fun u hd => ?_) ?_
        · have d31 : u 31 = av 8 (iv64 (runs greatS V bs j)) := depL hd 0 rfl 31 rfl
          rw [d31]
          exact ⟨rfl, av_sets (off := 0) rfl oz ty8_64 (by decide) (iv64 (runs greatS V bs j)) (fun k _ => rfl) rfl rfl⟩
        exact ObsL.nil
      intro u hd
      have d36 : u 36 = .slice (subA A0 c0 WN) (ln - WN) (c0 - WN) := hd 5 (by decide) 36 rfl
      rw [d36]
      clear hd d36
      simp only [List.drop_succ_cons, List.drop_zero]
      change wpList _ _ _ _ _ (setA v5 gR 0 8 (iv64 (runs greatS V bs j)))
      go_wp2_with fail
      exact bodyPost_ret (av_res2 Tryz.results119 _ hcz.out ty8_64 rfl rfl) rfl ⟨rfl, hbz.out⟩
end
end Go.Proofs.YtkbkalhcdbklkaaGreatDoor
namespace Go.Proofs.YtkbkalhcdbklkaaGreatDoor
open Go Go.RowKit
/-- The first n bytes. -/
theorem Rd.pre {w : World} {B c n : Nat} {A : Option Addr} {bs : List UInt8} (h : Rd w B A c bs) (hn : n ≤ bs.length) (h0 : 0 < n) : Rd w B A c (bs.take n) := by
  have hl : (bs.take n).length = n := by rw [List.length_take]; omega
  have hcap := h.cap
  obtain ⟨b, o, rfl, hb, _⟩ := h.at_ (k := 0) (by omega)
  refine ⟨by omega, fun h => by simp at h, fun _ => ⟨b, o, rfl, hb, fun k hk => ?_⟩⟩
  obtain ⟨b2, o2, e2, _, c2⟩ := h.at_ (k := k) (by omega)
  simp only [Option.some.injEq, Addr.mk.injEq] at e2
  obtain ⟨rfl, rfl, _⟩ := e2
  rw [c2]
  unfold nth
  rw [List.getElem?_take, if_pos (by omega)]
end Go.Proofs.YtkbkalhcdbklkaaGreatDoor
namespace Go.Proofs.YtkbkalhcdbklkaaGreatDoor
open Go Go.RowKit
set_option maxRecDepth 20000
theorem join9_any {A A' A3 : Option Addr} {B c c' c3 : Nat} {xs ys zs : List UInt8} (hl : xs.length + ys.length + zs.length ≤ 140737488355328) (w : World) (hr : Rd w B A c xs) (hs : Rd w B A' c' ys) (ht : Rd w B A3 c3 zs) (hB : B ≤ w.heap.size) :
    Calls Tryz.prog 26 #[.slice A xs.length c, .slice A' ys.length c', .slice A3 zs.length c3] w fun e w' => ∃ A2 c2, e = .returned (.slice A2 (xs ++ ys ++ zs).length c2) ∧ Own w' w.heap.size 5 A2 c2 (xs ++ ys ++ zs) ∧ Below w.heap.size w w' := by
  obtain ⟨i0, hi, hz0, hz1, hz2⟩ := info_parts infoByte
  have h2 : Rd (w.alloc (.cells #[] 5)) B A c xs := hr.keep ((Below.refl B w).alloc hB _)
  have h3 : Own (w.alloc (.cells #[] 5)) w.heap.size 5 (some ⟨w.heap.size, 0, none⟩) 0 [] := World.ownsRow_made w #[] 0 (Nat.le_refl _) (by decide) (by decide)
  have h4 : Below w.heap.size w (w.alloc (.cells #[] 5)) := (Below.refl _ w).alloc (Nat.le_refl _) _
  obtain ⟨L2, hL⟩ : ∃ L, L = xs ++ ys := ⟨_, rfl⟩
  have HL := Lib.hid hL
  clear hL
  go_enter Tryz.func26, Tryz.ntmps26
  go_wp2_with (first | (at_builtin; refine wpList_app _ rfl (.tmp 7) (.tmp 8) _ rfl w.heap.size 5 i0 _ Tryz.underlying22 hi hz0 hz1 hz2 rfl (xs := []) rfl h3 rfl h2 (by simp; omega) (by simp) ?_; intro A1 c1 v1 ho1 hb1; have hs1 := hs.keep ((h4.trans hb1).mono hB); have ht1 := ht.keep ((h4.trans hb1).mono hB); have hb2 := h4.trans hb1) | (at_builtin; refine wpList_app _ rfl (.tmp 9) (.tmp 10) _ rfl w.heap.size 5 i0 _ Tryz.underlying22 hi hz0 hz1 hz2 rfl (xs := xs) rfl ho1 rfl hs1 (by omega) hb2.size ?_; intro A4 c4 v3 ho3 hb3; rw [← HL.out] at ho3 ⊢; have ht2 := ht.keep ((hb2.trans hb3).mono hB); have hb4 := hb2.trans hb3) | (at_builtin; refine wpList_app _ rfl (.tmp 11) (.tmp 12) _ rfl w.heap.size 5 i0 _ Tryz.underlying22 hi hz0 hz1 hz2 rfl (xs := L2) rfl ho3 rfl ht2 (by rw [HL.out, List.length_append]; omega) hb4.size ?_; intro A5 c5 v5 ho5 hb5))
  go_ret
  rw [← HL.out]
  exact ⟨A5, c5, by rw [List.length_append]; rfl, ho5, hb4.trans hb5⟩
theorem vb_256 {bs : List UInt8} {n : Nat} (h : bs.length ≤ n) : vb bs < 256 ^ n := Nat.lt_of_lt_of_le (vk_lt bs _) (Nat.pow_le_pow_right (by decide) h)
theorem left9_any {A : Option Addr} {B c : Nat} {bs : List UInt8} (hl : bs.length ≤ 1000000) (w : World) (hr : Rd w B A c bs) (hB : B ≤ w.heap.size) :
    Calls Tryz.prog 25 #[.slice A bs.length c] w fun e w' => ∃ A c n, e = .returned (.slice A n c) ∧ DOwn w' w.heap.size A c n (lefN bs) ∧ Below w.heap.size w w' := by
  have KS := Lib.hid (sum512_any (A0 := A) (c0 := c) hl w hr hB)
  go_enter Tryz.func25, Tryz.ntmps25
  go_wp2_with fail
  go_at_call 46
  refine KS.out.mono ?_
  rintro e v1 ⟨A1, c1, rfl, ho, h0⟩
  have kr := read_any v1 ho.rd (Nat.le_refl _) (by rw [show (sumN greatS bs).length = 64 from hsh_len bs]; decide)
  rw [show (sumN greatS bs).length = 64 from hsh_len bs] at kr
  have KR := Lib.hid kr
  clear kr ho KS
  go_wp2_with fail
  go_at_call 48
  refine KR.out.mono ?_
  rintro e v2 ⟨A2, c2, n2, rfl, d, h1⟩
  have hn2 : n2 ≤ 64 := d.few (vb_256 (Nat.le_of_eq (hsh_len bs)))
  have KL := Lib.hid (rleft_any v2 d.dig (Nat.le_refl _) (Nat.le_trans hn2 (by decide)))
  replace h0 := h0.trans (h1.mono h0.size)
  clear d h1 KR hn2
  go_wp2_with fail
  go_at_call 29
  refine KL.out.mono ?_
  rintro e v3 ⟨A3, c3, n3, rfl, d, h1⟩
  replace d := d.mono h0.size
  replace h0 := h0.trans (h1.mono h0.size)
  clear h1 KL
  go_wp2_with fail
  go_ret
  exact ⟨A3, c3, n3, rfl, d, h0⟩
theorem base_tr : (⟨bx, by_, 1⟩ : Tr).of B25 := by
  refine ⟨?_, ?_, ?_⟩
  · show toF 1 ≠ 0
    decide +kernel
  · show toF bx = toF bx * 1
    grind
  · show toF by_ = toF by_ * 1
    grind
section
attribute [local irreducible] wd by8 d16 set16w fl rl setA t3f ivN mlN adN sbN
theorem point9_any {A : Option Addr} {c n x : Nat} (hn : n ≤ 1000) (w : World) (hx : Dig w w.heap.size A c n x) :
    Calls Tryz.prog 16 #[.slice A n c] w fun e w' => ∃ A c, e = .returned (.slice A 32 c) ∧ Own w' w.heap.size 5 A c (encP (B25.mul x)) ∧ Below w.heap.size w w' := by
  have HX := Lib.hid hx
  clear hx
  go_enter Tryz.func16, Tryz.ntmps16
  go_wp2_with fail
  go_at_call 40
  refine (refBase_any _).mono ?_
  rintro e v1 ⟨rfl, h0⟩
  have KT := Lib.hid (refTimes_any hn v1 (HX.out.next h0) (t := ⟨bx, by_, 1⟩) ⟨bx_lt, by_lt, P25_one⟩ base_tr)
  go_wp2_with fail
  go_at_call 39
  refine KT.out.mono ?_
  rintro e v2 ⟨r, rfl, hr, hrp, h1⟩
  replace h0 := h0.trans (h1.mono h0.size)
  have kp := refPoint_any hr v2
  have hv := of_point hrp hr.2.2
  rw [hv.1, hv.2] at kp
  have KP := Lib.hid kp
  clear kp h1 hr hrp hv KT
  go_wp2_with fail
  go_at_call 42
  refine KP.out.mono ?_
  rintro e v3 ⟨rfl, h1⟩
  replace h0 := h0.trans (h1.mono h0.size)
  have KE := Lib.hid (refEncode_any (x := (B25.mul x).x.val) (B25.mul x).y.isLt v3)
  clear h1 KP
  go_wp2_with fail
  go_at_call 49
  refine KE.out.mono ?_
  rintro e v4 ⟨A4, c4, rfl, ho, h1⟩
  replace ho := ho.mono h0.size
  replace h0 := h0.trans (h1.mono h0.size)
  clear h1 KE
  go_wp2_with fail
  go_ret
  exact ⟨A4, c4, rfl, ho, h0⟩
end
end Go.Proofs.YtkbkalhcdbklkaaGreatDoor
namespace Go.Proofs.YtkbkalhcdbklkaaGreatDoor
open Go Go.RowKit
set_option maxRecDepth 20000
theorem hsh_is (bs : List UInt8) : sumN greatS bs = hsh bs := rfl
theorem read32 {L : List UInt8} (hl : L.length = 32) (A : Option Addr) (c : Nat) (w : World) (hr : Rd w w.heap.size A c L) : Calls Tryz.prog 48 #[.slice A 32 c] w fun e w' => ∃ A c n, e = .returned (.slice A n c) ∧ DOwn w' w.heap.size A c n (vb L) ∧ Below w.heap.size w w' := by
  have h := read_any w hr (Nat.le_refl _) (by rw [hl]; decide)
  rwa [hl] at h
section
attribute [local irreducible] wd by8 d16 set16w fl rl setA t3f ivN mlN adN sbN hsh clam
set_option maxHeartbeats 3200000 in
theorem parts_any {A : Option Addr} {B c : Nat} {seed : List UInt8} (h32 : seed.length = 32) (w : World) (hr : Rd w B A c seed) (hB : B ≤ w.heap.size) :
    Calls Tryz.prog 15 #[.slice A 32 c] w fun e w' => ∃ A n c A2 c2, e = .returned (.tuple #[.slice A n c, .slice A2 32 c2]) ∧ (Dig w' w'.heap.size A c n (secN seed) ∧ Can n (secN seed)) ∧ Rd w' w'.heap.size A2 c2 (preB seed) ∧ Below w.heap.size w w' := by
  have ks := sum512_any (A0 := A) (c0 := c) (bs := seed) (by rw [h32]; decide) w hr hB
  obtain ⟨H, hH⟩ : ∃ H, H = hsh seed := ⟨_, rfl⟩
  have hHl : H.length = 64 := by rw [hH, hsh_len]
  rw [hsh_is, ← hH, h32] at ks
  have KS := Lib.hid ks
  obtain ⟨X, hX⟩ : ∃ X, X = secN seed := ⟨_, rfl⟩
  obtain ⟨Pb, hP⟩ : ∃ P, P = preB seed := ⟨_, rfl⟩
  have hPl : Pb.length = 32 := by rw [hP, preB_len]
  rw [← hX, ← hP]
  replace hP := Lib.hid (show Pb = H.drop 32 by rw [hP, hH]; rfl)
  obtain ⟨L, hL⟩ : ∃ L, L = gen (bf (clam (vb (H.take 32)))) 32 := ⟨_, rfl⟩
  have hLl : L.length = 32 := by rw [hL, gen_length]
  have hXL : X = vb L := by rw [hL, vb_of (clam_W4 _), hX, hH]; rfl
  have kr := read32 hLl
  rw [← hXL] at kr
  have KR := Lib.hid kr
  have HL := Lib.hid hL
  clear ks kr hX hH hL hXL hr
  go_enter Tryz.func15, Tryz.ntmps15
  go_wp2_with fail
  go_at_call 46
  refine KS.out.mono ?_
  rintro e v1 ⟨A1, c1, rfl, ho, hc⟩
  have r1 := ho.rd
  have hcap := r1.cap
  rw [hHl] at hcap
  have rl0 := r1.pre (n := 32) (by rw [hHl]; decide) (by decide)
  have kc := rclamp_any (by rw [List.length_take, hHl]; rfl) v1 rl0 (Nat.le_refl _)
  rw [← HL.out] at kc
  have KC := Lib.hid kc
  clear ho KS kc rl0
  go_wp2_with fail
  go_at_call 47
  refine KC.out.mono ?_
  rintro e v2 ⟨A2, c2, rfl, ho, hb⟩
  replace hc := hc.trans (hb.mono hc.size)
  replace r1 := (r1.keep hb).mono hb.size
  have r2 := ho.rd
  clear ho hb KC hcap
  go_upto_region 3 with fail
  refine wp_region_inv 5 [15, 16, 17, 18, 2] [.byt L, .dig X, .byt H, .byt Pb, .dig X] (fun wz => Below v2.heap.size v2 wz) (by kernel_rfl) (by kernel_rfl) (fun wz wz' hz hb => hz.trans (hb.mono hz.size)) ((Below.refl _ _).drew) (fun u => by simp only [puts, List.foldl_cons, List.foldl_nil]; go_simp; exact rfl) ?_ ?_
  · simp only [List.take_succ_cons, List.take_zero]
    refine Obs.cons (fun u w hS hd => ?_) ?_
    · exact Gv.run (.slice A2 32 c2) rfl (by go_simp) (⟨_, _, by rw [hLl], (r2.keep hS).mono hS.size⟩)
    refine Obs.cons (fun u w hS hd => ?_) ?_
    · obtain ⟨A15, c15, d15, g15⟩ : (Know.byt L).ok (u 15) w := dep hd 0 rfl
      rw [hLl] at d15
      rw [d15]
      refine Gv.call 48 #[.slice A15 32 c15] rfl (by go_simp) ((KR.out _ _ w g15).mono ?_)
      rintro e w' ⟨A, c, n, rfl, D, hb⟩
      exact ⟨_, rfl, ⟨A, c, n, rfl, D.dig, D.can⟩, hb⟩
    refine Obs.cons (fun u w hS hd => ?_) ?_
    · exact Gv.run (.slice A1 64 c1) rfl (by go_simp) (⟨_, _, by rw [hHl], (r1.keep hS).mono hS.size⟩)
    refine Obs.cons (fun u w hS hd => ?_) ?_
    · obtain ⟨A17, c17, d17, g17⟩ : (Know.byt H).ok (u 17) w := dep hd 2 rfl
      rw [hHl] at d17
      rw [d17]
      exact Gv.run (.slice (subA A17 c17 32) 32 (c17 - 32)) rfl (slice_op_lo (n := 64) (l := 32) rfl rfl rfl (by decide)) ⟨_, _, by rw [hPl], by rw [hP.out]; exact g17.drop_ (by rw [hHl]; decide)⟩
    refine Obs.cons (fun u w hS hd => ?_) ?_
    · obtain ⟨A16, c16, n16, d16, g16, k16⟩ : (Know.dig X).ok (u 16) w := dep hd 1 rfl
      rw [d16]
      exact Gv.run (.slice A16 n16 c16) rfl (by go_simp) ⟨_, _, _, rfl, g16, k16⟩
    exact Obs.nil
  intro u1 v3 hS hd
  obtain ⟨A6, c6, n6, e6, g6, k6⟩ : (Know.dig X).ok (u1 2) v3 := hd 4 (by decide)
  obtain ⟨A8, c8, e8, g8⟩ : (Know.byt Pb).ok (u1 18) v3 := hd 3 (by decide)
  rw [hPl] at e8
  rw [e6, e8]
  replace hc := hc.trans (hS.mono hc.size)
  clear hS hd e6 e8 r1 r2
  simp only [List.drop_succ_cons, List.drop_zero]
  go_wp2_with fail
  go_returns
  exact ⟨A6, n6, c6, A8, c8, rfl, ⟨g6, k6⟩, g8, hc⟩
theorem pub_len {A : Option Addr} {n c : Nat} (hn : n ≠ 32) (w : World) : Calls Tryz.prog 8 #[.slice A n c] w fun e w' => e = .returned (.tuple #[.slice none 0 0, .int .i64 1]) ∧ Below w.heap.size w w' := by
  have g1 : ((n : Int) == 32) = false := by simp; omega
  have g2 : ((n : Int) != 32) = true := by simp; omega
  clear hn
  go_enter Tryz.func8, Tryz.ntmps8
  go_wp2_with fail
  go_returns
  exact ⟨rfl, Below.refl _ _⟩
theorem sec_n {n : Nat} {seed : List UInt8} (h : Can n (secN seed)) : n ≤ 1000 := Nat.le_trans (h 32 (by rw [← W4_256]; exact clam_W4 _)) (by decide)
theorem public9_any {A : Option Addr} {B c : Nat} {seed : List UInt8} (h32 : seed.length = 32) (w : World) (hr : Rd w B A c seed) (hB : B ≤ w.heap.size) :
    Calls Tryz.prog 8 #[.slice A 32 c] w fun e w' => ∃ A c, e = .returned (.tuple #[.slice A 32 c, .int .i64 0]) ∧ Own w' w.heap.size 5 A c (pubB seed) ∧ Below w.heap.size w w' := by
  have KP := Lib.hid (parts_any h32 w hr hB)
  clear hr
  go_enter Tryz.func8, Tryz.ntmps8
  go_wp2_with fail
  go_at_call 15
  refine KP.out.mono ?_
  rintro e v1 ⟨A1, n1, c1, A2, c2, rfl, ⟨d1, k1⟩, -, hc⟩
  have KB := Lib.hid (point9_any (sec_n k1) v1 d1)
  clear d1 k1 KP
  go_wp2_with fail
  go_at_call 16
  refine KB.out.mono ?_
  rintro e v2 ⟨A3, c3, rfl, ho, hb⟩
  replace ho := ho.mono hc.size
  replace hc := hc.trans (hb.mono hc.size)
  clear hb KB
  go_wp2_with fail
  go_returns
  exact ⟨A3, c3, rfl, ho, hc⟩
end
end Go.Proofs.YtkbkalhcdbklkaaGreatDoor
