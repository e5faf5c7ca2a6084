/-
  The code's sum, of both words; Sum256, Sum512 (layer 6). Written by tools/gen_n27.py. By an AI agent. The code's Sum256, Sum512 (layer 6). Written by tools/gen_n29.py. By an AI agent. A list of lists of bytes in memory. Of no program. By an AI agent. octet.Join (layer 1): any lists, one behind the other. By an AI agent. Boxes of a scalar and of a signer; lists of two and of three lists of bytes (the code of layer 9). By an AI agent.
-/
import Derived.Test.YtkbkalhcdbklkaaGreatDoorN26
import Derived.Test.YtkbkalhcdbklkaaGreatDoorJ02
import Derived.Test.YtkbkalhcdbklkaaGreatDoorMA
import Derived.Test.YtkbkalhcdbklkaaGreatDoorJ18
import Derived.Test.YtkbkalhcdbklkaaGreatDoorJ10
namespace Go.Proofs.YtkbkalhcdbklkaaGreatDoor
open Go Go.RowKit
set_option maxRecDepth 20000

/-- The answer's cells, as far as they are written. -/
def oc32 (O : List UInt8) (i j : Nat) : Value := if j < i * 4 then .int .u8 ((nth O j : Nat) : Int) else .int .u8 0
section
attribute [local irreducible] rl setA subA bvf padR bput fput runs oc32 sumR
end

/-- The answer's cells, as far as they are written. -/
def oc64 (O : List UInt8) (i j : Nat) : Value := if j < i * 8 then .int .u8 ((nth O j : Nat) : Int) else .int .u8 0
theorem oc64_zero (O : List UInt8) : oc64 O 0 = fun _ => .int .u8 0 := by funext j; unfold oc64; rw [if_neg (by omega)]
theorem oc64_all {O : List UInt8} {j : Nat} (h : j < 64) : oc64 O 8 j = bvf O j := by unfold oc64 bvf; rw [if_pos (by omega)]
theorem oc64_succ (V : Nat → Nat) {i L : Nat} (hi : i < 8) (hL : L = i * 8) (j : Nat) : bput (oc64 (gen (outB greatS V) 64) i) L 8 (V i) 8 j = oc64 (gen (outB greatS V) 64) (i + 1) j := by
  unfold bput oc64
  by_cases h1 : L + 8 ≤ j + 8 ∧ j < L + 8
  · rw [if_pos h1, if_pos (by omega), nth_gen (by omega), outB_nat]
    unfold bb
    show Value.int .u8 ((V i / 2 ^ (8 * (L + 8 - 1 - j)) % 256 : Nat) : Int) = .int .u8 ((V (j / 8) / 2 ^ (64 - 8 - 8 * (j % 8)) % 256 : Nat) : Int)
    rw [show j / 8 = i by omega, show 64 - 8 - 8 * (j % 8) = 8 * (L + 8 - 1 - j) by omega]
  · rw [if_neg h1]
    by_cases h2 : j < i * 8
    · rw [if_pos h2, if_pos (by omega)]
    · rw [if_neg h2, if_neg (by omega)]
section
attribute [local irreducible] rl setA subA bvf padR bput fput runs oc64 sumR
set_option maxHeartbeats 3200000 in
theorem sum_64 {V : Nat → Nat} {A0 : Option Addr} {B c0 all : Nat} {bs : List UInt8} (hV : ∀ i, V i < 18446744073709551616) (hlen : bs.length ≤ 140737488355328) (ha : all ≤ 281474976710656) (w : World) (hG : GlbS w) (hr : Rd w B A0 c0 bs) (hB : B ≤ w.heap.size) :
    Calls Tryz.prog 86 #[av 8 (iv64 V), .slice A0 bs.length c0, .int .u64 (all : Int)] w fun e w' => ∃ g, e = .returned (.slice (some ⟨g, 0, none⟩) 64 64) ∧ OwnF w' w.heap.size 5 (some ⟨g, 0, none⟩) 64 64 (bvf (sumR greatS V bs all)) ∧ Below w.heap.size w w' := by
  obtain ⟨i0, hi0', hz0, hz1, hz2⟩ := info_parts infoB6
  have hwl : bs.length / 128 * 128 ≤ bs.length := Nat.div_mul_le_self _ _
  have hrest : (bs.drop (bs.length / 128 * 128)).length = bs.length - bs.length / 128 * 128 := List.length_drop
  have hrest2 : (bs.drop (bs.length / 128 * 128)).length < 128 := by rw [hrest]; omega
  have hsum : sumR greatS V bs all = gen (outB greatS (runs greatS (runs greatS V bs (bs.length / 128)) (padR greatS (bs.drop (bs.length / 128 * 128)) all) ((padR greatS (bs.drop (bs.length / 128 * 128)) all).length / 128))) 64 := by unfold sumR; rfl
  have hr2 : Rd w B (subA A0 c0 (bs.length / 128 * 128)) (c0 - bs.length / 128 * 128) (bs.drop (bs.length / 128 * 128)) := hr.drop_ hwl
  have hV1 : ∀ i, runs greatS V bs (bs.length / 128) i < 18446744073709551616 := fun i => runs_lt (S := greatS) hV bs _ i
  have KT1 := Lib.hid (fun w hG hr hB => take_64 (A0 := A0) (B := B) (c0 := c0) (bs := bs) hV hlen w hG hr hB)
  rw [← hrest] at KT1
  generalize runs greatS V bs (bs.length / 128) = V1 at *
  generalize subA A0 c0 (bs.length / 128 * 128) = A1 at *
  generalize c0 - bs.length / 128 * 128 = c1 at *
  generalize bs.drop (bs.length / 128 * 128) = rs at *
  have hPl : (padR greatS rs all).length ≤ 140737488355328 := by rw [pad_len_64 hrest2]; split <;> omega
  have hV2 : ∀ i, runs greatS V1 (padR greatS rs all) ((padR greatS rs all).length / 128) i < 18446744073709551616 := fun i => runs_lt (S := greatS) hV1 _ _ i
  have KP := Lib.hid (fun w hr hB => pad_64 (A0 := A1) (B := B) (c0 := c1) (rest := rs) hrest2 ha w hr hB)
  have KT2 := Lib.hid (fun A c B w hG hr hB => take_64 (V := V1) (A0 := A) (B := B) (c0 := c) (bs := padR greatS rs all) hV1 hPl w hG hr hB)
  generalize padR greatS rs all = PD at *
  generalize runs greatS V1 PD (PD.length / 128) = V2 at *
  have HSU := Lib.hid hsum
  have HV2 := Lib.hid hV2
  have HR2 := Lib.hid hr2
  clear hsum hV2 hr2 hrest hrest2 hwl hV1 hPl hV hlen ha
  have oa := OwnF.lit (w := w) (B := w.heap.size) 86 (Nat.le_refl _) (rl 8 (iv64 V)).toArray 8 (iv64 V) (by decide) (by unfold rl; simp)
  have hc := (Below.refl w.heap.size w).alloc (Nat.le_refl _) (.cells (rl 8 (iv64 V)).toArray 86)
  obtain ⟨v1, e1⟩ : ∃ v, v = w.alloc (.cells (rl 8 (iv64 V)).toArray 86) := ⟨_, rfl⟩
  rw [← e1] at oa hc
  obtain ⟨gA, hgA⟩ : ∃ g, g = w.heap.size := ⟨_, rfl⟩
  replace oa : OwnF v1 w.heap.size 86 (some ⟨gA, 0, none⟩) 8 8 (iv64 V) := by rw [hgA]; exact oa
  have hcl := Lib.hid (OwnF.cl (off := 0) (n := 8) oa (by decide) (fun k hk => by rw [Nat.zero_add]))
  have E1 := Lib.hid e1.symm
  have HGA := Lib.hid hgA
  clear e1 hgA
  go_enter Tryz.func86, Tryz.ntmps86
  go_upto_region 1 with fail
  rw [E1.out]
  rw [show (Value.pointer (some ⟨w.heap.size, 0, none⟩)) = .pointer (some ⟨gA, 0, none⟩) by rw [HGA.out]]
  clear E1 HGA
  go_wp2_with ((with_reducible refine av_load hcl.out ty8_64 ?_ ?_); rfl)
  go_at_call 119
  refine (KT1.out _ (hG.next hc) (hr.keep (hc.mono hB)) (Nat.le_trans hB hc.size)).mono ?_
  rintro e v2 ⟨rfl, h0⟩
  replace oa := OwnF.keep oa h0
  replace hc := hc.trans (h0.mono hc.size)
  clear h0 KT1 hcl
  have hcs := Lib.hid (hc.trans ((av_only v2 gA 0 8 (iv64 V1)).below (OwnF.ge oa)))
  have oas := Lib.hid (av_all oa (iv64 V1))
  go_upto_region 2 with ((with_reducible refine av_store (off := 0) oa ty8_64 (by decide) (iv64 V1) (fun k _ => rfl) ?_ ?_ ?_); rfl; rfl)
  obtain ⟨v3, e3⟩ : ∃ v, v = setA v2 gA 0 8 (iv64 V1) := ⟨_, rfl⟩
  have oa3 := oas.out
  have hc3 := hcs.out
  rw [← e3] at oa3 hc3 ⊢
  clear e3 oas hcs oa hc
  have HCL := Lib.hid (fun w1 (hz : Below v3.heap.size v3 w1) => OwnF.cl (off := 0) (n := 8) (OwnF.keep oa3 hz) (by decide) (fun k hk => by rw [Nat.zero_add]))
  have KP3 := Lib.hid (fun w1 (hz : Below v3.heap.size v3 w1) => KP.out w1 ((HR2.out.keep (hc3.mono hB)).keep (hz.mono (Nat.le_trans hB hc3.size))) (Nat.le_trans hB (Nat.le_trans hc3.size hz.size)))
  have KT3 := Lib.hid (fun A c w1 (hz : Below v3.heap.size v3 w1) (h : Rd w1 w1.heap.size A c PD) => KT2.out A c w1.heap.size w1 (hG.next (hc3.trans (hz.mono hc3.size))) h (Nat.le_refl _))
  clear KP KT2 HR2
  refine wp_region_dead 8 7 [18, 19, 20, 21, 22, 17, 23, 24] [.val (av 8 (iv64 V1)), .val (.slice A1 rs.length c1), .val (.int .u64 (all : Int)), .byt PD, .tup (av 8 (iv64 V2)), .tup (av 8 (iv64 V2)), .val (av 8 (iv64 V2)), .any]
    (fun wz => Below v3.heap.size v3 wz) (fun wz => ∃ w9, Below v3.heap.size v3 w9 ∧ wz = setA w9 gA 0 8 (iv64 V2)) (by kernel_rfl) (by kernel_rfl) (fun wz wz' hz hb => hz.trans (hb.mono hz.size)) ((Below.refl _ _).drew) (fun u => by simp only [puts, List.foldl_cons, List.foldl_nil]; go_simp; exact rfl) ?_ _ _ rfl rfl ?_ ?_ ?_
  · simp only [List.take_succ_cons, List.take_zero]
    refine Obs.cons (fun u w hS hd => ?_) ?_
    · exact Gv.run (av 8 (iv64 V1)) rfl (av_run rfl rfl (HCL.out w hS) ty8_64) rfl
    refine Obs.cons (fun u w hS hd => ?_) ?_
    · exact Gv.run (.slice A1 rs.length c1) rfl (by go_simp) rfl
    refine Obs.cons (fun u w hS hd => ?_) ?_
    · exact Gv.run (.int .u64 (all : Int)) rfl (by go_simp) rfl
    refine Obs.cons (fun u w hS hd => ?_) ?_
    · have d19 : u 19 = .slice A1 rs.length c1 := dep hd 1 rfl
      have d20 : u 20 = .int .u64 (all : Int) := dep hd 2 rfl
      rw [d19, d20]
      refine Gv.call 120 #[.slice A1 rs.length c1, .int .u64 (all : Int)] rfl (by go_simp) ((KP3.out w hS).mono ?_)
      rintro e w' ⟨g, rfl, R, hb⟩
      exact ⟨_, rfl, ⟨_, _, rfl, R⟩, hb⟩
    refine Obs.cons (fun u w hS hd => ?_) ?_
    · have d18 : u 18 = av 8 (iv64 V1) := dep hd 0 rfl
      obtain ⟨A, c, d21, g21⟩ : (Know.byt PD).ok (u 21) w := dep hd 3 rfl
      rw [d18, d21]
      refine Gv.call 119 #[av 8 (iv64 V1), .slice A PD.length c] rfl (by go_simp) ((KT3.out A c w hS g21).mono ?_)
      rintro e w' ⟨rfl, hb⟩
      exact ⟨_, rfl, ⟨_, rfl⟩, hb⟩
    refine Obs.cons (fun u w hS hd => ?_) ?_
    · obtain ⟨y, d22⟩ : (Know.tup (av 8 (iv64 V2))).ok (u 22) w := dep hd 4 rfl
      rw [d22]
      exact Gv.run (.tuple #[av 8 (iv64 V2), y]) rfl (by go_simp) ⟨y, rfl⟩
    refine Obs.cons (fun u w hS hd => ?_) ?_
    · obtain ⟨y, d17⟩ : (Know.tup (av 8 (iv64 V2))).ok (u 17) w := dep hd 5 rfl
      rw [d17]
      exact Gv.run (av 8 (iv64 V2)) rfl (by go_simp) rfl
    refine Obs.cons (fun u w hS hd => ?_) ?_
    · obtain ⟨y, d17⟩ : (Know.tup (av 8 (iv64 V2))).ok (u 17) w := dep hd 5 rfl
      rw [d17]
      exact Gv.run y rfl (by go_simp) trivial
    exact Obs.nil
  · intro u w hS hd
    have d23 : u 23 = av 8 (iv64 V2) := hd 6 (by decide) (by decide)
    rw [d23]
    exact ⟨rfl, _, av_sets (off := 0) rfl (OwnF.keep oa3 hS) ty8_64 (by decide) (iv64 V2) (fun k _ => rfl) rfl rfl, w, hS, rfl⟩
  · intro u w hd w'
    obtain ⟨y, d17⟩ : (Know.tup (av 8 (iv64 V2))).ok (u 17) w := hd 5 (by decide) (by decide)
    rw [d17]
    exact ⟨rfl, y, by go_simp⟩
  rintro u w5 ⟨wz, hS, rfl⟩
  have oa5 := av_all (OwnF.keep oa3 hS) (iv64 V2)
  have hc5 := (hc3.trans (hS.mono hc3.size)).trans ((av_only wz gA 0 8 (iv64 V2)).below (OwnF.ge oa3))
  have hgl := OwnF.lt oa5
  obtain ⟨v6, e6⟩ : ∃ v, v = setA wz gA 0 8 (iv64 V2) := ⟨_, rfl⟩
  rw [← e6] at oa5 hc5 hgl ⊢
  have HAO := Lib.hid (fun (n g : Nat) (h : g = v6.heap.size) => show gA ≠ g by omega)
  clear hgl
  clear e6 oa3 hc3 hS HCL KP3 KT3
  go_wp2_with fail
  go_at_call 121
  refine (size_64 _).mono ?_
  rintro e v7 ⟨rfl, e7⟩
  subst v7
  have hmk := run_mk (P := Tryz.prog) 22 5 i0 Tryz.underlying22 hi0' hz0 hz1 hz2 (l := 64) (n := 64) rfl (by omega)
  have hw1 : IntKind.i64.wrap 64 = 64 := rfl
  have oO := OwnF.made (w := v6) (B := w.heap.size) 5 (.int .u8 0) (n := 64) hc5.size (by decide)
  have hcA := (Below.refl v6.heap.size v6).alloc (Nat.le_refl _) (.cells (madeCells #[.int .u8 0] 64) 5)
  replace oa5 := OwnF.keep oa5 hcA
  replace hc5 := hc5.trans (hcA.mono hc5.size)
  have hne := OwnF.lt oa5
  go_wp2_with fail
  obtain ⟨v8, e8⟩ : ∃ v, v = v6.alloc (.cells (madeCells #[.int .u8 0] 64) 5) := ⟨_, rfl⟩
  rw [← e8] at oa5 oO hc5 ⊢
  obtain ⟨gO, eg⟩ : ∃ g, g = v6.heap.size := ⟨_, rfl⟩
  replace oO : OwnF v8 w.heap.size 5 (some ⟨gO, 0, none⟩) 64 64 (fun _ => .int .u8 0) := by rw [eg]; exact oO
  rw [show Value.slice (some ⟨v6.heap.size, 0, none⟩) 64 64 = .slice (some ⟨gO, 0, none⟩) 64 64 by rw [eg]]
  have hAO : gA ≠ gO := HAO.out 0 gO eg
  clear e8 eg hmk hcA hne
  go_loopw [29] (fun c wr => ∃ i : Nat, i ≤ 8 ∧ c = .int .i64 (i : Int) ∧ OwnF wr w.heap.size 5 (some ⟨gO, 0, none⟩) 64 64 (oc64 (gen (outB greatS V2) 64) i) ∧ OwnF wr w.heap.size 86 (some ⟨gA, 0, none⟩) 8 8 (iv64 V2) ∧ Below w.heap.size w wr)
    (fun c _ => 8 - (intOf c).toNat)
  case atStart => exact ⟨0, by omega, rfl, by rw [oc64_zero]; exact oO, oa5, hc5⟩
  case round =>
    clear oO oa5 hc5
    obtain ⟨i, hi, rfl, oO, oa, hc⟩ := hrel
    by_cases hlt : i < 8
    · have g1 : (i : Int) < 8 := by omega
      obtain ⟨L, hL⟩ : ∃ L, L = i * 8 := ⟨_, rfl⟩
      obtain ⟨H, hH⟩ : ∃ H, H = L + 8 := ⟨_, rfl⟩
      obtain ⟨i1, hi1⟩ : ∃ x, x = i + 1 := ⟨_, rfl⟩
      have E1 := Lib.hid (show IntKind.i64.wrap ((i : Int) * 8) = (L : Int) by rw [IntKind.wrap_i64]; omega)
      have E0 := Lib.hid (show IntKind.i64.wrap ((i : Int) + 1) = (i1 : Int) by rw [IntKind.wrap_i64]; omega)
      have E2 := Lib.hid (show IntKind.i64.wrap ((i1 : Int) * 8) = (H : Int) by rw [IntKind.wrap_i64]; omega)
      have HLH := Lib.hid (show L ≤ H ∧ H ≤ 64 ∧ H - L = 8 ∧ 64 ≠ L by omega)
      have I8 := Lib.hid (show (0 : Int) ≤ (i : Int) ∧ (i : Int) < 8 by omega)
      have HLe := Lib.hid (show L + 8 ≤ 64 by omega)
      have HOC := Lib.hid (fun j => oc64_succ V2 (i := i) (L := L) hlt hL j)
      have hvc : ∀ wz, Below wr.heap.size wr wz → wz.cell? ⟨gA, i, none⟩ = some (.int .u64 ((V2 i : Nat) : Int)) := fun wz hz => OwnF.cell (OwnF.keep oa hz) hlt
      generalize V2 i = vi at *
      have HVC := Lib.hid hvc
      have HI := Lib.hid hi1
      clear hvc hL hH hi1
      go_upto_region 8 with fail
      refine wp_region_inv 12 [32, 33, 34, 35, 36, 37, 38, 39, 40, 41, 42, 43] [.val (.slice (some ⟨gO, 0, none⟩) 64 64), .val (.int .i64 (i : Int)), .val (.int .i64 8), .val (.int .i64 (L : Int)), .val (.int .i64 (i : Int)), .val (.int .i64 (i1 : Int)), .val (.int .i64 8), .val (.int .i64 (H : Int)), .val (.slice (some ⟨gO, L, none⟩) 8 (64 - L)), .val (.int .i64 (i : Int)), .val (.pointer (some ⟨gA, i, none⟩)), .val (.int .u64 (vi : Int))] (fun wz => Below wr.heap.size wr wz) (by kernel_rfl) (by kernel_rfl) (fun wz wz' hz hb => hz.trans (hb.mono hz.size)) ((Below.refl _ _).drew) (fun u => by simp only [puts, List.foldl_cons, List.foldl_nil]; go_simp; exact rfl) ?_ ?_
      · simp only [List.take_succ_cons, List.take_zero]
        refine Obs.cons (fun u w hS hd => ?_) ?_
        · exact Gv.run (.slice (some ⟨gO, 0, none⟩) 64 64) rfl (by go_simp) rfl
        refine Obs.cons (fun u w hS hd => ?_) ?_
        · exact Gv.run (.int .i64 (i : Int)) rfl (by go_simp) rfl
        refine Obs.cons (fun u w hS hd => ?_) ?_
        · exact Gv.run (.int .i64 8) rfl (by go_simp) rfl
        refine Obs.cons (fun u w hS hd => ?_) ?_
        · have d33 : u 33 = .int .i64 (i : Int) := dep hd 1 rfl
          have d34 : u 34 = .int .i64 8 := dep hd 2 rfl
          rw [d33, d34]
          have hq := E1.out
          exact Gv.run (.int .i64 (L : Int)) rfl (by go_simp) rfl
        refine Obs.cons (fun u w hS hd => ?_) ?_
        · exact Gv.run (.int .i64 (i : Int)) rfl (by go_simp) rfl
        refine Obs.cons (fun u w hS hd => ?_) ?_
        · have d36 : u 36 = .int .i64 (i : Int) := dep hd 4 rfl
          rw [d36]
          have hq := E0.out
          exact Gv.run (.int .i64 (i1 : Int)) rfl (by go_simp) rfl
        refine Obs.cons (fun u w hS hd => ?_) ?_
        · exact Gv.run (.int .i64 8) rfl (by go_simp) rfl
        refine Obs.cons (fun u w hS hd => ?_) ?_
        · have d37 : u 37 = .int .i64 (i1 : Int) := dep hd 5 rfl
          have d38 : u 38 = .int .i64 8 := dep hd 6 rfl
          rw [d37, d38]
          have hq := E2.out
          exact Gv.run (.int .i64 (H : Int)) rfl (by go_simp) rfl
        refine Obs.cons (fun u w hS hd => ?_) ?_
        · have d32 : u 32 = .slice (some ⟨gO, 0, none⟩) 64 64 := dep hd 0 rfl
          have d35 : u 35 = .int .i64 (L : Int) := dep hd 3 rfl
          have d39 : u 39 = .int .i64 (H : Int) := dep hd 7 rfl
          rw [d32, d35, d39]
          exact Gv.run (.slice (some ⟨gO, L, none⟩) 8 (64 - L)) rfl (slice_op_at rfl rfl rfl rfl HLH.out.1 HLH.out.2.1 HLH.out.2.2.1 HLH.out.2.2.2) rfl
        refine Obs.cons (fun u w hS hd => ?_) ?_
        · exact Gv.run (.int .i64 (i : Int)) rfl (by go_simp) rfl
        refine Obs.cons (fun u w hS hd => ?_) ?_
        · have d41 : u 41 = .int .i64 (i : Int) := dep hd 9 rfl
          rw [d41]
          exact Gv.run (.pointer (some ⟨gA, i, none⟩)) rfl (by obtain ⟨h1, h2⟩ := I8.out; go_simp) rfl
        refine Obs.cons (fun u w hS hd => ?_) ?_
        · have d42 : u 42 = .pointer (some ⟨gA, i, none⟩) := dep hd 10 rfl
          rw [d42]
          exact Gv.run (.int .u64 (vi : Int)) rfl (by have h1 := HVC.out w hS; go_simp) rfl
        exact Obs.nil
      intro u wz hS hd
      have d40 : u 40 = .slice (some ⟨gO, L, none⟩) 8 (64 - L) := hd 8 (by decide)
      have d43 : u 43 = .int .u64 (vi : Int) := hd 11 (by decide)
      rw [d40, d43]
      clear hd d40 d43 HVC E0 E1 E2 HLH I8
      simp only [List.drop_succ_cons, List.drop_zero]
      go_wp2_with fail
      go_at_call 122
      refine (put_64 (o := L) (N := 64) HLe.out wz (OwnF.keep oO hS)).mono ?_
      rintro e w9 ⟨rfl, o9, h9⟩
      go_wp2_with fail
      exact ⟨⟨i + 1, by omega, by go_num, OwnF.congr o9 fun j _ => HOC.out j, OwnF.only (OwnF.keep oa hS) h9 (Ne.symm hAO), (hc.trans (hS.mono hc.size)).trans (h9.below (OwnF.ge oO))⟩, by simp [intOf]; omega⟩
    · obtain rfl : i = 8 := by omega
      simp only [Int.cast_ofNat_Int]
      go_wp2_with fail
      go_ret
      exact ⟨gO, rfl, by rw [HSU.out]; exact OwnF.congr oO fun j hj => oc64_all hj, hc⟩
end
end Go.Proofs.YtkbkalhcdbklkaaGreatDoor
namespace Go.Proofs.YtkbkalhcdbklkaaGreatDoor
open Go Go.RowKit
set_option maxRecDepth 20000
theorem fst_great (i : Nat) : fst greatS i < 18446744073709551616 := greatOk.first.2 i
section
attribute [local irreducible] rl setA bvf sumR sumN fst runs
set_option maxHeartbeats 1600000 in
theorem code512 {A0 : Option Addr} {B c0 : Nat} {bs : List UInt8} (hlen : bs.length ≤ 140737488355328) (w : World) (hG : GlbS w) (hr : Rd w B A0 c0 bs) (hB : B ≤ w.heap.size) :
    Calls Tryz.prog 43 #[.slice A0 bs.length c0] w fun e w' => ∃ g, e = .returned (.slice (some ⟨g, 0, none⟩) 64 64) ∧ OwnF w' w.heap.size 5 (some ⟨g, 0, none⟩) 64 64 (bvf (sumN greatS bs)) ∧ Below w.heap.size w w' := by
  have hk := sum_64 (V := fst greatS) (A0 := A0) (B := B) (c0 := c0) (all := bs.length) (bs := bs) fst_great hlen (by omega) w hG hr hB
  rw [sumR_all (S := greatS) (.inr rfl)] at hk
  have KS := Lib.hid hk
  have hcl : Cl w 1 0 8 (iv64 (fst greatS)) := fun k hk => by rw [Nat.zero_add]; exact hG.b k hk
  have HCL := Lib.hid hcl
  have hw1 : IntKind.u64.wrap (bs.length : Int) = (bs.length : Int) := by rw [IntKind.wrap_u64]; omega
  clear hk hcl hr hG
  go_enter Tryz.func43, Tryz.ntmps43
  go_wp2_with ((with_reducible refine av_load HCL.out ty8_64 ?_ ?_); rfl)
  go_at_call 86
  refine KS.out.mono ?_
  rintro e v1 ⟨g, rfl, o, hb⟩
  go_wp2_with fail
  go_ret
  exact ⟨g, rfl, o, hb⟩
end
end Go.Proofs.YtkbkalhcdbklkaaGreatDoor
namespace Go.Proofs.YtkbkalhcdbklkaaGreatDoor
open Go Go.RowKit
def row (L : List (List UInt8)) (k : Nat) : List UInt8 := L[k]?.getD []
theorem row_get {L : List (List UInt8)} {k : Nat} (h : k < L.length) : row L k = L[k] := by simp [row, h]
/-- All lists, one behind the other. -/
def joinL (L : List (List UInt8)) : List UInt8 := L.flatten
/-- The first k lists, one behind the other. -/
def joinK (L : List (List UInt8)) (k : Nat) : List UInt8 := (L.take k).flatten
theorem joinK_zero (L : List (List UInt8)) : joinK L 0 = [] := by simp [joinK]
theorem joinK_succ {L : List (List UInt8)} {k : Nat} (h : k < L.length) : joinK L (k + 1) = joinK L k ++ row L k := by
  simp only [joinK, List.take_succ_eq_append_getElem h, List.flatten_append, row_get h]; simp
theorem joinK_full (L : List (List UInt8)) : joinK L L.length = joinL L := by simp [joinK, joinL]
theorem joinK_le (L : List (List UInt8)) (k : Nat) : (joinK L k).length ≤ (joinL L).length := by
  unfold joinL
  have : L.flatten = joinK L k ++ (L.drop k).flatten := by rw [joinK, ← List.flatten_append, List.take_append_drop]
  rw [this, List.length_append]; omega
theorem row_le {L : List (List UInt8)} {k : Nat} (h : k < L.length) : (joinK L k).length + (row L k).length ≤ (joinL L).length := by
  have := joinK_le L (k + 1)
  rw [joinK_succ h, List.length_append] at this
  exact this

/-- The slice at 'A' reads as the lists of bytes L, all below block B. -/
structure Rds (w : World) (B : Nat) (A : Option Addr) (c : Nat) (L : List (List UInt8)) : Prop where
  cap : L.length ≤ c
  nil : A = none → L = [] ∧ c = 0
  some_ : L ≠ [] → ∃ b o, A = some ⟨b, o, none⟩ ∧ b < B ∧ ∀ k, k < L.length → ∃ Ak ck, w.cell? ⟨b, o + k, none⟩ = some (.slice Ak (row L k).length ck) ∧ Rd w B Ak ck (row L k)
section
variable {w w' : World} {B B' c : Nat} {A : Option Addr} {L : List (List UInt8)}
theorem Rds.keep (h : Rds w B A c L) (hb : Below B w w') : Rds w' B A c L :=
  ⟨h.cap, h.nil, fun hn => by
    obtain ⟨b, o, e, hlt, hc⟩ := h.some_ hn
    refine ⟨b, o, e, hlt, fun k hk => ?_⟩
    obtain ⟨Ak, ck, h1, h2⟩ := hc k hk
    exact ⟨Ak, ck, (hb.cell (p := ⟨b, o + k, none⟩) hlt).trans h1, h2.keep hb⟩⟩
theorem Rds.mono (h : Rds w B A c L) (hb : B ≤ B') : Rds w B' A c L :=
  ⟨h.cap, h.nil, fun hn => by
    obtain ⟨b, o, e, hlt, hc⟩ := h.some_ hn
    refine ⟨b, o, e, by omega, fun k hk => ?_⟩
    obtain ⟨Ak, ck, h1, h2⟩ := hc k hk
    exact ⟨Ak, ck, h1, h2.mono hb⟩⟩
theorem Rds.next (h : Rds w w.heap.size A c L) (hb : Below w.heap.size w w') : Rds w' w'.heap.size A c L := (h.keep hb).mono hb.size
theorem Rds.at_ {k : Nat} (h : Rds w B A c L) (hk : k < L.length) : ∃ b o, A = some ⟨b, o, none⟩ ∧ b < B ∧ ∃ Ak ck, w.cell? ⟨b, o + k, none⟩ = some (.slice Ak (row L k).length ck) ∧ Rd w B Ak ck (row L k) := by
  obtain ⟨b, o, e, hlt, hc⟩ := h.some_ (by rintro rfl; simp at hk)
  exact ⟨b, o, e, hlt, hc k hk⟩
end
end Go.Proofs.YtkbkalhcdbklkaaGreatDoor
namespace Go.Proofs.YtkbkalhcdbklkaaGreatDoor
open Go Go.RowKit
/-- 'make([]byte, 0, n)'. -/
theorem run_mk0 {P : Program} (t e : TypeId) (i : TypeInfo) (ht : P.underlying t = some (.slice e)) (hi : P.info? e = some i) (hz : i.zero = some (.int .u8 0))
    (hsize : i.size = 1) (hby : i.bytes = 1) {n : Nat} (hn : n ≤ 281474976710656) (w : World) :
    (Instr.makeSlice t (.int .i64 0) (.int .i64 (n : Int))).run P w = .ok (.slice (some ⟨w.heap.size, 0, none⟩) 0 n) (w.alloc (.cells (madeCells #[.int .u8 0] n) e)) := by
  have h := run_make (P := P) w t e i (.int .u8 0) ht hi hz .i64 .i64 0 n (by omega) (by omega) (by rw [hby]; omega) (by omega)
  simpa [hsize, Value.cells] using h
theorem Own.made0 {w : World} {B n : Nat} (e : TypeId) (hB : B ≤ w.heap.size) (hn : n ≤ maxLen) : Own (w.alloc (.cells (madeCells #[.int .u8 0] n) e)) B e (some ⟨w.heap.size, 0, none⟩) n [] :=
  World.ownsRow_made w _ n hB hn (by simp [madeCells])
set_option maxHeartbeats 800000 in
theorem join_code {A : Option Addr} {c B : Nat} {L : List (List UInt8)} (w : World) (h1 : Rds w B A c L) (hB : B ≤ w.heap.size) (hs : (joinL L).length ≤ 1048576) (hn : L.length ≤ 1048576) :
    Calls Tryz.prog 23 #[.slice A L.length c] w fun e w' => ∃ A' c', e = .returned (.slice A' (joinL L).length c') ∧ Own w' w.heap.size 5 A' c' (joinL L) ∧ Below w.heap.size w w' := by
  obtain ⟨i0, hi, hz0, hz1, hz2⟩ := info_parts infoU8
  go_enter Tryz.func23, Tryz.ntmps23
  go_wp2
  go_loop [3, 11] (fun n i => ∃ k : Nat, k ≤ L.length ∧ i = .int .i64 k ∧ n = .int .i64 ((joinK L k).length : Int)) (fun _ i => L.length - (intOf i).toNat)
  case atStart => exact ⟨0, Nat.zero_le _, rfl, by rw [joinK_zero]; rfl⟩
  case round =>
    obtain ⟨k, hk, rfl, rfl⟩ := hrel
    by_cases hlt : k < L.length
    · obtain ⟨b1, o1, rfl, hb1, Ak, ck, cc, rk⟩ := (h1.mono hB).at_ hlt
      have g1 : (k : Int) < (L.length : Int) := by omega
      have rl := row_le hlt
      go_wp2_with fail
      go_round
      case rel => exact ⟨k + 1, by omega, by go_num, by rw [joinK_succ hlt, List.length_append]; go_num⟩
      case measure => simp [intOf]; omega
    · have g1 : ¬ (k : Int) < (L.length : Int) := by omega
      have hk' : k = L.length := by omega
      subst hk'
      rw [joinK_full] at *
      have hmk := run_mk0 (P := Tryz.prog) 22 5 i0 Tryz.underlying22 hi hz0 hz1 hz2 (n := (joinL L).length) (by omega)
      have hm : Own (w.alloc (.cells (madeCells #[.int .u8 0] (joinL L).length) 5)) w.heap.size 5 (some ⟨w.heap.size, 0, none⟩) (joinL L).length [] := Own.made0 5 (Nat.le_refl _) (by unfold maxLen; omega)
      have hb0 : Below w.heap.size w (w.alloc (.cells (madeCells #[.int .u8 0] (joinL L).length) 5)) := (Below.refl _ w).alloc (Nat.le_refl _) _
      go_wp2_with fail
      clear hmk
      go_loopw [6, 24] (fun v i wr => ∃ k : Nat, k ≤ L.length ∧ i = .int .i64 k ∧ (∃ A c, v = .slice A (joinK L k).length c ∧ Own wr w.heap.size 5 A c (joinK L k)) ∧ Below w.heap.size w wr)
        (fun _ i _ => L.length - (intOf i).toNat)
      case atStart => exact ⟨0, Nat.zero_le _, rfl, ⟨_, _, by rw [joinK_zero]; rfl, by rw [joinK_zero]; exact hm⟩, hb0⟩
      case round =>
        obtain ⟨k, hk, rfl, ⟨Av, cv, rfl, ho⟩, hb⟩ := hrel
        clear hm hb0 g1
        by_cases hlt : k < L.length
        · obtain ⟨b1, o1, rfl, hb1, Ak, ck, cc, rk⟩ := (h1.mono hB).at_ hlt
          have g1 : (k : Int) < (L.length : Int) := by omega
          have rl := row_le hlt
          have cc2 : wr.cell? ⟨b1, o1 + k, none⟩ = some (.slice Ak (row L k).length ck) := (hb.cell (p := ⟨b1, o1 + k, none⟩) hb1).trans cc
          have rk2 := rk.keep hb
          clear cc rk
          go_wp2_with (at_builtin; refine wpList_app _ rfl (.tmp 28) (.tmp 29) _ rfl w.heap.size 5 i0 _ Tryz.underlying22 hi hz0 hz1 hz2 rfl rfl ho rfl rk2 (by omega) hb.size ?_; intro A' c' w' ho' hb')
          go_roundw
          case rel =>
            exact ⟨k + 1, by omega, by go_num, ⟨A', c', by rw [joinK_succ hlt, List.length_append], by rw [joinK_succ hlt]; exact ho'⟩, hb.trans hb'⟩
          case measure => simp [intOf]; omega
        · have g1 : ¬ (k : Int) < (L.length : Int) := by omega
          have hk' : k = L.length := by omega
          subst hk'
          rw [joinK_full] at *
          go_wp2_with fail
          go_ret
          exact ⟨Av, cv, rfl, ho, hb⟩
end Go.Proofs.YtkbkalhcdbklkaaGreatDoor
namespace Go.Proofs.YtkbkalhcdbklkaaGreatDoor
open Go Go.RowKit
abbrev Zs : Obj := .cells #[.int .u64 0, .int .u64 0, .int .u64 0, .int .u64 0] 44
def Osc (w : World) (B g x : Nat) : Prop := OwnF w B 44 (some ⟨g, 0, none⟩) 4 4 (wv x)
/-- The six words of a signer: its number, two slices. -/
def gw (x : Nat) (A1 : Option Addr) (n1 c1 : Nat) (A2 : Option Addr) (n2 c2 k : Nat) : Value := if k < 4 then wv x k else if k = 4 then .slice A1 n1 c1 else .slice A2 n2 c2
abbrev gv (x : Nat) (A1 : Option Addr) (n1 c1 : Nat) (A2 : Option Addr) (n2 c2 : Nat) : Value := .agg #[.int .u64 (wd x 0 : Int), .int .u64 (wd x 1 : Int), .int .u64 (wd x 2 : Int), .int .u64 (wd x 3 : Int), .slice A1 n1 c1, .slice A2 n2 c2]
abbrev Zg : Obj := .cells #[.int .u64 0, .int .u64 0, .int .u64 0, .int .u64 0, .slice none 0 0, .slice none 0 0] 37
def gz (k : Nat) : Value := if k < 4 then .int .u64 0 else .slice none 0 0
def O6 (w : World) (B g x : Nat) (A1 : Option Addr) (n1 c1 : Nat) (A2 : Option Addr) (n2 c2 : Nat) : Prop := OwnF w B 37 (some ⟨g, 0, none⟩) 6 6 (gw x A1 n1 c1 A2 n2 c2)
section
variable {w w' : World} {B g x : Nat} {A1 A2 : Option Addr} {n1 c1 n2 c2 : Nat}
theorem Osc.keep (h : Osc w B g x) (hb : Below w.heap.size w w') : Osc w' B g x := OwnF.keep h hb
theorem Osc.newz (hB : B ≤ w.heap.size) : Osc (w.alloc Zs) B w.heap.size 0 := (OwnF.lit _ hB _ 4 (fun _ => .int .u64 0) (by decide) rfl).congr fun k _ => by simp [wv, wd, dgt]
theorem Osc.lt (h : Osc w B g x) : g < w.heap.size := OwnF.lt h
theorem Osc.ge (h : Osc w B g x) : B ≤ g := OwnF.ge h
theorem Osc.mono {B' : Nat} (h : Osc w B g x) (hb : B' ≤ B) : Osc w B' g x := OwnF.mono h hb
theorem Osc.put (h : Osc w B g x) (y : Nat) : Osc (set4w w g y) B g y := put4o h y
theorem Osc.below (h : Osc w B g x) (y : Nat) : Below B w (set4w w g y) := (set4w_below w g y).mono h.ge
theorem O6.keep (h : O6 w B g x A1 n1 c1 A2 n2 c2) (hb : Below w.heap.size w w') : O6 w' B g x A1 n1 c1 A2 n2 c2 := OwnF.keep h hb
theorem O6.mono {B' : Nat} (h : O6 w B g x A1 n1 c1 A2 n2 c2) (hb : B' ≤ B) : O6 w B' g x A1 n1 c1 A2 n2 c2 := OwnF.mono h hb
theorem O6.lt (h : O6 w B g x A1 n1 c1 A2 n2 c2) : g < w.heap.size := OwnF.lt h
theorem O6.ge (h : O6 w B g x A1 n1 c1 A2 n2 c2) : B ≤ g := OwnF.ge h
theorem g6_newz (hB : B ≤ w.heap.size) : OwnF (w.alloc Zg) B 37 (some ⟨w.heap.size, 0, none⟩) 6 6 gz := OwnF.lit _ hB _ 6 gz (by decide) rfl
/-- Another signer is laid there. -/
def set6 (w : World) (g x : Nat) (A1 : Option Addr) (n1 c1 : Nat) (A2 : Option Addr) (n2 c2 : Nat) : World :=
  ((((((w.setCell ⟨g, 0, none⟩ (.int .u64 (wd x 0 : Int))).setCell ⟨g, 1, none⟩ (.int .u64 (wd x 1 : Int))).setCell ⟨g, 2, none⟩ (.int .u64 (wd x 2 : Int))).setCell ⟨g, 3, none⟩ (.int .u64 (wd x 3 : Int))).setCell ⟨g, 4, none⟩ (.slice A1 n1 c1)).setCell ⟨g, 5, none⟩ (.slice A2 n2 c2))
theorem put6 {f : Nat → Value} (h : OwnF w B 37 (some ⟨g, 0, none⟩) 6 6 f) (x : Nat) (A1 : Option Addr) (n1 c1 : Nat) (A2 : Option Addr) (n2 c2 : Nat) : O6 (set6 w g x A1 n1 c1 A2 n2 c2) B g x A1 n1 c1 A2 n2 c2 := by
  have h4 := (((((h.set_ 0 (.int .u64 (wd x 0 : Int))).set_ 1 (.int .u64 (wd x 1 : Int))).set_ 2 (.int .u64 (wd x 2 : Int))).set_ 3 (.int .u64 (wd x 3 : Int))).set_ 4 (.slice A1 n1 c1)).set_ 5 (.slice A2 n2 c2)
  refine OwnF.congr h4 fun k hk => ?_
  have : k = 0 ∨ k = 1 ∨ k = 2 ∨ k = 3 ∨ k = 4 ∨ k = 5 := by omega
  rcases this with rfl | rfl | rfl | rfl | rfl | rfl <;> rfl
theorem only6 (w : World) (g x : Nat) (A1 : Option Addr) (n1 c1 : Nat) (A2 : Option Addr) (n2 c2 : Nat) : Only g w (set6 w g x A1 n1 c1 A2 n2 c2) :=
  ((((((Only.setCell w ⟨g, 0, none⟩ _).trans (Only.setCell _ ⟨g, 1, none⟩ _)).trans (Only.setCell _ ⟨g, 2, none⟩ _)).trans (Only.setCell _ ⟨g, 3, none⟩ _)).trans (Only.setCell _ ⟨g, 4, none⟩ _)).trans (Only.setCell _ ⟨g, 5, none⟩ _))
end
attribute [local irreducible] wd
section
variable {o : Oper} {a : Act} {w : World} {B g x : Nat} {A1 A2 : Option Addr} {n1 c1 n2 c2 : Nat}
theorem run_scload {s : Operand} (ho : o.op = .load 44 s) (h1 : a.eval s = .pointer (some ⟨g, 0, none⟩)) (h : Osc w B g x) : (execOp a.eval o).run Tryz.prog w = .ok (.value (nv x)) w := by
  have c0 : w.cell? ⟨g, 0, none⟩ = some (.int .u64 (wd x 0 : Int)) := OwnF.cell h (k := 0) (by decide)
  have c1 : w.cell? ⟨g, 1, none⟩ = some (.int .u64 (wd x 1 : Int)) := OwnF.cell h (k := 1) (by decide)
  have c2 : w.cell? ⟨g, 2, none⟩ = some (.int .u64 (wd x 2 : Int)) := OwnF.cell h (k := 2) (by decide)
  have c3 : w.cell? ⟨g, 3, none⟩ = some (.int .u64 (wd x 3 : Int)) := OwnF.cell h (k := 3) (by decide)
  unfold execOp
  simp only [ho, h1]
  go_simp
theorem run_scstore {s1 s2 : Operand} {z : Nat} {f : Nat → Value} (ho : o.op = .store 44 s1 s2) (h1 : a.eval s1 = .pointer (some ⟨g, 0, none⟩)) (h2 : a.eval s2 = nv z) (h : OwnF w B 44 (some ⟨g, 0, none⟩) 4 4 f) : (execOp a.eval o).run Tryz.prog w = .ok .skip (set4w w g z) := by
  have c0 := h.cell (k := 0) (by decide)
  have c1 := h.cell (k := 1) (by decide)
  have c2 := h.cell (k := 2) (by decide)
  have c3 := h.cell (k := 3) (by decide)
  have f0 := h.free 0
  have f1 := h.free 1
  have f2 := h.free 2
  have f3 := h.free 3
  unfold execOp set4w
  simp only [ho, h1, h2]
  go_simp
theorem O6.num (h : O6 w B g x A1 n1 c1 A2 n2 c2) : w.cell? ⟨g, 0, none⟩ = some (.int .u64 (wd x 0 : Int)) ∧ w.cell? ⟨g, 1, none⟩ = some (.int .u64 (wd x 1 : Int)) ∧ w.cell? ⟨g, 2, none⟩ = some (.int .u64 (wd x 2 : Int)) ∧ w.cell? ⟨g, 3, none⟩ = some (.int .u64 (wd x 3 : Int)) :=
  ⟨OwnF.cell h (k := 0) (by decide), OwnF.cell h (k := 1) (by decide), OwnF.cell h (k := 2) (by decide), OwnF.cell h (k := 3) (by decide)⟩
theorem O6.two (h : O6 w B g x A1 n1 c1 A2 n2 c2) : w.cell? ⟨g, 4, none⟩ = some (.slice A1 n1 c1) ∧ w.cell? ⟨g, 5, none⟩ = some (.slice A2 n2 c2) :=
  ⟨OwnF.cell h (k := 4) (by decide), OwnF.cell h (k := 5) (by decide)⟩
theorem run_gnum {s : Operand} (ho : o.op = .load 35 s) (h1 : a.eval s = .pointer (some ⟨g, 0, none⟩)) (h : O6 w B g x A1 n1 c1 A2 n2 c2) : (execOp a.eval o).run Tryz.prog w = .ok (.value (nv x)) w := by
  obtain ⟨c0, c1, c2, c3⟩ := h.num
  unfold execOp
  simp only [ho, h1]
  go_simp
theorem run_gstore {s1 s2 : Operand} {f : Nat → Value} (ho : o.op = .store 37 s1 s2) (h1 : a.eval s1 = .pointer (some ⟨g, 0, none⟩)) (h2 : a.eval s2 = gv x A1 n1 c1 A2 n2 c2) (h : OwnF w B 37 (some ⟨g, 0, none⟩) 6 6 f) : (execOp a.eval o).run Tryz.prog w = .ok .skip (set6 w g x A1 n1 c1 A2 n2 c2) := by
  have c0 := h.cell (k := 0) (by decide)
  have c1 := h.cell (k := 1) (by decide)
  have c2 := h.cell (k := 2) (by decide)
  have c3 := h.cell (k := 3) (by decide)
  have c4 := h.cell (k := 4) (by decide)
  have c5 := h.cell (k := 5) (by decide)
  have f0 := h.free 0
  have f1 := h.free 1
  have f2 := h.free 2
  have f3 := h.free 3
  have f4 := h.free 4
  have f5 := h.free 5
  unfold execOp set6
  simp only [ho, h1, h2]
  go_simp
theorem gbuilt (x : Nat) (A1 : Option Addr) (n1 c1 : Nat) (A2 : Option Addr) (n2 c2 : Nat) : Tryz.prog.built 37 [(0, nv x), (1, .slice A1 n1 c1), (2, .slice A2 n2 c2)] = some #[.int .u64 (wd x 0 : Int), .int .u64 (wd x 1 : Int), .int .u64 (wd x 2 : Int), .int .u64 (wd x 3 : Int), .slice A1 n1 c1, .slice A2 n2 c2] := by kernel_rfl
theorem run_gbuild {s0 s1 s2 : Operand} (ho : o.op = .build 37 #[(0, s0), (1, s1), (2, s2)]) (h0 : a.eval s0 = nv x) (h1 : a.eval s1 = .slice A1 n1 c1) (h2 : a.eval s2 = .slice A2 n2 c2) : (execOp a.eval o).run Tryz.prog w = .ok (.value (gv x A1 n1 c1 A2 n2 c2)) w := by
  have h := run_build (P := Tryz.prog) w 37 #[(0, nv x), (1, .slice A1 n1 c1), (2, .slice A2 n2 c2)] _ (gbuilt x A1 n1 c1 A2 n2 c2)
  unfold execOp
  simp only [ho, List.map_toArray, List.map_cons, List.map_nil, h0, h1, h2, Sem.run_bind, h, Result.andThen_ok, Sem.run_pure]
end
section
variable {ops : Array Oper} {rest : List Oper} {a : Act} {w : World} {Q : Exit → Act → World → Prop} {B g v : Nat} {dst : Option Nat} {tp : TypeId} {ps : String} {af : Array Edge} {x y : Operand} {A1 A2 : Option Addr} {n1 c1 n2 c2 : Nat}
theorem sc_load (o : Osc w B g v) (hx : a.eval x = .pointer (some ⟨g, 0, none⟩)) (h : wpList Tryz.prog ops Q rest (a.put dst (nv v)) w) : wpList Tryz.prog ops Q (⟨dst, .load 44 x, tp, ps, af, none⟩ :: rest) a w :=
  read_to (nv v) rfl (run_scload rfl hx o) h
theorem sc_store (o : Osc w B g v) (z : Nat) (hx : a.eval x = .pointer (some ⟨g, 0, none⟩)) (hy : a.eval y = nv z) (h : wpList Tryz.prog ops Q rest (a.put dst undef) (set4w w g z)) : wpList Tryz.prog ops Q (⟨dst, .store 44 x y, tp, ps, af, none⟩ :: rest) a w :=
  skip_to rfl (run_scstore rfl hx hy o) h
theorem g_store {f : Nat → Value} (o : OwnF w B 37 (some ⟨g, 0, none⟩) 6 6 f) (z : Nat) (A1 : Option Addr) (n1 c1 : Nat) (A2 : Option Addr) (n2 c2 : Nat) (hx : a.eval x = .pointer (some ⟨g, 0, none⟩)) (hy : a.eval y = gv z A1 n1 c1 A2 n2 c2) (h : wpList Tryz.prog ops Q rest (a.put dst undef) (set6 w g z A1 n1 c1 A2 n2 c2)) : wpList Tryz.prog ops Q (⟨dst, .store 37 x y, tp, ps, af, none⟩ :: rest) a w :=
  skip_to rfl (run_gstore rfl hx hy o) h
theorem g_build (z : Nat) (A1 : Option Addr) (n1 c1 : Nat) (A2 : Option Addr) (n2 c2 : Nat) {s0 s1 s2 : Operand} (h0 : a.eval s0 = nv z) (h1 : a.eval s1 = .slice A1 n1 c1) (h2 : a.eval s2 = .slice A2 n2 c2) (h : wpList Tryz.prog ops Q rest (a.put dst (gv z A1 n1 c1 A2 n2 c2)) w) : wpList Tryz.prog ops Q (⟨dst, .build 37 #[(0, s0), (1, s1), (2, s2)], tp, ps, af, none⟩ :: rest) a w :=
  read_to (gv z A1 n1 c1 A2 n2 c2) rfl (run_gbuild rfl h0 h1 h2) h
end
theorem scres {fn : Func} {p : Tmp} (h : fn.results = #[.cell p 44]) (tmps : Array Value) {w : World} {B g x : Nat} (o : Osc w B g x) (hp : tmps.getD p undef = .pointer (some ⟨g, 0, none⟩)) : (results fn tmps).run Tryz.prog w = .ok (nv x) w := by
  have hp' : tmps[p]?.getD undef = .pointer (some ⟨g, 0, none⟩) := by simpa using hp
  have c0 : w.cell? ⟨g, 0, none⟩ = some (.int .u64 (wd x 0 : Int)) := OwnF.cell o (k := 0) (by decide)
  have c1 : w.cell? ⟨g, 1, none⟩ = some (.int .u64 (wd x 1 : Int)) := OwnF.cell o (k := 1) (by decide)
  have c2 : w.cell? ⟨g, 2, none⟩ = some (.int .u64 (wd x 2 : Int)) := OwnF.cell o (k := 2) (by decide)
  have c3 : w.cell? ⟨g, 3, none⟩ = some (.int .u64 (wd x 3 : Int)) := OwnF.cell o (k := 3) (by decide)
  simp [results, h, hp', asAddr, go_sem, c0, c1, c2, c3]
theorem gres {fn : Func} {p q : Tmp} (h : fn.results = #[.cell p 37, .tmp q]) (tmps : Array Value) {w : World} {B g x : Nat} {A1 A2 : Option Addr} {n1 k1 n2 k2 : Nat} (o : O6 w B g x A1 n1 k1 A2 n2 k2) (hp : tmps.getD p undef = .pointer (some ⟨g, 0, none⟩)) {v : Value} (hv : tmps.getD q undef = v) :
    (results fn tmps).run Tryz.prog w = .ok (.tuple #[gv x A1 n1 k1 A2 n2 k2, v]) w := by
  subst hv
  have hp' : tmps[p]?.getD undef = .pointer (some ⟨g, 0, none⟩) := by simpa using hp
  obtain ⟨c0, c1, c2, c3⟩ := o.num
  obtain ⟨c4, c5⟩ := o.two
  simp only [results, h]
  simp [Result.andThen, hp', asAddr, go_sem, c0, c1, c2, c3, c4, c5]
/-! Lists of lists, laid for a call. -/
theorem rds2 {w : World} {A A' : Option Addr} {n m c c' : Nat} {xs ys : List UInt8} (hx : xs.length = n) (hy : ys.length = m) (h1 : Rd w w.heap.size A c xs) (h2 : Rd w w.heap.size A' c' ys) :
    Rds (w.alloc (.cells #[.slice A n c, .slice A' m c'] 22)) (w.alloc (.cells #[.slice A n c, .slice A' m c'] 22)).heap.size (some ⟨w.heap.size, 0, none⟩) 2 [xs, ys] := by
  subst hx hy
  have hb := (Below.refl w.heap.size w).alloc (Nat.le_refl _) (.cells #[.slice A xs.length c, .slice A' ys.length c'] 22)
  have k1 := (h1.keep hb).mono hb.size
  have k2 := (h2.keep hb).mono hb.size
  refine ⟨Nat.le_refl _, fun h => by simp at h, fun _ => ⟨w.heap.size, 0, rfl, by simp, fun k hk => ?_⟩⟩
  rw [Nat.zero_add, World.cell?_alloc_new]
  have : k = 0 ∨ k = 1 := by simp at hk; omega
  rcases this with rfl | rfl
  · exact ⟨A, c, rfl, k1⟩
  · exact ⟨A', c', rfl, k2⟩
theorem rds3 {w : World} {A A' A3 : Option Addr} {n m l c c' c3 : Nat} {xs ys zs : List UInt8} (hx : xs.length = n) (hy : ys.length = m) (hz : zs.length = l) (h1 : Rd w w.heap.size A c xs) (h2 : Rd w w.heap.size A' c' ys) (h3 : Rd w w.heap.size A3 c3 zs) :
    Rds (w.alloc (.cells #[.slice A n c, .slice A' m c', .slice A3 l c3] 22)) (w.alloc (.cells #[.slice A n c, .slice A' m c', .slice A3 l c3] 22)).heap.size (some ⟨w.heap.size, 0, none⟩) 3 [xs, ys, zs] := by
  subst hx hy hz
  have hb := (Below.refl w.heap.size w).alloc (Nat.le_refl _) (.cells #[.slice A xs.length c, .slice A' ys.length c', .slice A3 zs.length c3] 22)
  have k1 := (h1.keep hb).mono hb.size
  have k2 := (h2.keep hb).mono hb.size
  have k3 := (h3.keep hb).mono hb.size
  refine ⟨Nat.le_refl _, fun h => by simp at h, fun _ => ⟨w.heap.size, 0, rfl, by simp, fun k hk => ?_⟩⟩
  rw [Nat.zero_add, World.cell?_alloc_new]
  have : k = 0 ∨ k = 1 ∨ k = 2 := by simp at hk; omega
  rcases this with rfl | rfl | rfl
  · exact ⟨A, c, rfl, k1⟩
  · exact ⟨A', c', rfl, k2⟩
  · exact ⟨A3, c3, rfl, k3⟩
/-! A row that lies elsewhere. -/
theorem Rd.only {w w' : World} {B g c : Nat} {A : Option Addr} {bs : List UInt8} (h : Rd w B A c bs) (hx : Only g w w') (ho : Off g A) : Rd w' B A c bs :=
  ⟨h.cap, h.nil, fun hn => by
    obtain ⟨b, o, e, hlt, hc⟩ := h.some_ hn
    refine ⟨b, o, e, hlt, fun k hk => ?_⟩
    rw [← hc k hk]
    unfold World.cell?
    rw [hx.block b (ho ⟨b, o, none⟩ e)]⟩
theorem Off.own {w : World} {B g : Nat} {e : TypeId} {A : Option Addr} {c : Nat} {bs : List UInt8} (h : Own w B e A c bs) (hg : g < B) : Off g A := by
  obtain ⟨_, h2⟩ := h
  rcases h2 with ⟨hv, h0⟩ | ⟨g1, cap, cur, hv, hB, _⟩
  · simp only [Value.slice.injEq] at hv
    intro ad had
    rw [hv.1] at had
    cases had
  · simp only [Value.slice.injEq] at hv
    intro ad had
    rw [hv.1] at had
    cases had
    exact fun h => by simp only at h; omega
/-- A row of so many bytes, elsewhere. -/
def Bo (g n : Nat) (bs : List UInt8) (v : Value) (w : World) : Prop := ∃ A c, v = .slice A n c ∧ Rd w w.heap.size A c bs ∧ Off g A
theorem Bo.keep (g n : Nat) (bs : List UInt8) : ∀ v w w', Bo g n bs v w → Below w.heap.size w w' → Bo g n bs v w' := fun _ _ _ ⟨A, c, e, h, o⟩ hb => ⟨A, c, e, (h.keep hb).mono hb.size, o⟩
theorem join2 (xs ys : List UInt8) : joinL [xs, ys] = xs ++ ys := by simp [joinL]
theorem join3 (xs ys zs : List UInt8) : joinL [xs, ys, zs] = xs ++ ys ++ zs := by simp [joinL]
end Go.Proofs.YtkbkalhcdbklkaaGreatDoor
