/-
  The code's sum, of both words; Sum256, Sum512 (layer 6). Written by tools/gen_n27.py. By an AI agent. The code's Sum256, Sum512 (layer 6). Written by tools/gen_n29.py. By an AI agent.
-/
import Derived.Test.YtgaofocjnifjdaaDoorN26
import Derived.Test.YtgaofocjnifjdaaDoorJ03
namespace Go.Proofs.YtgaofocjnifjdaaDoor
open Go Go.RowKit
set_option maxRecDepth 20000

/-- The answer's cells, as far as they are written. -/
def oc32 (O : List UInt8) (i j : Nat) : Value := if j < i * 4 then .int .u8 ((nth O j : Nat) : Int) else .int .u8 0
section
attribute [local irreducible] rl setA subA bvf padR bput fput runs oc32 sumR
end

/-- The answer's cells, as far as they are written. -/
def oc64 (O : List UInt8) (i j : Nat) : Value := if j < i * 8 then .int .u8 ((nth O j : Nat) : Int) else .int .u8 0
theorem oc64_zero (O : List UInt8) : oc64 O 0 = fun _ => .int .u8 0 := by funext j; unfold oc64; rw [if_neg (by omega)]
theorem oc64_all {O : List UInt8} {j : Nat} (h : j < 64) : oc64 O 8 j = bvf O j := by unfold oc64 bvf; rw [if_pos (by omega)]
theorem oc64_succ (V : Nat → Nat) {i L : Nat} (hi : i < 8) (hL : L = i * 8) (j : Nat) : bput (oc64 (gen (outB greatS V) 64) i) L 8 (V i) 8 j = oc64 (gen (outB greatS V) 64) (i + 1) j := by
  unfold bput oc64
  by_cases h1 : L + 8 ≤ j + 8 ∧ j < L + 8
  · rw [if_pos h1, if_pos (by omega), nth_gen (by omega), outB_nat]
    unfold bb
    show Value.int .u8 ((V i / 2 ^ (8 * (L + 8 - 1 - j)) % 256 : Nat) : Int) = .int .u8 ((V (j / 8) / 2 ^ (64 - 8 - 8 * (j % 8)) % 256 : Nat) : Int)
    rw [show j / 8 = i by omega, show 64 - 8 - 8 * (j % 8) = 8 * (L + 8 - 1 - j) by omega]
  · rw [if_neg h1]
    by_cases h2 : j < i * 8
    · rw [if_pos h2, if_pos (by omega)]
    · rw [if_neg h2, if_neg (by omega)]
section
attribute [local irreducible] rl setA subA bvf padR bput fput runs oc64 sumR
set_option maxHeartbeats 3200000 in
theorem sum_64 {V : Nat → Nat} {A0 : Option Addr} {B c0 all : Nat} {bs : List UInt8} (hV : ∀ i, V i < 18446744073709551616) (hlen : bs.length ≤ 140737488355328) (ha : all ≤ 281474976710656) (w : World) (hG : GlbS w) (hr : Rd w B A0 c0 bs) (hB : B ≤ w.heap.size) :
    Calls Tryd.prog 48 #[av 8 (iv64 V), .slice A0 bs.length c0, .int .u64 (all : Int)] w fun e w' => ∃ g, e = .returned (.slice (some ⟨g, 0, none⟩) 64 64) ∧ OwnF w' w.heap.size 5 (some ⟨g, 0, none⟩) 64 64 (bvf (sumR greatS V bs all)) ∧ Below w.heap.size w w' := by
  obtain ⟨i0, hi0', hz0, hz1, hz2⟩ := info_parts infoB6
  have hwl : bs.length / 128 * 128 ≤ bs.length := Nat.div_mul_le_self _ _
  have hrest : (bs.drop (bs.length / 128 * 128)).length = bs.length - bs.length / 128 * 128 := List.length_drop
  have hrest2 : (bs.drop (bs.length / 128 * 128)).length < 128 := by rw [hrest]; omega
  have hsum : sumR greatS V bs all = gen (outB greatS (runs greatS (runs greatS V bs (bs.length / 128)) (padR greatS (bs.drop (bs.length / 128 * 128)) all) ((padR greatS (bs.drop (bs.length / 128 * 128)) all).length / 128))) 64 := by unfold sumR; rfl
  have hr2 : Rd w B (subA A0 c0 (bs.length / 128 * 128)) (c0 - bs.length / 128 * 128) (bs.drop (bs.length / 128 * 128)) := hr.drop_ hwl
  have hV1 : ∀ i, runs greatS V bs (bs.length / 128) i < 18446744073709551616 := fun i => runs_lt (S := greatS) hV bs _ i
  have KT1 := Lib.hid (fun w hG hr hB => take_64 (A0 := A0) (B := B) (c0 := c0) (bs := bs) hV hlen w hG hr hB)
  rw [← hrest] at KT1
  generalize runs greatS V bs (bs.length / 128) = V1 at *
  generalize subA A0 c0 (bs.length / 128 * 128) = A1 at *
  generalize c0 - bs.length / 128 * 128 = c1 at *
  generalize bs.drop (bs.length / 128 * 128) = rs at *
  have hPl : (padR greatS rs all).length ≤ 140737488355328 := by rw [pad_len_64 hrest2]; split <;> omega
  have hV2 : ∀ i, runs greatS V1 (padR greatS rs all) ((padR greatS rs all).length / 128) i < 18446744073709551616 := fun i => runs_lt (S := greatS) hV1 _ _ i
  have KP := Lib.hid (fun w hr hB => pad_64 (A0 := A1) (B := B) (c0 := c1) (rest := rs) hrest2 ha w hr hB)
  have KT2 := Lib.hid (fun A c B w hG hr hB => take_64 (V := V1) (A0 := A) (B := B) (c0 := c) (bs := padR greatS rs all) hV1 hPl w hG hr hB)
  generalize padR greatS rs all = PD at *
  generalize runs greatS V1 PD (PD.length / 128) = V2 at *
  have HSU := Lib.hid hsum
  have HV2 := Lib.hid hV2
  have HR2 := Lib.hid hr2
  clear hsum hV2 hr2 hrest hrest2 hwl hV1 hPl hV hlen ha
  have oa := OwnF.lit (w := w) (B := w.heap.size) 63 (Nat.le_refl _) (rl 8 (iv64 V)).toArray 8 (iv64 V) (by decide) (by unfold rl; simp)
  have hc := (Below.refl w.heap.size w).alloc (Nat.le_refl _) (.cells (rl 8 (iv64 V)).toArray 63)
  obtain ⟨v1, e1⟩ : ∃ v, v = w.alloc (.cells (rl 8 (iv64 V)).toArray 63) := ⟨_, rfl⟩
  rw [← e1] at oa hc
  obtain ⟨gA, hgA⟩ : ∃ g, g = w.heap.size := ⟨_, rfl⟩
  replace oa : OwnF v1 w.heap.size 63 (some ⟨gA, 0, none⟩) 8 8 (iv64 V) := by rw [hgA]; exact oa
  have hcl := Lib.hid (OwnF.cl (off := 0) (n := 8) oa (by decide) (fun k hk => by rw [Nat.zero_add]))
  have E1 := Lib.hid e1.symm
  have HGA := Lib.hid hgA
  clear e1 hgA
  go_enter Tryd.func48, Tryd.ntmps48
  go_upto_region 1 with fail
  rw [E1.out]
  rw [show (Value.pointer (some ⟨w.heap.size, 0, none⟩)) = .pointer (some ⟨gA, 0, none⟩) by rw [HGA.out]]
  clear E1 HGA
  go_wp2_with ((with_reducible refine av_load hcl.out ty8_64 ?_ ?_); rfl)
  go_at_call 64
  refine (KT1.out _ (hG.next hc) (hr.keep (hc.mono hB)) (Nat.le_trans hB hc.size)).mono ?_
  rintro e v2 ⟨rfl, h0⟩
  replace oa := OwnF.keep oa h0
  replace hc := hc.trans (h0.mono hc.size)
  clear h0 KT1 hcl
  have hcs := Lib.hid (hc.trans ((av_only v2 gA 0 8 (iv64 V1)).below (OwnF.ge oa)))
  have oas := Lib.hid (av_all oa (iv64 V1))
  go_upto_region 2 with ((with_reducible refine av_store (off := 0) oa ty8_64 (by decide) (iv64 V1) (fun k _ => rfl) ?_ ?_ ?_); rfl; rfl)
  obtain ⟨v3, e3⟩ : ∃ v, v = setA v2 gA 0 8 (iv64 V1) := ⟨_, rfl⟩
  have oa3 := oas.out
  have hc3 := hcs.out
  rw [← e3] at oa3 hc3 ⊢
  clear e3 oas hcs oa hc
  have HCL := Lib.hid (fun w1 (hz : Below v3.heap.size v3 w1) => OwnF.cl (off := 0) (n := 8) (OwnF.keep oa3 hz) (by decide) (fun k hk => by rw [Nat.zero_add]))
  have KP3 := Lib.hid (fun w1 (hz : Below v3.heap.size v3 w1) => KP.out w1 ((HR2.out.keep (hc3.mono hB)).keep (hz.mono (Nat.le_trans hB hc3.size))) (Nat.le_trans hB (Nat.le_trans hc3.size hz.size)))
  have KT3 := Lib.hid (fun A c w1 (hz : Below v3.heap.size v3 w1) (h : Rd w1 w1.heap.size A c PD) => KT2.out A c w1.heap.size w1 (hG.next (hc3.trans (hz.mono hc3.size))) h (Nat.le_refl _))
  clear KP KT2 HR2
  refine wp_region_dead 8 7 [18, 19, 20, 21, 22, 17, 23, 24] [.val (av 8 (iv64 V1)), .val (.slice A1 rs.length c1), .val (.int .u64 (all : Int)), .byt PD, .tup (av 8 (iv64 V2)), .tup (av 8 (iv64 V2)), .val (av 8 (iv64 V2)), .any]
    (fun wz => Below v3.heap.size v3 wz) (fun wz => ∃ w9, Below v3.heap.size v3 w9 ∧ wz = setA w9 gA 0 8 (iv64 V2)) (by kernel_rfl) (by kernel_rfl) (fun wz wz' hz hb => hz.trans (hb.mono hz.size)) ((Below.refl _ _).drew) (fun u => by simp only [puts, List.foldl_cons, List.foldl_nil]; go_simp; exact rfl) ?_ _ _ rfl rfl ?_ ?_ ?_
  · simp only [List.take_succ_cons, List.take_zero]
    refine Obs.cons (fun u w hS hd => ?_) ?_
    · exact Gv.run (av 8 (iv64 V1)) rfl (av_run rfl rfl (HCL.out w hS) ty8_64) rfl
    refine Obs.cons (fun u w hS hd => ?_) ?_
    · exact Gv.run (.slice A1 rs.length c1) rfl (by go_simp) rfl
    refine Obs.cons (fun u w hS hd => ?_) ?_
    · exact Gv.run (.int .u64 (all : Int)) rfl (by go_simp) rfl
    refine Obs.cons (fun u w hS hd => ?_) ?_
    · have d19 : u 19 = .slice A1 rs.length c1 := dep hd 1 rfl
      have d20 : u 20 = .int .u64 (all : Int) := dep hd 2 rfl
      rw [d19, d20]
      refine Gv.call 65 #[.slice A1 rs.length c1, .int .u64 (all : Int)] rfl (by go_simp) ((KP3.out w hS).mono ?_)
      rintro e w' ⟨g, rfl, R, hb⟩
      exact ⟨_, rfl, ⟨_, _, rfl, R⟩, hb⟩
    refine Obs.cons (fun u w hS hd => ?_) ?_
    · have d18 : u 18 = av 8 (iv64 V1) := dep hd 0 rfl
      obtain ⟨A, c, d21, g21⟩ : (Know.byt PD).ok (u 21) w := dep hd 3 rfl
      rw [d18, d21]
      refine Gv.call 64 #[av 8 (iv64 V1), .slice A PD.length c] rfl (by go_simp) ((KT3.out A c w hS g21).mono ?_)
      rintro e w' ⟨rfl, hb⟩
      exact ⟨_, rfl, ⟨_, rfl⟩, hb⟩
    refine Obs.cons (fun u w hS hd => ?_) ?_
    · obtain ⟨y, d22⟩ : (Know.tup (av 8 (iv64 V2))).ok (u 22) w := dep hd 4 rfl
      rw [d22]
      exact Gv.run (.tuple #[av 8 (iv64 V2), y]) rfl (by go_simp) ⟨y, rfl⟩
    refine Obs.cons (fun u w hS hd => ?_) ?_
    · obtain ⟨y, d17⟩ : (Know.tup (av 8 (iv64 V2))).ok (u 17) w := dep hd 5 rfl
      rw [d17]
      exact Gv.run (av 8 (iv64 V2)) rfl (by go_simp) rfl
    refine Obs.cons (fun u w hS hd => ?_) ?_
    · obtain ⟨y, d17⟩ : (Know.tup (av 8 (iv64 V2))).ok (u 17) w := dep hd 5 rfl
      rw [d17]
      exact Gv.run y rfl (by go_simp) trivial
    exact Obs.nil
  · intro u w hS hd
    have d23 : u 23 = av 8 (iv64 V2) := hd 6 (by decide) (by decide)
    rw [d23]
    exact ⟨rfl, _, av_sets (off := 0) rfl (OwnF.keep oa3 hS) ty8_64 (by decide) (iv64 V2) (fun k _ => rfl) rfl rfl, w, hS, rfl⟩
  · intro u w hd w'
    obtain ⟨y, d17⟩ : (Know.tup (av 8 (iv64 V2))).ok (u 17) w := hd 5 (by decide) (by decide)
    rw [d17]
    exact ⟨rfl, y, by go_simp⟩
  rintro u w5 ⟨wz, hS, rfl⟩
  have oa5 := av_all (OwnF.keep oa3 hS) (iv64 V2)
  have hc5 := (hc3.trans (hS.mono hc3.size)).trans ((av_only wz gA 0 8 (iv64 V2)).below (OwnF.ge oa3))
  have hgl := OwnF.lt oa5
  obtain ⟨v6, e6⟩ : ∃ v, v = setA wz gA 0 8 (iv64 V2) := ⟨_, rfl⟩
  rw [← e6] at oa5 hc5 hgl ⊢
  have HAO := Lib.hid (fun (n g : Nat) (h : g = v6.heap.size) => show gA ≠ g by omega)
  clear hgl
  clear e6 oa3 hc3 hS HCL KP3 KT3
  go_wp2_with fail
  go_at_call 66
  refine (size_64 _).mono ?_
  rintro e v7 ⟨rfl, e7⟩
  subst v7
  have hmk := run_mk (P := Tryd.prog) 22 5 i0 Tryd.underlying22 hi0' hz0 hz1 hz2 (l := 64) (n := 64) rfl (by omega)
  have hw1 : IntKind.i64.wrap 64 = 64 := rfl
  have oO := OwnF.made (w := v6) (B := w.heap.size) 5 (.int .u8 0) (n := 64) hc5.size (by decide)
  have hcA := (Below.refl v6.heap.size v6).alloc (Nat.le_refl _) (.cells (madeCells #[.int .u8 0] 64) 5)
  replace oa5 := OwnF.keep oa5 hcA
  replace hc5 := hc5.trans (hcA.mono hc5.size)
  have hne := OwnF.lt oa5
  go_wp2_with fail
  obtain ⟨v8, e8⟩ : ∃ v, v = v6.alloc (.cells (madeCells #[.int .u8 0] 64) 5) := ⟨_, rfl⟩
  rw [← e8] at oa5 oO hc5 ⊢
  obtain ⟨gO, eg⟩ : ∃ g, g = v6.heap.size := ⟨_, rfl⟩
  replace oO : OwnF v8 w.heap.size 5 (some ⟨gO, 0, none⟩) 64 64 (fun _ => .int .u8 0) := by rw [eg]; exact oO
  rw [show Value.slice (some ⟨v6.heap.size, 0, none⟩) 64 64 = .slice (some ⟨gO, 0, none⟩) 64 64 by rw [eg]]
  have hAO : gA ≠ gO := HAO.out 0 gO eg
  clear e8 eg hmk hcA hne
  go_loopw [29] (fun c wr => ∃ i : Nat, i ≤ 8 ∧ c = .int .i64 (i : Int) ∧ OwnF wr w.heap.size 5 (some ⟨gO, 0, none⟩) 64 64 (oc64 (gen (outB greatS V2) 64) i) ∧ OwnF wr w.heap.size 63 (some ⟨gA, 0, none⟩) 8 8 (iv64 V2) ∧ Below w.heap.size w wr)
    (fun c _ => 8 - (intOf c).toNat)
  case atStart => exact ⟨0, by omega, rfl, by rw [oc64_zero]; exact oO, oa5, hc5⟩
  case round =>
    clear oO oa5 hc5
    obtain ⟨i, hi, rfl, oO, oa, hc⟩ := hrel
    by_cases hlt : i < 8
    · have g1 : (i : Int) < 8 := by omega
      obtain ⟨L, hL⟩ : ∃ L, L = i * 8 := ⟨_, rfl⟩
      obtain ⟨H, hH⟩ : ∃ H, H = L + 8 := ⟨_, rfl⟩
      obtain ⟨i1, hi1⟩ : ∃ x, x = i + 1 := ⟨_, rfl⟩
      have E1 := Lib.hid (show IntKind.i64.wrap ((i : Int) * 8) = (L : Int) by rw [IntKind.wrap_i64]; omega)
      have E0 := Lib.hid (show IntKind.i64.wrap ((i : Int) + 1) = (i1 : Int) by rw [IntKind.wrap_i64]; omega)
      have E2 := Lib.hid (show IntKind.i64.wrap ((i1 : Int) * 8) = (H : Int) by rw [IntKind.wrap_i64]; omega)
      have HLH := Lib.hid (show L ≤ H ∧ H ≤ 64 ∧ H - L = 8 ∧ 64 ≠ L by omega)
      have I8 := Lib.hid (show (0 : Int) ≤ (i : Int) ∧ (i : Int) < 8 by omega)
      have HLe := Lib.hid (show L + 8 ≤ 64 by omega)
      have HOC := Lib.hid (fun j => oc64_succ V2 (i := i) (L := L) hlt hL j)
      have hvc : ∀ wz, Below wr.heap.size wr wz → wz.cell? ⟨gA, i, none⟩ = some (.int .u64 ((V2 i : Nat) : Int)) := fun wz hz => OwnF.cell (OwnF.keep oa hz) hlt
      generalize V2 i = vi at *
      have HVC := Lib.hid hvc
      have HI := Lib.hid hi1
      clear hvc hL hH hi1
      go_upto_region 8 with fail
      refine wp_region_inv 12 [32, 33, 34, 35, 36, 37, 38, 39, 40, 41, 42, 43] [.val (.slice (some ⟨gO, 0, none⟩) 64 64), .val (.int .i64 (i : Int)), .val (.int .i64 8), .val (.int .i64 (L : Int)), .val (.int .i64 (i : Int)), .val (.int .i64 (i1 : Int)), .val (.int .i64 8), .val (.int .i64 (H : Int)), .val (.slice (some ⟨gO, L, none⟩) 8 (64 - L)), .val (.int .i64 (i : Int)), .val (.pointer (some ⟨gA, i, none⟩)), .val (.int .u64 (vi : Int))] (fun wz => Below wr.heap.size wr wz) (by kernel_rfl) (by kernel_rfl) (fun wz wz' hz hb => hz.trans (hb.mono hz.size)) ((Below.refl _ _).drew) (fun u => by simp only [puts, List.foldl_cons, List.foldl_nil]; go_simp; exact rfl) ?_ ?_
      · simp only [List.take_succ_cons, List.take_zero]
        refine Obs.cons (fun u w hS hd => ?_) ?_
        · exact Gv.run (.slice (some ⟨gO, 0, none⟩) 64 64) rfl (by go_simp) rfl
        refine Obs.cons (fun u w hS hd => ?_) ?_
        · exact Gv.run (.int .i64 (i : Int)) rfl (by go_simp) rfl
        refine Obs.cons (fun u w hS hd => ?_) ?_
        · exact Gv.run (.int .i64 8) rfl (by go_simp) rfl
        refine Obs.cons (fun u w hS hd => ?_) ?_
        · have d33 : u 33 = .int .i64 (i : Int) := dep hd 1 rfl
          have d34 : u 34 = .int .i64 8 := dep hd 2 rfl
          rw [d33, d34]
          have hq := E1.out
          exact Gv.run (.int .i64 (L : Int)) rfl (by go_simp) rfl
        refine Obs.cons (fun u w hS hd => ?_) ?_
        · exact Gv.run (.int .i64 (i : Int)) rfl (by go_simp) rfl
        refine Obs.cons (fun u w hS hd => ?_) ?_
        · have d36 : u 36 = .int .i64 (i : Int) := dep hd 4 rfl
          rw [d36]
          have hq := E0.out
          exact Gv.run (.int .i64 (i1 : Int)) rfl (by go_simp) rfl
        refine Obs.cons (fun u w hS hd => ?_) ?_
        · exact Gv.run (.int .i64 8) rfl (by go_simp) rfl
        refine Obs.cons (fun u w hS hd => ?_) ?_
        · have d37 : u 37 = .int .i64 (i1 : Int) := dep hd 5 rfl
          have d38 : u 38 = .int .i64 8 := dep hd 6 rfl
          rw [d37, d38]
          have hq := E2.out
          exact Gv.run (.int .i64 (H : Int)) rfl (by go_simp) rfl
        refine Obs.cons (fun u w hS hd => ?_) ?_
        · have d32 : u 32 = .slice (some ⟨gO, 0, none⟩) 64 64 := dep hd 0 rfl
          have d35 : u 35 = .int .i64 (L : Int) := dep hd 3 rfl
          have d39 : u 39 = .int .i64 (H : Int) := dep hd 7 rfl
          rw [d32, d35, d39]
          exact Gv.run (.slice (some ⟨gO, L, none⟩) 8 (64 - L)) rfl (slice_op_at rfl rfl rfl rfl HLH.out.1 HLH.out.2.1 HLH.out.2.2.1 HLH.out.2.2.2) rfl
        refine Obs.cons (fun u w hS hd => ?_) ?_
        · exact Gv.run (.int .i64 (i : Int)) rfl (by go_simp) rfl
        refine Obs.cons (fun u w hS hd => ?_) ?_
        · have d41 : u 41 = .int .i64 (i : Int) := dep hd 9 rfl
          rw [d41]
          exact Gv.run (.pointer (some ⟨gA, i, none⟩)) rfl (by obtain ⟨h1, h2⟩ := I8.out; go_simp) rfl
        refine Obs.cons (fun u w hS hd => ?_) ?_
        · have d42 : u 42 = .pointer (some ⟨gA, i, none⟩) := dep hd 10 rfl
          rw [d42]
          exact Gv.run (.int .u64 (vi : Int)) rfl (by have h1 := HVC.out w hS; go_simp) rfl
        exact Obs.nil
      intro u wz hS hd
      have d40 : u 40 = .slice (some ⟨gO, L, none⟩) 8 (64 - L) := hd 8 (by decide)
      have d43 : u 43 = .int .u64 (vi : Int) := hd 11 (by decide)
      rw [d40, d43]
      clear hd d40 d43 HVC E0 E1 E2 HLH I8
      simp only [List.drop_succ_cons, List.drop_zero]
      go_wp2_with fail
      go_at_call 67
      refine (put_64 (o := L) (N := 64) HLe.out wz (OwnF.keep oO hS)).mono ?_
      rintro e w9 ⟨rfl, o9, h9⟩
      go_wp2_with fail
      exact ⟨⟨i + 1, by omega, by go_num, OwnF.congr o9 fun j _ => HOC.out j, OwnF.only (OwnF.keep oa hS) h9 (Ne.symm hAO), (hc.trans (hS.mono hc.size)).trans (h9.below (OwnF.ge oO))⟩, by simp [intOf]; omega⟩
    · obtain rfl : i = 8 := by omega
      simp only [Int.cast_ofNat_Int]
      go_wp2_with fail
      go_ret
      exact ⟨gO, rfl, by rw [HSU.out]; exact OwnF.congr oO fun j hj => oc64_all hj, hc⟩
end
end Go.Proofs.YtgaofocjnifjdaaDoor
namespace Go.Proofs.YtgaofocjnifjdaaDoor
open Go Go.RowKit
set_option maxRecDepth 20000
theorem fst_great (i : Nat) : fst greatS i < 18446744073709551616 := greatOk.first.2 i
section
attribute [local irreducible] rl setA bvf sumR sumN fst runs
set_option maxHeartbeats 1600000 in
theorem code512 {A0 : Option Addr} {B c0 : Nat} {bs : List UInt8} (hlen : bs.length ≤ 140737488355328) (w : World) (hG : GlbS w) (hr : Rd w B A0 c0 bs) (hB : B ≤ w.heap.size) :
    Calls Tryd.prog 24 #[.slice A0 bs.length c0] w fun e w' => ∃ g, e = .returned (.slice (some ⟨g, 0, none⟩) 64 64) ∧ OwnF w' w.heap.size 5 (some ⟨g, 0, none⟩) 64 64 (bvf (sumN greatS bs)) ∧ Below w.heap.size w w' := by
  have hk := sum_64 (V := fst greatS) (A0 := A0) (B := B) (c0 := c0) (all := bs.length) (bs := bs) fst_great hlen (by omega) w hG hr hB
  rw [sumR_all (S := greatS) (.inr rfl)] at hk
  have KS := Lib.hid hk
  have hcl : Cl w 1 0 8 (iv64 (fst greatS)) := fun k hk => by rw [Nat.zero_add]; exact hG.b k hk
  have HCL := Lib.hid hcl
  have hw1 : IntKind.u64.wrap (bs.length : Int) = (bs.length : Int) := by rw [IntKind.wrap_u64]; omega
  clear hk hcl hr hG
  go_enter Tryd.func24, Tryd.ntmps24
  go_wp2_with ((with_reducible refine av_load HCL.out ty8_64 ?_ ?_); rfl)
  go_at_call 48
  refine KS.out.mono ?_
  rintro e v1 ⟨g, rfl, o, hb⟩
  go_wp2_with fail
  go_ret
  exact ⟨g, rfl, o, hb⟩
end
end Go.Proofs.YtgaofocjnifjdaaDoor
