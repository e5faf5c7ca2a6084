/-
  Layer 11's code: Cut, by the program's table of bits. Written by tools/gen_po4.py. By an AI agent.
-/
import Derived.Test.YtmhfkabpfkoocaaDoorPo1
namespace Go.Proofs.YtmhfkabpfkoocaaDoor
open Go Go.RowKit
set_option maxRecDepth 20000
/-- The bits that are cut, as the program's text lays them. -/
def ctab : List Nat := [0, 0, 0, 240, 3, 0, 0, 240, 3, 0, 0, 240, 3, 0, 0, 240]
structure GlbP (w : World) : Prop where
  c : ∀ k, k < 16 → w.cell? ⟨0, k, none⟩ = some (.int .u8 ((ctab.getD k 0 : Nat) : Int))
theorem GlbP.lt {w : World} (h : GlbP w) : 0 < w.heap.size := World.block_lt_of_cell? w ⟨0, 0, none⟩ (h.c 0 (by decide))
theorem GlbP.keep {w w' : World} (h : GlbP w) {B : Nat} (hb : Below B w w') (hB : 0 < B) : GlbP w' := ⟨fun k hk => (hb.cell (p := ⟨0, k, none⟩) hB).trans (h.c k hk)⟩
theorem GlbP.next {w w' : World} (h : GlbP w) (hb : Below w.heap.size w w') : GlbP w' := h.keep hb h.lt
theorem ctab_at : ∀ j, j < 16 → ctab.getD j 0 = if j % 4 = 3 then 240 else if j % 4 = 0 ∧ 0 < j then 3 else 0 := by decide +kernel
theorem not_240 : ∀ x : Fin 256, bits .andNot .u8 ((x.val : Nat) : Int) ((240 : Nat) : Int) = ((x.val % 16 : Nat) : Int) := by decide +kernel
theorem not_3 : ∀ x : Fin 256, bits .andNot .u8 ((x.val : Nat) : Int) ((3 : Nat) : Int) = ((x.val - x.val % 4 : Nat) : Int) := by decide +kernel
theorem not_0 : ∀ x : Fin 256, bits .andNot .u8 ((x.val : Nat) : Int) ((0 : Nat) : Int) = ((x.val : Nat) : Int) := by decide +kernel
theorem cut_bits (r : List UInt8) {j : Nat} (hj : j < 16) : bits .andNot .u8 ((nth r j : Nat) : Int) ((ctab.getD j 0 : Nat) : Int) = ((cutn r j : Nat) : Int) := by
  have hl := nth_lt r j
  rw [ctab_at j hj]
  unfold cutn
  by_cases h1 : j % 4 = 3
  · rw [if_pos h1, if_pos h1]; exact not_240 ⟨nth r j, hl⟩
  · rw [if_neg h1, if_neg h1]
    by_cases h2 : j % 4 = 0 ∧ 0 < j
    · rw [if_pos h2, if_pos h2]; exact not_3 ⟨nth r j, hl⟩
    · rw [if_neg h2, if_neg h2]; exact not_0 ⟨nth r j, hl⟩
/-- The answer behind k rounds. -/
def ocv (r : List UInt8) (k j : Nat) : Value := .int .u8 ((if j < k then cutn r j else 0 : Nat) : Int)
theorem oc_zero (r : List UInt8) (j : Nat) : Value.int .u8 0 = ocv r 0 j := by unfold ocv; rw [if_neg (by omega)]; rfl
theorem oc_step (r : List UInt8) (t j : Nat) : (if j = t then Value.int .u8 ((cutn r t : Nat) : Int) else ocv r t j) = ocv r (t + 1) j := by
  unfold ocv
  by_cases h : j = t
  · rw [if_pos h, if_pos (by omega), h]
  · rw [if_neg h]
    by_cases h2 : j < t
    · rw [if_pos h2, if_pos (by omega)]
    · rw [if_neg h2, if_neg (by omega)]
theorem oc_full (r : List UInt8) {j : Nat} (hj : j < 16) : ocv r 16 j = bvf (cutL r) j := by
  unfold ocv bvf
  rw [if_pos hj, cutL_nth r hj]
theorem oc_at (r : List UInt8) (t : Nat) : ocv r t t = .int .u8 0 := by unfold ocv; rw [if_neg (by omega)]; rfl
theorem ccut_bad {A : Option Addr} {n c : Nat} (hn : n ≠ 16) (w : World) :
    Calls Tryd.prog 44 #[.slice A n c] w fun e w' => e = .returned (.tuple #[.slice none 0 0, .int .i64 1]) ∧ Below w.heap.size w w' := by
  have g2 : ((n : Int) != 16) = true := by simp; omega
  go_enter Tryd.func44, Tryd.ntmps44
  go_wp2_with fail
  go_returns
  exact ⟨rfl, Below.refl _ _⟩
section
attribute [local irreducible] ocv ctab cutn cutL
set_option maxHeartbeats 1600000 in
theorem ccut_any {A : Option Addr} {c : Nat} {bs : List UInt8} (hl : bs.length = 16) (w : World) (hG : GlbP w) (hr : Rd w w.heap.size A c bs) :
    Calls Tryd.prog 44 #[.slice A 16 c] w fun e w' => ∃ A' c', e = .returned (.tuple #[.slice A' 16 c', .int .i64 0]) ∧ Own w' w.heap.size 5 A' c' (cutL bs) ∧ Below w.heap.size w w' := by
  obtain ⟨i0, hi, hz0, hz1, hz2⟩ := info_parts infoByte
  have hmk := run_mk (P := Tryd.prog) 22 5 i0 Tryd.underlying22 hi hz0 hz1 hz2 (l := 16) (n := 16) rfl (by decide)
  have oz : OwnF (w.alloc (.cells (madeCells #[.int .u8 0] 16) 5)) w.heap.size 5 (some ⟨w.heap.size, 0, none⟩) 16 16 (ocv bs 0) := OwnF.congr (OwnF.made 5 (.int .u8 0) (Nat.le_refl _) (by decide)) fun k _ => oc_zero bs k
  have hc : Below w.heap.size w (w.alloc (.cells (madeCells #[.int .u8 0] 16) 5)) := (Below.refl _ w).alloc (Nat.le_refl _) _
  obtain ⟨b0, o0, rfl, _, _⟩ := hr.at_ (k := 0) (by omega)
  have hcap := hr.cap
  rw [hl] at hcap
  have HR := Lib.hid (fun (v : World) (hv : Below w.heap.size w v) (k : Nat) (hk : k < 16) => show v.cell? ⟨b0, o0 + k, none⟩ = some (.int .u8 ((nth bs k : Nat) : Int)) by
    obtain ⟨b, o, e, _, hcell⟩ := (hr.keep hv).at_ (k := k) (by omega)
    simp only [Option.some.injEq, Addr.mk.injEq] at e
    rw [e.1, e.2.1]
    exact hcell)
  have HG := Lib.hid (fun (v : World) (hv : Below w.heap.size w v) => hG.next hv)
  clear hr hG hl
  go_enter Tryd.func44, Tryd.ntmps44
  go_wp2_with fail
  obtain ⟨w1, e1⟩ : ∃ v, v = w.alloc (.cells (madeCells #[.int .u8 0] 16) 5) := ⟨_, rfl⟩
  obtain ⟨g, eg⟩ : ∃ g, g = w.heap.size := ⟨_, rfl⟩
  rw [← e1] at oz hc ⊢
  replace oz : OwnF w1 w.heap.size 5 (some ⟨g, 0, none⟩) 16 16 (ocv bs 0) := by rw [eg]; exact oz
  rw [← eg]
  clear e1 eg hmk
  go_loopw [10] (fun i wr => ∃ t : Nat, t ≤ 16 ∧ i = .int .i64 (t : Int) ∧ OwnF wr w.heap.size 5 (some ⟨g, 0, none⟩) 16 16 (ocv bs t) ∧ Below w.heap.size w wr)
    (fun i _ => 20 - (intOf i).toNat)
  case atStart => exact ⟨0, by omega, rfl, oz, hc⟩
  case round =>
    obtain ⟨t, ht, rfl, ok, hb⟩ := hrel
    clear oz hc
    by_cases hlt : t < 16
    · have g1 : (t : Int) < 16 := by omega
      have HC := Lib.hid (fun wz (hz : Below wr.heap.size wr wz) => HR.out wz (hb.trans (hz.mono hb.size)) t hlt)
      have HT := Lib.hid (fun wz (hz : Below wr.heap.size wr wz) => (HG.out wz (hb.trans (hz.mono hb.size))).c t hlt)
      have hbit := cut_bits bs hlt
      have hn := nth_lt bs t
      have HF := Lib.hid (oc_step bs t)
      have HOK := Lib.hid ok
      have e3 : IntKind.i64.wrap ((t : Int) + 1) = (t : Int) + 1 := by rw [IntKind.wrap_i64]; omega
      generalize nth bs t = x at *
      generalize ctab.getD t 0 = c2 at *
      generalize cutn bs t = y at *
      clear hn ok
      go_upto_region 7 with fail
      refine wp_region_inv 11 [13, 14, 15, 16, 17, 18, 19, 20, 21, 22, 23] [.val (.slice (some ⟨g, 0, none⟩) 16 16), .val (.int .i64 (t : Int)), .val (.slice (some ⟨b0, o0, none⟩) 16 c), .val (.int .i64 (t : Int)), .val (.pointer (some ⟨b0, o0 + t, none⟩)), .val (.int .u8 (x : Int)), .val (.int .i64 (t : Int)), .val (.pointer (some ⟨0, t, none⟩)), .val (.int .u8 (c2 : Int)), .val (.int .u8 (y : Int)), .val (.pointer (some ⟨g, t, none⟩))] (fun wz => Below wr.heap.size wr wz) (by kernel_rfl) (by kernel_rfl) (fun wz wz' hz hb => hz.trans (hb.mono hz.size)) ((Below.refl _ _).drew) (fun u => by simp only [puts, List.foldl_cons, List.foldl_nil]; go_simp; exact rfl) ?_ ?_
      · simp only [List.take_succ_cons, List.take_zero]
        refine Obs.cons (fun u w hS hd => ?_) ?_
        · exact Gv.run (.slice (some ⟨g, 0, none⟩) 16 16) rfl (by go_simp) rfl
        refine Obs.cons (fun u w hS hd => ?_) ?_
        · exact Gv.run (.int .i64 (t : Int)) rfl (by go_simp) rfl
        refine Obs.cons (fun u w hS hd => ?_) ?_
        · exact Gv.run (.slice (some ⟨b0, o0, none⟩) 16 c) rfl (by go_simp) rfl
        refine Obs.cons (fun u w hS hd => ?_) ?_
        · exact Gv.run (.int .i64 (t : Int)) rfl (by go_simp) rfl
        refine Obs.cons (fun u w hS hd => ?_) ?_
        · have d15 : u 15 = .slice (some ⟨b0, o0, none⟩) 16 c := dep hd 2 rfl
          have d16 : u 16 = .int .i64 (t : Int) := dep hd 3 rfl
          rw [d15, d16]
          exact Gv.run (.pointer (some ⟨b0, o0 + t, none⟩)) rfl (by go_simp) rfl
        refine Obs.cons (fun u w hS hd => ?_) ?_
        · have d17 : u 17 = .pointer (some ⟨b0, o0 + t, none⟩) := dep hd 4 rfl
          rw [d17]
          exact Gv.run (.int .u8 (x : Int)) rfl (by have hcl := HC.out w hS; go_simp) rfl
        refine Obs.cons (fun u w hS hd => ?_) ?_
        · exact Gv.run (.int .i64 (t : Int)) rfl (by go_simp) rfl
        refine Obs.cons (fun u w hS hd => ?_) ?_
        · have d19 : u 19 = .int .i64 (t : Int) := dep hd 6 rfl
          rw [d19]
          exact Gv.run (.pointer (some ⟨0, t, none⟩)) rfl (by go_simp) rfl
        refine Obs.cons (fun u w hS hd => ?_) ?_
        · have d20 : u 20 = .pointer (some ⟨0, t, none⟩) := dep hd 7 rfl
          rw [d20]
          exact Gv.run (.int .u8 (c2 : Int)) rfl (by have hcl := HT.out w hS; go_simp) rfl
        refine Obs.cons (fun u w hS hd => ?_) ?_
        · have d18 : u 18 = .int .u8 (x : Int) := dep hd 5 rfl
          have d21 : u 21 = .int .u8 (c2 : Int) := dep hd 8 rfl
          rw [d18, d21]
          exact Gv.run (.int .u8 (y : Int)) rfl (by go_simp) rfl
        refine Obs.cons (fun u w hS hd => ?_) ?_
        · have d13 : u 13 = .slice (some ⟨g, 0, none⟩) 16 16 := dep hd 0 rfl
          have d14 : u 14 = .int .i64 (t : Int) := dep hd 1 rfl
          rw [d13, d14]
          exact Gv.run (.pointer (some ⟨g, t, none⟩)) rfl (by go_simp) rfl
        exact Obs.nil
      · intro u v2 hS hd
        have d22 : u 22 = .int .u8 (y : Int) := hd 9 (by decide)
        have d23 : u 23 = .pointer (some ⟨g, t, none⟩) := hd 10 (by decide)
        rw [d22, d23]
        have ok := HOK.out.keep hS
        have hcl : v2.cell? ⟨g, t, none⟩ = some (.int .u8 0) := by rw [OwnF.cell ok (k := t) hlt, oc_at]
        have fr := OwnF.free ok t
        have o2 := (OwnF.set_ ok t (.int .u8 (y : Int))).congr (g := ocv bs (t + 1)) fun j _ => HF.out j
        have hb2 := (hb.trans (hS.mono hb.size)).setCell (p := ⟨g, t, none⟩) (OwnF.ge ok) (.int .u8 (y : Int))
        simp only [List.drop_succ_cons, List.drop_zero]
        go_wp2_with fail
        go_roundw
        case rel => exact ⟨t + 1, by omega, by go_num, o2, hb2⟩
        case measure => simp [intOf]; omega
    · obtain rfl : t = 16 := by omega
      simp only [Int.cast_ofNat_Int]
      go_wp2_with fail
      go_returns
      exact ⟨_, _, rfl, p_ofF ok (cutL_len _) fun k hk => oc_full bs hk, hb⟩
end
end Go.Proofs.YtmhfkabpfkoocaaDoor
