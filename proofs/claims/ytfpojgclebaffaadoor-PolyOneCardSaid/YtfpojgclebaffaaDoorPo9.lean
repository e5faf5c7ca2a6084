/-
  Layer 11's own, awake, one contract for whatever Cut and Tag answer. By an AI agent.
-/
import Derived.Test.YtfpojgclebaffaaDoorPo8
namespace Go.Proofs.YtfpojgclebaffaaDoor
open Go Go.RowKit
set_option maxRecDepth 20000
theorem own11_any {A : Option Addr} {B c : Nat} {bs : List UInt8} (w : World) (hr : Rd w B A c bs) (hB : B ≤ w.heap.size) (hl : bs.length ≤ 140737488355328) :
    Calls Tryd.prog 7 #[.slice A bs.length c] w fun e w' => ∃ A' c', e = .returned (.slice A' bs.length c') ∧ Own w' w.heap.size 5 A' c' bs ∧ Below w.heap.size w w' := by
  obtain ⟨i0, hi, hz0, hz1, hz2⟩ := info_parts infoByte
  have h2 : Rd (w.alloc (.cells #[] 5)) B A c bs := hr.keep ((Below.refl B w).alloc hB _)
  have h3 : Own (w.alloc (.cells #[] 5)) w.heap.size 5 (some ⟨w.heap.size, 0, none⟩) 0 [] := World.ownsRow_made w #[] 0 (Nat.le_refl _) (by decide) (by decide)
  have h4 : Below w.heap.size w (w.alloc (.cells #[] 5)) := (Below.refl _ w).alloc (Nat.le_refl _) _
  go_enter Tryd.func7, Tryd.ntmps7
  go_wp2_with (at_builtin; refine wpList_app _ rfl (.tmp 3) (.tmp 4) _ rfl w.heap.size 5 i0 _ Tryd.underlying22 hi hz0 hz1 hz2 rfl (xs := []) rfl h3 rfl h2 (by simpa using hl) (by simp) ?_; intro A1 c1 v1 ho hb)
  replace ho : Own v1 w.heap.size 5 A1 c1 bs := ho
  go_ret
  exact ⟨A1, c1, rfl, ho, h4.trans hb⟩
theorem own11_rd (bs : List UInt8) (A : Option Addr) (c : Nat) (w : World) (hl : bs.length ≤ 140737488355328) (hr : Rd w w.heap.size A c bs) :
    Calls Tryd.prog 7 #[.slice A bs.length c] w fun e w' => ∃ A' c', e = .returned (.slice A' bs.length c') ∧ Rd w' w'.heap.size A' c' bs ∧ Below w.heap.size w w' :=
  (own11_any w hr (Nat.le_refl _) hl).mono fun _ _ ⟨A', c', he, o, hb⟩ => ⟨A', c', he, o.rd, hb⟩
def cutA (r : List UInt8) : List UInt8 := if r.length = 16 then cutL r else []
def cutE (r : List UInt8) : Nat := if r.length = 16 then 0 else 1
def tagA (key b : List UInt8) : List UInt8 := if key.length = 32 then tagN key b else []
def tagE (key : List UInt8) : Nat := if key.length = 32 then 0 else 1
theorem rd_none (w : World) (B : Nat) : Rd w B none 0 [] := ⟨Nat.le_refl _, fun _ => ⟨rfl, rfl⟩, fun h => absurd rfl h⟩
theorem cCut {A : Option Addr} {c : Nat} {r : List UInt8} (w : World) (hG : GlbP w) (hr : Rd w w.heap.size A c r) :
    Calls Tryd.prog 8 #[.slice A r.length c] w fun e w' => ∃ A2 c2, e = .returned (.tuple #[.slice A2 (cutA r).length c2, .int .i64 (cutE r : Int)]) ∧ Rd w' w'.heap.size A2 c2 (cutA r) ∧ Below w.heap.size w w' := by
  unfold cutA cutE
  by_cases h : r.length = 16
  · rw [if_pos h, if_pos h, h, cutL_len]
    exact (ccut_any h w hG hr).mono fun _ _ ⟨A', c', he, o, hb⟩ => ⟨A', c', he, o.rd, hb⟩
  · rw [if_neg h, if_neg h]
    exact (ccut_bad h w).mono fun _ _ ⟨he, hb⟩ => ⟨none, 0, he, rd_none _ _, hb⟩
theorem rCut {A : Option Addr} {c : Nat} {r : List UInt8} (w : World) (hr : Rd w w.heap.size A c r) :
    Calls Tryd.prog 9 #[.slice A r.length c] w fun e w' => ∃ A2 c2, e = .returned (.tuple #[.slice A2 (cutA r).length c2, .int .i64 (cutE r : Int)]) ∧ Rd w' w'.heap.size A2 c2 (cutA r) ∧ Below w.heap.size w w' := by
  unfold cutA cutE
  by_cases h : r.length = 16
  · rw [if_pos h, if_pos h, h, cutL_len]
    exact (rcut_any h w hr (Nat.le_refl _)).mono fun _ _ ⟨A', c', he, o, hb⟩ => ⟨A', c', he, o.rd, hb⟩
  · rw [if_neg h, if_neg h]
    exact (rcut_bad h w).mono fun _ _ ⟨he, hb⟩ => ⟨none, 0, he, rd_none _ _, hb⟩
theorem cTag {A0 A1 : Option Addr} {c0 c1 : Nat} {key b : List UInt8} (w : World) (hG : GlbP w) (r0 : Rd w w.heap.size A0 c0 key) (r1 : Rd w w.heap.size A1 c1 b) :
    Calls Tryd.prog 11 #[.slice A0 key.length c0, .slice A1 b.length c1] w fun e w' => ∃ A2 c2, e = .returned (.tuple #[.slice A2 (tagA key b).length c2, .int .i64 (tagE key : Int)]) ∧ Rd w' w'.heap.size A2 c2 (tagA key b) ∧ Below w.heap.size w w' := by
  unfold tagA tagE
  by_cases h : key.length = 32
  · rw [if_pos h, if_pos h, h, tagN_len]
    exact (ctag_any h w hG r0 r1).mono fun _ _ ⟨A', c', he, o, hb⟩ => ⟨A', c', he, o.rd, hb⟩
  · rw [if_neg h, if_neg h]
    exact (ctag_bad h w).mono fun _ _ ⟨he, hb⟩ => ⟨none, 0, he, rd_none _ _, hb⟩
theorem rTag {A0 A1 : Option Addr} {c0 c1 : Nat} {key b : List UInt8} (hl : b.length ≤ 1000000) (w : World) (r0 : Rd w w.heap.size A0 c0 key) (r1 : Rd w w.heap.size A1 c1 b) :
    Calls Tryd.prog 12 #[.slice A0 key.length c0, .slice A1 b.length c1] w fun e w' => ∃ A2 c2, e = .returned (.tuple #[.slice A2 (tagA key b).length c2, .int .i64 (tagE key : Int)]) ∧ Rd w' w'.heap.size A2 c2 (tagA key b) ∧ Below w.heap.size w w' := by
  unfold tagA tagE
  by_cases h : key.length = 32
  · rw [if_pos h, if_pos h, h, tagN_len]
    exact (rtag_any h hl w r0 r1 (Nat.le_refl _)).mono fun _ _ ⟨A', c', he, o, hb⟩ => ⟨A', c', he, o.rd, hb⟩
  · rw [if_neg h, if_neg h]
    exact (rtag_bad h w).mono fun _ _ ⟨he, hb⟩ => ⟨none, 0, he, rd_none _ _, hb⟩
/-- A number's lowest bytes, of bytes. -/
theorem gen_vb {bs : List UInt8} {n : Nat} (h : bs.length = n) : gen (bf (vb bs)) n = bs := by
  refine nth_ext (by rw [gen_length, h]) fun k hk => ?_
  rw [gen_length] at hk
  rw [nth_gen hk, bf_nat]
  unfold vb
  rw [h]
  exact vk_dig bs k n hk
theorem tagN_none {key : List UInt8} (h : key.length = 32) : tagN key [] = key.drop 16 := by
  unfold tagN
  rw [show nblk16 ([] : List UInt8).length = 0 from rfl, pa_zero, Nat.zero_add]
  exact gen_vb (by rw [List.length_drop]; omega)
/-- The key of awake. -/
def kAw : List UInt8 := (List.replicate 32 0).set 16 7
theorem kAw_tag : tagN kAw [] = 7 :: List.replicate 15 0 := by
  rw [tagN_none (by decide)]
  decide
set_option maxHeartbeats 800000 in
theorem awake11 (w : World) (hG : GlbP w) : Calls Tryd.prog 10 #[] w fun e w' => e = .returned (.bool true) ∧ Below w.heap.size w w' := by
  obtain ⟨i0, hi, hz0, hz1, hz2⟩ := info_parts infoByte
  have hmk := run_mk (P := Tryd.prog) 22 5 i0 Tryd.underlying22 hi hz0 hz1 hz2 (l := 32) (n := 32) rfl (by decide)
  have om := Own.made (w := w) (B := w.heap.size) 5 (n := 32) (Nat.le_refl _) (by decide)
  have o1 := om.set_ 16 7
  have cl := om.cell (k := 16) (by decide)
  have fr := om.free 16
  have h0 : Below w.heap.size w (w.alloc (.cells (madeCells #[.int .u8 0] 32) 5)) := (Below.refl _ w).alloc (Nat.le_refl _) _
  have hc := h0.setCell (p := ⟨w.heap.size, 16, none⟩) (Nat.le_refl _) (.int .u8 7)
  go_enter Tryd.func10, Tryd.ntmps10
  go_upto_region 3 with fail
  obtain ⟨v1, e1⟩ : ∃ v, v = w.alloc (.cells ((madeCells #[.int .u8 0] 32).setIfInBounds 16 (.int .u8 7)) 5) := ⟨_, rfl⟩
  have e2 : (w.alloc (.cells (madeCells #[.int .u8 0] 32) 5)).setCell ⟨w.heap.size, 16, none⟩ (.int .u8 7) = v1 := by rw [e1]; go_simp
  replace o1 : Own v1 w.heap.size 5 (some ⟨w.heap.size, 0, none⟩) 32 kAw := by rw [← e2]; exact o1
  rw [e2] at hc
  rw [← e1]
  have KT := Lib.hid ((ctag_any (key := kAw) (bs := []) (by decide) v1 (hG.next hc) o1.rd (rd_none _ _)))
  rw [kAw_tag] at KT
  clear e1 e2 hmk om cl fr h0 o1
  go_wp2_with fail
  go_at_call 11
  refine KT.out.mono ?_
  rintro e v2 ⟨A, c, rfl, ot, h0⟩
  have hfin := hc.trans (h0.mono hc.size)
  obtain ⟨g, rfl⟩ := p_at0 (p_toF ot) (by decide)
  have cl := ot.cell (k := 0) (by decide)
  have e7 : nth (7 :: List.replicate 15 (0 : UInt8)) 0 = 7 := by decide
  rw [e7] at cl
  clear KT ot h0 hc e7
  go_wp2_with fail
  go_ret
  exact ⟨rfl, hfin⟩
end Go.Proofs.YtfpojgclebaffaaDoor
