/-
  The ladder's number (layer 5): bytes of a number of the curve. By an AI agent.
-/
import Derived.Test.YtojggpiolgcjeaaK1
import Derived.Test.YtojggpiolgcjeaaQ1
namespace Go.Proofs.Ytojggpiolgcjeaa
open Go Go.RowKit
set_option maxRecDepth 20000
set_option maxHeartbeats 1600000 in
theorem number_any {A : Option Addr} {B c : Nat} {bs : List UInt8} (h32 : bs.length = 32) (w : World) (hr : Rd w B A c bs) (hB : B ≤ w.heap.size) :
    Calls Try.prog 22 #[.slice A bs.length c] w fun e w' => e = .returned (nv (vb bs % H25)) ∧ Below w.heap.size w w' := by
  have oz := O4.zero (own_Z4 (w := w) (Nat.le_refl _))
  have s1 : (w.alloc Z4).heap.size = w.heap.size + 1 := by simp
  have on := O4.zero (own_Z4 (w := w.alloc Z4) (B := w.heap.size + 1) (by omega))
  have hc := ((Below.refl w.heap.size w).alloc (Nat.le_refl _) Z4).alloc (by omega) Z4
  replace oz := oz.alloc Z4
  rw [s1] at on
  have hne : w.heap.size ≠ w.heap.size + 1 := by omega
  have hV : vb bs < W4 := by unfold vb; rw [h32]; exact Nat.lt_of_lt_of_le (vk_lt bs 32) (by decide +kernel)
  have hl : bs.length ≤ 32 := by omega
  obtain ⟨r, hr0⟩ : ∃ r, r = vb bs % H25 := ⟨_, rfl⟩
  rw [← hr0]
  have HR := Lib.hid hr0
  clear hr0
  clear h32
  unfold nv
  go_enter Try.func22, Try.ntmps22
  go_wp2_with fail
  obtain ⟨v0, e0⟩ : ∃ v, v = (w.alloc Z4).alloc Z4 := ⟨_, rfl⟩
  rw [← e0] at oz on hc ⊢
  clear e0
  go_loopw [7] (fun i wr => ∃ k : Nat, k ≤ bs.length ∧ i = .int .i64 k ∧ O4 wr (w.heap.size + 1) (w.heap.size + 1) (vk bs k) ∧ O4 wr w.heap.size w.heap.size 0 ∧ Below w.heap.size w wr)
    (fun i _ => bs.length - (intOf i).toNat)
  case atStart => exact ⟨0, by omega, rfl, on, oz, hc⟩
  case round =>
    clear oz on hc
    obtain ⟨k, hk, rfl, os, oz, hb⟩ := hrel
    by_cases hlt : k < bs.length
    · have g1 : (k : Int) < (bs.length : Int) := by omega
      obtain ⟨b1, o1, rfl, hb1, cc1⟩ := hr.at_ hlt
      have c1 : wr.cell? ⟨b1, o1 + k, none⟩ = some (.int .u8 (nth bs k : Int)) := (hb.cell (p := ⟨b1, o1 + k, none⟩) (Nat.lt_of_lt_of_le hb1 hB)).trans cc1
      have c2 := OwnF.cell os (k := k / 8) (by omega)
      unfold wv at c2
      have f2 := OwnF.free os (k / 8)
      have g2 : IntKind.i64.wrap ((k : Int) / 8) = (k : Int) / 8 := by rw [IntKind.wrap_i64]; omega
      have g3 : (k : Int).tmod 8 = (k : Int) % 8 := Int.tmod_eq_emod_of_nonneg (by omega)
      have ga : IntKind.u64.wrap (nth bs k : Int) = (nth bs k : Int) := by have := nth_lt bs k; rw [IntKind.wrap_u64]; omega
      have g4 : (k : Int) / 8 < 4 := by omega
      have g5 : IntKind.i64.wrap (8 * ((k : Int) % 8)) = 8 * ((k : Int) % 8) := by rw [IntKind.wrap_i64]; omega
      have g6 : 0 ≤ (k : Int) / 8 := by omega
      have g7 : ((k : Int) / 8).toNat = k / 8 := by omega
      have g8 : 0 ≤ 8 * ((k : Int) % 8) := by omega
      have g9 : (8 * ((k : Int) % 8)).toNat = 8 * (k % 8) := by omega
      have gb : bits .or .u64 (wd (vk bs k) (k / 8) : Int) (IntKind.u64.wrap ((nth bs k : Int) * 2 ^ (8 * (k % 8)))) = (wd (vk bs (k + 1)) (k / 8) : Int) := by
        rw [or_add _ _ _ (vk_word bs k) (nth_lt _ _) (by omega), vk_here]
      clear cc1
      go_wp2
      refine wp_region_still_tail 15 (by kernel_rfl) (by kernel_rfl) ?_
      simp only [List.take_succ_cons, List.take_zero, List.drop_succ_cons, List.drop_zero]
      repeat still_step
      refine wpStill_nil ?_
      change wpList _ _ _ _ _ wr.drew
      go_wp2
      have os' := OwnF.set_ os (k / 8) (.int .u64 (wd (vk bs (k + 1)) (k / 8) : Int))
      have oz' := OwnF.other oz (p := ⟨w.heap.size + 1, k / 8, none⟩) (Ne.symm hne) (.int .u64 (wd (vk bs (k + 1)) (k / 8) : Int))
      have hset : Below w.heap.size w (wr.setCell ⟨w.heap.size + 1, k / 8, none⟩ (.int .u64 (wd (vk bs (k + 1)) (k / 8) : Int))) := hb.setCell (p := ⟨w.heap.size + 1, k / 8, none⟩) (by simp) _
      refine ⟨⟨k + 1, by omega, by go_num, ?_, oz'.drew, hset.drew⟩, by simp [intOf]; omega⟩
      refine (os'.congr fun j _ => ?_).drew
      unfold wv
      by_cases h : j = k / 8
      · rw [if_pos h, h]
      · rw [if_neg h, vk_there _ _ _ h]
    · have hk' : k = bs.length := by omega
      subst hk'
      have ge : ¬ (bs.length : Int) < (bs.length : Int) := by omega
      have gt : bits .and .u64 (wd (vk bs bs.length) 3 : Int) 9223372036854775807 = (wd (vb bs % H25) 3 : Int) := by
        rw [and_top (wd_lt _ _), wd_top hV]; rfl
      have on2 := O4.top os (v := .int .u64 (wd (vb bs % H25) 3 : Int)) rfl
      have hb2 : Below w.heap.size w (wr.setCell ⟨w.heap.size + 1, 3, none⟩ (.int .u64 (wd (vb bs % H25) 3 : Int))) := hb.setCell (p := ⟨w.heap.size + 1, 3, none⟩) (by simp) _
      have oz2 := O4.oth1 (g' := w.heap.size + 1) (k := 3) oz (Ne.symm hne) (v := .int .u64 (wd (vb bs % H25) 3 : Int))
      obtain ⟨a0, a1, a2, a3⟩ := os.c4
      obtain ⟨b0, b1, b2, b3⟩ := os.f4
      go_upto_region 8 with fail
      obtain ⟨v2, e2⟩ : ∃ v, v = wr.setCell ⟨w.heap.size + 1, 3, none⟩ (.int .u64 (wd (vb bs % H25) 3 : Int)) := ⟨_, rfl⟩
      rw [← e2] at on2 hb2 oz2 ⊢
      clear e2 a0 a1 a2 a3 b0 b1 b2 b3 gt os oz hb ge
      have on3 : O4 v2 (w.heap.size + 1) (w.heap.size + 1) (vb bs % H25) := on2
      clear on2
      rw [← HR.out] at on3
      obtain ⟨a0, a1, a2, a3⟩ := on3.c4
      obtain ⟨z0, z1, z2, z3⟩ := oz2.c4
      obtain ⟨f0, f1, f2, f3⟩ := oz2.f4
      obtain ⟨wz, ez, or, hbz, _⟩ := oz2.out r
      obtain ⟨r0, r1, r2, r3⟩ := or.c4
      go_wp2_with fail
      rw [← ez]
      refine bodyPost_ret (v := nv r) (by simp [results, Try.results22, go_sem, r0, r1, r2, r3]) rfl ⟨rfl, hb2.trans hbz⟩
end Go.Proofs.Ytojggpiolgcjeaa
