import Derived.Test.YtecphnhdcphgbaaMul
import Derived.StillTailTactics
namespace Go.Proofs.Ytecphnhdcphgbaa
open Go Go.RowKit
def mask (b : Nat) : Nat := if b = 0 then 0 else 18446744073709551615
theorem mask_eq (b : Nat) (hb : b < 18446744073709551616) : IntKind.u64.wrap (-(bits .or .u64 (b : Int) (IntKind.u64.wrap (-(b : Int))) / 9223372036854775808)) = (mask b : Int) := by
  by_cases h : b = 0
  · subst h; decide
  · have e : IntKind.u64.wrap (-(b : Int)) = ((18446744073709551616 - b : Nat) : Int) := by rw [IntKind.wrap_u64]; omega
    rw [e, bits_or_u64_nat _ _ hb (by omega)]
    have h1 : b ≤ b ||| (18446744073709551616 - b) := Nat.left_le_or
    have h2 : 18446744073709551616 - b ≤ b ||| (18446744073709551616 - b) := Nat.right_le_or
    have h3 : b ||| (18446744073709551616 - b) < 2 ^ 64 := Nat.or_lt_two_pow (by omega) (by omega)
    generalize b ||| (18446744073709551616 - b) = z at *
    have hz : (z : Int) / 9223372036854775808 = 1 := by omega
    rw [hz]
    unfold mask
    rw [if_neg h]
    decide
theorem sel_eq (b a c : Nat) (ha : a < 18446744073709551616) (hc : c < 18446744073709551616) :
    bits .xor .u64 (a : Int) (bits .and .u64 (mask b : Int) (bits .xor .u64 (a : Int) (c : Int))) = ((if b = 0 then a else c : Nat) : Int) := by
  have hx : a ^^^ c < 2 ^ 64 := Nat.xor_lt_two_pow (by omega) (by omega)
  rw [bits_xor_u64_nat _ _ ha hc]
  unfold mask
  by_cases h : b = 0
  · rw [if_pos h, if_pos h, bits_and_u64_nat _ _ (by omega) (by omega), Nat.zero_and, bits_xor_u64_nat _ _ ha (by omega), Nat.xor_zero]
  · rw [if_neg h, if_neg h, bits_and_u64_nat _ _ (by omega) (by omega), Nat.and_comm, show (18446744073709551615 : Nat) = 2 ^ 64 - 1 from rfl, Nat.and_two_pow_sub_one_eq_mod, Nat.mod_eq_of_lt hx,
      bits_xor_u64_nat _ _ ha (by omega), ← Nat.xor_assoc, Nat.xor_self, Nat.zero_xor]
theorem sel_wd (b x y k : Nat) : bits .xor .u64 (wd x k : Int) (bits .and .u64 (mask b : Int) (bits .xor .u64 (wd x k : Int) (wd y k : Int))) = (wd (if b = 0 then x else y) k : Int) := by
  rw [sel_eq _ _ _ (wd_lt _ _) (wd_lt _ _)]
  split <;> rfl
theorem pick_any (b x y : Nat) (hb : b < 18446744073709551616) (w : World) :
    Calls Try.prog 56 #[.int .u64 (b : Int), nv x, nv y] w fun e w' => e = .returned (nv (if b = 0 then x else y)) ∧ Below w.heap.size w w' := by
  obtain ⟨irx, iry, ioz, ios, bb⟩ := start4 x y w
  have hm := mask_eq b hb
  obtain ⟨p, hp⟩ : ∃ p, p = if b = 0 then x else y := ⟨_, rfl⟩
  have hs : ∀ k, bits .xor .u64 (wd x k : Int) (bits .and .u64 (mask b : Int) (bits .xor .u64 (wd x k : Int) (wd y k : Int))) = (wd p k : Int) := fun k => by rw [hp]; exact sel_wd b x y k
  rw [← hp]
  clear hp
  unfold nv
  go_enter Try.func56, Try.ntmps56
  go_wp2
  go_loopw [16] (fun i wr => ∃ k : Nat, k ≤ 4 ∧ i = .int .i64 k ∧ RdF wr (w.heap.size + 3) (some ⟨w.heap.size, 0, none⟩) 4 4 (wv x) ∧ RdF wr (w.heap.size + 3) (some ⟨w.heap.size + 1, 0, none⟩) 4 4 (wv y) ∧
      OwnF wr w.heap.size 35 (some ⟨w.heap.size + 2, 0, none⟩) 4 4 (fun _ => .int .u64 0) ∧ OwnF wr w.heap.size 35 (some ⟨w.heap.size + 3, 0, none⟩) 4 4 (fw p k) ∧ Below w.heap.size w wr)
    (fun i _ => 4 - (intOf i).toNat)
  case atStart => exact ⟨0, by omega, rfl, irx, iry, ioz, ios.congr (fun j _ => by rw [fw_out (by omega)]), bb⟩
  case round =>
    obtain ⟨k, hk, rfl, rx, ry, oz, os, hb⟩ := hrel
    clear irx iry ioz ios bb
    by_cases hlt : k < 4
    · have g1 : (k : Int) < 4 := by omega
      have c1 : wr.cell? ⟨w.heap.size, k, none⟩ = some (.int .u64 (wd x k : Int)) := rx.cell0 hlt
      have c2 : wr.cell? ⟨w.heap.size + 1, k, none⟩ = some (.int .u64 (wd y k : Int)) := ry.cell0 hlt
      have c3 := os.cell hlt
      rw [fw_out (by omega)] at c3
      have f3 := os.free k
      go_wp2
      go_region
      go_wp2
      go_roundw
      case rel =>
        have os' := os.set_ k (.int .u64 (wd p k : Int))
        have hset : Below (w.heap.size + 3) wr (wr.setCell ⟨w.heap.size + 3, k, none⟩ (.int .u64 (wd p k : Int))) := (Below.refl (w.heap.size + 3) wr).setCell (Nat.le_refl (w.heap.size + 3)) _
        refine ⟨k + 1, by omega, by go_num, (rx.keep hset).drew, (ry.keep hset).drew, (oz.keepAt hset).drew, ?_, (hb.trans (hset.mono (by omega))).drew⟩
        exact (os'.congr fun j _ => fw_set _ _ _).drew
      case measure => simp [intOf]; omega
    · have hk' : k = 4 := by omega
      subst hk'
      replace os := os.congr (g := wv p) fun j hj => by rw [fw_in hj]; rfl
      have c0 := (os).cell (k := 0) (by decide)
      have c1 := (os).cell (k := 1) (by decide)
      have c2 := (os).cell (k := 2) (by decide)
      have c3 := (os).cell (k := 3) (by decide)
      have d0 := (oz).cell (k := 0) (by decide)
      have d1 := (oz).cell (k := 1) (by decide)
      have d2 := (oz).cell (k := 2) (by decide)
      have d3 := (oz).cell (k := 3) (by decide)
      have f0 := (oz).free 0
      have f1 := (oz).free 1
      have f2 := (oz).free 2
      have f3 := (oz).free 3
      unfold wv at c0 c1 c2 c3
      obtain ⟨wz, ez, r0, r1, r2, r3, rb⟩ := set4 oz (.int .u64 (wd p 0 : Int)) (.int .u64 (wd p 1 : Int)) (.int .u64 (wd p 2 : Int)) (.int .u64 (wd p 3 : Int))
      go_wp2
      rw [← ez]
      refine bodyPost_ret (v := .agg #[.int .u64 (wd p 0 : Int), .int .u64 (wd p 1 : Int), .int .u64 (wd p 2 : Int), .int .u64 (wd p 3 : Int)]) (by simp [results, Try.results56, go_sem, r0, r1, r2, r3]) rfl ⟨rfl, hb.trans rb⟩
end Go.Proofs.Ytecphnhdcphgbaa
