import Derived.Test.YticmkcipagmgmaaLeft
namespace Go.Proofs.Yticmkcipagmgmaa
open Go Go.RowKit
abbrev dvs (lo hi : Nat) : Value := .agg #[.int .u64 (wd lo 0 : Int), .int .u64 (wd lo 1 : Int), .int .u64 (wd lo 2 : Int), .int .u64 (wd lo 3 : Int), .int .u64 (wd hi 0 : Int), .int .u64 (wd hi 1 : Int), .int .u64 (wd hi 2 : Int), .int .u64 (wd hi 3 : Int)]
theorem wd_hi (x k : Nat) : wd (x / W4) k = wd x (4 + k) := by
  unfold wd dgt W4
  rw [Nat.div_div_eq_div_mul, ← Nat.pow_add]
theorem dv_split (a : Nat) : dv a = dvs (a % W4) (a / W4) := by
  unfold dv dvs
  rw [wd_mod a (by decide : 0 < 4), wd_mod a (by decide : 1 < 4), wd_mod a (by decide : 2 < 4), wd_mod a (by decide : 3 < 4), wd_hi, wd_hi, wd_hi, wd_hi]
abbrev A8s (lo hi : Nat) : Obj := .cells #[.int .u64 (wd lo 0 : Int), .int .u64 (wd lo 1 : Int), .int .u64 (wd lo 2 : Int), .int .u64 (wd lo 3 : Int), .int .u64 (wd hi 0 : Int), .int .u64 (wd hi 1 : Int), .int .u64 (wd hi 2 : Int), .int .u64 (wd hi 3 : Int)] 29
theorem by8_lohi_lo {lo hi k : Nat} (hk : k < 32) : by8 (lo + W4 * hi) k = by8 lo k := by
  rw [W4_256]; exact dgt_add_mul _ _ hk
theorem by8_lohi_hi {lo hi : Nat} (hl : lo < W4) (j : Nat) : by8 (lo + W4 * hi) (32 + j) = by8 hi j := by
  unfold by8 dgt
  rw [Nat.pow_add, ← Nat.div_div_eq_div_mul, ← W4_256, Nat.add_mul_div_left _ _ W4_pos, Nat.div_eq_of_lt hl, Nat.zero_add]
theorem can_lohi {lo hi n : Nat} (h0 : 0 < hi) (hc : Can n hi) : Can (32 + n) (lo + W4 * hi) := by
  intro k hk
  by_cases h : k < 32
  · have h1 : 256 ^ k ≤ W4 := by rw [W4_256]; exact Nat.pow_le_pow_right (by decide) (by omega)
    have h2 : W4 * 1 ≤ W4 * hi := Nat.mul_le_mul_left _ h0
    omega
  · obtain ⟨j, rfl⟩ : ∃ j, k = 32 + j := ⟨k - 32, by omega⟩
    have : hi < 256 ^ j := by
      refine Nat.lt_of_not_le fun hle => ?_
      rw [Nat.pow_add, ← W4_256] at hk
      have := Nat.mul_le_mul_left W4 hle
      omega
    have := hc j this
    omega
theorem lt_lohi {lo hi n : Nat} (hl : lo < W4) (hh : hi < 256 ^ n) : lo + W4 * hi < 256 ^ (32 + n) := by
  rw [Nat.pow_add, ← W4_256]
  have : W4 * (hi + 1) ≤ W4 * 256 ^ n := Nat.mul_le_mul_left _ hh
  rw [Nat.mul_add] at this
  omega
def lenOf : Value → Nat
  | .slice _ n _ => n
  | _ => 0
set_option maxRecDepth 20000 in
set_option maxHeartbeats 800000 in
theorem words_any {lo hi : Nat} (hl : lo < W4) (hh : hi < W4) (w : World) :
    Calls Try.prog 34 #[dvs lo hi] w fun e w' => ∃ A c n, e = .returned (.slice A n c) ∧ DOwn w' w.heap.size A c n (lo + W4 * hi) ∧ Below w.heap.size w w' := by
  obtain ⟨i0, hi', hz0, hz1, hz2⟩ := info_parts infoInt
  have b0 : Below w.heap.size w (((w.alloc (A8s lo hi)).alloc (A4 lo)).alloc (A4 hi)) := (((Below.refl _ w).alloc (by simp) _).alloc (by simp) _).alloc (by simp; omega) _
  have s3 : (((w.alloc (A8s lo hi)).alloc (A4 lo)).alloc (A4 hi)).heap.size = w.heap.size + 3 := by simp
  have s2 : ((w.alloc (A8s lo hi)).alloc (A4 lo)).heap.size = w.heap.size + 2 := by simp
  have rh := (own_A4 (w := (w.alloc (A8s lo hi)).alloc (A4 lo)) (Nat.le_refl _) hi).rd
  rw [s2, s3] at rh
  unfold dvs
  go_enter Try.func34, Try.ntmps34
  go_wp2_with fail
  go_at_call 20
  refine (digits_any hl _).mono ?_
  rintro e w1 ⟨A1, c1, n1, rfl, d1, hb1⟩
  replace hb1 := hb1.mono (B' := w.heap.size + 3) (by simp)
  replace d1 := d1.mono (B' := w.heap.size + 3) (by simp)
  have hbw := b0.trans (hb1.mono (by omega))
  have r1 := rh.keep hb1
  have hs1 : w.heap.size + 3 ≤ w1.heap.size := by have := hb1.size; rw [s3] at this; exact this
  clear hb1 rh b0 s2 s3
  have x0 := r1.cell0 (k := 0) (by decide)
  have x1 := r1.cell0 (k := 1) (by decide)
  have x2 := r1.cell0 (k := 2) (by decide)
  have x3 := r1.cell0 (k := 3) (by decide)
  unfold wv at x0 x1 x2 x3
  go_wp2_with fail
  go_at_call 20
  refine (digits_any hh _).mono ?_
  rintro e w2 ⟨A2, c2, n2, rfl, d2, hb2⟩
  have hbw2 := hbw.trans (hb2.mono (by omega))
  have r2 := r1.keep (hb2.mono hs1)
  have hs2 : w.heap.size + 3 ≤ w2.heap.size := Nat.le_trans hs1 hb2.size
  have d1' := d1.keep hb2
  clear hb2 hbw r1 d1 hs1 x0 x1 x2 x3
  by_cases h0 : hi = 0
  · have hn2 : n2 = 0 := by have hc := d2.can; rw [h0] at hc; exact hc.zero
    subst hn2
    have e0 : lo + W4 * hi = lo := by rw [h0]; omega
    have E0 := Lib.hid e0
    clear e0 h0
    go_wp2_with fail
    go_ret
    exact ⟨A1, c1, n1, rfl, by rw [E0.out]; exact d1'.mono (by omega), hbw2⟩
  · have hn2 : n2 ≠ 0 := by
      rintro rfl
      have := d2.lt
      simp at this
      exact h0 this
    have g2 : ((n2 : Int) == 0) = false := by simp; omega
    clear hn2 d2
    have hn1 : n1 ≤ 32 := d1'.can 32 (by rw [← W4_256]; exact hl)
    go_wp2_with fail
    go_loopw [5] (fun v wr => ∃ A c m, v = .slice A m c ∧ m ≤ 32 ∧ OwnF wr (w.heap.size + 3) 3 A c m (dg8 lo) ∧ lo < 256 ^ m ∧ RdF wr (w.heap.size + 3) (some ⟨w.heap.size + 2, 0, none⟩) 4 4 (wv hi) ∧ w.heap.size + 3 ≤ wr.heap.size ∧ Below w.heap.size w wr)
      (fun v _ => 32 - (lenOf v))
    case atStart => exact ⟨A1, c1, n1, rfl, hn1, d1'.own, d1'.lt, r2, hs2, hbw2⟩
    case round =>
      obtain ⟨A, c, m, rfl, hm, ow, hlo, rr, hs, hb⟩ := hrel
      clear d1' r2 hs2 hbw2
      by_cases hlt : m < 32
      · have g1 : (m : Int) < 32 := by omega
        have hv : Value.int .i64 0 = dg8 lo m := by unfold dg8; rw [by8_top hlo (Nat.le_refl _)]; rfl
        have HV := Lib.hid hv
        clear hv
        go_wp2_with (at_builtin; refine wpList_appF1 _ rfl (.tmp 34) (.tmp 35) _ rfl (w.heap.size + 3) 3 i0 _ Try.underlying34 hi' hz0 hz1 hz2 (by decide) rfl rfl ow HV.out rfl rfl (by omega) (by omega) hs ?_; intro A' c' w' ho' hb')
        refine ⟨⟨A', c', m + 1, rfl, by omega, ho', Nat.lt_of_lt_of_le hlo (Nat.pow_le_pow_right (by decide) (by omega)), rr.keep hb', Nat.le_trans hs hb'.size, hb.trans (hb'.mono (by omega))⟩, ?_⟩
        simp [lenOf]; omega
      · obtain rfl : m = 32 := by omega
        have x0 := rr.cell0 (k := 0) (by decide)
        have x1 := rr.cell0 (k := 1) (by decide)
        have x2 := rr.cell0 (k := 2) (by decide)
        have x3 := rr.cell0 (k := 3) (by decide)
        unfold wv at x0 x1 x2 x3
        go_wp2_with fail
        go_at_call 20
        refine (digits_any hh _).mono ?_
        rintro e w3 ⟨A3, c3, n3, rfl, d3, hb3⟩
        have ow3 := ow.keep hb3
        have hn3 : n3 ≤ 32 := d3.can 32 (by rw [← W4_256]; exact hh)
        have hs3 : w.heap.size + 3 ≤ w3.heap.size := Nat.le_trans hs hb3.size
        go_wp2_with (at_builtin; refine wpList_appF _ rfl (.tmp 37) (.tmp 39) _ rfl (w.heap.size + 3) 3 i0 _ Try.underlying34 hi' hz0 hz1 hz2 (by decide) rfl rfl ow3 rfl d3.own.rd (fun _ _ => rfl) (by omega) (by omega) hs3 ?_; intro A' c' w' ho' hb')
        go_ret
        refine ⟨A', c', 32 + n3, rfl, ⟨(ho'.congr fun k hk => ?_).mono (by omega), lt_lohi hl d3.lt, can_lohi (by omega) d3.can⟩, (hb.trans (hb3.mono (by omega))).trans (hb'.mono (by omega))⟩
        unfold dg8
        by_cases h1 : k < 32
        · rw [if_pos h1, by8_lohi_lo h1]
        · obtain ⟨j, rfl⟩ : ∃ j, k = 32 + j := ⟨k - 32, by omega⟩
          rw [if_neg h1, by8_lohi_hi hl, Nat.add_sub_cancel_left]
end Go.Proofs.Yticmkcipagmgmaa
