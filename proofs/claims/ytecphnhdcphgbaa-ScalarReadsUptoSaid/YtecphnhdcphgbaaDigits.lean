import Derived.Test.YtecphnhdcphgbaaDig
namespace Go.Proofs.Ytecphnhdcphgbaa
open Go Go.RowKit
/-- Word i of x without its lowest k bytes. -/
def sw (x i k : Nat) : Nat := wd x i / 256 ^ k
theorem sw_zero (x i : Nat) : sw x i 0 = wd x i := by simp [sw]
theorem sw_next (x i k : Nat) : sw x i k / 256 = sw x i (k + 1) := by unfold sw; rw [Nat.pow_succ, Nat.div_div_eq_div_mul]
theorem sw_dig (x i k : Nat) (hk : k < 8) : sw x i k % 256 = by8 x (8 * i + k) := by
  rw [← by_wd x (8 * i + k), show (8 * i + k) / 8 = i by omega, show (8 * i + k) % 8 = k by omega, Nat.pow_mul]; rfl
theorem sw_lt (x i k : Nat) : sw x i k < 18446744073709551616 := Nat.lt_of_le_of_lt (Nat.div_le_self _ _) (wd_lt _ _)
theorem W4_256 : W4 = 256 ^ 32 := by decide +kernel
theorem W8_256 : W8 = 256 ^ 64 := by decide +kernel
theorem digits_any {x : Nat} (hx : x < W4) (w : World) :
    Calls Try.prog 17 #[nv x] w fun e w' => ∃ A c n, e = .returned (.slice A n c) ∧ DOwn w' w.heap.size A c n x ∧ Below w.heap.size w w' := by
  obtain ⟨i0, hi, hz0, hz1, hz2⟩ := info_parts infoInt
  have ha := own_A4 (w := w) (Nat.le_refl _) x
  have s1 : (w.alloc (A4 x)).heap.size = w.heap.size + 1 := by simp
  have b1 := (Below.refl w.heap.size w).alloc (Nat.le_refl _) (A4 x)
  have ra := ha.rd
  rw [s1] at ra
  unfold nv
  go_enter Try.func17, Try.ntmps17
  go_wp2_with fail
  go_loopw [3, 4] (fun v i wr => ∃ k : Nat, k ≤ 4 ∧ i = .int .i64 k ∧ RdF wr (w.heap.size + 1) (some ⟨w.heap.size, 0, none⟩) 4 4 (wv x) ∧ (∃ A c, v = .slice A (8 * k) c ∧ OwnF wr (w.heap.size + 1) 3 A c (8 * k) (dg8 x)) ∧ w.heap.size + 1 ≤ wr.heap.size ∧ Below w.heap.size w wr)
    (fun _ i _ => 4 - (intOf i).toNat)
  case atStart => exact ⟨0, by omega, rfl, ra, ⟨none, 0, rfl, OwnF.nothing _ _ _ _⟩, by simp, b1⟩
  case round =>
    obtain ⟨k, hk, rfl, rx, ⟨A, c, rfl, ow⟩, hs, hb⟩ := hrel
    clear ha ra b1
    by_cases hlt : k < 4
    · have g1 : (k : Int) < 4 := by omega
      have c1 := rx.cell0 (k := k) (by omega)
      unfold wv at c1
      go_wp2_with fail
      obtain ⟨w0, e0⟩ : ∃ w0 : World, w0 = wr := ⟨_, rfl⟩
      subst e0
      go_loopw [3, 5, 6] (fun v u jj wr => ∃ j : Nat, j ≤ 8 ∧ jj = .int .i64 j ∧ u = .int .u64 (sw x k j : Int) ∧ RdF wr (w.heap.size + 1) (some ⟨w.heap.size, 0, none⟩) 4 4 (wv x) ∧ (∃ A c, v = .slice A (8 * k + j) c ∧ OwnF wr (w.heap.size + 1) 3 A c (8 * k + j) (dg8 x)) ∧ w.heap.size + 1 ≤ wr.heap.size ∧ Below w.heap.size w wr)
        (fun _ _ jj _ => 8 - (intOf jj).toNat)
      case atStart => exact ⟨0, by omega, rfl, by rw [sw_zero], rx, ⟨_, _, rfl, ow⟩, hs, hb⟩
      case round =>
        clear c1 rx ow hs hb
        obtain ⟨j, hj, rfl, rfl, rx, ⟨A, c, rfl, ow⟩, hs, hb⟩ := hrel
        by_cases hlt2 : j < 8
        · have g2 : (j : Int) < 8 := by omega
          have e1 : (sw x k j : Int).tmod 256 = (by8 x (8 * k + j) : Int) := by rw [Int.tmod_eq_emod_of_nonneg (by omega), ← sw_dig _ _ _ hlt2]; rfl
          have e1' : (sw x k j : Int) % 256 = (by8 x (8 * k + j) : Int) := by rw [← sw_dig _ _ _ hlt2]; rfl
          have e2 : (sw x k j : Int) / 256 = (sw x k (j + 1) : Int) := by rw [← sw_next]; rfl
          have e3 : IntKind.i64.wrap (by8 x (8 * k + j) : Int) = (by8 x (8 * k + j) : Int) := by have := by8_lt x (8 * k + j); rw [IntKind.wrap_i64]; omega
          have e4 : IntKind.u64.wrap (sw x k (j + 1) : Int) = (sw x k (j + 1) : Int) := by have := sw_lt x k (j + 1); rw [IntKind.wrap_u64]; omega
          have hv : Value.int .i64 (by8 x (8 * k + j) : Int) = dg8 x (8 * k + j) := rfl
          have HV := Lib.hid hv
          clear hv
          go_wp2_with (at_builtin; refine wpList_appF1 _ rfl (.tmp 18) (.tmp 22) _ rfl (w.heap.size + 1) 3 i0 _ Try.underlying29 hi hz0 hz1 hz2 (by decide) rfl rfl ow HV.out rfl rfl (by omega) (by omega) hs ?_; intro A' c' w' ho' hb')
          refine ⟨⟨j + 1, by omega, by go_num, rfl, rx.keep hb', ⟨A', c', rfl, ho'⟩, Nat.le_trans hs hb'.size, hb.trans (hb'.mono (by omega))⟩, by simp [intOf]; omega⟩
        · have hk' : j = 8 := by omega
          subst hk'
          go_wp2_with fail
          go_roundw
          case rel => exact ⟨k + 1, by omega, by go_num, rx, ⟨A, c, rfl, ow⟩, hs, hb⟩
          case measure => simp [intOf]; omega
    · have hk' : k = 4 := by omega
      subst hk'
      go_wp2_with fail
      go_at_call 40
      refine (trim_any (x := x) _ ⟨ow.rd, by rw [← W4_256]; exact hx⟩ (by omega)).mono ?_
      rintro e w1 ⟨n', hn', rfl, hx', hc, rfl⟩
      go_wp2
      go_ret
      exact ⟨A, c, n', rfl, ⟨(ow.mono (by omega)).take hn', hx', hc⟩, hb⟩
end Go.Proofs.Ytecphnhdcphgbaa
