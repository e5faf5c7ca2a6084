import Derived.Test.YtecphnhdcphgbaaDigits
namespace Go.Proofs.Ytecphnhdcphgbaa
open Go Go.RowKit
theorem sw_eight (x i : Nat) : sw x i 8 = 0 := Nat.div_eq_of_lt (wd_lt _ _)
def ix (i s : Nat) : Nat := 8 * i + s
theorem sw_up (x i s : Nat) (hs : s < 8) : sw x i (s + 1) * 256 + by8 x (ix i s) = sw x i s := by
  have h1 := sw_next x i s
  have h2 := sw_dig x i s hs
  unfold ix
  omega
theorem word_any {A : Option Addr} {B c n x i : Nat} (w : World) (h : Dig w B A c n x) (hi : i < 8) :
    Calls Try.prog 41 #[.slice A n c, .int .i64 (i : Int)] w fun e w' => e = .returned (.int .u64 (wd x i : Int)) ∧ w' = w := by
  go_enter Try.func41, Try.ntmps41
  go_wp2_with fail
  go_loop [5, 6] (fun v k => ∃ r : Nat, r ≤ 8 ∧ k = .int .i64 ((r : Int) - 1) ∧ v = .int .u64 (sw x i r : Int))
    (fun _ k => (intOf k + 1).toNat)
  case atStart => exact ⟨8, Nat.le_refl _, rfl, by rw [sw_eight]; rfl⟩
  case round =>
    obtain ⟨r, hr, rfl, rfl⟩ := hrel
    by_cases h0 : r = 0
    · subst h0
      rw [sw_zero]
      go_wp2_with fail
      go_ret
      exact ⟨rfl, rfl⟩
    · obtain ⟨s, rfl⟩ : ∃ s, r = s + 1 := ⟨r - 1, by omega⟩
      have hs : s < 8 := by omega
      have gs : ((s + 1 : Nat) : Int) - 1 = (s : Int) := by omega
      rw [gs]
      have g0 : (0 : Int) ≤ (s : Int) := by omega
      have up := sw_up x i s hs
      have hlt := sw_lt x i s
      have hby := by8_lt x (ix i s)
      have e1 : IntKind.i64.wrap (8 * (i : Int)) = 8 * (i : Int) := by rw [IntKind.wrap_i64]; omega
      have e2 : IntKind.i64.wrap (8 * (i : Int) + (s : Int)) = (ix i s : Int) := by unfold ix; rw [IntKind.wrap_i64]; omega
      have e3 : IntKind.u64.wrap ((sw x i (s + 1) : Int) * 256) = (sw x i (s + 1) : Int) * 256 := by rw [IntKind.wrap_u64]; omega
      have e4 : IntKind.u64.wrap (by8 x (ix i s) : Int) = (by8 x (ix i s) : Int) := by rw [IntKind.wrap_u64]; omega
      have e5 : IntKind.u64.wrap ((sw x i (s + 1) : Int) * 256 + (by8 x (ix i s) : Int)) = (sw x i s : Int) := by rw [IntKind.wrap_u64]; omega
      clear up hlt hby
      go_wp2_with (go_at_call 43; refine (at_any _ h (ix i s)).mono ?_; rintro e w' ⟨rfl, rfl⟩)
      go_round
      case rel => exact ⟨s, by omega, by go_num, rfl⟩
      case measure => simp [intOf]
theorem of_any {A : Option Addr} {B c n x : Nat} (w : World) (h : Dig w B A c n x) (hB : B ≤ w.heap.size) :
    Calls Try.prog 20 #[.slice A n c] w fun e w' => e = .returned (nv x) ∧ Below w.heap.size w w' := by
  obtain ⟨iz, io, bb⟩ := own_ZZ4 w
  have ih := h.keep (bb.mono hB)
  clear h
  unfold nv
  go_enter Try.func20, Try.ntmps20
  go_wp2_with fail
  go_loopw [4] (fun i wr => ∃ k : Nat, k ≤ 4 ∧ i = .int .i64 k ∧ Dig wr B A c n x ∧ OwnF wr w.heap.size 35 (some ⟨w.heap.size, 0, none⟩) 4 4 (fun _ => .int .u64 0) ∧ OwnF wr w.heap.size 35 (some ⟨w.heap.size + 1, 0, none⟩) 4 4 (fw x k) ∧ Below w.heap.size w wr)
    (fun i _ => 4 - (intOf i).toNat)
  case atStart => exact ⟨0, by omega, rfl, ih, iz, io.congr (fun j _ => by rw [fw_out (by omega)]), bb⟩
  case round =>
    obtain ⟨k, hk, rfl, h, oz, os, hb⟩ := hrel
    clear ih iz io bb
    by_cases hlt : k < 4
    · have g1 : (k : Int) < 4 := by omega
      have c3 := os.cell hlt
      rw [fw_out (by omega)] at c3
      have f3 := os.free k
      go_wp2_with (go_at_call 41; refine (word_any _ h (i := k) (by omega)).mono ?_; rintro e w' ⟨rfl, rfl⟩)
      have hset : Below (w.heap.size + 1) w' (w'.setCell ⟨w.heap.size + 1, k, none⟩ (.int .u64 (wd x k : Int))) := (Below.refl (w.heap.size + 1) w').setCell (Nat.le_refl (w.heap.size + 1)) _
      have os' := os.set_ k (.int .u64 (wd x k : Int))
      refine ⟨⟨k + 1, by omega, by go_num, h.keep (hset.mono (by omega)), oz.keepAt hset, os'.congr fun j _ => fw_set _ _ _, hb.trans (hset.mono (by omega))⟩, by simp [intOf]; omega⟩
    · have hk' : k = 4 := by omega
      subst hk'
      replace os := os.congr (g := wv x) fun j hj => by rw [fw_in hj]; rfl
      have c0 := (os).cell (k := 0) (by decide)
      have c1 := (os).cell (k := 1) (by decide)
      have c2 := (os).cell (k := 2) (by decide)
      have c3 := (os).cell (k := 3) (by decide)
      have d0 := (oz).cell (k := 0) (by decide)
      have d1 := (oz).cell (k := 1) (by decide)
      have d2 := (oz).cell (k := 2) (by decide)
      have d3 := (oz).cell (k := 3) (by decide)
      have f0 := (oz).free 0
      have f1 := (oz).free 1
      have f2 := (oz).free 2
      have f3 := (oz).free 3
      unfold wv at c0 c1 c2 c3
      obtain ⟨wz, ez, r0, r1, r2, r3, rb⟩ := set4 oz (.int .u64 (wd x 0 : Int)) (.int .u64 (wd x 1 : Int)) (.int .u64 (wd x 2 : Int)) (.int .u64 (wd x 3 : Int))
      go_wp2
      rw [← ez]
      refine bodyPost_ret (v := .agg #[.int .u64 (wd x 0 : Int), .int .u64 (wd x 1 : Int), .int .u64 (wd x 2 : Int), .int .u64 (wd x 3 : Int)]) (by simp [results, Try.results20, go_sem, r0, r1, r2, r3]) rfl ⟨rfl, hb.trans rb⟩
end Go.Proofs.Ytecphnhdcphgbaa
