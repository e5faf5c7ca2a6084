/-
  The document's Clamp and bit (layer 5), over letters. By an AI agent.
-/
import Derived.Test.YtojggpiolgcjeaaMS
import Derived.Test.YtojggpiolgcjeaaInv
import Derived.Test.YtojggpiolgcjeaaLadN
namespace Go.Proofs.Ytojggpiolgcjeaa
open Go Go.RowKit
/-- A secret clamped, in numbers. -/
def clam (x : Nat) : Nat := 8 * (x / 8 % 2 ^ 251) + 2 ^ 254
theorem clam_zero (x : Nat) : by8 (clam x) 0 = by8 x 0 - by8 x 0 % 8 := by
  unfold clam by8 dgt
  simp only [Nat.reducePow, Nat.pow_zero, Nat.div_one]
  omega
theorem clam_top (x : Nat) : by8 (clam x) 31 = by8 x 31 % 64 + 64 := by
  unfold clam by8 dgt
  simp only [Nat.reducePow]
  omega
theorem clam_mid (x : Nat) {k : Nat} (h1 : 1 ≤ k) (h2 : k < 31) : by8 (clam x) k = by8 x k := by
  unfold clam by8 dgt
  have : k = 1 ∨ k = 2 ∨ k = 3 ∨ k = 4 ∨ k = 5 ∨ k = 6 ∨ k = 7 ∨ k = 8 ∨ k = 9 ∨ k = 10 ∨ k = 11 ∨ k = 12 ∨ k = 13 ∨ k = 14 ∨ k = 15 ∨ k = 16 ∨ k = 17 ∨ k = 18 ∨ k = 19 ∨ k = 20 ∨ k = 21 ∨ k = 22 ∨ k = 23 ∨ k = 24 ∨ k = 25 ∨ k = 26 ∨ k = 27 ∨ k = 28 ∨ k = 29 ∨ k = 30 := by omega
  rcases this with rfl | rfl | rfl | rfl | rfl | rfl | rfl | rfl | rfl | rfl | rfl | rfl | rfl | rfl | rfl | rfl | rfl | rfl | rfl | rfl | rfl | rfl | rfl | rfl | rfl | rfl | rfl | rfl | rfl | rfl <;>
    (simp only [Nat.reducePow]; omega)
theorem clam_lt (x : Nat) : clam x < 2 ^ 255 := by
  unfold clam
  have := Nat.mod_lt (x / 8) (show 0 < 2 ^ 251 by decide)
  omega
theorem clam_W4 (x : Nat) : clam x < W4 := Nat.lt_trans (clam_lt x) (by decide +kernel)
theorem nth_set (bs : List UInt8) (k : Nat) (b : UInt8) (j : Nat) (h : k < bs.length) : nth (bs.set k b) j = if k = j then b.toNat else nth bs j := by
  unfold nth
  rw [List.getElem?_set]
  by_cases e : k = j
  · subst e; simp [h]
  · simp [e]
/-- The first block's byte is rounded down, the last one's is filled up. -/
theorem clam_set {bs : List UInt8} (hl : bs.length = 32) {b0 b1 : UInt8} (h0 : b0.toNat = nth bs 0 - nth bs 0 % 8) (h1 : b1.toNat = nth bs 31 % 64 + 64) :
    (bs.set 0 b0).set 31 b1 = gen (bf (clam (vb bs))) 32 := by
  have hv : ∀ i, i < 32 → by8 (vb bs) i = nth bs i := fun i hi => by unfold vb; rw [hl]; exact vk_dig bs i 32 hi
  refine nth_ext (by simp [gen_length, hl]) fun k hk => ?_
  have hk' : k < 32 := by simpa [hl] using hk
  rw [nth_gen hk', bf_nat, nth_set _ _ _ _ (by simp [hl]), nth_set _ _ _ _ (by omega)]
  by_cases e31 : 31 = k
  · subst e31; rw [if_pos rfl, h1, clam_top, hv 31 (by decide)]
  · rw [if_neg e31]
    by_cases e0 : 0 = k
    · subst e0; rw [if_pos rfl, h0, clam_zero, hv 0 (by decide)]
    · rw [if_neg e0, clam_mid _ (by omega) (by omega), hv k hk']
theorem Own.at0 {w : World} {B : Nat} {e : TypeId} {A : Option Addr} {c : Nat} {bs : List UInt8} (h : Own w B e A c bs) (hl : 0 < bs.length) : ∃ g, A = some ⟨g, 0, none⟩ := by
  obtain ⟨_, h2⟩ := h
  rcases h2 with ⟨_, h0⟩ | ⟨g, cap, cur, hv, _⟩
  · omega
  · simp only [Value.slice.injEq] at hv
    exact ⟨g, hv.1⟩
theorem rclamp_len {A : Option Addr} {n c : Nat} (hn : n ≠ 32) (w : World) :
    Calls Try.prog 11 #[.slice A n c] w fun e w' => e = .returned (.tuple #[.slice none 0 0, .int .i64 1]) ∧ Below w.heap.size w w' := by
  have g1 : ((n : Int) == 32) = false := by simp; omega
  have g2 : ((n : Int) != 32) = true := by simp; omega
  go_enter Try.func11, Try.ntmps11
  go_wp2_with fail
  refine bodyPost_ret (v := .tuple #[.slice none 0 0, .int .i64 1]) (by simp [results, Try.results11, go_sem]) rfl ⟨rfl, Below.refl _ _⟩
set_option maxRecDepth 20000
set_option maxHeartbeats 800000 in
theorem rclamp_gen {A : Option Addr} {B c : Nat} {bs : List UInt8} (h32 : bs.length = 32) (w : World) (hr : Rd w B A c bs) (hB : B ≤ w.heap.size) :
    Calls Try.prog 11 #[.slice A bs.length c] w fun e w' => ∃ A' c', e = .returned (.tuple #[.slice A' bs.length c', .int .i64 0]) ∧ Own w' w.heap.size 5 A' c' (gen (bf (clam (vb bs))) 32) ∧ Below w.heap.size w w' := by
  obtain ⟨i0, hi, hz0, hz1, hz2⟩ := info_parts infoByte
  have h2 : Rd (w.alloc (.cells #[] 5)) B A c bs := hr.keep ((Below.refl B w).alloc hB _)
  have h3 : Own (w.alloc (.cells #[] 5)) w.heap.size 5 (some ⟨w.heap.size, 0, none⟩) 0 [] := World.ownsRow_made w #[] 0 (Nat.le_refl _) (by decide) (by decide)
  have h4 : Below w.heap.size w (w.alloc (.cells #[] 5)) := (Below.refl _ w).alloc (Nat.le_refl _) _
  obtain ⟨z, hz⟩ : ∃ z, z = clam (vb bs) := ⟨_, rfl⟩
  have l0 := nth_lt bs 0
  have l31 := nth_lt bs 31
  have hset := @clam_set bs h32 (UInt8.ofNat (nth bs 0 - nth bs 0 % 8)) (UInt8.ofNat (nth bs 31 % 64 + 64)) (by simp; omega) (by simp; omega)
  have hs1 : nth (bs.set 0 (UInt8.ofNat (nth bs 0 - nth bs 0 % 8))) 31 = nth bs 31 := by rw [nth_set _ _ _ _ (by omega), if_neg (by decide)]
  have hb0 : (UInt8.ofNat (nth bs 0 - nth bs 0 % 8)).toNat = nth bs 0 - nth bs 0 % 8 := by simp; omega
  have hb1 : (UInt8.ofNat (nth bs 31 % 64 + 64)).toNat = nth bs 31 % 64 + 64 := by simp; omega
  generalize UInt8.ofNat (nth bs 0 - nth bs 0 % 8) = b0 at hset hs1 hb0
  generalize UInt8.ofNat (nth bs 31 % 64 + 64) = b1 at hset hb1
  rw [← hz] at hset ⊢
  clear hz
  have t0 : (nth bs 0 : Int).tmod 8 = ((nth bs 0 % 8 : Nat) : Int) := by rw [Int.tmod_eq_emod_of_nonneg (by omega)]; omega
  have t31 : (nth bs 31 : Int).tmod 64 = ((nth bs 31 % 64 : Nat) : Int) := by rw [Int.tmod_eq_emod_of_nonneg (by omega)]; omega
  have u0 : IntKind.u8.wrap ((nth bs 0 % 8 : Nat) : Int) = ((nth bs 0 % 8 : Nat) : Int) := by rw [IntKind.wrap_u8]; omega
  have u1 : IntKind.u8.wrap ((nth bs 0 : Int) - ((nth bs 0 % 8 : Nat) : Int)) = (b0.toNat : Int) := by rw [IntKind.wrap_u8, hb0]; omega
  have u2 : IntKind.u8.wrap ((nth bs 31 % 64 : Nat) : Int) = ((nth bs 31 % 64 : Nat) : Int) := by rw [IntKind.wrap_u8]; omega
  have u3 : IntKind.u8.wrap (((nth bs 31 % 64 : Nat) : Int) + 64) = (b1.toNat : Int) := by rw [IntKind.wrap_u8, hb1]; omega
  generalize hy0 : nth bs 0 % 8 = m0 at *
  generalize hy1 : nth bs 31 % 64 = m1 at *
  have g1 : ((bs.length : Int) == 32) = true := by simp; omega
  have g2 : ((bs.length : Int) != 32) = false := by simp; omega
  have gl0 : (0 : Int) < (bs.length : Int) := by omega
  have gl31 : (31 : Int) < (bs.length : Int) := by omega
  clear hb0 hb1 hy0 hy1
  go_enter Try.func11, Try.ntmps11
  go_upto_region 4 with (at_builtin; refine wpList_app _ rfl (.tmp 8) (.tmp 9) _ rfl w.heap.size 5 i0 _ Try.underlying22 hi hz0 hz1 hz2 rfl (xs := []) rfl h3 rfl h2 (by simp only [List.length_nil]; omega) (by simp) ?_; intro A1 c1 v1 ho hb)
  replace ho : Own v1 w.heap.size 5 A1 c1 bs := ho
  have hc := h4.trans hb
  clear h2 h3 h4 hb hr
  obtain ⟨g, rfl⟩ := ho.at0 (by omega)
  have hs := hc.size
  have HO := Lib.hid (fun wz (hz : Below v1.heap.size v1 wz) => (ho.keep hz).cell (k := 0) (by omega))
  refine wp_region_inv 10 [11, 12, 13, 14, 15, 16, 17, 18, 19, 20] [.val (.slice (some ⟨g, 0, none⟩) bs.length c1), .val (.slice (some ⟨g, 0, none⟩) bs.length c1), .val (.pointer (some ⟨g, 0, none⟩)), .val (.int .u8 (nth bs 0 : Int)), .val (.slice (some ⟨g, 0, none⟩) bs.length c1), .val (.pointer (some ⟨g, 0, none⟩)), .val (.int .u8 (nth bs 0 : Int)), .val (.int .u8 ((m0 : Nat) : Int)), .val (.int .u8 (b0.toNat : Int)), .val (.pointer (some ⟨g, 0, none⟩))] (fun wz => Below v1.heap.size v1 wz) (by kernel_rfl) (by kernel_rfl) (fun wz wz' hz hb => hz.trans (hb.mono hz.size)) ((Below.refl _ _).drew) (fun u => by simp only [puts, List.foldl_cons, List.foldl_nil]; go_simp; exact rfl) ?_ ?_
  · simp only [List.take_succ_cons, List.take_zero]
    refine Obs.cons (fun u w hS hd => ?_) ?_
    · exact Gv.run (.slice (some ⟨g, 0, none⟩) bs.length c1) rfl (by go_simp) rfl
    refine Obs.cons (fun u w hS hd => ?_) ?_
    · exact Gv.run (.slice (some ⟨g, 0, none⟩) bs.length c1) rfl (by go_simp) rfl
    refine Obs.cons (fun u w hS hd => ?_) ?_
    · have d12 : u 12 = .slice (some ⟨g, 0, none⟩) bs.length c1 := dep hd 1 rfl
      rw [d12]
      exact Gv.run (.pointer (some ⟨g, 0, none⟩)) rfl (by go_simp) rfl
    refine Obs.cons (fun u w hS hd => ?_) ?_
    · have d13 : u 13 = .pointer (some ⟨g, 0, none⟩) := dep hd 2 rfl
      rw [d13]
      have hcl := HO.out w hS
      exact Gv.run (.int .u8 (nth bs 0 : Int)) rfl (by go_simp) rfl
    refine Obs.cons (fun u w hS hd => ?_) ?_
    · exact Gv.run (.slice (some ⟨g, 0, none⟩) bs.length c1) rfl (by go_simp) rfl
    refine Obs.cons (fun u w hS hd => ?_) ?_
    · have d15 : u 15 = .slice (some ⟨g, 0, none⟩) bs.length c1 := dep hd 4 rfl
      rw [d15]
      exact Gv.run (.pointer (some ⟨g, 0, none⟩)) rfl (by go_simp) rfl
    refine Obs.cons (fun u w hS hd => ?_) ?_
    · have d16 : u 16 = .pointer (some ⟨g, 0, none⟩) := dep hd 5 rfl
      rw [d16]
      have hcl := HO.out w hS
      exact Gv.run (.int .u8 (nth bs 0 : Int)) rfl (by go_simp) rfl
    refine Obs.cons (fun u w hS hd => ?_) ?_
    · have d17 : u 17 = .int .u8 (nth bs 0 : Int) := dep hd 6 rfl
      rw [d17]
      exact Gv.run (.int .u8 ((m0 : Nat) : Int)) rfl (by go_simp) rfl
    refine Obs.cons (fun u w hS hd => ?_) ?_
    · have d14 : u 14 = .int .u8 (nth bs 0 : Int) := dep hd 3 rfl
      rw [d14]
      have d18 : u 18 = .int .u8 ((m0 : Nat) : Int) := dep hd 7 rfl
      rw [d18]
      exact Gv.run (.int .u8 (b0.toNat : Int)) rfl (by go_simp) rfl
    refine Obs.cons (fun u w hS hd => ?_) ?_
    · have d11 : u 11 = .slice (some ⟨g, 0, none⟩) bs.length c1 := dep hd 0 rfl
      rw [d11]
      exact Gv.run (.pointer (some ⟨g, 0, none⟩)) rfl (by go_simp) rfl
    exact Obs.nil
  · intro u v2 hS hd
    have d19 : u 19 = .int .u8 (b0.toNat : Int) := hd 8 (by decide)
    have d20 : u 20 = .pointer (some ⟨g, 0, none⟩) := hd 9 (by decide)
    rw [d19, d20]
    have ho2 := ho.keep hS
    have o3 := ho2.set_ 0 b0
    have cl := ho2.cell (k := 0) (by omega)
    have fr := ho2.free 0
    have cl3 := o3.cell (k := 31) (by rw [List.length_set]; omega)
    have fr3 := o3.free 31
    have o4 := o3.set_ 31 b1
    rw [hs1] at cl3
    rw [hset] at o4
    have b3 : Below w.heap.size w _ := (hc.trans (hS.mono hs)).setCell (p := ⟨g, 0, none⟩) ho2.ge (.int .u8 (b0.toNat : Int))
    have b4 : Below w.heap.size w _ := b3.setCell (p := ⟨g, 31, none⟩) ho2.ge (.int .u8 (b1.toNat : Int))
    simp only [List.drop_succ_cons, List.drop_zero]
    go_wp2_with fail
    refine bodyPost_ret (v := .tuple #[.slice (some ⟨g, 0, none⟩) bs.length c1, .int .i64 0]) (by simp [results, Try.results11, go_sem, h32]) rfl ⟨_, _, rfl, o4, b4⟩
theorem rclamp_any {A : Option Addr} {B c : Nat} {bs : List UInt8} (h32 : bs.length = 32) (w : World) (hr : Rd w B A c bs) (hB : B ≤ w.heap.size) :
    Calls Try.prog 11 #[.slice A 32 c] w fun e w' => ∃ A' c', e = .returned (.tuple #[.slice A' 32 c', .int .i64 0]) ∧ Own w' w.heap.size 5 A' c' (gen (bf (clam (vb bs))) 32) ∧ Below w.heap.size w w' := by
  have h := rclamp_gen h32 w hr hB
  rwa [h32] at h
/-- A secret's i-th bit. -/
def sbit (x i : Nat) : Nat := x / 2 ^ i % 2
set_option maxHeartbeats 400000 in
theorem lbit_any {A : Option Addr} {B c i : Nat} {bs : List UInt8} (h32 : bs.length = 32) (hi : i < 256) (w : World) (hr : Rd w B A c bs) (hB : B ≤ w.heap.size) :
    Calls Try.prog 27 #[.slice A 32 c, .int .i64 (i : Int)] w fun e w' => e = .returned (.int .i64 (sbit (vb bs) i : Int)) ∧ Below w.heap.size w w' := by
  have hv : nth bs (i / 8) = by8 (vb bs) (i / 8) := by unfold vb; rw [h32]; exact (vk_dig bs (i / 8) 32 (by omega)).symm
  have hbit : nth bs (i / 8) / 2 ^ (i % 8) % 2 = sbit (vb bs) i := by rw [hv]; exact bit_of _ _
  have hq : (i : Int).tdiv 8 = ((i / 8 : Nat) : Int) := by rw [Int.tdiv_eq_ediv_of_nonneg (by omega)]; omega
  have hm : (i : Int).tmod 8 = ((i % 8 : Nat) : Int) := by rw [Int.tmod_eq_emod_of_nonneg (by omega)]; omega
  have wq : IntKind.i64.wrap ((i / 8 : Nat) : Int) = ((i / 8 : Nat) : Int) := by rw [IntKind.wrap_i64]; omega
  have wm : IntKind.i64.wrap ((i % 8 : Nat) : Int) = ((i % 8 : Nat) : Int) := by rw [IntKind.wrap_i64]; omega
  have hq32 : i / 8 < 32 := by omega
  have hr8 : i % 8 < 8 := Nat.mod_lt _ (by decide)
  have hdl := nth_lt bs (i / 8)
  obtain ⟨b1, o1, rfl, hb1, c1⟩ := hr.at_ (k := i / 8) (by omega)
  obtain ⟨r, hre⟩ : ∃ r, r = sbit (vb bs) i := ⟨_, rfl⟩
  rw [← hre] at hbit ⊢
  clear hv hre hr
  generalize nth bs (i / 8) = d at *
  obtain ⟨q, hqe⟩ : ∃ q, q = i / 8 := ⟨_, rfl⟩
  obtain ⟨m, hme⟩ : ∃ m, m = i % 8 := ⟨_, rfl⟩
  rw [← hqe] at hq wq hq32 c1
  rw [← hme] at hm wm hr8 hbit
  have HB := Lib.hid hbit
  clear hqe hme hbit h32
  have gq : (0 : Int) ≤ (q : Int) := by omega
  have gq2 : (q : Int) < 32 := by omega
  have wd0 : IntKind.i64.wrap (d : Int) = (d : Int) := by rw [IntKind.wrap_i64]; omega
  go_enter Try.func27, Try.ntmps27
  go_wp2_with fail
  go_loopw [5, 6] (fun v n wr => ∃ k : Nat, k ≤ m ∧ n = .int .i64 k ∧ v = .int .i64 ((d / 2 ^ k : Nat) : Int) ∧ wr = w)
    (fun _ n _ => 8 - (intOf n).toNat)
  case atStart => exact ⟨0, by omega, rfl, by simp, rfl⟩
  case round =>
    obtain ⟨k, hk, rfl, rfl, rfl⟩ := hrel
    have hlt2 : d / 2 ^ k ≤ d := Nat.div_le_self _ _
    have e2 : d / 2 ^ k / 2 = d / 2 ^ (k + 1) := by rw [Nat.div_div_eq_div_mul, ← Nat.pow_succ]
    by_cases hlt : k < m
    · have g1 : (k : Int) < (m : Int) := by omega
      clear HB
      obtain ⟨y, hy⟩ : ∃ y, y = d / 2 ^ (k + 1) := ⟨_, rfl⟩
      obtain ⟨x, hx⟩ : ∃ x, x = d / 2 ^ k := ⟨_, rfl⟩
      rw [← hx, ← hy] at e2
      rw [← hx] at hlt2 ⊢
      have t2 : (x : Int).tdiv 2 = (y : Int) := by rw [Int.tdiv_eq_ediv_of_nonneg (by omega)]; omega
      have w2 : IntKind.i64.wrap (y : Int) = (y : Int) := by rw [IntKind.wrap_i64]; omega
      have HY := Lib.hid hy
      clear e2 hx hy hlt2
      go_wp2_with fail
      go_roundw
      case rel => exact ⟨k + 1, by omega, by go_num, by rw [HY.out], by trivial⟩
      case measure => simp [intOf]; omega
    · obtain rfl : k = m := by omega
      have hb := HB.out
      clear HB e2
      generalize d / 2 ^ k = x at *
      have t2 : (x : Int).tmod 2 = (r : Int) := by rw [← hb, Int.tmod_eq_emod_of_nonneg (by omega)]; omega
      have w2 : IntKind.i64.wrap (r : Int) = (r : Int) := by rw [IntKind.wrap_i64]; omega
      clear hb hlt2
      go_wp2_with fail
      go_ret
      exact ⟨rfl, Below.refl _ _⟩
end Go.Proofs.Ytojggpiolgcjeaa
