/-
  - A digit as an int. (and more)
-/
import Derived.Test.YtkbkalhcdbklkaaGreatDoorME
namespace Go.Proofs.YtkbkalhcdbklkaaGreatDoor
section
open Go Go.RowKit
def dg8 (x k : Nat) : Value := .int .i64 (by8 x k : Int)
def Can (n x : Nat) : Prop := ∀ k, x < 256 ^ k → n ≤ k
theorem Can.zero {n : Nat} (h : Can n 0) : n = 0 := by have := h 0 (by decide); omega
theorem by8_top {x n : Nat} (h : x < 256 ^ n) {k : Nat} (hk : n ≤ k) : by8 x k = 0 := dgt_zero_of_lt (Nat.lt_of_lt_of_le h (Nat.pow_le_pow_right (by decide) hk))
theorem by8_step {x n : Nat} (h : x < 256 ^ (n + 1)) (h0 : by8 x n = 0) : x < 256 ^ n := by
 unfold by8 dgt at h0
 have h1 : x / 256 ^ n < 256 := Nat.div_lt_of_lt_mul (by rw [← Nat.pow_succ]; exact h)
 rw [Nat.mod_eq_of_lt h1] at h0
 rcases Nat.div_eq_zero_iff.1 h0 with h2 | h2
 ·exact absurd h2 (Nat.ne_of_gt (Nat.pow_pos (by decide)))
 ·exact h2
theorem can_of {x n : Nat} (h0 : by8 x n ≠ 0) : Can (n + 1) x := by
 intro k hk
 refine Nat.lt_of_not_le fun hle => h0 ?_
 exact by8_top hk hle
structure Dig (w : World) (B : Nat) (A : Option Addr) (c n x : Nat) : Prop where
 rd : RdF w B A c n (dg8 x)
 lt : x < 256 ^ n
section
variable {w w' : World} {B B' c n x : Nat} {A : Option Addr}
theorem Dig.keep (h : Dig w B A c n x) (hb : Below B w w') : Dig w' B A c n x := ⟨h.rd.keep hb, h.lt⟩
theorem Dig.drew (h : Dig w B A c n x) : Dig w.drew B A c n x := ⟨h.rd.drew, h.lt⟩
theorem Dig.mono (h : Dig w B A c n x) (hb : B ≤ B') : Dig w B' A c n x := ⟨h.rd.mono hb, h.lt⟩
theorem Dig.next (h : Dig w w.heap.size A c n x) (hb : Below w.heap.size w w') : Dig w' w'.heap.size A c n x := ⟨h.rd.next hb, h.lt⟩
end
structure DOwn (w : World) (B : Nat) (A : Option Addr) (c n x : Nat) : Prop where
 own : OwnF w B 3 A c n (dg8 x)
 lt : x < 256 ^ n
 can : Can n x
section
variable {w w' : World} {B B' c n x : Nat} {A : Option Addr}
theorem DOwn.keep (h : DOwn w B A c n x) (hb : Below w.heap.size w w') : DOwn w' B A c n x := ⟨h.own.keep hb, h.lt, h.can⟩
theorem DOwn.mono (h : DOwn w B A c n x) (hb : B' ≤ B) : DOwn w B' A c n x := ⟨h.own.mono hb, h.lt, h.can⟩
theorem DOwn.dig (h : DOwn w B A c n x) : Dig w w.heap.size A c n x := ⟨h.own.rd, h.lt⟩
theorem OwnF.take {e : TypeId} {f : Nat → Value} (h : OwnF w B e A c n f) {m : Nat} (hm : m ≤ n) : OwnF w B e A c m f := by
 obtain ⟨hl, h2⟩ := h
 rcases h2 with ⟨h, h0⟩ | ⟨g, cap, cur, hv, hB, hh, hn, hmx, hs, ht⟩
 ·obtain rfl : m = 0 := by omega
  simp only [Value.slice.injEq] at h
  obtain ⟨rfl, _, rfl⟩ := h
  exact ⟨by simp, .inl ⟨rfl, rfl⟩⟩
 ·refine ⟨by simp, .inr ⟨g, cap, cur, ?_, hB, hh, by omega, hmx, hs, ?_⟩⟩
  ·simp only [Value.slice.injEq, true_and] at hv ⊢
   exact hv
  ·have : (List.range m).map f = ((List.range n).map f).take (m * 1) := by
    rw [← List.map_take, List.take_range, Nat.mul_one, Nat.min_eq_left hm]
   rw [this, ← ht, List.take_take, Nat.min_eq_left (by omega)]
end
theorem at_any {A : Option Addr} {B c n x : Nat} (w : World) (h : Dig w B A c n x) (k : Nat) :
  Calls Tryz.prog 61 #[.slice A n c, .int .i64 k] w fun e w' => e = .returned (.int .i64 (by8 x k : Int)) ∧ w' = w := by
 by_cases hk : k < n
 ·have g1 : (k : Int) < (n : Int) := by omega
  obtain ⟨b1, o1, rfl, hb1, c1⟩ := h.rd.at_ hk
  unfold dg8 at c1
  go_enter Tryz.func61, Tryz.ntmps61
  go_wp2
  go_ret
  exact ⟨rfl, rfl⟩
 ·have g1 : ¬ (k : Int) < (n : Int) := by omega
  rw [by8_top h.lt (by omega)]
  go_enter Tryz.func61, Tryz.ntmps61
  go_wp2
  go_ret
  exact ⟨rfl, rfl⟩
theorem trim_any {A : Option Addr} {B c n x : Nat} (w : World) (h : Dig w B A c n x) (hb : n ≤ 140737488355328) :
  Calls Tryz.prog 91 #[.slice A n c] w fun e w' => ∃ n', n' ≤ n ∧ e = .returned (.slice A n' c) ∧ x < 256 ^ n' ∧ Can n' x ∧ w' = w := by
 go_enter Tryz.func91, Tryz.ntmps91
 go_wp2
 go_loop [3] (fun v => ∃ m : Nat, m ≤ n ∧ v = .int .i64 m ∧ x < 256 ^ m)
  (fun v => (intOf v).toNat)
 case atStart => exact ⟨n, Nat.le_refl _, rfl, h.lt⟩
 case round =>
  obtain ⟨m, hm, rfl, hx⟩ := hrel
  by_cases h0 : m = 0
  ·subst h0
   go_wp2
   go_ret
   exact ⟨0, Nat.zero_le _, rfl, hx, fun k _ => Nat.zero_le k, rfl⟩
  ·obtain ⟨j, rfl⟩ : ∃ j, m = j + 1 := ⟨m - 1, by omega⟩
   obtain ⟨b1, o1, rfl, hb1, c1⟩ := h.rd.at_ (k := j) (by omega)
   unfold dg8 at c1
   have hnm := h.rd.cap
   have gpos : (0 : Int) < (j : Int) + 1 := by omega
   have gj : (j : Int) < (n : Int) := by omega
   have gw : wrap64 (j : Int) = (j : Int) := by unfold wrap64; omega
   by_cases hz : by8 x j = 0
   ·have gz : ((by8 x j : Nat) : Int) = 0 := by omega
    have hz' := Lib.hid hz
    clear hz
    rw [gz] at c1
    go_wp2
    go_round
    case rel => exact ⟨j, by omega, by go_num, by8_step hx hz'.out⟩
    case measure => simp [intOf]
   ·have gz : (((by8 x j : Nat) : Int) == 0) = false := by simp; omega
    have hz' := Lib.hid hz
    clear hz
    go_wp2
    go_ret
    exact ⟨j + 1, by omega, rfl, hx, can_of hz'.out, rfl⟩
end
end Go.Proofs.YtkbkalhcdbklkaaGreatDoor
namespace Go.Proofs.YtkbkalhcdbklkaaGreatDoor
section
open Go Go.RowKit
def sw (x i k : Nat) : Nat := wd x i / 256 ^ k
theorem sw_zero (x i : Nat) : sw x i 0 = wd x i := by simp [sw]
theorem sw_next (x i k : Nat) : sw x i k / 256 = sw x i (k + 1) := by unfold sw; rw [Nat.pow_succ, Nat.div_div_eq_div_mul]
theorem sw_dig (x i k : Nat) (hk : k < 8) : sw x i k % 256 = by8 x (8 * i + k) := by
 rw [← by_wd x (8 * i + k), show (8 * i + k) / 8 = i by omega, show (8 * i + k) % 8 = k by omega, Nat.pow_mul]; rfl
theorem sw_lt (x i k : Nat) : sw x i k < 18446744073709551616 := Nat.lt_of_le_of_lt (Nat.div_le_self _ _) (wd_lt _ _)
theorem W4_256 : W4 = 256 ^ 32 := by decide +kernel
theorem W8_256 : W8 = 256 ^ 64 := by decide +kernel
end
end Go.Proofs.YtkbkalhcdbklkaaGreatDoor
namespace Go.Proofs.YtkbkalhcdbklkaaGreatDoor
section
open Go Go.RowKit
theorem sw_eight (x i : Nat) : sw x i 8 = 0 := Nat.div_eq_of_lt (wd_lt _ _)
def ix (i s : Nat) : Nat := 8 * i + s
theorem sw_up (x i s : Nat) (hs : s < 8) : sw x i (s + 1) * 256 + by8 x (ix i s) = sw x i s := by
 have h1 := sw_next x i s
 have h2 := sw_dig x i s hs
 unfold ix
 omega
theorem word_any {A : Option Addr} {B c n x i : Nat} (w : World) (h : Dig w B A c n x) (hi : i < 8) :
  Calls Tryz.prog 137 #[.slice A n c, .int .i64 (i : Int)] w fun e w' => e = .returned (.int .u64 (wd x i : Int)) ∧ w' = w := by
 go_enter Tryz.func137, Tryz.ntmps137
 go_wp2_with fail
 go_loop [5, 6] (fun v k => ∃ r : Nat, r ≤ 8 ∧ k = .int .i64 ((r : Int) - 1) ∧ v = .int .u64 (sw x i r : Int))
  (fun _ k => (intOf k + 1).toNat)
 case atStart => exact ⟨8, Nat.le_refl _, rfl, by rw [sw_eight]; rfl⟩
 case round =>
  obtain ⟨r, hr, rfl, rfl⟩ := hrel
  by_cases h0 : r = 0
  ·subst h0
   rw [sw_zero]
   go_wp2_with fail
   go_ret
   exact ⟨rfl, rfl⟩
  ·obtain ⟨s, rfl⟩ : ∃ s, r = s + 1 := ⟨r - 1, by omega⟩
   have hs : s < 8 := by omega
   have gs : ((s + 1 : Nat) : Int) - 1 = (s : Int) := by omega
   rw [gs]
   have g0 : (0 : Int) ≤ (s : Int) := by omega
   have up := sw_up x i s hs
   have hlt := sw_lt x i s
   have hby := by8_lt x (ix i s)
   have e1 : IntKind.i64.wrap (8 * (i : Int)) = 8 * (i : Int) := by rw [IntKind.wrap_i64]; omega
   have e2 : IntKind.i64.wrap (8 * (i : Int) + (s : Int)) = (ix i s : Int) := by unfold ix; rw [IntKind.wrap_i64]; omega
   have e3 : IntKind.u64.wrap ((sw x i (s + 1) : Int) * 256) = (sw x i (s + 1) : Int) * 256 := by rw [IntKind.wrap_u64]; omega
   have e4 : IntKind.u64.wrap (by8 x (ix i s) : Int) = (by8 x (ix i s) : Int) := by rw [IntKind.wrap_u64]; omega
   have e5 : IntKind.u64.wrap ((sw x i (s + 1) : Int) * 256 + (by8 x (ix i s) : Int)) = (sw x i s : Int) := by rw [IntKind.wrap_u64]; omega
   clear up hlt hby
   go_wp2_with (go_at_call 61; refine (at_any _ h (ix i s)).mono ?_; rintro e w' ⟨rfl, rfl⟩)
   go_round
   case rel => exact ⟨s, by omega, by go_num, rfl⟩
   case measure => simp [intOf]
theorem of_any {A : Option Addr} {B c n x : Nat} (w : World) (h : Dig w B A c n x) (hB : B ≤ w.heap.size) :
  Calls Tryz.prog 117 #[.slice A n c] w fun e w' => e = .returned (nv x) ∧ Below w.heap.size w w' := by
 obtain ⟨iz, io, bb⟩ := own_ZZ4 w
 have ih := h.keep (bb.mono hB)
 clear h
 unfold nv
 go_enter Tryz.func117, Tryz.ntmps117
 go_wp2_with fail
 go_loopw [4] (fun i wr => ∃ k : Nat, k ≤ 4 ∧ i = .int .i64 k ∧ Dig wr B A c n x ∧ OwnF wr w.heap.size 35 (some ⟨w.heap.size, 0, none⟩) 4 4 (fun _ => .int .u64 0) ∧ OwnF wr w.heap.size 35 (some ⟨w.heap.size + 1, 0, none⟩) 4 4 (fw x k) ∧ Below w.heap.size w wr)
  (fun i _ => 4 - (intOf i).toNat)
 case atStart => exact ⟨0, by omega, rfl, ih, iz, io.congr (fun j _ => by rw [fw_out (by omega)]), bb⟩
 case round =>
  obtain ⟨k, hk, rfl, h, oz, os, hb⟩ := hrel
  clear ih iz io bb
  by_cases hlt : k < 4
  ·have g1 : (k : Int) < 4 := by omega
   have c3 := os.cell hlt
   rw [fw_out (by omega)] at c3
   have f3 := os.free k
   go_wp2_with (go_at_call 137; refine (word_any _ h (i := k) (by omega)).mono ?_; rintro e w' ⟨rfl, rfl⟩)
   have hset : Below (w.heap.size + 1) w' (w'.setCell ⟨w.heap.size + 1, k, none⟩ (.int .u64 (wd x k : Int))) := (Below.refl (w.heap.size + 1) w').setCell (Nat.le_refl (w.heap.size + 1)) _
   have os' := os.set_ k (.int .u64 (wd x k : Int))
   refine ⟨⟨k + 1, by omega, by go_num, h.keep (hset.mono (by omega)), oz.keepAt hset, os'.congr fun j _ => fw_set _ _ _, hb.trans (hset.mono (by omega))⟩, by simp [intOf]; omega⟩
  ·have hk' : k = 4 := by omega
   subst hk'
   replace os := os.congr (g := wv x) fun j hj => by rw [fw_in hj]; rfl
   have c0 := (os).cell (k := 0) (by decide)
   have c1 := (os).cell (k := 1) (by decide)
   have c2 := (os).cell (k := 2) (by decide)
   have c3 := (os).cell (k := 3) (by decide)
   have d0 := (oz).cell (k := 0) (by decide)
   have d1 := (oz).cell (k := 1) (by decide)
   have d2 := (oz).cell (k := 2) (by decide)
   have d3 := (oz).cell (k := 3) (by decide)
   have f0 := (oz).free 0
   have f1 := (oz).free 1
   have f2 := (oz).free 2
   have f3 := (oz).free 3
   unfold wv at c0 c1 c2 c3
   obtain ⟨wz, ez, r0, r1, r2, r3, rb⟩ := set4 oz (.int .u64 (wd x 0 : Int)) (.int .u64 (wd x 1 : Int)) (.int .u64 (wd x 2 : Int)) (.int .u64 (wd x 3 : Int))
   go_wp2
   rw [← ez]
   refine bodyPost_ret (v := .agg #[.int .u64 (wd x 0 : Int), .int .u64 (wd x 1 : Int), .int .u64 (wd x 2 : Int), .int .u64 (wd x 3 : Int)]) (by simp [results, Tryz.results117, go_sem, r0, r1, r2, r3]) rfl ⟨rfl, hb.trans rb⟩
end
end Go.Proofs.YtkbkalhcdbklkaaGreatDoor
namespace Go.Proofs.YtkbkalhcdbklkaaGreatDoor
section
open Go Go.RowKit
end
end Go.Proofs.YtkbkalhcdbklkaaGreatDoor
namespace Go.Proofs.YtkbkalhcdbklkaaGreatDoor
section
open Go Go.RowKit
theorem DOwn.trim {w : World} {B B' n n' c x : Nat} {A : Option Addr} (h : OwnF w B 3 A c n (dg8 x)) (hB : B' ≤ B) (hn : n' ≤ n) (hx : x < 256 ^ n') (hc : Can n' x) : DOwn w B' A c n' x := ⟨(h.mono hB).take hn, hx, hc⟩
def c8 (x y k : Nat) : Nat := cry 256 x y k
def t8 (x y k : Nat) : Nat := by8 x k + by8 y k + c8 x y k
theorem nmod {a b : Nat} (h : a % 256 = b) : (a : Int).tmod 256 = (b : Int) ∧ (a : Int) % 256 = (b : Int) := by
 refine ⟨?_, by omega⟩
 rw [Int.tmod_eq_emod_of_nonneg (by omega)]; omega
theorem ndiv {a b : Nat} (h : a / 256 = b) : (a : Int).tdiv 256 = (b : Int) ∧ (a : Int) / 256 = (b : Int) := by
 refine ⟨?_, by omega⟩
 rw [Int.tdiv_eq_ediv_of_nonneg (by omega)]; omega
end
end Go.Proofs.YtkbkalhcdbklkaaGreatDoor
namespace Go.Proofs.YtkbkalhcdbklkaaGreatDoor
section
open Go Go.RowKit
theorem top_step (x s : Nat) : x / 256 ^ s = 256 * (x / 256 ^ (s + 1)) + by8 x s := by
 unfold by8 dgt
 rw [Nat.pow_succ, ← Nat.div_div_eq_div_mul]
 omega
theorem top_lt {x y s : Nat} (h : x / 256 ^ (s + 1) = y / 256 ^ (s + 1)) (hd : by8 x s < by8 y s) : x < y := by
 refine Nat.lt_of_not_le fun hle => ?_
 have h1 := Nat.div_le_div_right (c := 256 ^ s) hle
 rw [top_step, top_step x, h] at h1
 omega
theorem less_any {A A' : Option Addr} {B c c' n n' x y : Nat} (w : World) (h : Dig w B A c n x) (h' : Dig w B A' c' n' y) (hn : n ≤ 1000) (hn' : n' ≤ 1000) :
  Calls Tryz.prog 76 #[.slice A n c, .slice A' n' c'] w fun e w' => e = .returned (.bool (decide (x < y))) ∧ w' = w := by
 obtain ⟨N, hN⟩ : ∃ N, N = max n n' := ⟨_, rfl⟩
 have hmax : (if n < n' then (n' : Int) else (n : Int)) = (N : Int) := by split <;> omega
 have hxN : x < 256 ^ (N + 1) := Nat.lt_of_lt_of_le h.lt (Nat.pow_le_pow_right (by decide) (by omega))
 have hyN : y < 256 ^ (N + 1) := Nat.lt_of_lt_of_le h'.lt (Nat.pow_le_pow_right (by decide) (by omega))
 have hNb : N ≤ 1000 := by omega
 clear hN
 have ha1 := Lib.hid h
 have ha2 := Lib.hid h'
 clear h h'
 go_enter Tryz.func76, Tryz.ntmps76
 go_wp2_with fail
 go_loop [5] (fun i => ∃ r : Nat, r ≤ N + 1 ∧ i = .int .i64 ((r : Int) - 1) ∧ x / 256 ^ r = y / 256 ^ r)
  (fun i => (intOf i + 1).toNat)
 case atStart => exact ⟨N + 1, Nat.le_refl _, by congr 1; omega, by rw [Nat.div_eq_of_lt hxN, Nat.div_eq_of_lt hyN]⟩
 case round =>
  obtain ⟨r, hr, rfl, he⟩ := hrel
  by_cases h0 : r = 0
  ·subst h0
   have hxy : x = y := by simpa using he
   have hd : decide (x < y) = false := by simp; omega
   have HX := Lib.hid hd
   clear hd he hxy
   go_wp2_with fail
   go_ret
   exact ⟨by rw [HX.out]; rfl, rfl⟩
  ·obtain ⟨s, rfl⟩ : ∃ s, r = s + 1 := ⟨r - 1, by omega⟩
   have gs : ((s + 1 : Nat) : Int) - 1 = (s : Int) := by omega
   rw [gs]
   have g0 : (0 : Int) ≤ (s : Int) := by omega
   have gw : IntKind.i64.wrap ((s : Int) - 1) = (s : Int) - 1 := by rw [IntKind.wrap_i64]; omega
   have HE := Lib.hid he
   clear he
   rcases Nat.lt_trichotomy (by8 x s) (by8 y s) with hd | hd | hd
   ·have h1 : ((by8 x s : Int) != (by8 y s : Int)) = true := by simp; omega
    have h2 : (by8 x s : Int) < (by8 y s : Int) := by omega
    have hxy : decide (x < y) = true := decide_eq_true (top_lt HE.out hd)
    have HX := Lib.hid hxy
    clear hd hxy
    go_wp2_with fail
    go_at_call 61
    refine (at_any _ ha1.out s).mono ?_
    rintro e w' ⟨rfl, rfl⟩
    go_wp2_with fail
    go_at_call 61
    refine (at_any _ ha2.out s).mono ?_
    rintro e w' ⟨rfl, rfl⟩
    go_wp2_with fail
    go_at_call 61
    refine (at_any _ ha1.out s).mono ?_
    rintro e w' ⟨rfl, rfl⟩
    go_wp2_with fail
    go_at_call 61
    refine (at_any _ ha2.out s).mono ?_
    rintro e w' ⟨rfl, rfl⟩
    go_wp2_with fail
    go_ret
    exact ⟨by rw [HX.out]; rfl, rfl⟩
   ·have h1 : ((by8 x s : Int) != (by8 y s : Int)) = false := by simp; omega
    have hnext : x / 256 ^ s = y / 256 ^ s := by rw [top_step, top_step y, HE.out, hd]
    have HN := Lib.hid hnext
    clear hd hnext
    go_wp2_with fail
    go_at_call 61
    refine (at_any _ ha1.out s).mono ?_
    rintro e w' ⟨rfl, rfl⟩
    go_wp2_with fail
    go_at_call 61
    refine (at_any _ ha2.out s).mono ?_
    rintro e w' ⟨rfl, rfl⟩
    go_wp2_with fail
    go_round
    case rel => exact ⟨s, by omega, by go_num, HN.out⟩
    case measure => simp [intOf]
   ·have h1 : ((by8 x s : Int) != (by8 y s : Int)) = true := by simp; omega
    have h2 : ¬ (by8 x s : Int) < (by8 y s : Int) := by omega
    have hxy : decide (x < y) = false := decide_eq_false (by have := top_lt HE.out.symm hd; omega)
    have HX := Lib.hid hxy
    have hdd : decide (by8 x s < by8 y s) = false := decide_eq_false (by omega)
    have HDD := Lib.hid hdd
    clear hdd
    clear hd hxy
    go_wp2_with fail
    go_at_call 61
    refine (at_any _ ha1.out s).mono ?_
    rintro e w' ⟨rfl, rfl⟩
    go_wp2_with fail
    go_at_call 61
    refine (at_any _ ha2.out s).mono ?_
    rintro e w' ⟨rfl, rfl⟩
    go_wp2_with fail
    go_at_call 61
    refine (at_any _ ha1.out s).mono ?_
    rintro e w' ⟨rfl, rfl⟩
    go_wp2_with fail
    go_at_call 61
    refine (at_any _ ha2.out s).mono ?_
    rintro e w' ⟨rfl, rfl⟩
    go_wp2_with fail
    go_ret
    exact ⟨by rw [HX.out, HDD.out]; rfl, rfl⟩
end
end Go.Proofs.YtkbkalhcdbklkaaGreatDoor
namespace Go.Proofs.YtkbkalhcdbklkaaGreatDoor
section
open Go Go.RowKit
def b8 (x y k : Nat) : Nat := brw 256 x y k
def m8 (x y k : Nat) : Nat := 256 + by8 x k - by8 y k - b8 x y k
def df (n x y : Nat) : Nat := x + 256 ^ n - y
theorem b8_le (x y k : Nat) : b8 x y k ≤ 1 := brw_le _ _ _ _
theorem m8_mod (n x y : Nat) {k : Nat} (hk : k < n) (hy : y < 256 ^ n) : m8 x y k % 256 = by8 (df n x y) k := by
 have h := dgt_sub (b := 256) (by decide) x y hk hy
 have h1 := by8_lt y k
 have h2 := b8_le x y k
 unfold m8 df
 unfold by8 b8 at *
 generalize dgt 256 x k = a at *
 generalize dgt 256 y k = b at *
 generalize brw 256 x y k = c at *
 omega
theorem m8_div (x y k : Nat) : 1 - m8 x y k / 256 = b8 x y (k + 1) := by
 have h := brw_succ (b := 256) (by decide) x y k
 have h0 := by8_lt x k
 have h1 := by8_lt y k
 have h2 := b8_le x y k
 unfold m8
 unfold by8 b8 at *
 rw [h]
 generalize dgt 256 x k = a at *
 generalize dgt 256 y k = b at *
 generalize brw 256 x y k = c at *
 split <;> omega
def q8 (x y k : Nat) : Nat := m8 x y k / 256
theorem m8_le (x y k : Nat) : m8 x y k ≤ 511 := by
 have h0 := by8_lt x k
 unfold m8; omega
theorem q8_b (x y k : Nat) : wrap64 (1 - wrap64 (q8 x y k : Int)) = (b8 x y (k + 1) : Int) := by
 have h1 := m8_le x y k
 have h2 := m8_div x y k
 unfold q8
 generalize m8 x y k = a at *
 generalize b8 x y (k + 1) = b at *
 unfold wrap64
 omega
theorem wrapM {p q r : Nat} (hp : p < 256) (hq : q < 256) (hr : r ≤ 1) : IntKind.i64.wrap (256 + (p : Int)) = 256 + (p : Int) ∧ IntKind.i64.wrap (256 + (p : Int) - (q : Int)) = 256 + (p : Int) - (q : Int) ∧
  IntKind.i64.wrap (256 + (p : Int) - (q : Int) - (r : Int)) = ((256 + p - q - r : Nat) : Int) := by
 refine ⟨?_, ?_, ?_⟩ <;> (rw [IntKind.wrap_i64]; omega)
set_option maxRecDepth 20000 in
set_option maxHeartbeats 400000 in
theorem minus_any {A A' : Option Addr} {B c c' n n' x y : Nat} (w : World) (h : Dig w B A c n x) (h' : Dig w B A' c' n' y) (hB : B ≤ w.heap.size) (hn : n ≤ 1000) (hxy : y ≤ x) :
  Calls Tryz.prog 98 #[.slice A n c, .slice A' n' c'] w fun e w' => ∃ A c n, e = .returned (.slice A n c) ∧ DOwn w' w.heap.size A c n (x - y) ∧ Below w.heap.size w w' := by
 obtain ⟨i0, hi, hz0, hz1, hz2⟩ := info_parts infoInt
 have hyn : y < 256 ^ n := Nat.lt_of_le_of_lt hxy h.lt
 have hdf : ∀ k, k < n → by8 (df n x y) k = by8 (x - y) k := fun k hk => by
  unfold df by8
  rw [show x + 256 ^ n - y = (x - y) + 256 ^ n * 1 by omega, dgt_add_mul _ _ hk]
 have hlx : x - y < 256 ^ n := Nat.lt_of_le_of_lt (Nat.sub_le _ _) h.lt
 have HD := Lib.hid hdf
 clear hdf
 go_enter Tryz.func98, Tryz.ntmps98
 go_wp2_with fail
 go_loopw [5, 6, 7] (fun v cc i wr => ∃ k : Nat, k ≤ n ∧ i = .int .i64 k ∧ cc = .int .i64 (b8 x y k : Int) ∧ (∃ A c, v = .slice A k c ∧ OwnF wr w.heap.size 3 A c k (dg8 (df n x y))) ∧ Below w.heap.size w wr)
  (fun _ _ i _ => n - (intOf i).toNat)
 case atStart => exact ⟨0, by omega, rfl, by rw [show b8 x y 0 = 0 from brw_zero _ _ _]; rfl, ⟨none, 0, rfl, OwnF.nothing _ _ _ _⟩, Below.refl _ _⟩
 case round =>
  obtain ⟨k, hk, rfl, rfl, ⟨Av, cv, rfl, ow⟩, hb⟩ := hrel
  by_cases hlt : k < n
  ·have g1 : (k : Int) < (n : Int) := by omega
   have ha := h.keep (hb.mono hB)
   have ha' := h'.keep (hb.mono hB)
   obtain ⟨b1, o1, rfl, hb1, c1⟩ := ha.rd.at_ hlt
   unfold dg8 at c1
   obtain ⟨h1, h2, ht⟩ := wrapM (by8_lt x k) (by8_lt y k) (b8_le x y k)
   rw [← show m8 x y k = 256 + by8 x k - by8 y k - b8 x y k from rfl] at ht
   obtain ⟨e1, e1'⟩ := nmod (m8_mod n x y hlt hyn)
   obtain ⟨e2, e2'⟩ := ndiv (show m8 x y k / 256 = q8 x y k from rfl)
   have hq := Lib.hid (q8_b x y k)
   have hv : Value.int .i64 (by8 (df n x y) k : Int) = dg8 (df n x y) k := rfl
   have HV := Lib.hid hv
   clear hv
   go_wp2_with fail
   refine wp_region_still_lit (by kernel_rfl) (by kernel_rfl) ?_
   repeat (first | still_step | still_call (at_any _ ha'.drew k))
   refine wpStill_nil ?_
   have ew : ({ heap := wr.heap, tape := wr.tape, drawn := wr.drawn + 1, os := wr.os, output := wr.output } : World) = wr.drew := rfl
   rw [ew]
   obtain ⟨w1, hw1⟩ : ∃ w1, w1 = wr.drew := ⟨_, rfl⟩
   have ow1 := ow.drew
   have hb1' := hb.drew
   rw [← hw1] at ow1 hb1' ⊢
   clear ow hb c1 ew hw1 hb1
   go_wp2_with (at_builtin; refine wpList_appF1 _ rfl (.tmp 26) (.tmp 29) _ rfl w.heap.size 3 i0 _ Tryz.underlying40 hi hz0 hz1 hz2 (by decide) rfl rfl ow1 HV.out rfl rfl (by omega) (by omega) hb1'.size ?_; intro A' c' w' ho' hb')
   refine ⟨⟨k + 1, by omega, by go_num, by rw [hq.out], ⟨A', c', rfl, ho'⟩, hb1'.trans hb'⟩, by simp [intOf]; omega⟩
  ·have hk' : k = n := by omega
   subst hk'
   have ow1 := ow.congr (g := dg8 (x - y)) fun j hj => by unfold dg8; rw [HD.out j hj]
   clear ow
   go_wp2_with fail
   go_at_call 91
   refine (trim_any (x := x - y) _ ⟨ow1.rd, hlx⟩ (by omega)).mono ?_
   rintro e w1 ⟨n', hn', rfl, hx', hc, rfl⟩
   go_wp2
   go_ret
   exact ⟨Av, cv, n', rfl, DOwn.trim ow1 (Nat.le_refl _) hn' hx' hc, hb⟩
end
section
open Go Go.RowKit
def mT8 (x y i : Nat) : Nat := mT 256 x y i
def mS8 (x y i k : Nat) : Nat := mS 256 x y i k
def mO8 (x y i k : Nat) : Nat := mO 256 x y i k
def mc8 (x y i k j : Nat) : Value := .int .i64 ((if j < i + k then by8 (mS8 x y i k) j else by8 (mT8 x y i) j : Nat) : Int)
def pd (x y i k : Nat) : Nat := by8 x i * by8 y k
def u1 (x y i k : Nat) : Nat := by8 (mT8 x y i) (i + k) + pd x y i k
def tt (x y i k : Nat) : Nat := u1 x y i k + mO8 x y i k
end
end Go.Proofs.YtkbkalhcdbklkaaGreatDoor
namespace Go.Proofs.YtkbkalhcdbklkaaGreatDoor
section
open Go Go.RowKit
end
end Go.Proofs.YtkbkalhcdbklkaaGreatDoor
namespace Go.Proofs.YtkbkalhcdbklkaaGreatDoor
section
open Go Go.RowKit
def vsum : Nat → (Nat → Nat) → Nat
 | 0, _ => 0
 | n + 1, f => vsum n f + f n * 256 ^ n
theorem vsum_dig (x : Nat) : ∀ n, vsum n (by8 x) = x % 256 ^ n
 | 0 => by simp [vsum, Nat.mod_one]
 | n + 1 => by rw [vsum, vsum_dig x n, mod_pow_succ', Nat.mul_comm (256 ^ n)]; rfl
def celln (w : World) (ad : Addr) (k : Nat) : Nat := match w.cell? ⟨ad.block, ad.off + k, none⟩ with | some (.int _ z) => z.toNat | _ => 0
def meas (v : Value) (w : World) : Nat := match v with
 | .slice (some ad) n _ => vsum n (celln w ad)
 | _ => 0
theorem vsum_congr {f g : Nat → Nat} : ∀ n, (∀ k, k < n → f k = g k) → vsum n f = vsum n g
 | 0, _ => rfl
 | n + 1, h => by rw [vsum, vsum, vsum_congr n fun k hk => h k (by omega), h n (by omega)]
theorem meas_dig {w : World} {B c n x : Nat} {A : Option Addr} (h : Dig w B A c n x) : meas (.slice A n c) w = x := by
 rcases A with _ | ad
 ·obtain ⟨rfl, _⟩ := h.rd.nil rfl
  have := h.lt
  simp at this
  subst this
  rfl
 ·unfold meas
  simp only
  rw [vsum_congr n (g := by8 x), vsum_dig, Nat.mod_eq_of_lt h.lt]
  intro k hk
  obtain ⟨b, o, e, _, hc⟩ := h.rd.at_ hk
  obtain rfl := Option.some.inj e
  unfold celln
  rw [hc]
  simp [dg8]
theorem by8_cons0 {d z : Nat} (hd : d < 256) : by8 (d + 256 * z) 0 = d := by unfold by8 dgt; simp; omega
theorem by8_cons {d z : Nat} (hd : d < 256) (k : Nat) : by8 (d + 256 * z) (k + 1) = by8 z k := by
 unfold by8 dgt
 rw [Nat.pow_succ, Nat.mul_comm (256 ^ k), ← Nat.div_div_eq_div_mul, show (d + 256 * z) / 256 = z by omega]
theorem wpList_appF {P : Program} (w : World) {ops : Array Oper} {rest : List Oper} {o : Oper} {a : Act} {Q : Exit → Act → World → Prop} (hgd : o.guard = none) (s x : Operand) (t : TypeId)
  (ho : o.op = .call { callee := .builtin .append, args := #[s, x], argTypes := #[t, t] })
  (base : Nat) (e : TypeId) (i : TypeInfo) (z : Value) (ht : P.underlying t = some (.slice e)) (hi : P.info? e = some i) (hz : i.zero = some z)
  (hsize : i.size = 1) {by_ : Nat} (hby : i.bytes = by_) (hby0 : 0 < by_) (hzs : z.cells.size = 1) {As : Option Addr} {cs n : Nat} {f : Nat → Value} (hs : a.eval s = .slice As n cs) (hown : OwnF w base e As cs n f)
  {B c m : Nat} {A : Option Addr} {g : Nat → Value} (hx : a.eval x = .slice A m c) (hr : RdF w B A c m g) (hg : ∀ k, k < m → (g k).oneCell' = true) (hlen : n + m ≤ 140737488355328) (hbytes : (n + m) * by_ ≤ 140737488355328) (hbase : base ≤ w.heap.size)
  (h : ∀ A' c' w', OwnF w' base e A' c' (n + m) (fun k => if k < n then f k else g (k - n)) → Below base w w' → wpList P ops Q rest (a.put o.dst (.slice A' (n + m) c')) w') : wpList P ops Q (o :: rest) a w :=
 wpList_plain hgd fun _ hK => wp_appF w s x t ho base e i z ht hi hz hsize hby hby0 hzs hs hown hx hr hg hlen hbytes hbase fun A' c' w' h1 h2 => hK _ _ (h A' c' w' h1 h2)
def hd (x s : Nat) : Nat := x / 256 ^ s
theorem hd_step (x s : Nat) : hd x s = 256 * hd x (s + 1) + by8 x s := top_step x s
theorem hd_mod (x y s : Nat) : (by8 x s + 256 * (hd x (s + 1) % y)) % y = hd x s % y := by
 rw [hd_step x s, Nat.add_comm, Nat.add_mod, Nat.mul_mod, Nat.mod_mod, ← Nat.mul_mod, ← Nat.add_mod]
theorem DOwn.nothing (w : World) (B : Nat) : DOwn w B none 0 0 0 := ⟨OwnF.nothing _ _ _ _, by decide, fun k _ => Nat.zero_le k⟩
theorem DOwn.next {w w' : World} {B c n x : Nat} {A : Option Addr} (h : DOwn w B A c n x) (hb : Below w.heap.size w w') : DOwn w' B A c n x := h.keep hb
set_option maxRecDepth 20000 in
set_option maxHeartbeats 800000 in
theorem left_any {A A' : Option Addr} {B c c' n n' x y : Nat} (w : World) (h : Dig w B A c n x) (h' : Dig w B A' c' n' y) (hB : B ≤ w.heap.size) (hn : n ≤ 1000) (hn' : n' ≤ 500) (hy : 0 < y) :
  Calls Tryz.prog 59 #[.slice A n c, .slice A' n' c'] w fun e w' => ∃ A c n, e = .returned (.slice A n c) ∧ DOwn w' w.heap.size A c n (x % y) ∧ Below w.heap.size w w' := by
 obtain ⟨i0, hi, hz0, hz1, hz2⟩ := info_parts infoInt
 have hl1 : IntKind.i64.wrap ((n : Int) - 1) = (n : Int) - 1 := by rw [IntKind.wrap_i64]; omega
 go_enter Tryz.func59, Tryz.ntmps59
 go_wp2_with fail
 go_loopw [5, 6] (fun v i wr => ∃ r : Nat, r ≤ n ∧ i = .int .i64 ((r : Int) - 1) ∧ (∃ A c m, v = .slice A m c ∧ DOwn wr w.heap.size A c m (hd x r % y)) ∧ Below w.heap.size w wr)
  (fun _ i _ => (intOf i + 1).toNat)
 case atStart => exact ⟨n, Nat.le_refl _, rfl, ⟨none, 0, 0, rfl, by rw [show hd x n = 0 from Nat.div_eq_of_lt h.lt, Nat.zero_mod]; exact DOwn.nothing _ _⟩, Below.refl _ _⟩
 case round =>
  obtain ⟨r, hr, rfl, ⟨Ao, co, mo, rfl, od⟩, hb⟩ := hrel
  by_cases h0 : r = 0
  ·subst h0
   rw [show hd x 0 = x by simp [hd]] at od
   go_wp2_with fail
   go_ret
   exact ⟨Ao, co, mo, rfl, od, hb⟩
  ·obtain ⟨s, rfl⟩ : ∃ s, r = s + 1 := ⟨r - 1, by omega⟩
   have gs : ((s + 1 : Nat) : Int) - 1 = (s : Int) := by omega
   rw [gs]
   have g0 : (0 : Int) ≤ (s : Int) := by omega
   have gn : (s : Int) < (n : Int) := by omega
   have gw : IntKind.i64.wrap ((s : Int) - 1) = (s : Int) - 1 := by rw [IntKind.wrap_i64]; omega
   have hdl := by8_lt x s
   have ha := h.keep (hb.mono hB)
   have ha' := h'.keep (hb.mono hB)
   obtain ⟨b1, o1, rfl, hb1, c1⟩ := ha.rd.at_ (k := s) (by omega)
   unfold dg8 at c1
   have hzy : hd x (s + 1) % y < y := Nat.mod_lt _ hy
   have hmo : mo ≤ n' := od.can n' (Nat.lt_trans hzy h'.lt)
   have hX := hd_mod x y s
   obtain ⟨z, hz⟩ : ∃ z, z = hd x (s + 1) % y := ⟨_, rfl⟩
   rw [← hz] at hX od hzy
   clear hz
   have hHX := Lib.hid hX
   clear hX
   have bl : Below wr.heap.size wr (wr.alloc (.cells #[.int .i64 (by8 x s : Int)] 3)) := (Below.refl _ wr).alloc (Nat.le_refl _) _
   have ol : OwnF (wr.alloc (.cells #[.int .i64 (by8 x s : Int)] 3)) w.heap.size 3 (some ⟨wr.heap.size, 0, none⟩) 1 1 (fun _ => .int .i64 (by8 x s : Int)) := OwnF.lit _ hb.size _ 1 _ (by decide) rfl
   have rl := od.own.rd.keep bl
   have hsz : w.heap.size ≤ (wr.alloc (.cells #[.int .i64 (by8 x s : Int)] 3)).heap.size := Nat.le_trans hb.size bl.size
   go_wp2_with (at_builtin; refine wpList_appF _ rfl (.tmp 18) (.tmp 19) _ rfl w.heap.size 3 i0 _ Tryz.underlying40 hi hz0 hz1 hz2 (by decide) rfl rfl ol rfl rl (fun _ _ => rfl) (by omega) (by omega) hsz ?_; intro A2 c2 w2 ho2 hb2)
   obtain ⟨X, hXe⟩ : ∃ X, X = by8 x s + 256 * z := ⟨_, rfl⟩
   have hXl : X < 256 ^ (1 + mo) := by
    have := od.lt
    rw [Nat.add_comm, Nat.pow_succ]
    omega
   have hXy : X < 256 ^ (n' + 1) := by
    have := h'.lt
    rw [Nat.pow_succ]
    omega
   have ho3 := ho2.congr (g := dg8 X) fun k hk => by
    unfold dg8
    rw [hXe]
    by_cases h1 : k < 1
    ·obtain rfl : k = 0 := by omega
     rw [if_pos h1, by8_cons0 hdl]
    ·obtain ⟨j, rfl⟩ : ∃ j, k = j + 1 := ⟨k - 1, by omega⟩
     rw [if_neg h1, by8_cons hdl, Nat.add_sub_cancel]
   have hHX2 : X % y = hd x s % y := by rw [hXe]; exact hHX.out
   have HX := Lib.hid hHX2
   clear hHX hHX2 hXe ho2 rl ol bl c1 od
   refine (trim_any (x := X) _ ⟨ho3.rd, hXl⟩ (by omega)).mono ?_
   rintro e w3 ⟨n2, hn2, rfl, hx2, hc2, rfl⟩
   have hb3 := (hb.alloc hb.size (.cells #[.int .i64 (by8 x s : Int)] 3)).trans hb2
   have dX := DOwn.trim ho3 (Nat.le_refl _) hn2 hx2 hc2
   clear ho3 hb2 hx2 hc2
   go_wp2_with fail
   clear hb ha ha'
   obtain ⟨w0, e0⟩ : ∃ w0 : World, w0 = wr := ⟨_, rfl⟩
   subst e0
   go_loopw [5] (fun v wr => ∃ A c m V, v = .slice A m c ∧ DOwn wr w.heap.size A c m V ∧ V ≤ X ∧ V % y = X % y ∧ Below w.heap.size w wr)
    (fun v w => meas v w)
   case atStart => exact ⟨_, _, _, X, rfl, dX, Nat.le_refl _, rfl, hb3⟩
   case round =>
    clear dX hb3
    obtain ⟨Av, cv, m, V, rfl, dV, hVX, hVm, hb⟩ := hrel
    have ha' := h'.keep (hb.mono hB)
    have hm : m ≤ n' + 1 := dV.can _ (Nat.lt_of_le_of_lt hVX hXy)
    have hmeas := meas_dig dV.dig
    by_cases hlt : V < y
    ·have hd1 : decide (V < y) = true := decide_eq_true hlt
     have hV : V = hd x s % y := by rw [← HX.out, ← hVm, Nat.mod_eq_of_lt hlt]
     subst hV
     clear hlt hmeas
     have HV := Lib.hid hVm
     clear hVm
     go_wp2_with fail
     go_at_call 76
     refine (less_any _ (dV.dig.mono (Nat.le_refl _)) (ha'.mono (by have := hb.size; omega)) (by omega) (by omega)).mono ?_
     rintro e w4 ⟨rfl, rfl⟩
     go_wp2_with fail
     refine ⟨⟨s, by omega, by go_num, ⟨Av, cv, m, rfl, dV⟩, hb⟩, by simp [intOf]⟩
    ·have hd1 : decide (V < y) = false := decide_eq_false hlt
     have hyV : y ≤ V := by omega
     have hVs : (V - y) % y = X % y := by rw [← hVm, Nat.mod_eq_sub_mod hyV]
     have HV := Lib.hid hVs
     have HM := Lib.hid hmeas
     clear hVs hmeas hVm
     go_wp2_with fail
     go_at_call 76
     refine (less_any _ (dV.dig.mono (Nat.le_refl _)) (ha'.mono (by have := hb.size; omega)) (by omega) (by omega)).mono ?_
     rintro e w4 ⟨rfl, rfl⟩
     go_wp2_with fail
     go_at_call 98
     refine (minus_any _ (dV.dig.mono (Nat.le_refl _)) (ha'.mono (by have := hb.size; omega)) (Nat.le_refl _) (by omega) hyV).mono ?_
     rintro e w5 ⟨A5, c5, m5, rfl, d5, hb5⟩
     go_wp2_with fail
     have hm5 := meas_dig d5.dig
     refine ⟨⟨A5, c5, m5, V - y, rfl, d5.mono hb.size, by omega, HV.out, bnx hb hb5⟩, ?_⟩
     show meas (.slice A5 m5 c5) w5 < meas (.slice Av m cv) w4
     rw [hm5, HM.out]
     omega
end
end Go.Proofs.YtkbkalhcdbklkaaGreatDoor
namespace Go.Proofs.YtkbkalhcdbklkaaGreatDoor
section
open Go Go.RowKit
abbrev dvs (lo hi : Nat) : Value := .agg #[.int .u64 (wd lo 0 : Int), .int .u64 (wd lo 1 : Int), .int .u64 (wd lo 2 : Int), .int .u64 (wd lo 3 : Int), .int .u64 (wd hi 0 : Int), .int .u64 (wd hi 1 : Int), .int .u64 (wd hi 2 : Int), .int .u64 (wd hi 3 : Int)]
theorem wd_hi (x k : Nat) : wd (x / W4) k = wd x (4 + k) := by
 unfold wd dgt W4
 rw [Nat.div_div_eq_div_mul, ← Nat.pow_add]
theorem dv_split (a : Nat) : dv a = dvs (a % W4) (a / W4) := by
 unfold dv dvs
 rw [wd_mod a (by decide : 0 < 4), wd_mod a (by decide : 1 < 4), wd_mod a (by decide : 2 < 4), wd_mod a (by decide : 3 < 4), wd_hi, wd_hi, wd_hi, wd_hi]
abbrev A8s (lo hi : Nat) : Obj := .cells #[.int .u64 (wd lo 0 : Int), .int .u64 (wd lo 1 : Int), .int .u64 (wd lo 2 : Int), .int .u64 (wd lo 3 : Int), .int .u64 (wd hi 0 : Int), .int .u64 (wd hi 1 : Int), .int .u64 (wd hi 2 : Int), .int .u64 (wd hi 3 : Int)] 86
def lenOf : Value → Nat
 | .slice _ n _ => n
 | _ => 0
end
end Go.Proofs.YtkbkalhcdbklkaaGreatDoor
namespace Go.Proofs.YtkbkalhcdbklkaaGreatDoor
section
open Go Go.RowKit
theorem vk_dig (bs : List UInt8) (i : Nat) : ∀ n, i < n → by8 (vk bs n) i = nth bs i
 | 0, h => absurd h (by omega)
 | n + 1, h => by
  rw [vk, Nat.mul_comm]
  by_cases h1 : i < n
  ·rw [show by8 (vk bs n + 256 ^ n * nth bs n) i = by8 (vk bs n) i from dgt_add_mul _ _ h1, vk_dig bs i n h1]
  ·obtain rfl : i = n := by omega
   unfold by8 dgt
   rw [Nat.add_mul_div_left _ _ (Nat.pow_pos (by decide)), Nat.div_eq_of_lt (vk_lt bs i), Nat.zero_add, Nat.mod_eq_of_lt (nth_lt bs i)]
theorem read_all {A : Option Addr} {B c : Nat} {bs : List UInt8} (w : World) (h : Rd w B A c bs) (hB : B ≤ w.heap.size) (hn : bs.length ≤ 17592186044416) :
  Calls Tryz.prog 48 #[.slice A bs.length c] w fun e w' => ∃ A c n, e = .returned (.slice A n c) ∧ DOwn w' w.heap.size A c n (vb bs) ∧ Below w.heap.size w w' := by
 obtain ⟨i0, hi, hz0, hz1, hz2⟩ := info_parts infoInt
 go_enter Tryz.func48, Tryz.ntmps48
 go_wp2_with fail
 go_loopw [3, 4] (fun v i wr => ∃ k : Nat, k ≤ bs.length ∧ i = .int .i64 k ∧ (∃ A c, v = .slice A k c ∧ OwnF wr w.heap.size 3 A c k (dg8 (vb bs))) ∧ Below w.heap.size w wr)
  (fun _ i _ => bs.length - (intOf i).toNat)
 case atStart => exact ⟨0, by omega, rfl, ⟨none, 0, rfl, OwnF.nothing _ _ _ _⟩, Below.refl _ _⟩
 case round =>
  obtain ⟨k, hk, rfl, ⟨Av, cv, rfl, ow⟩, hb⟩ := hrel
  by_cases hlt : k < bs.length
  ·have g1 : (k : Int) < (bs.length : Int) := by omega
   have ha := h.keep (hb.mono hB)
   obtain ⟨b1, o1, rfl, hb1, c1⟩ := ha.at_ hlt
   have e1 : IntKind.i64.wrap (nth bs k : Int) = (nth bs k : Int) := by have := nth_lt bs k; rw [IntKind.wrap_i64]; omega
   have HV : Hid (Value.int .i64 (nth bs k : Int) = dg8 (vb bs) k) := Lib.hid (by unfold dg8 vb; rw [vk_dig bs k _ hlt])
   go_wp2_with (at_builtin; refine wpList_appF1 _ rfl (.tmp 11) (.tmp 17) _ rfl w.heap.size 3 i0 _ Tryz.underlying40 hi hz0 hz1 hz2 (by decide) rfl rfl ow HV.out rfl rfl (by omega) (by omega) hb.size ?_; intro A' c' w' ho' hb')
   refine ⟨⟨k + 1, by omega, by go_num, ⟨A', c', rfl, ho'⟩, hb.trans hb'⟩, by simp [intOf]; omega⟩
  ·have hk' : k = bs.length := by omega
   subst hk'
   go_wp2_with fail
   go_at_call 91
   refine (trim_any (x := vb bs) _ ⟨ow.rd, vk_lt bs _⟩ (by omega)).mono ?_
   rintro e w1 ⟨n', hn', rfl, hx', hc, rfl⟩
   go_wp2
   go_ret
   exact ⟨Av, cv, n', rfl, DOwn.trim ow (Nat.le_refl _) hn' hx' hc, hb⟩
theorem read_any {A : Option Addr} {B c : Nat} {bs : List UInt8} (w : World) (h : Rd w B A c bs) (hB : B ≤ w.heap.size) (hn : bs.length ≤ 1000) :
  Calls Tryz.prog 48 #[.slice A bs.length c] w fun e w' => ∃ A c n, e = .returned (.slice A n c) ∧ DOwn w' w.heap.size A c n (vb bs) ∧ Below w.heap.size w w' := read_all w h hB (Nat.le_trans hn (by decide))
end
end Go.Proofs.YtkbkalhcdbklkaaGreatDoor
