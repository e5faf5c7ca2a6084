import Derived.Test.YtmhfkabpfkoocaaDoorMB
namespace Go.Proofs.YtmhfkabpfkoocaaDoor
open Go Go.RowKit
/-- A digit as an int. -/
def dg8 (x k : Nat) : Value := .int .i64 (by8 x k : Int)
/-- No shorter row of digits is worth as much. -/
def Can (n x : Nat) : Prop := ∀ k, x < 256 ^ k → n ≤ k
theorem Can.zero {n : Nat} (h : Can n 0) : n = 0 := by have := h 0 (by decide); omega
theorem by8_top {x n : Nat} (h : x < 256 ^ n) {k : Nat} (hk : n ≤ k) : by8 x k = 0 := dgt_zero_of_lt (Nat.lt_of_lt_of_le h (Nat.pow_le_pow_right (by decide) hk))
theorem by8_step {x n : Nat} (h : x < 256 ^ (n + 1)) (h0 : by8 x n = 0) : x < 256 ^ n := by
  unfold by8 dgt at h0
  have h1 : x / 256 ^ n < 256 := Nat.div_lt_of_lt_mul (by rw [← Nat.pow_succ]; exact h)
  rw [Nat.mod_eq_of_lt h1] at h0
  rcases Nat.div_eq_zero_iff.1 h0 with h2 | h2
  · exact absurd h2 (Nat.ne_of_gt (Nat.pow_pos (by decide)))
  · exact h2
theorem can_of {x n : Nat} (h0 : by8 x n ≠ 0) : Can (n + 1) x := by
  intro k hk
  refine Nat.lt_of_not_le fun hle => h0 ?_
  exact by8_top hk hle
/-- The slice reads as n digits of x, which has no more. -/
structure Dig (w : World) (B : Nat) (A : Option Addr) (c n x : Nat) : Prop where
  rd : RdF w B A c n (dg8 x)
  lt : x < 256 ^ n
section
variable {w w' : World} {B B' c n x : Nat} {A : Option Addr}
theorem Dig.keep (h : Dig w B A c n x) (hb : Below B w w') : Dig w' B A c n x := ⟨h.rd.keep hb, h.lt⟩
theorem Dig.drew (h : Dig w B A c n x) : Dig w.drew B A c n x := ⟨h.rd.drew, h.lt⟩
theorem Dig.mono (h : Dig w B A c n x) (hb : B ≤ B') : Dig w B' A c n x := ⟨h.rd.mono hb, h.lt⟩
theorem Dig.next (h : Dig w w.heap.size A c n x) (hb : Below w.heap.size w w') : Dig w' w'.heap.size A c n x := ⟨h.rd.next hb, h.lt⟩
end
/-- .. in a row of the call's own, and no shorter row does. -/
structure DOwn (w : World) (B : Nat) (A : Option Addr) (c n x : Nat) : Prop where
  own : OwnF w B 3 A c n (dg8 x)
  lt : x < 256 ^ n
  can : Can n x
section
variable {w w' : World} {B B' c n x : Nat} {A : Option Addr}
theorem DOwn.keep (h : DOwn w B A c n x) (hb : Below w.heap.size w w') : DOwn w' B A c n x := ⟨h.own.keep hb, h.lt, h.can⟩
theorem DOwn.mono (h : DOwn w B A c n x) (hb : B' ≤ B) : DOwn w B' A c n x := ⟨h.own.mono hb, h.lt, h.can⟩
theorem DOwn.dig (h : DOwn w B A c n x) : Dig w w.heap.size A c n x := ⟨h.own.rd, h.lt⟩
theorem OwnF.take {e : TypeId} {f : Nat → Value} (h : OwnF w B e A c n f) {m : Nat} (hm : m ≤ n) : OwnF w B e A c m f := by
  obtain ⟨hl, h2⟩ := h
  rcases h2 with ⟨h, h0⟩ | ⟨g, cap, cur, hv, hB, hh, hn, hmx, hs, ht⟩
  · obtain rfl : m = 0 := by omega
    simp only [Value.slice.injEq] at h
    obtain ⟨rfl, _, rfl⟩ := h
    exact ⟨by simp, .inl ⟨rfl, rfl⟩⟩
  · refine ⟨by simp, .inr ⟨g, cap, cur, ?_, hB, hh, by omega, hmx, hs, ?_⟩⟩
    · simp only [Value.slice.injEq, true_and] at hv ⊢
      exact hv
    · have : (List.range m).map f = ((List.range n).map f).take (m * 1) := by
        rw [← List.map_take, List.take_range, Nat.mul_one, Nat.min_eq_left hm]
      rw [this, ← ht, List.take_take, Nat.min_eq_left (by omega)]
end

theorem at_any {A : Option Addr} {B c n x : Nat} (w : World) (h : Dig w B A c n x) (k : Nat) :
    Calls Tryd.prog 53 #[.slice A n c, .int .i64 k] w fun e w' => e = .returned (.int .i64 (by8 x k : Int)) ∧ w' = w := by
  by_cases hk : k < n
  · have g1 : (k : Int) < (n : Int) := by omega
    obtain ⟨b1, o1, rfl, hb1, c1⟩ := h.rd.at_ hk
    unfold dg8 at c1
    go_enter Tryd.func53, Tryd.ntmps53
    go_wp2
    go_ret
    exact ⟨rfl, rfl⟩
  · have g1 : ¬ (k : Int) < (n : Int) := by omega
    rw [by8_top h.lt (by omega)]
    go_enter Tryd.func53, Tryd.ntmps53
    go_wp2
    go_ret
    exact ⟨rfl, rfl⟩
theorem trim_any {A : Option Addr} {B c n x : Nat} (w : World) (h : Dig w B A c n x) (hb : n ≤ 140737488355328) :
    Calls Tryd.prog 52 #[.slice A n c] w fun e w' => ∃ n', n' ≤ n ∧ e = .returned (.slice A n' c) ∧ x < 256 ^ n' ∧ Can n' x ∧ w' = w := by
  go_enter Tryd.func52, Tryd.ntmps52
  go_wp2
  go_loop [3] (fun v => ∃ m : Nat, m ≤ n ∧ v = .int .i64 m ∧ x < 256 ^ m)
    (fun v => (intOf v).toNat)
  case atStart => exact ⟨n, Nat.le_refl _, rfl, h.lt⟩
  case round =>
    obtain ⟨m, hm, rfl, hx⟩ := hrel
    by_cases h0 : m = 0
    · subst h0
      go_wp2
      go_ret
      exact ⟨0, Nat.zero_le _, rfl, hx, fun k _ => Nat.zero_le k, rfl⟩
    · obtain ⟨j, rfl⟩ : ∃ j, m = j + 1 := ⟨m - 1, by omega⟩
      obtain ⟨b1, o1, rfl, hb1, c1⟩ := h.rd.at_ (k := j) (by omega)
      unfold dg8 at c1
      have hnm := h.rd.cap
      have gpos : (0 : Int) < (j : Int) + 1 := by omega
      have gj : (j : Int) < (n : Int) := by omega
      have gw : wrap64 (j : Int) = (j : Int) := by unfold wrap64; omega
      by_cases hz : by8 x j = 0
      · have gz : ((by8 x j : Nat) : Int) = 0 := by omega
        have hz' := Lib.hid hz
        clear hz
        rw [gz] at c1
        go_wp2
        go_round
        case rel => exact ⟨j, by omega, by go_num, by8_step hx hz'.out⟩
        case measure => simp [intOf]
      · have gz : (((by8 x j : Nat) : Int) == 0) = false := by simp; omega
        have hz' := Lib.hid hz
        clear hz
        go_wp2
        go_ret
        exact ⟨j + 1, by omega, rfl, hx, can_of hz'.out, rfl⟩
end Go.Proofs.YtmhfkabpfkoocaaDoor

namespace Go.Proofs.YtmhfkabpfkoocaaDoor
open Go Go.RowKit
/-- Word i of x without its lowest k bytes. -/
def sw (x i k : Nat) : Nat := wd x i / 256 ^ k
theorem sw_zero (x i : Nat) : sw x i 0 = wd x i := by simp [sw]
theorem sw_next (x i k : Nat) : sw x i k / 256 = sw x i (k + 1) := by unfold sw; rw [Nat.pow_succ, Nat.div_div_eq_div_mul]
theorem sw_dig (x i k : Nat) (hk : k < 8) : sw x i k % 256 = by8 x (8 * i + k) := by
  rw [← by_wd x (8 * i + k), show (8 * i + k) / 8 = i by omega, show (8 * i + k) % 8 = k by omega, Nat.pow_mul]; rfl
theorem sw_lt (x i k : Nat) : sw x i k < 18446744073709551616 := Nat.lt_of_le_of_lt (Nat.div_le_self _ _) (wd_lt _ _)
theorem W4_256 : W4 = 256 ^ 32 := by decide +kernel
theorem W8_256 : W8 = 256 ^ 64 := by decide +kernel
end Go.Proofs.YtmhfkabpfkoocaaDoor

namespace Go.Proofs.YtmhfkabpfkoocaaDoor
open Go Go.RowKit
theorem sw_eight (x i : Nat) : sw x i 8 = 0 := Nat.div_eq_of_lt (wd_lt _ _)
def ix (i s : Nat) : Nat := 8 * i + s
theorem sw_up (x i s : Nat) (hs : s < 8) : sw x i (s + 1) * 256 + by8 x (ix i s) = sw x i s := by
  have h1 := sw_next x i s
  have h2 := sw_dig x i s hs
  unfold ix
  omega
end Go.Proofs.YtmhfkabpfkoocaaDoor

namespace Go.Proofs.YtmhfkabpfkoocaaDoor
open Go Go.RowKit
end Go.Proofs.YtmhfkabpfkoocaaDoor

namespace Go.Proofs.YtmhfkabpfkoocaaDoor
open Go Go.RowKit
theorem DOwn.trim {w : World} {B B' n n' c x : Nat} {A : Option Addr} (h : OwnF w B 3 A c n (dg8 x)) (hB : B' ≤ B) (hn : n' ≤ n) (hx : x < 256 ^ n') (hc : Can n' x) : DOwn w B' A c n' x := ⟨(h.mono hB).take hn, hx, hc⟩
/-- What is carried into byte k of a sum; the sum of the bytes with it. -/
def c8 (x y k : Nat) : Nat := cry 256 x y k
def t8 (x y k : Nat) : Nat := by8 x k + by8 y k + c8 x y k
theorem c8_le (x y k : Nat) : c8 x y k ≤ 1 := cry_le (by decide) _ _ _
theorem t8_le (x y k : Nat) : t8 x y k ≤ 511 := by
  have h1 := by8_lt x k
  have h2 := by8_lt y k
  have h3 := c8_le x y k
  unfold t8; omega
theorem t8_mod (x y k : Nat) : t8 x y k % 256 = by8 (x + y) k := (dgt_add (b := 256) (by decide) x y k).symm
theorem t8_div (x y k : Nat) : t8 x y k / 256 = c8 x y (k + 1) := (cry_succ (b := 256) (by decide) x y k).symm
theorem wrap3 {p q r : Nat} (hp : p < 256) (hq : q < 256) (hr : r ≤ 1) : IntKind.i64.wrap ((p : Int) + (q : Int)) = (p : Int) + (q : Int) ∧ IntKind.i64.wrap ((p : Int) + (q : Int) + (r : Int)) = ((p + q + r : Nat) : Int) := by
  constructor
  · rw [IntKind.wrap_i64]; omega
  · rw [IntKind.wrap_i64]; omega
theorem nmod {a b : Nat} (h : a % 256 = b) : (a : Int).tmod 256 = (b : Int) ∧ (a : Int) % 256 = (b : Int) := by
  refine ⟨?_, by omega⟩
  rw [Int.tmod_eq_emod_of_nonneg (by omega)]; omega
theorem ndiv {a b : Nat} (h : a / 256 = b) : (a : Int).tdiv 256 = (b : Int) ∧ (a : Int) / 256 = (b : Int) := by
  refine ⟨?_, by omega⟩
  rw [Int.tdiv_eq_ediv_of_nonneg (by omega)]; omega
set_option maxHeartbeats 400000 in
theorem sum_any {A A' : Option Addr} {B c c' n n' x y : Nat} (w : World) (h : Dig w B A c n x) (h' : Dig w B A' c' n' y) (hB : B ≤ w.heap.size) (hn : n ≤ 1000) (hn' : n' ≤ 1000) :
    Calls Tryd.prog 36 #[.slice A n c, .slice A' n' c'] w fun e w' => ∃ A c n, e = .returned (.slice A n c) ∧ DOwn w' w.heap.size A c n (x + y) ∧ Below w.heap.size w w' := by
  obtain ⟨i0, hi, hz0, hz1, hz2⟩ := info_parts infoInt
  obtain ⟨N, hN⟩ : ∃ N, N = max n n' := ⟨_, rfl⟩
  have hmax : (if n < n' then (n' : Int) else (n : Int)) = (N : Int) := by split <;> omega
  have hxN : x < 256 ^ N := Nat.lt_of_lt_of_le h.lt (Nat.pow_le_pow_right (by decide) (by omega))
  have hyN : y < 256 ^ N := Nat.lt_of_lt_of_le h'.lt (Nat.pow_le_pow_right (by decide) (by omega))
  have hNb : N ≤ 1000 := by omega
  have HN := Lib.hid hN
  clear hN
  go_enter Tryd.func36, Tryd.ntmps36
  go_wp2_with fail
  go_loopw [5, 6, 7] (fun v cc i wr => ∃ k : Nat, k ≤ N + 1 ∧ i = .int .i64 k ∧ cc = .int .i64 (c8 x y k : Int) ∧ (∃ A c, v = .slice A k c ∧ OwnF wr w.heap.size 3 A c k (dg8 (x + y))) ∧ Below w.heap.size w wr)
    (fun _ _ i _ => N + 1 - (intOf i).toNat)
  case atStart => exact ⟨0, by omega, rfl, by rw [show c8 x y 0 = 0 from cry_zero _ _ _]; rfl, ⟨none, 0, rfl, OwnF.nothing _ _ _ _⟩, Below.refl _ _⟩
  case round =>
    obtain ⟨k, hk, rfl, rfl, ⟨Av, cv, rfl, ow⟩, hb⟩ := hrel
    by_cases hlt : k ≤ N
    · have g1 : (k : Int) ≤ (N : Int) := by omega
      have ha := h.keep (hb.mono hB)
      have ha' := h'.keep (hb.mono hB)
      have ha1 := Lib.hid ha
      have ha2 := Lib.hid ha'
      obtain ⟨h1, ht⟩ := wrap3 (by8_lt x k) (by8_lt y k) (c8_le x y k)
      rw [← show t8 x y k = by8 x k + by8 y k + c8 x y k from rfl] at ht
      obtain ⟨e1, e1'⟩ := nmod (t8_mod x y k)
      obtain ⟨e2, e2'⟩ := ndiv (t8_div x y k)
      have e3 : IntKind.i64.wrap (c8 x y (k + 1) : Int) = (c8 x y (k + 1) : Int) := by have := c8_le x y (k + 1); rw [IntKind.wrap_i64]; omega
      have hv : Value.int .i64 (by8 (x + y) k : Int) = dg8 (x + y) k := rfl
      have HV := Lib.hid hv
      clear hv ha ha'
      go_wp2_with fail
      go_at_call 53
      refine (at_any _ ha1.out k).mono ?_
      rintro e w' ⟨rfl, rfl⟩
      go_wp2_with fail
      go_at_call 53
      refine (at_any _ ha2.out k).mono ?_
      rintro e w' ⟨rfl, rfl⟩
      go_wp2_with (at_builtin; refine wpList_appF1 _ rfl (.tmp 27) (.tmp 30) _ rfl w.heap.size 3 i0 _ Tryd.underlying53 hi hz0 hz1 hz2 (by decide) rfl rfl ow HV.out rfl rfl (by omega) (by omega) hb.size ?_; intro A' c' w' ho' hb')
      refine ⟨⟨k + 1, by omega, by go_num, rfl, ⟨A', c', rfl, ho'⟩, hb.trans hb'⟩, by simp [intOf]; omega⟩
    · have hk' : k = N + 1 := by omega
      subst hk'
      have g1 : ¬ ((N : Int) + 1) ≤ (N : Int) := by omega
      have hlt : x + y < 256 ^ (N + 1) := by rw [Nat.pow_succ]; omega
      go_wp2_with fail
      go_at_call 52
      refine (trim_any (x := x + y) _ ⟨ow.rd, hlt⟩ (by omega)).mono ?_
      rintro e w1 ⟨n', hn', rfl, hx', hc, rfl⟩
      go_wp2
      go_ret
      exact ⟨Av, cv, n', rfl, DOwn.trim ow (Nat.le_refl _) hn' hx' hc, hb⟩
end Go.Proofs.YtmhfkabpfkoocaaDoor

namespace Go.Proofs.YtmhfkabpfkoocaaDoor
open Go Go.RowKit
theorem top_step (x s : Nat) : x / 256 ^ s = 256 * (x / 256 ^ (s + 1)) + by8 x s := by
  unfold by8 dgt
  rw [Nat.pow_succ, ← Nat.div_div_eq_div_mul]
  omega
theorem top_lt {x y s : Nat} (h : x / 256 ^ (s + 1) = y / 256 ^ (s + 1)) (hd : by8 x s < by8 y s) : x < y := by
  refine Nat.lt_of_not_le fun hle => ?_
  have h1 := Nat.div_le_div_right (c := 256 ^ s) hle
  rw [top_step, top_step x, h] at h1
  omega
theorem less_any {A A' : Option Addr} {B c c' n n' x y : Nat} (w : World) (h : Dig w B A c n x) (h' : Dig w B A' c' n' y) (hn : n ≤ 1000) (hn' : n' ≤ 1000) :
    Calls Tryd.prog 54 #[.slice A n c, .slice A' n' c'] w fun e w' => e = .returned (.bool (decide (x < y))) ∧ w' = w := by
  obtain ⟨N, hN⟩ : ∃ N, N = max n n' := ⟨_, rfl⟩
  have hmax : (if n < n' then (n' : Int) else (n : Int)) = (N : Int) := by split <;> omega
  have hxN : x < 256 ^ (N + 1) := Nat.lt_of_lt_of_le h.lt (Nat.pow_le_pow_right (by decide) (by omega))
  have hyN : y < 256 ^ (N + 1) := Nat.lt_of_lt_of_le h'.lt (Nat.pow_le_pow_right (by decide) (by omega))
  have hNb : N ≤ 1000 := by omega
  clear hN
  have ha1 := Lib.hid h
  have ha2 := Lib.hid h'
  clear h h'
  go_enter Tryd.func54, Tryd.ntmps54
  go_wp2_with fail
  go_loop [5] (fun i => ∃ r : Nat, r ≤ N + 1 ∧ i = .int .i64 ((r : Int) - 1) ∧ x / 256 ^ r = y / 256 ^ r)
    (fun i => (intOf i + 1).toNat)
  case atStart => exact ⟨N + 1, Nat.le_refl _, by congr 1; omega, by rw [Nat.div_eq_of_lt hxN, Nat.div_eq_of_lt hyN]⟩
  case round =>
    obtain ⟨r, hr, rfl, he⟩ := hrel
    by_cases h0 : r = 0
    · subst h0
      have hxy : x = y := by simpa using he
      have hd : decide (x < y) = false := by simp; omega
      have HX := Lib.hid hd
      clear hd he hxy
      go_wp2_with fail
      go_ret
      exact ⟨by rw [HX.out]; rfl, rfl⟩
    · obtain ⟨s, rfl⟩ : ∃ s, r = s + 1 := ⟨r - 1, by omega⟩
      have gs : ((s + 1 : Nat) : Int) - 1 = (s : Int) := by omega
      rw [gs]
      have g0 : (0 : Int) ≤ (s : Int) := by omega
      have gw : IntKind.i64.wrap ((s : Int) - 1) = (s : Int) - 1 := by rw [IntKind.wrap_i64]; omega
      have HE := Lib.hid he
      clear he
      rcases Nat.lt_trichotomy (by8 x s) (by8 y s) with hd | hd | hd
      · have h1 : ((by8 x s : Int) != (by8 y s : Int)) = true := by simp; omega
        have h2 : (by8 x s : Int) < (by8 y s : Int) := by omega
        have hxy : decide (x < y) = true := decide_eq_true (top_lt HE.out hd)
        have HX := Lib.hid hxy
        clear hd hxy
        go_wp2_with fail
        go_at_call 53
        refine (at_any _ ha1.out s).mono ?_
        rintro e w' ⟨rfl, rfl⟩
        go_wp2_with fail
        go_at_call 53
        refine (at_any _ ha2.out s).mono ?_
        rintro e w' ⟨rfl, rfl⟩
        go_wp2_with fail
        go_at_call 53
        refine (at_any _ ha1.out s).mono ?_
        rintro e w' ⟨rfl, rfl⟩
        go_wp2_with fail
        go_at_call 53
        refine (at_any _ ha2.out s).mono ?_
        rintro e w' ⟨rfl, rfl⟩
        go_wp2_with fail
        go_ret
        exact ⟨by rw [HX.out]; rfl, rfl⟩
      · have h1 : ((by8 x s : Int) != (by8 y s : Int)) = false := by simp; omega
        have hnext : x / 256 ^ s = y / 256 ^ s := by rw [top_step, top_step y, HE.out, hd]
        have HN := Lib.hid hnext
        clear hd hnext
        go_wp2_with fail
        go_at_call 53
        refine (at_any _ ha1.out s).mono ?_
        rintro e w' ⟨rfl, rfl⟩
        go_wp2_with fail
        go_at_call 53
        refine (at_any _ ha2.out s).mono ?_
        rintro e w' ⟨rfl, rfl⟩
        go_wp2_with fail
        go_round
        case rel => exact ⟨s, by omega, by go_num, HN.out⟩
        case measure => simp [intOf]
      · have h1 : ((by8 x s : Int) != (by8 y s : Int)) = true := by simp; omega
        have h2 : ¬ (by8 x s : Int) < (by8 y s : Int) := by omega
        have hxy : decide (x < y) = false := decide_eq_false (by have := top_lt HE.out.symm hd; omega)
        have HX := Lib.hid hxy
        have hdd : decide (by8 x s < by8 y s) = false := decide_eq_false (by omega)
        have HDD := Lib.hid hdd
        clear hdd
        clear hd hxy
        go_wp2_with fail
        go_at_call 53
        refine (at_any _ ha1.out s).mono ?_
        rintro e w' ⟨rfl, rfl⟩
        go_wp2_with fail
        go_at_call 53
        refine (at_any _ ha2.out s).mono ?_
        rintro e w' ⟨rfl, rfl⟩
        go_wp2_with fail
        go_at_call 53
        refine (at_any _ ha1.out s).mono ?_
        rintro e w' ⟨rfl, rfl⟩
        go_wp2_with fail
        go_at_call 53
        refine (at_any _ ha2.out s).mono ?_
        rintro e w' ⟨rfl, rfl⟩
        go_wp2_with fail
        go_ret
        exact ⟨by rw [HX.out, HDD.out]; rfl, rfl⟩
end Go.Proofs.YtmhfkabpfkoocaaDoor

namespace Go.Proofs.YtmhfkabpfkoocaaDoor
open Go Go.RowKit
/-- What is borrowed off byte k of a difference; 256 and the difference of the bytes with it; the difference, of n bytes. -/
def b8 (x y k : Nat) : Nat := brw 256 x y k
def m8 (x y k : Nat) : Nat := 256 + by8 x k - by8 y k - b8 x y k
def df (n x y : Nat) : Nat := x + 256 ^ n - y
theorem b8_le (x y k : Nat) : b8 x y k ≤ 1 := brw_le _ _ _ _
theorem m8_mod (n x y : Nat) {k : Nat} (hk : k < n) (hy : y < 256 ^ n) : m8 x y k % 256 = by8 (df n x y) k := by
  have h := dgt_sub (b := 256) (by decide) x y hk hy
  have h1 := by8_lt y k
  have h2 := b8_le x y k
  unfold m8 df
  unfold by8 b8 at *
  generalize dgt 256 x k = a at *
  generalize dgt 256 y k = b at *
  generalize brw 256 x y k = c at *
  omega
theorem m8_div (x y k : Nat) : 1 - m8 x y k / 256 = b8 x y (k + 1) := by
  have h := brw_succ (b := 256) (by decide) x y k
  have h0 := by8_lt x k
  have h1 := by8_lt y k
  have h2 := b8_le x y k
  unfold m8
  unfold by8 b8 at *
  rw [h]
  generalize dgt 256 x k = a at *
  generalize dgt 256 y k = b at *
  generalize brw 256 x y k = c at *
  split <;> omega
def q8 (x y k : Nat) : Nat := m8 x y k / 256
theorem m8_le (x y k : Nat) : m8 x y k ≤ 511 := by
  have h0 := by8_lt x k
  unfold m8; omega
theorem q8_b (x y k : Nat) : wrap64 (1 - wrap64 (q8 x y k : Int)) = (b8 x y (k + 1) : Int) := by
  have h1 := m8_le x y k
  have h2 := m8_div x y k
  unfold q8
  generalize m8 x y k = a at *
  generalize b8 x y (k + 1) = b at *
  unfold wrap64
  omega
theorem wrapM {p q r : Nat} (hp : p < 256) (hq : q < 256) (hr : r ≤ 1) : IntKind.i64.wrap (256 + (p : Int)) = 256 + (p : Int) ∧ IntKind.i64.wrap (256 + (p : Int) - (q : Int)) = 256 + (p : Int) - (q : Int) ∧
    IntKind.i64.wrap (256 + (p : Int) - (q : Int) - (r : Int)) = ((256 + p - q - r : Nat) : Int) := by
  refine ⟨?_, ?_, ?_⟩ <;> (rw [IntKind.wrap_i64]; omega)
set_option maxRecDepth 20000 in
set_option maxHeartbeats 400000 in
theorem minus_any {A A' : Option Addr} {B c c' n n' x y : Nat} (w : World) (h : Dig w B A c n x) (h' : Dig w B A' c' n' y) (hB : B ≤ w.heap.size) (hn : n ≤ 1000) (hxy : y ≤ x) :
    Calls Tryd.prog 55 #[.slice A n c, .slice A' n' c'] w fun e w' => ∃ A c n, e = .returned (.slice A n c) ∧ DOwn w' w.heap.size A c n (x - y) ∧ Below w.heap.size w w' := by
  obtain ⟨i0, hi, hz0, hz1, hz2⟩ := info_parts infoInt
  have hyn : y < 256 ^ n := Nat.lt_of_le_of_lt hxy h.lt
  have hdf : ∀ k, k < n → by8 (df n x y) k = by8 (x - y) k := fun k hk => by
    unfold df by8
    rw [show x + 256 ^ n - y = (x - y) + 256 ^ n * 1 by omega, dgt_add_mul _ _ hk]
  have hlx : x - y < 256 ^ n := Nat.lt_of_le_of_lt (Nat.sub_le _ _) h.lt
  have HD := Lib.hid hdf
  clear hdf
  go_enter Tryd.func55, Tryd.ntmps55
  go_wp2_with fail
  go_loopw [5, 6, 7] (fun v cc i wr => ∃ k : Nat, k ≤ n ∧ i = .int .i64 k ∧ cc = .int .i64 (b8 x y k : Int) ∧ (∃ A c, v = .slice A k c ∧ OwnF wr w.heap.size 3 A c k (dg8 (df n x y))) ∧ Below w.heap.size w wr)
    (fun _ _ i _ => n - (intOf i).toNat)
  case atStart => exact ⟨0, by omega, rfl, by rw [show b8 x y 0 = 0 from brw_zero _ _ _]; rfl, ⟨none, 0, rfl, OwnF.nothing _ _ _ _⟩, Below.refl _ _⟩
  case round =>
    obtain ⟨k, hk, rfl, rfl, ⟨Av, cv, rfl, ow⟩, hb⟩ := hrel
    by_cases hlt : k < n
    · have g1 : (k : Int) < (n : Int) := by omega
      have ha := h.keep (hb.mono hB)
      have ha' := h'.keep (hb.mono hB)
      obtain ⟨b1, o1, rfl, hb1, c1⟩ := ha.rd.at_ hlt
      unfold dg8 at c1
      obtain ⟨h1, h2, ht⟩ := wrapM (by8_lt x k) (by8_lt y k) (b8_le x y k)
      rw [← show m8 x y k = 256 + by8 x k - by8 y k - b8 x y k from rfl] at ht
      obtain ⟨e1, e1'⟩ := nmod (m8_mod n x y hlt hyn)
      obtain ⟨e2, e2'⟩ := ndiv (show m8 x y k / 256 = q8 x y k from rfl)
      have hq := Lib.hid (q8_b x y k)
      have hv : Value.int .i64 (by8 (df n x y) k : Int) = dg8 (df n x y) k := rfl
      have HV := Lib.hid hv
      clear hv
      go_wp2_with fail
      refine wp_region_still_lit (by kernel_rfl) (by kernel_rfl) ?_
      repeat (first | still_step | still_call (at_any _ ha'.drew k))
      refine wpStill_nil ?_
      have ew : ({ heap := wr.heap, tape := wr.tape, drawn := wr.drawn + 1, os := wr.os, output := wr.output } : World) = wr.drew := rfl
      rw [ew]
      obtain ⟨w1, hw1⟩ : ∃ w1, w1 = wr.drew := ⟨_, rfl⟩
      have ow1 := ow.drew
      have hb1' := hb.drew
      rw [← hw1] at ow1 hb1' ⊢
      clear ow hb c1 ew hw1 hb1
      go_wp2_with (at_builtin; refine wpList_appF1 _ rfl (.tmp 26) (.tmp 29) _ rfl w.heap.size 3 i0 _ Tryd.underlying53 hi hz0 hz1 hz2 (by decide) rfl rfl ow1 HV.out rfl rfl (by omega) (by omega) hb1'.size ?_; intro A' c' w' ho' hb')
      refine ⟨⟨k + 1, by omega, by go_num, by rw [hq.out], ⟨A', c', rfl, ho'⟩, hb1'.trans hb'⟩, by simp [intOf]; omega⟩
    · have hk' : k = n := by omega
      subst hk'
      have ow1 := ow.congr (g := dg8 (x - y)) fun j hj => by unfold dg8; rw [HD.out j hj]
      clear ow
      go_wp2_with fail
      go_at_call 52
      refine (trim_any (x := x - y) _ ⟨ow1.rd, hlx⟩ (by omega)).mono ?_
      rintro e w1 ⟨n', hn', rfl, hx', hc, rfl⟩
      go_wp2
      go_ret
      exact ⟨Av, cv, n', rfl, DOwn.trim ow1 (Nat.le_refl _) hn' hx' hc, hb⟩
end Go.Proofs.YtmhfkabpfkoocaaDoor
