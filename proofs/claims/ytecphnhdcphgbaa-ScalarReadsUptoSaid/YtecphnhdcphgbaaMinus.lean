import Derived.Test.YtecphnhdcphgbaaLess
namespace Go.Proofs.Ytecphnhdcphgbaa
open Go Go.RowKit
/-- What is borrowed off byte k of a difference; 256 and the difference of the bytes with it; the difference, of n bytes. -/
def b8 (x y k : Nat) : Nat := brw 256 x y k
def m8 (x y k : Nat) : Nat := 256 + by8 x k - by8 y k - b8 x y k
def df (n x y : Nat) : Nat := x + 256 ^ n - y
theorem b8_le (x y k : Nat) : b8 x y k ≤ 1 := brw_le _ _ _ _
theorem m8_mod (n x y : Nat) {k : Nat} (hk : k < n) (hy : y < 256 ^ n) : m8 x y k % 256 = by8 (df n x y) k := by
  have h := dgt_sub (b := 256) (by decide) x y hk hy
  have h1 := by8_lt y k
  have h2 := b8_le x y k
  unfold m8 df
  unfold by8 b8 at *
  generalize dgt 256 x k = a at *
  generalize dgt 256 y k = b at *
  generalize brw 256 x y k = c at *
  omega
theorem m8_div (x y k : Nat) : 1 - m8 x y k / 256 = b8 x y (k + 1) := by
  have h := brw_succ (b := 256) (by decide) x y k
  have h0 := by8_lt x k
  have h1 := by8_lt y k
  have h2 := b8_le x y k
  unfold m8
  unfold by8 b8 at *
  rw [h]
  generalize dgt 256 x k = a at *
  generalize dgt 256 y k = b at *
  generalize brw 256 x y k = c at *
  split <;> omega
def q8 (x y k : Nat) : Nat := m8 x y k / 256
theorem m8_le (x y k : Nat) : m8 x y k ≤ 511 := by
  have h0 := by8_lt x k
  unfold m8; omega
theorem q8_b (x y k : Nat) : wrap64 (1 - wrap64 (q8 x y k : Int)) = (b8 x y (k + 1) : Int) := by
  have h1 := m8_le x y k
  have h2 := m8_div x y k
  unfold q8
  generalize m8 x y k = a at *
  generalize b8 x y (k + 1) = b at *
  unfold wrap64
  omega
theorem wrapM {p q r : Nat} (hp : p < 256) (hq : q < 256) (hr : r ≤ 1) : IntKind.i64.wrap (256 + (p : Int)) = 256 + (p : Int) ∧ IntKind.i64.wrap (256 + (p : Int) - (q : Int)) = 256 + (p : Int) - (q : Int) ∧
    IntKind.i64.wrap (256 + (p : Int) - (q : Int) - (r : Int)) = ((256 + p - q - r : Nat) : Int) := by
  refine ⟨?_, ?_, ?_⟩ <;> (rw [IntKind.wrap_i64]; omega)
set_option maxRecDepth 20000 in
set_option maxHeartbeats 400000 in
theorem minus_any {A A' : Option Addr} {B c c' n n' x y : Nat} (w : World) (h : Dig w B A c n x) (h' : Dig w B A' c' n' y) (hB : B ≤ w.heap.size) (hn : n ≤ 1000) (hxy : y ≤ x) :
    Calls Try.prog 46 #[.slice A n c, .slice A' n' c'] w fun e w' => ∃ A c n, e = .returned (.slice A n c) ∧ DOwn w' w.heap.size A c n (x - y) ∧ Below w.heap.size w w' := by
  obtain ⟨i0, hi, hz0, hz1, hz2⟩ := info_parts infoInt
  have hyn : y < 256 ^ n := Nat.lt_of_le_of_lt hxy h.lt
  have hdf : ∀ k, k < n → by8 (df n x y) k = by8 (x - y) k := fun k hk => by
    unfold df by8
    rw [show x + 256 ^ n - y = (x - y) + 256 ^ n * 1 by omega, dgt_add_mul _ _ hk]
  have hlx : x - y < 256 ^ n := Nat.lt_of_le_of_lt (Nat.sub_le _ _) h.lt
  have HD := Lib.hid hdf
  clear hdf
  go_enter Try.func46, Try.ntmps46
  go_wp2_with fail
  go_loopw [5, 6, 7] (fun v cc i wr => ∃ k : Nat, k ≤ n ∧ i = .int .i64 k ∧ cc = .int .i64 (b8 x y k : Int) ∧ (∃ A c, v = .slice A k c ∧ OwnF wr w.heap.size 3 A c k (dg8 (df n x y))) ∧ Below w.heap.size w wr)
    (fun _ _ i _ => n - (intOf i).toNat)
  case atStart => exact ⟨0, by omega, rfl, by rw [show b8 x y 0 = 0 from brw_zero _ _ _]; rfl, ⟨none, 0, rfl, OwnF.nothing _ _ _ _⟩, Below.refl _ _⟩
  case round =>
    obtain ⟨k, hk, rfl, rfl, ⟨Av, cv, rfl, ow⟩, hb⟩ := hrel
    by_cases hlt : k < n
    · have g1 : (k : Int) < (n : Int) := by omega
      have ha := h.keep (hb.mono hB)
      have ha' := h'.keep (hb.mono hB)
      obtain ⟨b1, o1, rfl, hb1, c1⟩ := ha.rd.at_ hlt
      unfold dg8 at c1
      obtain ⟨h1, h2, ht⟩ := wrapM (by8_lt x k) (by8_lt y k) (b8_le x y k)
      rw [← show m8 x y k = 256 + by8 x k - by8 y k - b8 x y k from rfl] at ht
      obtain ⟨e1, e1'⟩ := nmod (m8_mod n x y hlt hyn)
      obtain ⟨e2, e2'⟩ := ndiv (show m8 x y k / 256 = q8 x y k from rfl)
      have hq := Lib.hid (q8_b x y k)
      have hv : Value.int .i64 (by8 (df n x y) k : Int) = dg8 (df n x y) k := rfl
      have HV := Lib.hid hv
      clear hv
      go_wp2_with fail
      refine wp_region_still_lit (by kernel_rfl) (by kernel_rfl) ?_
      repeat (first | still_step | still_call (at_any _ ha'.drew k))
      refine wpStill_nil ?_
      have ew : ({ heap := wr.heap, tape := wr.tape, drawn := wr.drawn + 1, os := wr.os, output := wr.output } : World) = wr.drew := rfl
      rw [ew]
      obtain ⟨w1, hw1⟩ : ∃ w1, w1 = wr.drew := ⟨_, rfl⟩
      have ow1 := ow.drew
      have hb1' := hb.drew
      rw [← hw1] at ow1 hb1' ⊢
      clear ow hb c1 ew hw1 hb1
      go_wp2_with (at_builtin; refine wpList_appF1 _ rfl (.tmp 26) (.tmp 29) _ rfl w.heap.size 3 i0 _ Try.underlying29 hi hz0 hz1 hz2 (by decide) rfl rfl ow1 HV.out rfl rfl (by omega) (by omega) hb1'.size ?_; intro A' c' w' ho' hb')
      refine ⟨⟨k + 1, by omega, by go_num, by rw [hq.out], ⟨A', c', rfl, ho'⟩, hb1'.trans hb'⟩, by simp [intOf]; omega⟩
    · have hk' : k = n := by omega
      subst hk'
      have ow1 := ow.congr (g := dg8 (x - y)) fun j hj => by unfold dg8; rw [HD.out j hj]
      clear ow
      go_wp2_with fail
      go_at_call 40
      refine (trim_any (x := x - y) _ ⟨ow1.rd, hlx⟩ (by omega)).mono ?_
      rintro e w1 ⟨n', hn', rfl, hx', hc, rfl⟩
      go_wp2
      go_ret
      exact ⟨Av, cv, n', rfl, DOwn.trim ow1 (Nat.le_refl _) hn' hx' hc, hb⟩
end Go.Proofs.Ytecphnhdcphgbaa
