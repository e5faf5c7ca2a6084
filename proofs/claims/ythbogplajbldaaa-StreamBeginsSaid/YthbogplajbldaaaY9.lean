/-
  Layer 10's code: fill. By an AI agent.
-/
import Derived.Test.YthbogplajbldaaaY4
import Derived.Test.YthbogplajbldaaaY6
import Derived.Test.YthbogplajbldaaaAv
namespace Go.Proofs.Ythbogplajbldaaa
open Go Go.RowKit
set_option maxRecDepth 20000
/-- Some bytes of a word, the lowest first. -/
def pw (bs : List UInt8) (p : Nat) : Nat → Nat
  | 0 => 0
  | m + 1 => pw bs p m + 256 ^ m * nth bs (p + m)
theorem pw_zero (bs : List UInt8) (p : Nat) : pw bs p 0 = 0 := rfl
theorem pw_succ (bs : List UInt8) (p m : Nat) : pw bs p (m + 1) = pw bs p m + 256 ^ m * nth bs (p + m) := rfl
theorem pw_lt (bs : List UInt8) (p : Nat) : ∀ m, pw bs p m < 256 ^ m
  | 0 => by rw [pw_zero]; decide
  | m + 1 => by
    have h1 := pw_lt bs p m
    have h2 := nth_lt bs (p + m)
    have h3 : 256 ^ m * nth bs (p + m) ≤ 256 ^ m * 255 := Nat.mul_le_mul_left _ (by omega)
    rw [pw_succ, Nat.pow_succ]
    omega
theorem pw_four (bs : List UInt8) (p : Nat) : pw bs p 4 = wle bs p := by
  unfold wle
  rw [pw_succ, pw_succ, pw_succ, pw_succ, pw_zero]
  simp only [Nat.pow_zero, Nat.one_mul, Nat.zero_add, Nat.pow_one, Nat.add_zero, Nat.reducePow]
theorem pw_or (bs : List UInt8) (p : Nat) {m x : Nat} (hm : m < 4) (hx : x = nth bs (p + m)) : bits .or .u32 ((pw bs p m : Nat) : Int) ((x * 2 ^ (8 * m) : Nat) : Int) = ((pw bs p (m + 1) : Nat) : Int) := by
  have h1 := pw_lt bs p m
  have h2 := nth_lt bs (p + m)
  have e1 : (2 : Nat) ^ (8 * m) = 256 ^ m := by rw [Nat.pow_mul]
  have h3 : (256 : Nat) ^ m ≤ 16777216 := Nat.le_trans (Nat.pow_le_pow_right (by decide) (show m ≤ 3 by omega)) (by decide)
  have h4 : 256 ^ m * nth bs (p + m) ≤ 16777216 * 255 := Nat.mul_le_mul h3 (by omega)
  rw [e1, hx, Nat.mul_comm, o32n _ _ (by omega) (by omega), pw_succ, Nat.or_comm]
  congr 1
  rw [← e1] at h1 ⊢
  rw [Nat.add_comm (pw bs p m), Nat.two_pow_add_eq_or_of_lt h1]
/-- A row of words into which some bytes have been put. -/
def pf (F : Nat → Value) (off n : Nat) (bs : List UInt8) (k j : Nat) : Value := if off ≤ j ∧ j < off + n then .int .u32 ((pw bs (4 * (j - off)) (min 4 (k - 4 * (j - off))) : Nat) : Int) else F j
theorem pf_zero {F : Nat → Value} {off n : Nat} {bs : List UInt8} (hz : ∀ j, j < n → F (off + j) = .int .u32 0) (j : Nat) : F j = pf F off n bs 0 j := by
  unfold pf
  by_cases h : off ≤ j ∧ j < off + n
  · rw [if_pos h, Nat.zero_sub, Nat.min_zero, pw_zero]
    have := hz (j - off) (by omega)
    rw [show off + (j - off) = j by omega] at this
    exact this
  · rw [if_neg h]
theorem pf_here {F : Nat → Value} {off n : Nat} {bs : List UInt8} {k q r : Nat} (hk : k = 4 * q + r) (hr : r < 4) (hq : q < n) : pf F off n bs k (off + q) = .int .u32 ((pw bs (4 * q) r : Nat) : Int) := by
  unfold pf
  rw [if_pos (by omega), show off + q - off = q by omega, show min 4 (k - 4 * q) = r by omega]
theorem pf_step {F : Nat → Value} {off n : Nat} {bs : List UInt8} {k q r : Nat} (hk : k = 4 * q + r) (hr : r < 4) (hq : q < n) (j : Nat) : (if j = off + q then Value.int .u32 ((pw bs (4 * q) (r + 1) : Nat) : Int) else pf F off n bs k j) = pf F off n bs (k + 1) j := by
  unfold pf
  by_cases e : j = off + q
  · subst e
    rw [if_pos rfl, if_pos (by omega), show off + q - off = q by omega, show min 4 (k + 1 - 4 * q) = r + 1 by omega]
  · rw [if_neg e]
    by_cases h : off ≤ j ∧ j < off + n
    · rw [if_pos h, if_pos h, show min 4 (k + 1 - 4 * (j - off)) = min 4 (k - 4 * (j - off)) by omega]
    · rw [if_neg h, if_neg h]
theorem pf_full {F : Nat → Value} {off n : Nat} {bs : List UInt8} (j : Nat) : pf F off n bs (4 * n) j = if off ≤ j ∧ j < off + n then wlv bs (j - off) else F j := by
  unfold pf wlv
  by_cases h : off ≤ j ∧ j < off + n
  · rw [if_pos h, if_pos h, show min 4 (4 * n - 4 * (j - off)) = 4 by omega, pw_four]
  · rw [if_neg h, if_neg h]
section
attribute [local irreducible] pw pf
set_option maxHeartbeats 1600000 in
theorem fill_any {bs : List UInt8} {g off n cap N C B B0 c0 : Nat} {e0 : TypeId} {F : Nat → Value} {A0 : Option Addr} (hl : bs.length = 4 * n) (hn : n ≤ 1000) (hn0 : 0 < n) (ho : off + n ≤ N) (w : World) (ow : OwnF w B e0 (some ⟨g, 0, none⟩) C N F)
    (hz : ∀ j, j < n → F (off + j) = .int .u32 0) (hr : Rd w B0 A0 c0 bs) (hd : ∀ ad, A0 = some ad → ad.block ≠ g) :
    Calls Try.prog 23 #[.slice (some ⟨g, off, none⟩) n cap, .slice A0 bs.length c0] w fun e w' => e = .returned (.tuple #[]) ∧ OwnF w' B e0 (some ⟨g, 0, none⟩) C N (fun j => if off ≤ j ∧ j < off + n then wlv bs (j - off) else F j) ∧ Only g w w' := by
  obtain ⟨b1, o1, rfl, _, _⟩ := hr.at_ (k := 0) (by omega)
  have hb1 : b1 ≠ g := hd _ rfl
  have hcell : ∀ m, m < bs.length → ∀ wz, Only g w wz → wz.cell? ⟨b1, o1 + m, none⟩ = some (.int .u8 ((nth bs m : Nat) : Int)) := fun m hm wz hz => by
    obtain ⟨b2, o2, e2, _, c2⟩ := hr.at_ (k := m) (by omega)
    simp only [Option.some.injEq, Addr.mk.injEq] at e2
    obtain ⟨rfl, rfl, _⟩ := e2
    exact (World.cell?_of_block (a := ⟨b1, o1 + m, none⟩) (hz.block b1 hb1)).trans c2
  have HCE := Lib.hid hcell
  have HF := Lib.hid (pf_full (F := F) (off := off) (n := n) (bs := bs))
  obtain ⟨L, hL⟩ : ∃ L, L = bs.length := ⟨_, rfl⟩
  rw [← hL]
  have HL := Lib.hid (hL.trans hl)
  have HB := Lib.hid hL
  replace ow := OwnF.congr ow fun j _ => pf_zero (bs := bs) hz j
  clear hl hL hcell hr hd hb1 hz
  go_enter Try.func23, Try.ntmps23
  go_wp2_with fail
  go_loopw [7, 4] (fun i _ wr => ∃ k : Nat, k ≤ L ∧ i = .int .i64 (k : Int) ∧ OwnF wr B e0 (some ⟨g, 0, none⟩) C N (pf F off n bs k) ∧ Only g w wr)
    (fun i _ _ => L - (intOf i).toNat)
  case atStart => exact ⟨0, by omega, rfl, ow, Only.refl _ _⟩
  case round =>
    clear ow
    obtain ⟨k, hk, rfl, ow, hb⟩ := hrel
    by_cases hlt : k < L
    · have g1 : (k : Int) < (L : Int) := by omega
      have hLe := HL.out
      obtain ⟨q, hq⟩ : ∃ q, q = k / 4 := ⟨_, rfl⟩
      obtain ⟨r, hr⟩ : ∃ r, r = k % 4 := ⟨_, rfl⟩
      have e1 : (k : Int).tdiv 4 = (q : Int) := by rw [Int.tdiv_eq_ediv_of_nonneg (by omega)]; omega
      have e2 : (k : Int).tmod 4 = (r : Int) := by rw [Int.tmod_eq_emod_of_nonneg (by omega)]; omega
      have hkq : k = 4 * q + r := by omega
      have e8 : IntKind.i64.wrap (q : Int) = (q : Int) := by rw [IntKind.wrap_i64]; omega
      have hr4 : r < 4 := by omega
      have hqn : q < n := by omega
      have g2 : (0 : Int) ≤ (q : Int) := by omega
      have g3 : (q : Int) < (n : Int) := by omega
      have g4 : (0 : Int) ≤ (k : Int) := by omega
      have hL4 : (k : Int) ≤ 4000 := by omega
      have cc : wr.cell? ⟨g, off + q, none⟩ = some (.int .u32 ((pw bs (4 * q) r : Nat) : Int)) := by rw [OwnF.cell ow (k := off + q) (by omega), pf_here hkq hr4 hqn]
      have ff := OwnF.free ow (off + q)
      have c1 := HCE.out k (by rw [← HB.out]; exact hlt) wr hb
      obtain ⟨x, hx⟩ : ∃ x, x = nth bs k := ⟨_, rfl⟩
      have hx256 := nth_lt bs k
      rw [← hx] at c1 hx256
      have e3 : IntKind.u32.wrap (x : Int) = (x : Int) := by rw [IntKind.wrap_u32]; omega
      obtain ⟨s, hs⟩ : ∃ s, s = 8 * r := ⟨_, rfl⟩
      have e4 : IntKind.i64.wrap (8 * (r : Int)) = (s : Int) := by rw [IntKind.wrap_i64]; omega
      have e5 : (0 : Int) ≤ (s : Int) := by omega
      obtain ⟨y, hy⟩ : ∃ y, y = x * 2 ^ (8 * r) := ⟨_, rfl⟩
      have hy2 : y < 4294967296 := by
        have h3 : (2 : Nat) ^ (8 * r) ≤ 16777216 := Nat.le_trans (Nat.pow_le_pow_right (by decide) (show 8 * r ≤ 24 by omega)) (by decide)
        have h4 : x * 2 ^ (8 * r) ≤ 255 * 16777216 := Nat.mul_le_mul (by omega) h3
        omega
      have e6 : IntKind.u32.wrap ((x : Int) * 2 ^ min s 32) = (y : Int) := by
        rw [hs, Nat.min_eq_left (by omega)]
        have : (x : Int) * 2 ^ (8 * r) = ((x * 2 ^ (8 * r) : Nat) : Int) := by simp
        rw [this, ← hy, IntKind.wrap_u32]; omega
      have e7 := pw_or bs (4 * q) (m := r) (x := x) hr4 (by rw [hx, hkq])
      rw [← hy] at e7
      have hset := OwnF.set_ ow (off + q) (.int .u32 ((pw bs (4 * q) (r + 1) : Nat) : Int))
      have hcg := Lib.hid (OwnF.congr hset fun j _ => pf_step hkq hr4 hqn j)
      have ho2 := Lib.hid (hb.trans (Only.setCell wr ⟨g, off + q, none⟩ (.int .u32 ((pw bs (4 * q) (r + 1) : Nat) : Int))))
      generalize pw bs (4 * q) (r + 1) = z2 at *
      generalize pw bs (4 * q) r = z at *
      clear hq hr hkq hr4 hqn hx hs hy hy2 hx256 hset ow hb hLe
      go_upto_region 3 with fail
      refine wp_region_still_tail 16 (by kernel_rfl) (by kernel_rfl) ?_
      simp only [List.take_succ_cons, List.take_zero, List.drop_succ_cons, List.drop_zero]
      repeat still_step
      refine wpStill_nil ?_
      change wpList _ _ _ _ _ wr.drew
      go_wp2_with fail
      exact ⟨⟨k + 1, by omega, by go_num, OwnF.drew hcg.out, ⟨ho2.out.os, ho2.out.tape, ho2.out.output, ho2.out.size, ho2.out.block⟩⟩, by simp [intOf]; omega⟩
    · obtain rfl : k = L := by omega
      have g1 : ¬ (k : Int) < (k : Int) := by omega
      have he : OwnF wr B e0 (some ⟨g, 0, none⟩) C N (fun j => if off ≤ j ∧ j < off + n then wlv bs (j - off) else F j) := by
        rw [HL.out] at ow
        exact OwnF.congr ow fun j _ => HF.out j
      have HE := Lib.hid he
      clear ow he
      go_wp2_with fail
      exact bodyPost_end (v := .tuple #[]) (by simp [results, Try.results23, go_sem]) rfl ⟨rfl, HE.out, hb⟩
end
end Go.Proofs.Ythbogplajbldaaa
