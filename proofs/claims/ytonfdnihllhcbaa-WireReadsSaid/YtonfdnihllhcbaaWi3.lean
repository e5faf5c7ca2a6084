/-
  The document's Text, Flag, Read, first (layer 13). By an AI agent.
-/
import Derived.Test.YtonfdnihllhcbaaWi2
namespace Go.Proofs.Ytonfdnihllhcbaa
open Go Go.RowKit
set_option maxRecDepth 20000
set_option maxHeartbeats 1600000 in
theorem rtext_any {A A2 : Option Addr} {B c c2 : Nat} {b s : List UInt8} (w : World) (hr : Rd w B A c b) (hs : Rd w B A2 c2 s) (hB : B ≤ w.heap.size) (hl : b.length + s.length ≤ 140737488355320) :
    Calls Try.prog 13 #[.slice A b.length c, .slice A2 s.length c2] w fun e w' => ∃ A c, e = .returned (.slice A (textL b s).length c) ∧ Own w' w.heap.size 5 A c (textL b s) ∧ Below w.heap.size w w' := by
  obtain ⟨i0, hi, hz0, hz1, hz2⟩ := info_parts infoU8
  have hd := digs_len (s.length : Int)
  have hn := numL_len b (s.length : Int)
  have KN := Lib.hid (rnum_any (s.length : Int) w hr hB (by omega))
  have HL := Lib.hid (show (numL b (s.length : Int)).length + s.length ≤ 140737488355328 by omega)
  have HT := Lib.hid (show textL b s = numL b (s.length : Int) ++ s from rfl)
  have HB := Lib.hid hB
  clear hr hd hn hB hl
  generalize numL b (s.length : Int) = N at *
  go_enter Try.func13, Try.ntmps13
  go_wp2_with fail
  go_at_call 11
  refine KN.out.mono ?_
  rintro e v1 ⟨A1, c1, rfl, o1, hc⟩
  replace hs := hs.keep (hc.mono HB.out)
  clear KN
  go_wp2_with (at_builtin; refine wpList_app _ rfl (.tmp 8) (.tmp 9) _ rfl w.heap.size 5 i0 _ Try.underlying22 hi hz0 hz1 hz2 rfl rfl o1 rfl hs HL.out hc.size ?_; intro A3 c3 v3 o3 hb3)
  have HO := Lib.hid (And.intro o3 (hc.trans hb3))
  clear o1 o3 hc hb3
  go_ret
  rw [HT.out, ← List.length_append]
  exact ⟨_, _, rfl, HO.out.1, HO.out.2⟩
theorem rflag_any {A : Option Addr} {B c : Nat} {b : List UInt8} (y : Bool) (w : World) (hr : Rd w B A c b) (hB : B ≤ w.heap.size) (hl : b.length ≤ 140737488355320) :
    Calls Try.prog 15 #[.slice A b.length c, .bool y] w fun e w' => ∃ A c, e = .returned (.slice A (flagL b y).length c) ∧ Own w' w.heap.size 5 A c (flagL b y) ∧ Below w.heap.size w w' := by
  cases y with
  | true =>
    have KN := Lib.hid (rnum_any 1 w hr hB hl)
    rw [show flagL b true = numL b 1 from rfl]
    clear hr hB hl
    go_enter Try.func15, Try.ntmps15
    go_wp2_with fail
    go_at_call 11
    refine KN.out.mono ?_
    rintro e v1 ⟨A1, c1, rfl, o1, hc⟩
    go_wp2_with fail
    go_ret
    exact ⟨_, _, rfl, o1, hc⟩
  | false =>
    have KN := Lib.hid (rnum_any 0 w hr hB hl)
    rw [show flagL b false = numL b 0 from rfl]
    clear hr hB hl
    go_enter Try.func15, Try.ntmps15
    go_wp2_with fail
    go_at_call 11
    refine KN.out.mono ?_
    rintro e v1 ⟨A1, c1, rfl, o1, hc⟩
    go_wp2_with fail
    go_ret
    exact ⟨_, _, rfl, o1, hc⟩
/-- The number with which bytes begin, how many bytes it has, and why there is none: behind k bytes of it, n so far. -/
def fstF : Nat → Nat → Nat → List UInt8 → Nat × Nat × Nat
  | 0, _, _, _ => (0, 0, 5)
  | _ + 1, _, _, [] => (0, 0, 3)
  | f + 1, k, n, x :: r =>
    if 128 ≤ x.toNat then fstF f (k + 1) (n + x.toNat % 128 * 128 ^ k) r
    else if 0 < k ∧ x.toNat = 0 then (0, 0, 5)
    else if Far < n + x.toNat % 128 * 128 ^ k then (0, 0, 6)
    else (n + x.toNat % 128 * 128 ^ k, k + 1, 0)
def fstL (b : List UInt8) : Nat × Nat × Nat := fstF 6 0 0 b
set_option maxHeartbeats 3200000 in
theorem rfirst_any {A : Option Addr} {B c : Nat} {b : List UInt8} (w : World) (hr : Rd w B A c b) :
    Calls Try.prog 39 #[.slice A b.length c] w fun e w' => e = .returned (.tuple #[.int .i64 ((fstL b).1 : Int), .int .i64 ((fstL b).2.1 : Int), .int .i64 ((fstL b).2.2 : Int)]) ∧ ∃ n, w' = w.drewN n := by
  go_enter Try.func39, Try.ntmps39
  go_wp2_with fail
  go_loopw [5, 6, 7] (fun n s i wr => ∃ k : Nat, ∃ m : Nat, k ≤ 6 ∧ m < 128 ^ k ∧ k ≤ b.length ∧ i = .int .i64 (k : Int) ∧ n = .int .i64 (m : Int) ∧ s = .int .i64 ((128 ^ k : Nat) : Int) ∧ fstL b = fstF (6 - k) k m (b.drop k) ∧ ∃ d, wr = w.drewN d)
    (fun _ _ i _ => 6 - (intOf i).toNat)
  case atStart => exact ⟨0, 0, by omega, by decide, by omega, rfl, rfl, rfl, rfl, 0, rfl⟩
  case round =>
    obtain ⟨k, m, hk, hm, hkb, rfl, rfl, rfl, hf, d, rfl⟩ := hrel
    by_cases h6 : k = 6
    · subst h6
      have hres : fstL b = (0, 0, 5) := hf
      have HR := Lib.hid hres
      clear hf hres hkb hk hm
      go_wp2_with fail
      go_returns
      rw [HR.out]
      exact ⟨rfl, _, rfl⟩
    · have g1 : (k : Int) < 6 := by omega
      obtain ⟨f, ef⟩ : ∃ f, 6 - k = f + 1 := ⟨5 - k, by omega⟩
      rw [ef] at hf
      by_cases hkl : k = b.length
      · have hres : fstL b = (0, 0, 3) := by rw [hf, hkl, List.drop_length]; rfl
        have g2 : ((k : Int) == (b.length : Int)) = true := by rw [hkl]; simp
        have HR := Lib.hid hres
        clear hf hres hkb hk hkl hm
        go_wp2_with fail
        go_returns
        rw [HR.out]
        exact ⟨rfl, _, rfl⟩
      · have hlt : k < b.length := by omega
        have g2 : ((k : Int) == (b.length : Int)) = false := by simp; omega
        have g3 : (k : Int) < (b.length : Int) := by omega
        obtain ⟨b1, o1, rfl, _, e1⟩ := hr.at_ hlt
        have hdr : b.drop k = b[k] :: b.drop (k + 1) := List.drop_eq_getElem_cons hlt
        have hx : (b[k]).toNat = nth b k := (nth_get hlt).symm
        rw [hdr] at hf
        have hxl := nth_lt b k
        have hp6 : 128 ^ k ≤ 34359738368 := by
          have : 128 ^ k ≤ 128 ^ 5 := Nat.pow_le_pow_right (by decide) (by omega)
          exact this
        have hps : 128 ^ (k + 1) = 128 * 128 ^ k := by rw [Nat.pow_succ, Nat.mul_comm]
        unfold fstF at hf
        rw [hx] at hf
        obtain ⟨x, ex⟩ : ∃ x, x = nth b k := ⟨_, rfl⟩
        rw [← ex] at hf hxl e1
        obtain ⟨s, es⟩ : ∃ s, s = 128 ^ k := ⟨_, rfl⟩
        rw [← es] at hf hm hp6 hps ⊢
        have hz : x % 128 * s ≤ 127 * s := Nat.mul_le_mul_right _ (by omega)
        have t1 : (x : Int).tmod 128 = ((x % 128 : Nat) : Int) := by rw [Int.tmod_eq_emod_of_nonneg (by omega)]; omega
        have w1 : IntKind.u8.wrap ((x % 128 : Nat) : Int) = ((x % 128 : Nat) : Int) := by rw [IntKind.wrap_u8]; omega
        have w2 : IntKind.i64.wrap ((x % 128 : Nat) : Int) = ((x % 128 : Nat) : Int) := by rw [IntKind.wrap_i64]; omega
        obtain ⟨z, ez⟩ : ∃ z, z = x % 128 := ⟨_, rfl⟩
        rw [← ez] at hf hz t1 w1 w2
        obtain ⟨zs, ezs⟩ : ∃ y, y = z * s := ⟨_, rfl⟩
        have m1 : ((z : Int) * (s : Int)) = (zs : Int) := by rw [ezs]; exact (Int.natCast_mul z s).symm
        rw [← ezs] at hf hz
        have w3 : IntKind.i64.wrap (zs : Int) = (zs : Int) := by rw [IntKind.wrap_i64]; omega
        have w4 : IntKind.i64.wrap ((m : Int) + (zs : Int)) = ((m + zs : Nat) : Int) := by rw [IntKind.wrap_i64]; omega
        have w5 : IntKind.i64.wrap ((s : Int) * 128) = ((128 * s : Nat) : Int) := by rw [IntKind.wrap_i64]; omega
        have hn1 : m + zs < 128 * s := by omega
        obtain ⟨n1, en1⟩ : ∃ n, n = m + zs := ⟨_, rfl⟩
        rw [← en1] at hf w4 hn1
        have HS := Lib.hid (And.intro hps hn1)
        have HF := Lib.hid hf
        have HK := Lib.hid (And.intro hk (And.intro hlt (show 6 - (k + 1) = f by omega)))
        clear hf hdr hx ex es ez ezs en1 hz hm hps hn1 hkb hkl hp6 ef
        by_cases hbig : 128 ≤ x
        · have g4 : (128 : Int) ≤ (x : Int) := by omega
          have hf2 := HF.out
          rw [if_pos hbig] at hf2
          have HF2 := Lib.hid hf2
          clear hbig hf2 HF hxl
          go_wp2_with fail
          go_roundw
          case rel => exact ⟨k + 1, n1, by have := HK.out; omega, by rw [HS.out.1]; exact HS.out.2, by have := HK.out; omega, by go_num, rfl, by rw [HS.out.1]; simp, by rw [HF2.out, show 6 - (k + 1) = f from HK.out.2.2], _, rfl⟩
          case measure => have := HK.out; simp [intOf]; omega
        · have g4 : ¬ (128 : Int) ≤ (x : Int) := by omega
          have hf2 := HF.out
          rw [if_neg hbig] at hf2
          clear hbig HF
          by_cases hz0 : 0 < k ∧ x = 0
          · have hk0 : (0 : Int) < (k : Int) := by omega
            have hx0 : ((x : Int) == 0) = true := by rw [hz0.2]; rfl
            have HR := Lib.hid (show fstL b = (0, 0, 5) by rw [hf2, if_pos hz0])
            clear hf2 hz0 hxl
            go_wp2_with fail
            go_returns
            rw [HR.out]
            exact ⟨rfl, _, rfl⟩
          · rw [if_neg hz0] at hf2
            by_cases hfar : Far < n1
            · have g5 : (1099511627776 : Int) < (n1 : Int) := by unfold Far at hfar; omega
              have HR := Lib.hid (show fstL b = (0, 0, 6) by rw [hf2, if_pos hfar])
              have hor : ¬ (0 : Int) < (k : Int) ∨ ((0 : Int) < (k : Int) ∧ ((x : Int) == 0) = false) := by
                by_cases h : 0 < k
                · right; refine ⟨by omega, ?_⟩; simp; omega
                · left; omega
              clear hf2 hz0 hxl hfar
              rcases hor with q0 | ⟨q0, q1⟩
              · go_wp2_with fail
                go_returns
                rw [HR.out]
                exact ⟨rfl, _, rfl⟩
              · go_wp2_with fail
                go_returns
                rw [HR.out]
                exact ⟨rfl, _, rfl⟩
            · have g5 : ¬ (1099511627776 : Int) < (n1 : Int) := by unfold Far at hfar; omega
              have HR := Lib.hid (show fstL b = (n1, k + 1, 0) by rw [hf2, if_neg hfar])
              have hor : ¬ (0 : Int) < (k : Int) ∨ ((0 : Int) < (k : Int) ∧ ((x : Int) == 0) = false) := by
                by_cases h : 0 < k
                · right; refine ⟨by omega, ?_⟩; simp; omega
                · left; omega
              have w6 : IntKind.i64.wrap ((k : Int) + 1) = ((k + 1 : Nat) : Int) := by rw [IntKind.wrap_i64]; omega
              clear hf2 hz0 hxl hfar
              rcases hor with q0 | ⟨q0, q1⟩
              · go_wp2_with fail
                go_returns
                rw [HR.out]
                exact ⟨rfl, _, rfl⟩
              · go_wp2_with fail
                go_returns
                rw [HR.out]
                exact ⟨rfl, _, rfl⟩
end Go.Proofs.Ytonfdnihllhcbaa
