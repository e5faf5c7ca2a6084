/-
  Layer 5's law LadderBits over the ladder's contract. By an AI agent.
-/
import Derived.Test.YtojggpiolgcjeaaD4
namespace Go.Proofs.Ytojggpiolgcjeaa
open Go Go.RowKit
attribute [local irreducible] wd by8 d16 set16w fl vk
set_option maxRecDepth 20000
set_option maxHeartbeats 1600000 in
theorem bits_good {ks us L : List UInt8} {B : Nat} {A0 A1 : Option Addr} {c0 c1 lo hi : Nat} {b0 b1 b2 : UInt8} (hlo : lo < 256) (hhi : hi < 256) (hk : ks.length = 32) (hu : us.length = 32) (hL : L.length = 32)
    (h0 : b0.toNat = nth ks 0 ^^^ (lo &&& 7)) (h1 : b1.toNat = nth ks 31 ^^^ (hi &&& 192)) (h2 : b2.toNat = nth us 31 ^^^ (lo &&& 128))
    (kg : ∀ (A A' : Option Addr) (c c' : Nat) (w : World), Rd w w.heap.size A c ks → Rd w w.heap.size A' c' us → Calls Try.prog 13 #[.slice A ks.length c, .slice A' us.length c'] w fun e w' => Ans L 0 e w' ∧ Below w.heap.size w w')
    (kw : ∀ (A A' : Option Addr) (c c' : Nat) (w : World), Rd w w.heap.size A c ((ks.set 0 b0).set 31 b1) → Rd w w.heap.size A' c' (us.set 31 b2) → Calls Try.prog 13 #[.slice A ks.length c, .slice A' us.length c'] w fun e w' => Ans L 0 e w' ∧ Below w.heap.size w w')
    (ka : ∀ w, Calls Try.prog 12 #[] w fun e w' => e = .returned (.bool true) ∧ Below w.heap.size w w')
    (w : World) (a0 : Rd w B A0 c0 ks) (a1 : Rd w B A1 c1 us) (hB : B ≤ w.heap.size) :
    Calls Try.prog 7 #[.slice A0 ks.length c0, .slice A1 us.length c1, .int .u8 (lo : Int), .int .u8 (hi : Int)] w fun e w' => e = .returned (.bool true) ∧ Below w.heap.size w w' := by
  have KG := Lib.hid kg
  have KW := Lib.hid kw
  have KA := Lib.hid ka
  have hl0 : ks.length ≤ 140737488355328 := by omega
  have hl1 : us.length ≤ 140737488355328 := by omega
  have g1 : ((ks.length : Int) == 32) = true := by simp; omega
  have g2 : ((ks.length : Int) != 32) = false := by simp; omega
  have g3 : ((us.length : Int) == 32) = true := by simp; omega
  have g4 : ((us.length : Int) != 32) = false := by simp; omega
  have g5 : ((L.length : Int) == 32) = true := by simp; omega
  have HK := Lib.hid hk
  have HU := Lib.hid hu
  have p1 : (0 : Int) < (ks.length : Int) := by omega
  have p2 : (31 : Int) < (ks.length : Int) := by omega
  have p3 : (31 : Int) < (us.length : Int) := by omega
  clear kg kw ka hk hu hL
  have hc : Below w.heap.size w w := Below.refl _ w
  go_enter Try.func7, Try.ntmps7
  go_wp2_with fail
  go_at_call 9
  refine (own5_any _ a0 (Nat.le_trans hB hc.size) hl0).mono ?_
  rintro e v1 ⟨A_r1, c_r1, rfl, r1, h⟩
  replace a0 := a0.keep (h.mono (Nat.le_trans hB hc.size))
  replace a1 := a1.keep (h.mono (Nat.le_trans hB hc.size))
  replace r1 := r1.rd
  replace hc := hc.trans (h.mono hc.size)
  clear h
  go_wp2_with fail
  go_at_call 9
  refine (own5_any _ a1 (Nat.le_trans hB hc.size) hl1).mono ?_
  rintro e v2 ⟨A_r2, c_r2, rfl, r2, h⟩
  replace a0 := a0.keep (h.mono (Nat.le_trans hB hc.size))
  replace a1 := a1.keep (h.mono (Nat.le_trans hB hc.size))
  replace r1 := (r1.keep h).mono h.size
  replace r2 := r2.rd
  replace hc := hc.trans (h.mono hc.size)
  clear h
  go_wp2_with fail
  go_at_call 13
  refine (KG.out _ _ _ _ _ r1 r2).mono ?_
  rintro e v3 ⟨⟨A3, c3, rfl, r3⟩, h⟩
  replace a0 := a0.keep (h.mono (Nat.le_trans hB hc.size))
  replace a1 := a1.keep (h.mono (Nat.le_trans hB hc.size))
  replace hc := hc.trans (h.mono hc.size)
  clear h
  clear r1 r2 KG
  go_wp2_with fail
  go_at_call 9
  refine (own5_any _ a0 (Nat.le_trans hB hc.size) hl0).mono ?_
  rintro e v4 ⟨A4, c4, rfl, o4, h3⟩
  obtain ⟨g, rfl⟩ := o4.at0 (by omega)
  have lg : g < v4.heap.size := (World.ownsRow.lt o4 g rfl).2
  replace a0 := a0.keep (h3.mono (Nat.le_trans hB hc.size))
  replace a1 := a1.keep (h3.mono (Nat.le_trans hB hc.size))
  have hs34 := h3.size
  go_wp2_with fail
  go_at_call 9
  refine (own5_any _ a1 (Nat.le_trans hB (Nat.le_trans hc.size hs34)) hl1).mono ?_
  rintro e v5 ⟨A5, c5, rfl, o5, h⟩
  obtain ⟨g', rfl⟩ := o5.at0 (by omega)
  have lg' := o5.ge
  replace o4 := o4.keep h
  replace h3 := h3.trans (h.mono hs34)
  clear h a0 a1
  have x0 := o4.cell (k := 0) (by omega)
  have y0 := o4.free 0
  have z0 := o4.set_ 0 b0
  have x1 := z0.cell (k := 31) (by rw [List.length_set]; omega)
  have y1 := z0.free 31
  rw [show nth (ks.set 0 b0) 31 = nth ks 31 by rw [nth_set _ _ _ _ (by omega), if_neg (by decide)]] at x1
  have z1 := z0.set_ 31 b1
  have hgg : g ≠ g' := by omega
  have z5 := (o5.other (p := ⟨g, 0, none⟩) hgg (.int .u8 (b0.toNat : Int))).other (p := ⟨g, 31, none⟩) hgg (.int .u8 (b1.toNat : Int))
  have x2 := z5.cell (k := 31) (by omega)
  have y2 := z5.free 31
  have z2 := z5.set_ 31 b2
  have z3 := z1.other (p := ⟨g', 31, none⟩) (Ne.symm hgg) (.int .u8 (b2.toNat : Int))
  have h4 := ((h3.setCell (p := ⟨g, 0, none⟩) o4.ge (.int .u8 (b0.toNat : Int))).setCell (p := ⟨g, 31, none⟩) o4.ge (.int .u8 (b1.toNat : Int))).setCell (p := ⟨g', 31, none⟩) (Nat.le_trans hs34 lg') (.int .u8 (b2.toNat : Int))
  have f0 : bits .and .u8 (lo : Int) 7 = ((lo &&& 7 : Nat) : Int) := bits_and8 lo 7 hlo (by decide)
  have f1 : bits .and .u8 (hi : Int) 192 = ((hi &&& 192 : Nat) : Int) := bits_and8 hi 192 hhi (by decide)
  have f2 : bits .and .u8 (lo : Int) 128 = ((lo &&& 128 : Nat) : Int) := bits_and8 lo 128 hlo (by decide)
  have q0 : lo &&& 7 ≤ lo := Nat.and_le_left
  have q1 : hi &&& 192 ≤ hi := Nat.and_le_left
  have q2 : lo &&& 128 ≤ lo := Nat.and_le_left
  have f3 : bits .xor .u8 (nth ks 0 : Int) ((lo &&& 7 : Nat) : Int) = (b0.toNat : Int) := by rw [h0]; exact bits_xor8 _ _ (nth_lt _ _) (by omega)
  have f4 : bits .xor .u8 (nth ks 31 : Int) ((hi &&& 192 : Nat) : Int) = (b1.toNat : Int) := by rw [h1]; exact bits_xor8 _ _ (nth_lt _ _) (by omega)
  have f5 : bits .xor .u8 (nth us 31 : Int) ((lo &&& 128 : Nat) : Int) = (b2.toNat : Int) := by rw [h2]; exact bits_xor8 _ _ (nth_lt _ _) (by omega)
  clear h0 h1 h2 q0 q1 q2 hlo hhi o4 o5 z0 z1 z5
  generalize lo &&& 7 = m0 at f0 f3
  generalize hi &&& 192 = m1 at f1 f4
  generalize lo &&& 128 = m2 at f2 f5
  generalize (ks.set 0 b0).set 31 b1 = ks' at *
  generalize us.set 31 b2 = us' at *
  go_upto_region 9 with fail
  obtain ⟨v6, e6⟩ : ∃ v, v = ((v5.setCell ⟨g, 0, none⟩ (.int .u8 (b0.toNat : Int))).setCell ⟨g, 31, none⟩ (.int .u8 (b1.toNat : Int))).setCell ⟨g', 31, none⟩ (.int .u8 (b2.toNat : Int)) := ⟨_, rfl⟩
  rw [← e6] at z2 z3 h4 ⊢
  clear e6 x0 x1 x2 y0 y1 y2 f0 f1 f2 f3 f4 f5
  go_wp2_with fail
  go_at_call 13
  refine (KW.out _ _ _ _ _ z3.rd z2.rd).mono ?_
  rintro e v7 ⟨⟨A7, c7, rfl, r7⟩, h⟩
  have h8 := h4.trans (h.mono h4.size)
  have s3 := run_str (P := Try.prog) v7 22 5 Try.underlying22 Try.underlying5 (dst := 9) Try.underlying9 (r3.keep h8)
  have s7 := run_str (P := Try.prog) v7 22 5 Try.underlying22 Try.underlying5 (dst := 9) Try.underlying9 r7
  replace hc := hc.trans (h8.mono hc.size)
  clear z2 z3 r3 r7 h h4 h8 h3
  go_wp2_with fail
  go_at_call 12
  refine (KA.out _).mono ?_
  rintro e vz ⟨rfl, h0⟩
  go_wp2_with fail
  go_ret
  exact ⟨rfl, hc.trans (h0.mono hc.size)⟩
set_option maxHeartbeats 1600000 in
theorem bits_bad {ks us L : List UInt8} {B : Nat} {A0 A1 : Option Addr} {c0 c1 : Nat} {x y : Value} (hn : ks.length ≠ 32 ∨ us.length ≠ 32) (hl0 : ks.length ≤ 140737488355328) (hl1 : us.length ≤ 140737488355328)
    (kg : ∀ (A A' : Option Addr) (c c' : Nat) (w : World), Rd w w.heap.size A c ks → Rd w w.heap.size A' c' us → Calls Try.prog 13 #[.slice A ks.length c, .slice A' us.length c'] w fun e w' => Ans L 1 e w' ∧ Below w.heap.size w w')
    (ka : ∀ w, Calls Try.prog 12 #[] w fun e w' => e = .returned (.bool true) ∧ Below w.heap.size w w')
    (w : World) (a0 : Rd w B A0 c0 ks) (a1 : Rd w B A1 c1 us) (hB : B ≤ w.heap.size) :
    Calls Try.prog 7 #[.slice A0 ks.length c0, .slice A1 us.length c1, x, y] w fun e w' => e = .returned (.bool true) ∧ Below w.heap.size w w' := by
  have KG := Lib.hid kg
  have KA := Lib.hid ka
  clear kg ka
  have hc : Below w.heap.size w w := Below.refl _ w
  by_cases hk : ks.length = 32
  · have hu : us.length ≠ 32 := hn.resolve_left (fun h => h hk)
    have g1 : ((ks.length : Int) == 32) = true := by simp; omega
    have g2 : ((ks.length : Int) != 32) = false := by simp; omega
    have g3 : ((us.length : Int) == 32) = false := by simp; omega
    have g4 : ((us.length : Int) != 32) = true := by simp; omega
    clear hk hu hn
    go_enter Try.func7, Try.ntmps7
    go_wp2_with fail
    go_at_call 9
    refine (own5_any _ a0 (Nat.le_trans hB hc.size) hl0).mono ?_
    rintro e v1 ⟨A2, c2, rfl, r1, h⟩
    replace a1 := a1.keep (h.mono (Nat.le_trans hB hc.size))
    replace r1 := r1.rd
    replace hc := hc.trans (h.mono hc.size)
    clear h
    go_wp2_with fail
    go_at_call 9
    refine (own5_any _ a1 (Nat.le_trans hB hc.size) hl1).mono ?_
    rintro e v2 ⟨A3, c3, rfl, r2, h⟩
    replace r1 := (r1.keep h).mono h.size
    replace r2 := r2.rd
    replace hc := hc.trans (h.mono hc.size)
    clear h
    go_wp2_with fail
    go_at_call 13
    refine (KG.out _ _ _ _ _ r1 r2).mono ?_
    rintro e v3 ⟨⟨A4, c4, rfl, r3⟩, h⟩
    replace hc := hc.trans (h.mono hc.size)
    clear h r1 r2 r3
    go_wp2_with fail
    go_at_call 12
    refine (KA.out _).mono ?_
    rintro e vz ⟨rfl, h0⟩
    go_wp2_with fail
    go_ret
    exact ⟨rfl, hc.trans (h0.mono hc.size)⟩
  · have g1 : ((ks.length : Int) == 32) = false := by simp; omega
    have g2 : ((ks.length : Int) != 32) = true := by simp; omega
    clear hk hn
    go_enter Try.func7, Try.ntmps7
    go_wp2_with fail
    go_at_call 9
    refine (own5_any _ a0 (Nat.le_trans hB hc.size) hl0).mono ?_
    rintro e v1 ⟨A2, c2, rfl, r1, h⟩
    replace a1 := a1.keep (h.mono (Nat.le_trans hB hc.size))
    replace r1 := r1.rd
    replace hc := hc.trans (h.mono hc.size)
    clear h
    go_wp2_with fail
    go_at_call 9
    refine (own5_any _ a1 (Nat.le_trans hB hc.size) hl1).mono ?_
    rintro e v2 ⟨A3, c3, rfl, r2, h⟩
    replace r1 := (r1.keep h).mono h.size
    replace r2 := r2.rd
    replace hc := hc.trans (h.mono hc.size)
    clear h
    go_wp2_with fail
    go_at_call 13
    refine (KG.out _ _ _ _ _ r1 r2).mono ?_
    rintro e v3 ⟨⟨A4, c4, rfl, r3⟩, h⟩
    replace hc := hc.trans (h.mono hc.size)
    clear h r1 r2 r3
    go_wp2_with fail
    go_at_call 12
    refine (KA.out _).mono ?_
    rintro e vz ⟨rfl, h0⟩
    go_wp2_with fail
    go_ret
    exact ⟨rfl, hc.trans (h0.mono hc.size)⟩
theorem bits_law {ks us : List UInt8} {B : Nat} {A0 A1 : Option Addr} {c0 c1 lo hi : Nat} (hlo : lo < 256) (hhi : hi < 256) (hl0 : ks.length ≤ 140737488355328) (hl1 : us.length ≤ 140737488355328)
    (kg : ∀ (ks us : List UInt8) (A A' : Option Addr) (c c' : Nat) (w : World), Rd w w.heap.size A c ks → Rd w w.heap.size A' c' us → Calls Try.prog 13 #[.slice A ks.length c, .slice A' us.length c'] w fun e w' => Ans (multL ks us) (multZ ks us) e w' ∧ Below w.heap.size w w')
    (ka : ∀ w, Calls Try.prog 12 #[] w fun e w' => e = .returned (.bool true) ∧ Below w.heap.size w w')
    (w : World) (a0 : Rd w B A0 c0 ks) (a1 : Rd w B A1 c1 us) (hB : B ≤ w.heap.size) :
    Calls Try.prog 7 #[.slice A0 ks.length c0, .slice A1 us.length c1, .int .u8 (lo : Int), .int .u8 (hi : Int)] w fun e w' => e = .returned (.bool true) ∧ Below w.heap.size w w' := by
  by_cases hg : ks.length = 32 ∧ us.length = 32
  · have q0 : lo &&& 7 ≤ 7 := Nat.and_le_right
    have q1 : hi &&& 192 ≤ 192 := Nat.and_le_right
    have q2 : lo &&& 128 ≤ 128 := Nat.and_le_right
    have m0 : nth ks 0 ^^^ (lo &&& 7) < 256 := Nat.xor_lt_two_pow (n := 8) (nth_lt _ _) (by omega)
    have m1 : nth ks 31 ^^^ (hi &&& 192) < 256 := Nat.xor_lt_two_pow (n := 8) (nth_lt _ _) (by omega)
    have m2 : nth us 31 ^^^ (lo &&& 128) < 256 := Nat.xor_lt_two_pow (n := 8) (nth_lt _ _) (by omega)
    have e0 : (UInt8.ofNat (nth ks 0 ^^^ (lo &&& 7))).toNat = nth ks 0 ^^^ (lo &&& 7) := by rw [UInt8.toNat_ofNat']; exact Nat.mod_eq_of_lt m0
    have e1 : (UInt8.ofNat (nth ks 31 ^^^ (hi &&& 192))).toNat = nth ks 31 ^^^ (hi &&& 192) := by rw [UInt8.toNat_ofNat']; exact Nat.mod_eq_of_lt m1
    have e2 : (UInt8.ofNat (nth us 31 ^^^ (lo &&& 128))).toNat = nth us 31 ^^^ (lo &&& 128) := by rw [UInt8.toNat_ofNat']; exact Nat.mod_eq_of_lt m2
    have hz : multZ ks us = 0 := if_pos hg
    have hL : multL ks us = gen (bf (multN ks us)) 32 := if_pos hg
    refine bits_good (L := multL ks us) hlo hhi hg.1 hg.2 (by rw [hL, gen_length]) e0 e1 e2 (fun A A' c c' w h h' => ?_) (fun A A' c c' w h h' => ?_) ka w a0 a1 hB
    · have := kg ks us A A' c c' w h h'
      rwa [hz] at this
    · have := kg _ _ A A' c c' w h h'
      rw [List.length_set, List.length_set, List.length_set] at this
      have hg' : ((ks.set 0 (UInt8.ofNat (nth ks 0 ^^^ (lo &&& 7)))).set 31 (UInt8.ofNat (nth ks 31 ^^^ (hi &&& 192)))).length = 32 ∧ (us.set 31 (UInt8.ofNat (nth us 31 ^^^ (lo &&& 128)))).length = 32 := by
        rw [List.length_set, List.length_set, List.length_set]; exact hg
      rw [show multZ _ _ = 0 from if_pos hg', show multL _ _ = _ from if_pos hg', bits_num hg.1 hg.2 (by rw [e0]; exact xor_low _ _) (by rw [e1]; exact xor_high _ _) (by rw [e2]; exact xor_top _ _), ← hL] at this
      exact this
  · refine bits_bad (L := multL ks us) (by omega) hl0 hl1 (fun A A' c c' w h h' => ?_) ka w a0 a1 hB
    have := kg ks us A A' c c' w h h'
    rwa [show multZ ks us = 1 from if_neg hg] at this
end Go.Proofs.Ytojggpiolgcjeaa
