/-
  The landed code of layer 13: put, Number, Text, Flag. By an AI agent.
-/
import Derived.Test.YtonfdnihllhcbaaWk1
namespace Go.Proofs.Ytonfdnihllhcbaa
open Go Go.RowKit
set_option maxRecDepth 20000
theorem wraps_62 (n : Int) (h₀ : 0 ≤ n) (h₁ : n < 2 ^ 62) : IntKind.i64.wrap n = n := by rw [IntKind.wrap_i64]; omega
theorem and_127 {k : Nat} (hk : k < 4611686018427387904) : bits .and .i64 (k : Int) 127 = ((k % 128 : Nat) : Int) := by
  have h := bits_mask .i64 62 (by decide) wraps_62 7 (by decide) (k : Int) (by omega) (by omega)
  rw [show (127 : Int) = 2 ^ 7 - 1 by decide, h]
  omega
theorem or_128 {r : Nat} (hr : r < 128) : bits .or .i64 (r : Int) 128 = ((r + 128 : Nat) : Int) := by
  have h := (bits_nat .i64 62 (by decide) wraps_62 r 128 (by omega) (by decide)).2
  have h2 : r ||| 128 = 128 + r := by
    rw [Nat.or_comm]
    have := Nat.two_pow_add_eq_or_of_lt (i := 7) (show r < 2 ^ 7 by omega) 1
    simpa using this.symm
  rw [show (128 : Int) = ((128 : Nat) : Int) from rfl, h, h2, Nat.add_comm]
def intV : Value → Int | .int _ q => q | _ => 0
/-- A number's first byte, where more come; what is left of it. -/
theorem put_nums {f k : Nat} (hk : k ≤ Far) (hs : ¬ k < 128) (hf : k < 128 ^ (f + 1)) : ∃ (g r q j : Nat) (x : UInt8), f = g + 1 ∧ (127 : Int) < (k : Int) ∧ bits .and .i64 (k : Int) 127 = (r : Int) ∧ bits .or .i64 (r : Int) 128 = (q : Int) ∧ (q : Int) % 256 = (x.toNat : Int) ∧ (k : Int) / 128 = (j : Int) ∧ j ≤ Far ∧ digF f k = x :: digF g j ∧ j < 128 ^ (g + 1) ∧ j < k := by
  have hk' := hk
  unfold Far at hk'
  obtain ⟨g, rfl⟩ : ∃ g, f = g + 1 := ⟨f - 1, by
    rcases Nat.eq_zero_or_pos f with h | h
    · rw [h] at hf; omega
    · omega⟩
  refine ⟨g, k % 128, k % 128 + 128, k / 128, UInt8.ofNat (128 + k % 128), rfl, by omega, and_127 (by omega), or_128 (by omega), ?_, by omega, by unfold Far; omega, ?_, ?_, by omega⟩
  · rw [UInt8.toNat_ofNat']
    omega
  · rw [digF, if_neg hs]
  · rw [Nat.pow_succ] at hf
    exact Nat.div_lt_of_lt_mul (by rw [Nat.mul_comm]; exact hf)
set_option maxHeartbeats 1600000 in
theorem put_any {A : Option Addr} {B c n : Nat} {bs : List UInt8} (hn : bs.length = n) (m : Int) (w : World) (hr : Own w B 5 A c bs) (hB : B ≤ w.heap.size) (hl : n ≤ 140737488355322) :
    Calls Try.prog 29 #[.slice A n c, .int .i64 m] w fun e w' => ∃ A' c', e = .returned (.slice A' (numL bs m).length c') ∧ Own w' B 5 A' c' (numL bs m) ∧ Below B w w' := by
  subst hn
  obtain ⟨i0, hi, hz0, hz1, hz2⟩ := info_parts infoU8
  go_enter Try.func29, Try.ntmps29
  go_wp2_with fail
  refine wp_scope_back 0 (fun a' w' => ∃ (f k : Nat) (A' : Option Addr) (c' : Nat) (zs : List UInt8) (u5 u6 u7 u8 u9 u10 u11 u12 u13 u14 u15 u16 u17 u18 u19 u20 u21 u22 u23 : Value), a' = { tmps := #[.slice A' zs.length c', .int .i64 (k : Int), undef, undef, .slice none 0 0, u5, u6, u7, u8, u9, u10, u11, u12, u13, u14, u15, u16, u17, u18, u19, u20, u21, u22, u23], defers := [] } ∧ Own w' B 5 A' c' zs ∧ Below B w w' ∧ k ≤ Far ∧ numL bs m = zs ++ digF f k ∧ k < 128 ^ (f + 1) ∧ zs.length + f + 1 ≤ 140737488355328) (fun a' _ => (intV (a'.tmps.getD 1 undef)).toNat) rfl ?_ ?_
  · rintro a' w' ⟨f, k, A', c', zs, u5, u6, u7, u8, u9, u10, u11, u12, u13, u14, u15, u16, u17, u18, u19, u20, u21, u22, u23, rfl, ho, hb, hk, hnum, hf, hlen⟩
    by_cases hs : k < 128
    · have hd : digF f k = [UInt8.ofNat k] := by cases f <;> simp [digF, hs]
      rw [hd] at hnum
      have hx : ((UInt8.ofNat k).toNat : Int) = (k : Int) := by rw [UInt8.toNat_ofNat']; omega
      have g1 : ¬ (127 : Int) < (k : Int) := by omega
      have e1 : (k : Int) % 256 = (k : Int) := by omega
      have HN := Lib.hid hnum
      have HX := Lib.hid hx
      have HL := Lib.hid (show zs.length + 1 ≤ 140737488355328 by omega)
      clear hs hd hnum hf hlen hk hx
      go_wp2_with (at_builtin; refine wpList_app1 w' rfl (.tmp 19) (.tmp 22) _ rfl B 5 i0 _ Try.underlying22 hi hz0 hz1 hz2 rfl rfl rfl ho (v := (k : Int)) rfl (UInt8.ofNat k) HX.out.symm HL.out (Nat.le_trans hB hb.size) ?_; intro A1 c1 v1 ho1 hb1)
      simp only [Exit.jump]
      go_ret
      rw [HN.out]
      exact ⟨A1, c1, by simp, ho1, hb.trans hb1⟩
    · obtain ⟨g, r, q, j, x, rfl, g1, e1, e2, e3, e4, hj, hd, hf2, hlt⟩ := put_nums hk hs hf
      rw [hd] at hnum
      have HN := Lib.hid hnum
      have HX := Lib.hid (And.intro hj (And.intro hf2 hlt))
      have HL := Lib.hid (show zs.length + (g + 1) + 1 ≤ 140737488355328 from hlen)
      have HL2 := Lib.hid (show zs.length + 1 ≤ 140737488355328 by omega)
      clear hs hd hnum hf hlen hk hj hf2 hlt
      go_wp2_with (at_builtin; refine wpList_app1 w' rfl (.tmp 10) (.tmp 15) _ rfl B 5 i0 _ Try.underlying22 hi hz0 hz1 hz2 rfl rfl rfl ho (v := (x.toNat : Int)) rfl x rfl HL2.out (Nat.le_trans hB hb.size) ?_; intro A1 c1 v1 ho1 hb1)
      go_step3
      refine ⟨rfl, ⟨g, j, A1, c1, zs ++ [x], _, _, _, _, _, _, _, _, _, _, _, _, _, _, _, _, _, _, _, by rw [List.length_append]; rfl, ho1, hb.trans hb1, HX.out.1, by rw [HN.out]; simp, HX.out.2.1, by have := HL.out; simp; omega⟩, ?_⟩
      have := HX.out.2.2
      simp [intV]
      omega
  · intro H
    have hnum : numL bs m = bs ++ digF 5 (clampN m) := rfl
    have hfin := clampN_le m
    have hH : ∀ (k : Nat) (a' : Act) (w' : World), w' = w → k = clampN m → (∃ (u5 u6 u7 u8 u9 u10 u11 u12 u13 u14 u15 u16 u17 u18 u19 u20 u21 u22 u23 : Value), a' = { tmps := #[.slice A bs.length c, .int .i64 (k : Int), undef, undef, .slice none 0 0, u5, u6, u7, u8, u9, u10, u11, u12, u13, u14, u15, u16, u17, u18, u19, u20, u21, u22, u23], defers := [] }) → _ := fun k a' w' e1 e2 ⟨u5, u6, u7, u8, u9, u10, u11, u12, u13, u14, u15, u16, u17, u18, u19, u20, u21, u22, u23, h⟩ => H a' w' ⟨5, k, A, c, bs, u5, u6, u7, u8, u9, u10, u11, u12, u13, u14, u15, u16, u17, u18, u19, u20, u21, u22, u23, h, by rw [e1]; exact hr, by rw [e1]; exact Below.refl _ _, by rw [e2]; exact hfin, by rw [e2]; exact hnum, by rw [e2]; unfold Far at hfin; omega, by omega⟩
    clear H hnum
    by_cases h1 : m < 0
    · have e1 : clampN m = 0 := by unfold clampN; rw [if_pos h1]
      have HE := Lib.hid e1
      have HH := Lib.hid hH
      clear hH e1 hfin
      have g1 : ¬ (0 : Int) < m := by omega
      have g2 : ¬ (0 : Int) ≤ m := by omega
      have g3 : m ≤ 0 := by omega
      go_wp2_with fail
      rename_i hK
      go_step3
      refine hK _ _ (HH.out 0 _ _ rfl HE.out.symm ⟨_, _, _, _, _, _, _, _, _, _, _, _, _, _, _, _, _, _, _, rfl⟩)
    · by_cases h2 : (Far : Int) < m
      · have e1 : clampN m = Far := by unfold clampN; rw [if_neg h1, if_pos h2]
        have HE := Lib.hid e1
        have HH := Lib.hid hH
        unfold Far at h2
        clear hH e1 hfin
        have g1 : (1099511627776 : Int) < m := by omega
        have g2 : ¬ m < (1099511627776 : Int) := by omega
        have g3 : (0 : Int) < m := by omega
        clear h2
        go_wp2_with fail
        rename_i hK
        go_step3
        refine hK _ _ (HH.out 1099511627776 _ _ rfl HE.out.symm ⟨_, _, _, _, _, _, _, _, _, _, _, _, _, _, _, _, _, _, _, rfl⟩)
      · obtain ⟨k, rfl⟩ : ∃ k : Nat, m = (k : Int) := ⟨m.toNat, by omega⟩
        unfold Far at h2
        have e1 : clampN (k : Int) = k := clamp_nat (by unfold Far; omega)
        have HE := Lib.hid e1
        have HH := Lib.hid hH
        clear hH e1 hfin
        by_cases h3 : k = 0
        · subst h3
          go_wp2_with fail
          rename_i hK
          go_step3
          refine hK _ _ (HH.out 0 _ _ rfl HE.out.symm ⟨_, _, _, _, _, _, _, _, _, _, _, _, _, _, _, _, _, _, _, rfl⟩)
        · have g1 : ¬ (1099511627776 : Int) < (k : Int) := by omega
          have g2 : (0 : Int) < (k : Int) := by omega
          have g3 : ¬ (k : Int) < 0 := by omega
          by_cases h4 : k = 1099511627776
          · subst h4
            go_wp2_with fail
            rename_i hK
            go_step3
            refine hK _ _ (HH.out 1099511627776 _ _ rfl HE.out.symm ⟨_, _, _, _, _, _, _, _, _, _, _, _, _, _, _, _, _, _, _, rfl⟩)
          · have g4 : (k : Int) < (1099511627776 : Int) := by omega
            go_wp2_with fail
            rename_i hK
            go_step3
            refine hK _ _ (HH.out k _ _ rfl HE.out.symm ⟨_, _, _, _, _, _, _, _, _, _, _, _, _, _, _, _, _, _, _, rfl⟩)
theorem puts_code {A : Option Addr} {c : Nat} {b : List UInt8} (n : Int) (w : World) (hr : Rd w w.heap.size A c b) (hl : b.length ≤ 140737488355320) :
    Calls Try.prog 10 #[.slice A b.length c, .int .i64 n] w fun x w' => ∃ A' c', x = .returned (.slice A' (numL b n).length c') ∧ Own w' w.heap.size 5 A' c' (numL b n) ∧ Below w.heap.size w w' := by
  have K1 := Lib.hid (room_any (m := 6) rfl w hr (Nat.le_refl _) (by omega))
  have HL := Lib.hid (show b.length ≤ 140737488355322 by omega)
  go_enter Try.func10, Try.ntmps10
  go_wp2_with fail
  go_at_call 30
  refine K1.out.mono ?_
  rintro e v1 ⟨A1, c1, rfl, o1, h1⟩
  go_wp2_with fail
  go_at_call 29
  refine (put_any rfl n v1 o1 h1.size HL.out).mono ?_
  rintro e v2 ⟨A2, c2, rfl, o2, h2⟩
  go_wp2_with fail
  go_ret
  exact ⟨A2, c2, rfl, o2, h1.trans h2⟩
theorem flags_code {A : Option Addr} {c : Nat} {b : List UInt8} (y : Bool) (w : World) (hr : Rd w w.heap.size A c b) (hl : b.length ≤ 140737488355320) :
    Calls Try.prog 14 #[.slice A b.length c, .bool y] w fun x w' => ∃ A' c', x = .returned (.slice A' (flagL b y).length c') ∧ Own w' w.heap.size 5 A' c' (flagL b y) ∧ Below w.heap.size w w' := by
  cases y
  · have K1 := Lib.hid (puts_code 0 w hr hl)
    clear hr hl
    go_enter Try.func14, Try.ntmps14
    go_wp2_with fail
    go_at_call 10
    refine K1.out.mono ?_
    rintro e v1 ⟨A1, c1, rfl, o1, h1⟩
    go_wp2_with fail
    go_ret
    exact ⟨A1, c1, rfl, o1, h1⟩
  · have K1 := Lib.hid (puts_code 1 w hr hl)
    clear hr hl
    go_enter Try.func14, Try.ntmps14
    go_wp2_with fail
    go_at_call 10
    refine K1.out.mono ?_
    rintro e v1 ⟨A1, c1, rfl, o1, h1⟩
    go_wp2_with fail
    go_ret
    exact ⟨A1, c1, rfl, o1, h1⟩
set_option maxHeartbeats 800000 in
theorem texts_code {A A2 : Option Addr} {c c2 : Nat} {b s : List UInt8} (w : World) (hr : Rd w w.heap.size A c b) (hr2 : Rd w w.heap.size A2 c2 s) (hl : b.length + s.length ≤ 140737488355320) :
    Calls Try.prog 12 #[.slice A b.length c, .slice A2 s.length c2] w fun x w' => ∃ A' c', x = .returned (.slice A' (textL b s).length c') ∧ Own w' w.heap.size 5 A' c' (textL b s) ∧ Below w.heap.size w w' := by
  obtain ⟨i0, hi, hz0, hz1, hz2⟩ := info_parts infoU8
  have K1 := room_any (m := 6 + s.length) rfl w hr (Nat.le_refl _) (by omega)
  rw [Int.natCast_add] at K1
  have K1 := Lib.hid K1
  have hd := digs_len (s.length : Int)
  have HL := Lib.hid (show b.length ≤ 140737488355322 by omega)
  have hn : (numL b (s.length : Int)).length = b.length + (digs (s.length : Int)).length := by unfold numL; rw [List.length_append]
  have HL2 := Lib.hid (show (numL b (s.length : Int)).length + s.length ≤ 140737488355328 by omega)
  have g0 : s.length ≤ 140737488355320 := by omega
  clear hd hn hl
  go_enter Try.func12, Try.ntmps12
  go_wp2_with fail
  go_at_call 30
  refine K1.out.mono ?_
  rintro e v1 ⟨A1, c1, rfl, o1, h1⟩
  go_wp2_with fail
  go_at_call 29
  refine (put_any rfl (s.length : Int) v1 o1 h1.size HL.out).mono ?_
  rintro e v2 ⟨A3, c3, rfl, o2, h2⟩
  have r2 := hr2.keep (h1.trans h2)
  have hb := h1.trans h2
  clear hr hr2 h1 h2 o1 K1
  go_wp2_with (at_builtin; refine wpList_app _ rfl (.tmp 12) (.tmp 13) _ rfl w.heap.size 5 i0 _ Try.underlying22 hi hz0 hz1 hz2 rfl rfl o2 rfl r2 HL2.out hb.size ?_; intro A4 c4 v4 o4 hb4)
  go_ret
  exact ⟨A4, c4, by simp [textL], o4, hb.trans hb4⟩
end Go.Proofs.Ytonfdnihllhcbaa
