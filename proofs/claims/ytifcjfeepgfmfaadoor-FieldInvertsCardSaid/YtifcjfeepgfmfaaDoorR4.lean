import Derived.Test.YtifcjfeepgfmfaaDoorR3
import Derived.Test.YtifcjfeepgfmfaaDoorFerm
namespace Go.Proofs.YtifcjfeepgfmfaaDoor
open Go Go.RowKit
theorem Can.le32 {n x : Nat} (h : Can n x) (hx : x < W4) : n ≤ 32 := h 32 (by rw [← W4_256]; exact hx)
theorem fl_small {n : Nat} (h : n < 65536) : fl n = [.int .i64 (n : Int), .int .i64 0, .int .i64 0, .int .i64 0, .int .i64 0, .int .i64 0, .int .i64 0, .int .i64 0, .int .i64 0, .int .i64 0, .int .i64 0, .int .i64 0, .int .i64 0, .int .i64 0, .int .i64 0, .int .i64 0] := by
  have h0 : d16 n 0 = n := by unfold d16 dgt; rw [Nat.pow_zero, Nat.div_one, Nat.mod_eq_of_lt h]
  have hk : ∀ k, 1 ≤ k → d16 n k = 0 := fun k hk => dgt_zero_of_lt (Nat.lt_of_lt_of_le h (by have := Nat.pow_le_pow_right (n := 65536) (by decide) hk; rwa [Nat.pow_one] at this))
  refine List.ext_getElem (by rw [fl_len]; rfl) fun i h1 h2 => ?_
  have hi : i < 16 := by rwa [fl_len] at h1
  have hg : (fl n)[i] = dv16 n i := by
    have := fl_get (x := n) hi
    rw [List.getElem?_eq_getElem h1] at this
    exact Option.some.inj this
  refine hg.trans ?_
  unfold dv16
  rcases (show i = 0 ∨ 1 ≤ i by omega) with rfl | h3
  · rw [h0]; rfl
  · rw [hk i h3]
    have : i = 1 ∨ i = 2 ∨ i = 3 ∨ i = 4 ∨ i = 5 ∨ i = 6 ∨ i = 7 ∨ i = 8 ∨ i = 9 ∨ i = 10 ∨ i = 11 ∨ i = 12 ∨ i = 13 ∨ i = 14 ∨ i = 15 := by omega
    rcases this with rfl | rfl | rfl | rfl | rfl | rfl | rfl | rfl | rfl | rfl | rfl | rfl | rfl | rfl | rfl <;> rfl
theorem A16_small {n : Nat} (h : n < 65536) : A16 n = .cells #[.int .i64 (n : Int), .int .i64 0, .int .i64 0, .int .i64 0, .int .i64 0, .int .i64 0, .int .i64 0, .int .i64 0, .int .i64 0, .int .i64 0, .int .i64 0, .int .i64 0, .int .i64 0, .int .i64 0, .int .i64 0, .int .i64 0] 26 := by
  unfold A16; rw [fl_small h]
attribute [local irreducible] wd by8 d16 set16w fl
set_option maxRecDepth 20000
set_option maxHeartbeats 800000 in
theorem int_any {n : Nat} (hn : n < 65536) (w : World) :
    Calls Tryd.prog 57 #[.int .i64 (n : Int)] w fun e w' => e = .returned (fv n) ∧ Below w.heap.size w w' := by
  have hs : (w.alloc Z16).heap.size = w.heap.size + 1 := by simp
  have oz := (O16.zero (own_Z16 (w := w) (Nat.le_refl _))).alloc (A16 n)
  have ox := O16.new (w := w.alloc Z16) (B := w.heap.size) (by omega) n
  have hc := ((Below.refl _ w).alloc (Nat.le_refl _) Z16).alloc (by omega) (A16 n)
  rw [hs] at ox
  rw [A16_small hn] at ox oz hc
  clear hs hn
  go_enter Tryd.func57, Tryd.ntmps57
  have hop := Lib.hid (oz.put n)
  have hbz := oz.below n
  go_wp2_with (first | ((with_reducible refine fl_store oz n ?_ ?_ ?_); rfl; rfl) | ((with_reducible refine fl_load ox ?_ ?_); rfl))
  exact bodyPost_ret (fres Tryd.results57 _ hop.out rfl) rfl ⟨rfl, hc.trans hbz⟩
theorem rof_any {a : Nat} (ha : a < W4) (w : World) :
    Calls Tryd.prog 13 #[nv a] w fun e w' => e = .returned (fv (a % P25)) ∧ Below w.heap.size w w' := by
  have kd := fun w => digits_any ha w
  have hr := red_W4 a
  have hP := P25_pos
  have hle : ∀ n, Can n a → n ≤ 32 := fun n hn => Can.le32 hn ha
  obtain ⟨P, hPe⟩ : ∃ P, P = P25 := ⟨_, rfl⟩
  have kp := rprime_any
  rw [← hPe] at kp hr hP ⊢
  obtain ⟨r, hre⟩ : ∃ r, r = a % P := ⟨_, rfl⟩
  rw [← hre] at hr ⊢
  have HRE := Lib.hid hre
  clear hPe ha hre
  have KD := Lib.hid kd
  have KP := Lib.hid kp
  have HL := Lib.hid hle
  have HR := Lib.hid hr
  clear kd kp hle hr
  unfold nv
  go_enter Tryd.func13, Tryd.ntmps13
  go_wp2_with fail
  go_at_call 30
  refine (KD.out _).mono ?_
  rintro e v1 ⟨A1, c1, n1, rfl, d1, h0⟩
  obtain ⟨oz, hc⟩ := fres2 h0
  clear h0
  have p1 := d1.dig
  have l1 := HL.out _ d1.can
  clear d1
  go_wp2_with fail
  go_at_call 42
  refine (KP.out _).mono ?_
  rintro e v2 ⟨A2, c2, rfl, d2, h0⟩
  replace oz := oz.keep h0
  replace p1 := p1.next h0
  replace hc := hc.trans (h0.mono hc.size)
  clear h0
  have p2 := d2.dig
  clear d2
  go_wp2_with fail
  go_at_call 41
  refine (left_any _ p1 p2 (Nat.le_refl _) (by omega) (by omega) hP).mono ?_
  rintro e v3 ⟨A3, c3, n3, rfl, d3, h0⟩
  rw [← HRE.out] at d3
  replace oz := oz.keep h0
  replace hc := hc.trans (h0.mono hc.size)
  clear h0 p1 p2
  have p3 := d3.dig
  have l3 := Can.le32 d3.can HR.out
  clear d3
  go_wp2_with fail
  go_at_call 40
  refine (pairs_any _ p3 (Nat.le_refl _) l3).mono ?_
  rintro e v4 ⟨rfl, h0⟩
  replace oz := oz.keep h0
  replace hc := hc.trans (h0.mono hc.size)
  clear h0 p3
  have hop := Lib.hid (oz.put r)
  have hbz := oz.below r
  go_wp2_with (first | ((with_reducible refine fl_store oz r ?_ ?_ ?_); rfl; rfl))
  exact bodyPost_ret (fres Tryd.results13 _ hop.out rfl) rfl ⟨rfl, hc.trans hbz⟩
theorem rencode_any {x : Nat} (hx : x < W4) (w : World) :
    Calls Tryd.prog 39 #[fv x] w fun e w' => ∃ A c, e = .returned (.slice A 32 c) ∧ Own w' w.heap.size 5 A c (gen (bf x) 32) ∧ Below w.heap.size w w' := by
  have KB := Lib.hid (fun w => rbytes_any hx w)
  have ox := O16.new (w := w) (Nat.le_refl _) x
  have hc := (Below.refl _ w).alloc (Nat.le_refl _) (A16 x)
  clear hx
  go_enter Tryd.func39, Tryd.ntmps39
  go_wp2_with ((with_reducible refine fl_load ox ?_ ?_); rfl)
  go_at_call 45
  refine (KB.out _).mono ?_
  rintro e v1 ⟨A1, c1, n1, rfl, d1, h0⟩
  replace hc := hc.trans (h0.mono hc.size)
  clear h0 ox
  have p1 := d1.dig
  clear d1
  go_wp2_with fail
  go_at_call 66
  refine (told_any _ p1 (Nat.le_refl _)).mono ?_
  rintro e v2 ⟨A2, c2, rfl, ot, h0⟩
  go_wp2_with fail
  go_ret
  exact ⟨A2, c2, rfl, ot.mono hc.size, hc.trans (h0.mono hc.size)⟩
theorem rdec_len {A : Option Addr} {n c : Nat} (hn : n ≠ 32) (w : World) :
    Calls Tryd.prog 37 #[.slice A n c] w fun e w' => e = .returned (.tuple #[fv 0, .int .i64 1]) ∧ Below w.heap.size w w' := by
  have g1 : ((n : Int) == 32) = false := by simp; omega
  have g2 : ((n : Int) != 32) = true := by simp; omega
  have k := fun w => int_any (n := 0) (by decide) w
  have K := Lib.hid k
  clear hn k
  go_enter Tryd.func37, Tryd.ntmps37
  go_wp2_with fail
  go_at_call 57
  refine (K.out _).mono ?_
  rintro e v1 ⟨rfl, h0⟩
  obtain ⟨oz, hc⟩ := fres1 h0
  clear h0
  have hop := Lib.hid (oz.put 0)
  have hbz := oz.below 0
  go_wp2_with ((with_reducible refine fl_store oz 0 ?_ ?_ ?_); rfl; rfl)
  exact bodyPost_ret (fresv Tryd.results37 _ hop.out rfl rfl) rfl ⟨rfl, hc.trans hbz⟩
set_option maxHeartbeats 800000 in
theorem rdec_walk {A : Option Addr} {c : Nat} {bs : List UInt8} {q : Bool} (h32 : bs.length = 32) (w : World) (hr : Rd w w.heap.size A c bs) (hq : decide (vb bs < P25) = q) :
    Calls Tryd.prog 37 #[.slice A 32 c] w fun e w' => e = .returned (.tuple #[fv (if q then vb bs else 0), .int .i64 (if q then 0 else 6)]) ∧ Below w.heap.size w w' := by
  have k := fun w => int_any (n := 0) (by decide) w
  have K := Lib.hid k
  have hW := vb_lt h32
  have krd := read_any (w.alloc Z16) (hr.keep ((Below.refl _ w).alloc (Nat.le_refl _) Z16)) (by simp) (by omega)
  rw [h32] at krd
  obtain ⟨x, hx⟩ : ∃ x, x = vb bs := ⟨_, rfl⟩
  rw [← hx] at krd hq hW ⊢
  obtain ⟨P, hPe⟩ : ∃ P, P = P25 := ⟨_, rfl⟩
  have kp := rprime_any
  rw [← hPe] at kp hq
  have KP := Lib.hid kp
  have KRD := Lib.hid krd
  have HQ := Lib.hid hq
  have HW := Lib.hid hW
  clear k hx krd kp hPe hq hW h32
  cases q
  · rw [if_neg (by decide), if_neg (by decide)]
    go_enter Tryd.func37, Tryd.ntmps37
    go_wp2_with fail
    go_at_call 63
    refine KRD.out.mono ?_
    rintro e v1 ⟨A1, c1, n1, rfl, d1, h0⟩
    obtain ⟨oz, hc⟩ := fres1 h0
    clear h0 KRD
    have p1 := d1.dig
    have l1 := Can.le32 d1.can HW.out
    clear d1
    go_wp2_with fail
    go_at_call 42
    refine (KP.out _).mono ?_
    rintro e v2 ⟨A2, c2, rfl, d2, h0⟩
    replace oz := oz.keep h0
    replace p1 := p1.next h0
    replace hc := hc.trans (h0.mono hc.size)
    clear h0
    have p2 := d2.dig
    clear d2
    go_wp2_with fail
    go_at_call 64
    refine (less_any _ p1 p2 (by omega) (by omega)).mono ?_
    rintro e v3 ⟨rfl, rfl⟩
    rw [HQ.out]
    go_wp2_with fail
    go_at_call 57
    refine (K.out _).mono ?_
    rintro e v4 ⟨rfl, h0⟩
    replace oz := oz.keep h0
    replace hc := hc.trans (h0.mono hc.size)
    clear h0 p1 p2
    have hop := Lib.hid (oz.put 0)
    have hbz := oz.below 0
    go_wp2_with ((with_reducible refine fl_store oz 0 ?_ ?_ ?_); rfl; rfl)
    exact bodyPost_ret (fresv Tryd.results37 _ hop.out rfl rfl) rfl ⟨rfl, hc.trans hbz⟩
  · rw [if_pos rfl, if_pos rfl]
    go_enter Tryd.func37, Tryd.ntmps37
    go_wp2_with fail
    go_at_call 63
    refine KRD.out.mono ?_
    rintro e v1 ⟨A1, c1, n1, rfl, d1, h0⟩
    obtain ⟨oz, hc⟩ := fres1 h0
    clear h0 KRD
    have p1 := d1.dig
    have l1 := Can.le32 d1.can HW.out
    clear d1
    go_wp2_with fail
    go_at_call 42
    refine (KP.out _).mono ?_
    rintro e v2 ⟨A2, c2, rfl, d2, h0⟩
    replace oz := oz.keep h0
    replace p1 := p1.next h0
    replace hc := hc.trans (h0.mono hc.size)
    clear h0
    have p2 := d2.dig
    clear d2
    go_wp2_with fail
    go_at_call 64
    refine (less_any _ p1 p2 (by omega) (by omega)).mono ?_
    rintro e v3 ⟨rfl, rfl⟩
    rw [HQ.out]
    go_wp2_with fail
    go_at_call 40
    refine (pairs_any _ p1 (Nat.le_refl _) l1).mono ?_
    rintro e v4 ⟨rfl, h0⟩
    replace oz := oz.keep h0
    replace hc := hc.trans (h0.mono hc.size)
    clear h0 p1 p2
    have hop := Lib.hid (oz.put x)
    have hbz := oz.below x
    go_wp2_with ((with_reducible refine fl_store oz x ?_ ?_ ?_); rfl; rfl)
    exact bodyPost_ret (fresv Tryd.results37 _ hop.out rfl rfl) rfl ⟨rfl, hc.trans hbz⟩
end Go.Proofs.YtifcjfeepgfmfaaDoor
