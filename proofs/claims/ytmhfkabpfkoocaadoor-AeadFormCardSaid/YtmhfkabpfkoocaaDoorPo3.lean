/-
  The document's Tag (layer 11). By an AI agent.
-/
import Derived.Test.YtmhfkabpfkoocaaDoorPo1
import Derived.Test.YtmhfkabpfkoocaaDoorPo2
namespace Go.Proofs.YtmhfkabpfkoocaaDoor
open Go Go.RowKit
set_option maxRecDepth 20000
/-- The k-th block's number, what a is behind k blocks, the tag. -/
def blkL (bs : List UInt8) (k : Nat) : List UInt8 := (bs.drop (16 * k)).take 16
def pnum (bs : List UInt8) (k : Nat) : Nat := vb (blkL bs k ++ [1])
def pa (r : Nat) (bs : List UInt8) : Nat → Nat
  | 0 => 0
  | k + 1 => (pa r bs k + pnum bs k) * r % P130
def nblk16 (n : Nat) : Nat := (n + 15) / 16
def tagN (key bs : List UInt8) : List UInt8 := gen (bf (pa (vb (cutL (key.take 16))) bs (nblk16 bs.length) + vb (key.drop 16))) 16
theorem tagN_len (key bs : List UInt8) : (tagN key bs).length = 16 := gen_length _ _
theorem blkL_le (bs : List UInt8) (k : Nat) : (blkL bs k).length ≤ 16 := by unfold blkL; rw [List.length_take]; omega
theorem pow_le17 {n : Nat} (h : n ≤ 17) : 256 ^ n ≤ 256 ^ 17 := Nat.pow_le_pow_right (by decide) h
theorem pnum_lt (bs : List UInt8) (k : Nat) : pnum bs k < 256 ^ 17 := Nat.lt_of_lt_of_le (vk_lt _ _) (pow_le17 (by have := blkL_le bs k; simp; omega))
theorem pa_lt (r : Nat) (bs : List UInt8) : ∀ k, pa r bs k < P130
  | 0 => p130_pos
  | _ + 1 => Nat.mod_lt _ p130_pos
theorem pa_zero (r : Nat) (bs : List UInt8) : pa r bs 0 = 0 := rfl
theorem pa_next (r : Nat) (bs : List UInt8) (k : Nat) : (pa r bs k + pnum bs k) * r % P130 = pa r bs (k + 1) := rfl
theorem pnum_eq (bs : List UInt8) (k : Nat) : vb (blkL bs k ++ [1]) = pnum bs k := rfl
theorem DOwn.small {w : World} {B c n x m : Nat} {A : Option Addr} (h : DOwn w B A c n x) (hx : x < 256 ^ m) : n ≤ m := h.can m hx
theorem vb16_lt {bs : List UInt8} (h : bs.length ≤ 16) : vb bs < 256 ^ 16 := Nat.lt_of_lt_of_le (vk_lt _ _) (Nat.pow_le_pow_right (by decide) h)
theorem rtag_bad {A0 A1 : Option Addr} {n m c0 c1 : Nat} (hn : n ≠ 32) (w : World) :
    Calls Tryd.prog 23 #[.slice A0 n c0, .slice A1 m c1] w fun e w' => e = .returned (.tuple #[.slice none 0 0, .int .i64 1]) ∧ Below w.heap.size w w' := by
  have g2 : ((n : Int) != 32) = true := by simp; omega
  go_enter Tryd.func23, Tryd.ntmps23
  go_wp2_with fail
  go_returns
  exact ⟨rfl, Below.refl _ _⟩
theorem read_len {A : Option Addr} {B c n : Nat} {bs : List UInt8} (hn : bs.length = n) (w : World) (h : Rd w B A c bs) (hB : B ≤ w.heap.size) (hb : n ≤ 1000) :
    Calls Tryd.prog 35 #[.slice A n c] w fun e w' => ∃ A c n, e = .returned (.slice A n c) ∧ DOwn w' w.heap.size A c n (vb bs) ∧ Below w.heap.size w w' := by
  subst hn
  exact read_any w h hB hb
theorem p_sub {w : World} {B c b o l n : Nat} {bs : List UInt8} (h : Rd w B (some ⟨b, o, none⟩) c bs) (hl : l + n ≤ bs.length) (hc : l < c) : Rd w B (some ⟨b, o + l, none⟩) (c - l) ((bs.drop l).take n) := by
  have h2 := h.sub_ hl
  have e : subA (some ⟨b, o, none⟩) c l = some ⟨b, o + l, none⟩ := by
    unfold subA
    rw [if_neg (by omega)]
    simp [Addr.add_mid]
  rwa [e] at h2
/-- The two halves of a key. -/
theorem p_half {w : World} {B c : Nat} {A : Option Addr} {bs : List UInt8} (h : Rd w B A c bs) (hl : bs.length = 32) : ∃ b o, A = some ⟨b, o, none⟩ ∧ 32 ≤ c ∧ b < B ∧ Rd w B (some ⟨b, o, none⟩) c (bs.take 16) ∧ Rd w B (some ⟨b, o + 16, none⟩) (c - 16) (bs.drop 16) := by
  have hc := h.cap
  have h1 := h.pre (n := 16) (by omega) (by decide)
  have h2 := h.drop_ (l := 16) (by omega)
  obtain ⟨b, o, rfl, hb, _⟩ := h.at_ (k := 0) (by omega)
  refine ⟨b, o, rfl, by omega, hb, h1, ?_⟩
  have e : subA (some ⟨b, o, none⟩) c 16 = some ⟨b, o + 16, none⟩ := by
    unfold subA
    rw [if_neg (by omega)]
    simp [Addr.add_mid]
  rwa [e] at h2
section
attribute [local irreducible] pa pnum cutL P130 vb blkL
set_option maxHeartbeats 6400000 in
theorem rtag_any {key bs : List UInt8} (hk : key.length = 32) (hl : bs.length ≤ 1000000) {A0 A1 : Option Addr} {B k0 c1 : Nat} (w : World) (r0 : Rd w B A0 k0 key) (r1 : Rd w B A1 c1 bs) (hB : B ≤ w.heap.size) :
    Calls Tryd.prog 23 #[.slice A0 32 k0, .slice A1 bs.length c1] w fun e w' => ∃ A c, e = .returned (.tuple #[.slice A 16 c, .int .i64 0]) ∧ Own w' w.heap.size 5 A c (tagN key bs) ∧ Below w.heap.size w w' := by
  obtain ⟨i0, hi, hz0, hz1, hz2⟩ := info_parts infoByte
  obtain ⟨R, eR⟩ : ∃ R, R = vb (cutL (key.take 16)) := ⟨_, rfl⟩
  obtain ⟨S, eS⟩ : ∃ S, S = vb (key.drop 16) := ⟨_, rfl⟩
  have hT : tagN key bs = gen (bf (pa R bs (nblk16 bs.length) + S)) 16 := by rw [eR, eS]; rfl
  rw [hT]
  have hS16 : S < 256 ^ 16 := by rw [eS]; exact vb16_lt (by rw [List.length_drop]; omega)
  have hR16 : R < 256 ^ 16 := by rw [eR]; exact vb16_lt (by rw [cutL_len]; omega)
  have hkt : (key.take 16).length = 16 := by rw [List.length_take]; omega
  have hkd : (key.drop 16).length = 16 := by rw [List.length_drop]; omega
  have hb16 : ∀ k, (blkL bs k ++ [1]).length = (blkL bs k).length + 1 := fun k => by simp
  obtain ⟨L, hL⟩ : ∃ L, L = bs.length := ⟨_, rfl⟩
  rw [← hL] at hl ⊢
  have HL := Lib.hid hL
  have HK := Lib.hid hk
  have HR := Lib.hid eR
  have HS := Lib.hid eS
  have HKT := Lib.hid hkt
  have HKD := Lib.hid hkd
  have HB16 := Lib.hid hb16
  have HS16 := Lib.hid hS16
  have HR16 := Lib.hid hR16
  clear hL hk eR eS hT hkt hkd hb16 hS16 hR16
  obtain ⟨nb, enb⟩ : ∃ nb, nb = nblk16 L := ⟨_, rfl⟩
  rw [← enb]
  have hnb : 16 * nb < L + 16 ∧ L ≤ 16 * nb := by rw [enb]; unfold nblk16; omega
  have HNB := Lib.hid hnb
  clear enb hnb
  obtain ⟨b0, o0, rfl, hk0, _, rh, rt⟩ := p_half r0 HK.out
  clear r0
  have g16 : 16 ≤ k0 := by omega
  have gne : ¬ k0 = 16 := by omega
  clear hk0
  go_enter Tryd.func23, Tryd.ntmps23
  go_wp2_with fail
  go_at_call 34
  refine (rcut_any HKT.out w rh hB).mono ?_
  rintro e v1 ⟨Ac, cc, rfl, oc, hc⟩
  clear rh
  replace rt := rt.keep (hc.mono hB)
  replace r1 := r1.keep (hc.mono hB)
  go_wp2_with fail
  go_at_call 35
  refine (read_len (cutL_len _) v1 oc.rd (Nat.le_refl _) (by decide)).mono ?_
  rintro e v2 ⟨Ar, cr, nr, rfl, or, h0⟩
  rw [← HR.out] at or
  clear oc
  replace rt := rt.keep (h0.mono (Nat.le_trans hB hc.size))
  replace r1 := r1.keep (h0.mono (Nat.le_trans hB hc.size))
  replace hc := hc.trans (h0.mono hc.size)
  clear h0
  go_wp2_with fail
  go_at_call 35
  refine (read_len HKD.out v2 rt (Nat.le_trans hB hc.size) (by decide)).mono ?_
  rintro e v3 ⟨As, cs, ns, rfl, os, h0⟩
  rw [← HS.out] at os
  replace or := or.keep h0
  replace r1 := r1.keep (h0.mono (Nat.le_trans hB hc.size))
  replace hc := hc.trans (h0.mono hc.size)
  clear h0 rt g16 gne
  have dr := or.dig
  have ds := os.dig
  have hnr := or.small HR16.out
  have hns := os.small HS16.out
  clear or os
  go_wp2_with fail
  go_loopw [10, 11] (fun v i wr => ∃ k : Nat, k ≤ nb ∧ i = .int .i64 ((16 * k : Nat) : Int) ∧ (∃ A c n, v = .slice A n c ∧ DOwn wr v3.heap.size A c n (pa R bs k)) ∧ Below v3.heap.size v3 wr)
    (fun _ i _ => L + 16 - (intOf i).toNat)
  case atStart => exact ⟨0, by omega, rfl, ⟨none, 0, 0, rfl, by rw [pa_zero]; exact DOwn.nothing _ _⟩, Below.refl _ _⟩
  case round =>
    obtain ⟨k, hk, rfl, ⟨Aa, ca, na, rfl, oa⟩, hb⟩ := hrel
    have hpl := pa_lt R bs k
    have hna := oa.small (Nat.lt_trans hpl p130_lt)
    obtain ⟨t, et⟩ : ∃ t, t = 16 * k := ⟨_, rfl⟩
    rw [← et]
    by_cases hlt : t < L
    · have g1 : (t : Int) < (L : Int) := by omega
      have w1 : IntKind.i64.wrap ((t : Int) + 16) = (t : Int) + 16 := by rw [IntKind.wrap_i64]; omega
      have r1k := r1.keep (hb.mono (Nat.le_trans hB hc.size))
      obtain ⟨m, hm⟩ : ∃ m, m = min (t + 16) L := ⟨_, rfl⟩
      have hmin : (if (L : Int) < (t : Int) + 16 then (L : Int) else (t : Int) + 16) = (m : Int) := by rw [hm]; split <;> omega
      have hbl : blkL bs k = (bs.drop t).take (m - t) := by
        unfold blkL
        rw [et, hm]
        by_cases h : 16 * k + 16 ≤ L
        · rw [show min (t + 16) L - 16 * k = 16 by omega]
        · rw [List.take_of_length_le (by rw [List.length_drop, ← HL.out]; omega), List.take_of_length_le (by rw [List.length_drop, ← HL.out]; omega)]
      have hmt : t ≤ m := by omega
      have hmL : m ≤ bs.length := by rw [← HL.out]; omega
      obtain ⟨bl, ebl⟩ : ∃ bl, bl = blkL bs k := ⟨_, rfl⟩
      rw [← ebl] at hbl
      have HBL := Lib.hid hbl
      have HEB := Lib.hid ebl
      have HE := Lib.hid et
      have HMT := Lib.hid hmt
      have HML := Lib.hid hmL
      have HMIN := Lib.hid hmin
      have hbl16 : bl.length ≤ 16 := by rw [ebl]; exact blkL_le bs k
      have hlen : m - t = bl.length := by rw [hbl, List.length_take, List.length_drop, ← HL.out]; omega
      obtain ⟨bb, bo, rfl, _, _⟩ := r1k.at_ (k := 0) (by rw [← HL.out]; omega)
      have hcc := r1k.cap
      have rb : Rd (wr.alloc (.cells #[] 5)) B (some ⟨bb, bo + t, none⟩) (c1 - t) bl := by
        have h := p_sub (r1k.keep ((Below.refl _ wr).alloc (Nat.le_trans hB (Nat.le_trans hc.size hb.size)) (.cells #[] 5))) (l := t) (n := m - t) (by omega) (by omega)
        rwa [← hbl] at h
      have h3 : Own (wr.alloc (.cells #[] 5)) wr.heap.size 5 (some ⟨wr.heap.size, 0, none⟩) 0 [] := World.ownsRow_made wr #[] 0 (Nat.le_refl _) (by decide) (by decide)
      have h4 : Below wr.heap.size wr (wr.alloc (.cells #[] 5)) := (Below.refl _ wr).alloc (Nat.le_refl _) _
      have gtc : t ≤ c1 := by omega
      have gmc : m ≤ c1 := by omega
      have gne : ¬ c1 = t := by omega
      have HLEN := Lib.hid hlen
      clear hbl ebl et hmL hm hcc hlen
      go_upto_region 11 with (at_builtin; refine wpList_app _ rfl (.tmp 33) (.tmp 41) _ rfl wr.heap.size 5 i0 _ Tryd.underlying22 hi hz0 hz1 hz2 rfl (xs := []) rfl h3 (congrArg (fun n => Value.slice (some ⟨bb, bo + t, none⟩) n (c1 - t)) HLEN.out) rb (by simp only [List.length_nil]; omega) (by simp) ?_; intro A4 c4 v4 o4 b4)
      replace o4 : Own v4 wr.heap.size 5 A4 c4 bl := o4
      have hb4 := h4.trans b4
      clear h3 h4 rb b4 gtc gmc gne hmin w1 g1 r1k
      go_wp2_with (at_builtin; refine wpList_app1 _ rfl (.tmp 44) (.tmp 45) _ rfl wr.heap.size 5 i0 _ Tryd.underlying22 hi hz0 hz1 hz2 rfl rfl rfl o4 rfl 1 rfl (by omega) hb4.size ?_; intro A5 c5 v5 o5 b5)
      replace hb4 := hb4.trans b5
      clear o4 b5
      replace oa := oa.keep hb4
      replace hb := hb.trans (hb4.mono hb.size)
      go_at_call 35
      refine (read_len (bs := bl ++ [1]) (by simp) v5 o5.rd (Nat.le_refl _) (by omega)).mono ?_
      rintro e v6 ⟨A6, c6, n6, rfl, o6, h0⟩
      replace oa := oa.keep h0
      replace hb := hb.trans (h0.mono hb.size)
      clear o5 h0 hb4
      have ey : vb (bl ++ [1]) = pnum bs k := by rw [HEB.out]; exact pnum_eq bs k
      rw [ey] at o6
      clear ey
      have hn6 := o6.small (pnum_lt bs k)
      have hxs : pa R bs k + pnum bs k < 256 ^ 18 := by have := pnum_lt bs k; have := Nat.lt_trans hpl p130_lt; omega
      go_wp2_with fail
      go_at_call 36
      refine (sum_any v6 oa.dig o6.dig (Nat.le_refl _) (by omega) (by omega)).mono ?_
      rintro e v7 ⟨A7, c7, n7, rfl, o7, h0⟩
      replace hb := hb.trans (h0.mono hb.size)
      clear oa o6 h0 hpl
      have hn7 := o7.small hxs
      obtain ⟨y, ey⟩ : ∃ y, y = pa R bs k + pnum bs k := ⟨_, rfl⟩
      rw [← ey] at o7 hxs
      have HY := Lib.hid (show y * R % P130 = pa R bs (k + 1) by rw [ey]; exact pa_next R bs k)
      have hyR : y * R < 256 ^ 34 := Nat.lt_of_lt_of_le (Nat.mul_lt_mul'' hxs HR16.out) (by decide +kernel)
      clear ey hxs
      go_wp2_with fail
      go_at_call 38
      refine (times_any v7 o7.dig ((dr.keep hb).mono hb.size) (Nat.le_refl _) (by omega) (by omega)).mono ?_
      rintro e v8 ⟨A8, c8, n8, rfl, o8, h0⟩
      replace hb := hb.trans (h0.mono hb.size)
      clear o7 h0
      have hn8 := o8.small hyR
      obtain ⟨z, ez⟩ : ∃ z, z = y * R := ⟨_, rfl⟩
      rw [← ez] at o8 HY
      clear ez hyR
      go_wp2_with fail
      go_at_call 39
      refine (prime_any11 v8).mono ?_
      rintro e v9 ⟨A9, c9, rfl, o9, h0⟩
      replace o8 := o8.keep h0
      replace hb := hb.trans (h0.mono hb.size)
      clear h0
      go_wp2_with fail
      go_at_call 37
      refine (left_any v9 o8.dig o9.dig (Nat.le_refl _) (by omega) (by decide) p130_pos).mono ?_
      rintro e va ⟨Aa', ca', na', rfl, oa, h0⟩
      replace oa := oa.mono hb.size
      replace hb := hb.trans (h0.mono hb.size)
      rw [HY.out] at oa
      have w2 : IntKind.i64.wrap ((t : Int) + 16) = ((16 * (k + 1) : Nat) : Int) := by have := HE.out; rw [IntKind.wrap_i64]; omega
      obtain ⟨t2, et2⟩ : ∃ t2, t2 = 16 * (k + 1) := ⟨_, rfl⟩
      rw [← et2] at w2
      have HT2 := Lib.hid et2
      have hk1 : k + 1 ≤ nb := by have := HNB.out; have := HE.out; omega
      have HT := Lib.hid (show L + 16 - t2 < L + 16 - t ∧ t2 < L + 32 by have := HE.out; omega)
      clear o8 o9 h0 et2
      go_wp2_with fail
      go_roundw
      case rel => exact ⟨k + 1, hk1, by rw [HT2.out], ⟨_, _, _, rfl, oa⟩, hb⟩
      case measure => have := HT.out; simp [intOf]; omega
    · obtain rfl : k = nb := by have := HNB.out; omega
      have g1 : ¬ (t : Int) < (L : Int) := by omega
      have hxs : pa R bs k + S < 256 ^ 18 := by have := HS16.out; have := Nat.lt_trans hpl p130_lt; omega
      clear et
      go_wp2_with fail
      go_at_call 36
      refine (sum_any wr (oa.dig) ((ds.keep hb).mono hb.size) (Nat.le_refl _) (by omega) (by omega)).mono ?_
      rintro e v4 ⟨A4, c4, n4, rfl, o4, h0⟩
      replace hb := hb.trans (h0.mono hb.size)
      clear h0
      go_wp2_with fail
      go_at_call 40
      refine (told16_any v4 o4.dig (Nat.le_refl _)).mono ?_
      rintro e v5 ⟨A5, c5, rfl, o5, h0⟩
      replace o5 := o5.mono (Nat.le_trans hc.size hb.size)
      replace hb := hb.trans (h0.mono hb.size)
      replace hc := hc.trans (hb.mono hc.size)
      go_wp2_with fail
      go_returns
      exact ⟨_, _, rfl, o5, hc⟩
end
end Go.Proofs.YtmhfkabpfkoocaaDoor
