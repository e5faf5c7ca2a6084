/-
  Layer 10's laws: blocks of parts, and the five laws over the code and the document. By an AI agent.
-/
import Derived.Test.YthbogplajbldaaaY14
import Derived.Test.YthbogplajbldaaaY16
import Derived.Test.YthbogplajbldaaaY20
namespace Go.Proofs.Ythbogplajbldaaa
open Go Go.RowKit
set_option maxRecDepth 20000
/-! Blocks of parts. -/
theorem u8_xx (a : UInt8) (k : Nat) (hk : k < 256) : UInt8.ofNat ((UInt8.ofNat (a.toNat ^^^ k)).toNat ^^^ k) = a := by
  have h : a.toNat ^^^ k < 256 := Nat.xor_lt_two_pow (n := 8) (UInt8.toNat_lt a) hk
  rw [UInt8.toNat_ofNat_of_lt' (by simpa using h), Nat.xor_assoc, Nat.xor_self, Nat.xor_zero]
  exact UInt8.ofNat_toNat
theorem xrN_get {key nonce bs : List UInt8} {ctr i : Nat} (h : i < bs.length) : (xrN key nonce ctr bs)[i]? = some (xrb key nonce ctr bs i) := by
  unfold xrN gen
  simp [h]
theorem xrN_nth {key nonce bs : List UInt8} {ctr i : Nat} (h : i < bs.length) : nth (xrN key nonce ctr bs) i = (xrb key nonce ctr bs i).toNat := by
  unfold nth; rw [xrN_get h]; rfl
theorem xr_twice (key nonce bs : List UInt8) (ctr : Nat) : xrN key nonce ctr (xrN key nonce ctr bs) = bs := by
  refine List.ext_getElem? fun i => ?_
  by_cases h : i < bs.length
  · rw [xrN_get (by rw [xrN_len]; exact h), List.getElem?_eq_getElem h]
    congr 1
    unfold xrb
    rw [xrN_nth h]
    unfold xrb
    rw [nth_get h]
    exact u8_xx _ _ (ksN_lt _ _ _ _)
  · rw [List.getElem?_eq_none (by rw [xrN_len, xrN_len]; omega), List.getElem?_eq_none (by omega)]
theorem xr_take (key nonce bs : List UInt8) (ctr : Nat) {k : Nat} (hk : k ≤ bs.length) : xrN key nonce ctr (bs.take k) = (xrN key nonce ctr bs).take k := by
  have hl : (bs.take k).length = k := by rw [List.length_take]; omega
  refine List.ext_getElem? fun i => ?_
  by_cases h : i < k
  · rw [xrN_get (by rw [hl]; exact h), List.getElem?_take, if_pos h, xrN_get (by omega)]
    unfold xrb nth
    rw [List.getElem?_take, if_pos h]
  · rw [List.getElem?_eq_none (by rw [xrN_len, hl]; omega), List.getElem?_eq_none (by rw [List.length_take, xrN_len]; omega)]
theorem xr_drop (key nonce bs : List UInt8) (ctr : Nat) {k : Nat} (hk : k ≤ bs.length) (h64 : k % 64 = 0) : xrN key nonce (ctr + k / 64) (bs.drop k) = (xrN key nonce ctr bs).drop k := by
  refine List.ext_getElem? fun i => ?_
  by_cases h : k + i < bs.length
  · rw [xrN_get (by rw [List.length_drop]; omega), List.getElem?_drop, xrN_get h]
    unfold xrb nth ksN
    rw [List.getElem?_drop, show ctr + k / 64 + i / 64 = ctr + (k + i) / 64 by omega, show i % 64 = (k + i) % 64 by omega]
  · rw [List.getElem?_eq_none (by rw [xrN_len, List.length_drop]; omega), List.getElem?_eq_none (by rw [List.length_drop, xrN_len]; omega)]
theorem nblk_mono {n m : Nat} (h : n ≤ m) : nblk n ≤ nblk m := by rw [← nblk_63, ← nblk_63]; omega
theorem nblk_drop {n k : Nat} (hk : k ≤ n) (h64 : k % 64 = 0) : nblk (n - k) = nblk n - k / 64 := by rw [← nblk_63, ← nblk_63]; omega
theorem nblk_pos {n : Nat} (h : 0 < n) : 0 < nblk n := by rw [← nblk_63]; omega
/-! What Xor answers. -/
def xorL (key nonce : List UInt8) (ctr : Nat) (b : List UInt8) : List UInt8 := if key.length = 32 ∧ nonce.length = 12 ∧ nblk b.length ≤ 4294967296 - ctr then xrN key nonce ctr b else []
def xorE (key nonce : List UInt8) (ctr : Nat) (b : List UInt8) : Nat := if key.length = 32 ∧ nonce.length = 12 then (if nblk b.length ≤ 4294967296 - ctr then 0 else 2) else 1
theorem Rd.nowt (w : World) (B : Nat) : Rd w B none 0 [] := ⟨by simp, fun _ => ⟨rfl, rfl⟩, fun h => absurd rfl h⟩
section
attribute [local irreducible] xrN nblk
theorem cxor {key nonce b : List UInt8} {ctr : Nat} (hctr : ctr < 4294967296) (hb : b.length ≤ 4000) (A B C : Option Addr) (c d e0 : Nat) (w : World) (r0 : Rd w w.heap.size A c key) (r1 : Rd w w.heap.size B d nonce) (r2 : Rd w w.heap.size C e0 b) :
    Calls Try.prog 14 #[.slice A key.length c, .slice B nonce.length d, .int .u32 (ctr : Int), .slice C b.length e0] w fun e w' => ∃ A2 c2, e = .returned (.tuple #[.slice A2 (xorL key nonce ctr b).length c2, .int .i64 (xorE key nonce ctr b : Int)]) ∧ Rd w' w'.heap.size A2 c2 (xorL key nonce ctr b) ∧ Below w.heap.size w w' := by
  unfold xorL xorE
  by_cases h : key.length = 32 ∧ nonce.length = 12
  · rw [if_pos h]
    obtain ⟨hk, hn⟩ := h
    by_cases h2 : nblk b.length ≤ 4294967296 - ctr
    · rw [if_pos h2, if_pos ⟨hk, hn, h2⟩, hk, hn, xrN_len]
      exact (Xor_any hk hn hctr h2 (by omega) w r0 r1 r2 (Nat.le_refl _)).mono fun e w' ⟨A2, c2, he, hr, hbl⟩ => ⟨A2, c2, he, hr, hbl⟩
    · rw [if_neg h2, if_neg (fun h3 => h2 h3.2.2), hk, hn]
      exact (Xor_long hk hn hctr (by omega) h2 w r0 r1 (Nat.le_refl _)).mono fun e w' ⟨he, hbl⟩ => ⟨none, 0, he, Rd.nowt _ _, hbl⟩
  · rw [if_neg h, if_neg (fun h3 => h ⟨h3.1, h3.2.1⟩)]
    exact (Xor_bad (by omega) w).mono fun e w' ⟨he, hbl⟩ => ⟨none, 0, he, Rd.nowt _ _, hbl⟩
theorem rxor {key nonce b : List UInt8} {ctr : Nat} (hctr : ctr < 4294967296) (hb : b.length ≤ 4000) (A B C : Option Addr) (c d e0 : Nat) (w : World) (r0 : Rd w w.heap.size A c key) (r1 : Rd w w.heap.size B d nonce) (r2 : Rd w w.heap.size C e0 b) :
    Calls Try.prog 15 #[.slice A key.length c, .slice B nonce.length d, .int .u32 (ctr : Int), .slice C b.length e0] w fun e w' => ∃ A2 c2, e = .returned (.tuple #[.slice A2 (xorL key nonce ctr b).length c2, .int .i64 (xorE key nonce ctr b : Int)]) ∧ Rd w' w'.heap.size A2 c2 (xorL key nonce ctr b) ∧ Below w.heap.size w w' := by
  unfold xorL xorE
  by_cases h : key.length = 32 ∧ nonce.length = 12
  · rw [if_pos h]
    obtain ⟨hk, hn⟩ := h
    by_cases h2 : nblk b.length ≤ 4294967296 - ctr
    · rw [if_pos h2, if_pos ⟨hk, hn, h2⟩, hk, hn, xrN_len]
      exact (rxor_any hk hn hctr h2 (by omega) w r0 r1 r2 (Nat.le_refl _)).mono fun e w' ⟨A2, c2, he, hr, hbl⟩ => ⟨A2, c2, he, hr.rd, hbl⟩
    · rw [if_neg h2, if_neg (fun h3 => h2 h3.2.2), hk, hn]
      exact (rxor_long h2 hctr (by omega) w).mono fun e w' ⟨he, hbl⟩ => ⟨none, 0, he, Rd.nowt _ _, by rw [hbl]; exact Below.refl _ _⟩
  · rw [if_neg h, if_neg (fun h3 => h ⟨h3.1, h3.2.1⟩)]
    exact (rxor_arg (by omega) w).mono fun e w' ⟨he, hbl⟩ => ⟨none, 0, he, Rd.nowt _ _, by rw [hbl]; exact Below.refl _ _⟩
end
theorem xor_ok {key nonce b : List UInt8} {ctr : Nat} (h : xorE key nonce ctr b = 0) : key.length = 32 ∧ nonce.length = 12 ∧ nblk b.length ≤ 4294967296 - ctr ∧ xorL key nonce ctr b = xrN key nonce ctr b := by
  unfold xorE at h
  split at h
  · rename_i h1
    split at h
    · rename_i h2
      refine ⟨h1.1, h1.2, h2, ?_⟩
      unfold xorL
      rw [if_pos ⟨h1.1, h1.2, h2⟩]
    · cases h
  · cases h
theorem xor_no {key nonce b : List UInt8} {ctr : Nat} (h : xorE key nonce ctr b ≠ 0) : xorL key nonce ctr b = [] := by
  unfold xorL
  by_cases h3 : key.length = 32 ∧ nonce.length = 12 ∧ nblk b.length ≤ 4294967296 - ctr
  · refine absurd ?_ h
    unfold xorE
    rw [if_pos ⟨h3.1, h3.2.1⟩, if_pos h3.2.2]
  · rw [if_neg h3]
theorem xor_zero {key nonce b : List UInt8} {ctr : Nat} (hk : key.length = 32) (hn : nonce.length = 12) (h : nblk b.length ≤ 4294967296 - ctr) : xorE key nonce ctr b = 0 ∧ xorL key nonce ctr b = xrN key nonce ctr b := by
  unfold xorE xorL
  rw [if_pos ⟨hk, hn⟩, if_pos h, if_pos ⟨hk, hn, h⟩]
  exact ⟨rfl, rfl⟩
/-! The laws. -/
theorem word_u32 {x : Int} (w : (Lit.int .u32 x).wf = true) : ∃ z : Nat, x = (z : Int) ∧ z < 4294967296 := by
  have h : 0 ≤ x ∧ x ≤ 4294967295 := by simpa [Lit.wf, IntKind.min, IntKind.max, IntKind.signed, IntKind.bits] using w
  exact ⟨x.toNat, by omega, by omega⟩
theorem quarters_walk {a b c d : Nat} (h : a < 4294967296 ∧ b < 4294967296 ∧ c < 4294967296 ∧ d < 4294967296) (w : World) : Calls Try.prog 3 #[.agg #[.int .u32 (a : Int), .int .u32 (b : Int), .int .u32 (c : Int), .int .u32 (d : Int)]] w fun e w' => e = .returned (.bool true) ∧ Below w.heap.size w w' :=
  quarters_law (q := ⟨a, b, c, d⟩) h w
theorem blocks_walk {A0 A1 : Option Addr} {c0 c1 : Nat} {x : Int} {key nonce : List UInt8} {w0 : World} (r0 : Rd w0 w0.heap.size A0 c0 key) (l0 : key.length ≤ 140737488351232) (r1 : Rd w0 w0.heap.size A1 c1 nonce) (l1 : nonce.length ≤ 140737488351232) (l2 : (Lit.int .u32 x).wf = true) (w : World) (hw : w = w0) :
    Calls Try.prog 4 #[.slice A0 key.length c0, .slice A1 nonce.length c1, .int .u32 x] w fun e w' => e = .returned (.bool true) ∧ Below w.heap.size w w' := by
  subst hw
  obtain ⟨ctr, rfl, hctr⟩ := word_u32 l2
  by_cases h : key.length = 32 ∧ nonce.length = 12
  · refine blocks_yes h.1 h.2 (blkB_len key nonce ctr) (fun A B c d w r q => ?_) (fun A B c d w r q => ?_) w r0 r1
    · rw [h.1, h.2]
      exact Block_any h.1 h.2 hctr w r q (Nat.le_refl _)
    · exact (block_any h.1 h.2 hctr w r q (Nat.le_refl _)).mono fun e w' ⟨A2, c2, he, o, hb⟩ => ⟨A2, c2, he, o.rd, hb⟩
  · exact blocks_bad (by omega) (by omega) (by omega) (fun A B c d w _ _ => Block_bad (by omega) w) w r0 r1
section
variable {A0 A1 A2 : Option Addr} {c0 c1 c2 : Nat} {x : Int} {key nonce b : List UInt8} {w0 : World}
theorem xors_walk (r0 : Rd w0 w0.heap.size A0 c0 key) (r1 : Rd w0 w0.heap.size A1 c1 nonce) (r2 : Rd w0 w0.heap.size A2 c2 b) (lx : (Lit.int .u32 x).wf = true) (l0 : key.length ≤ 140737488351232) (l1 : nonce.length ≤ 140737488351232) (w : World) (hw : w = w0) :
    Calls Try.prog 5 #[.agg #[.slice A0 key.length c0, .slice A1 nonce.length c1, .int .u32 x, .slice A2 b.length c2]] w fun e w' => e = .returned (.bool true) ∧ Below w.heap.size w w' := by
  subst hw
  obtain ⟨ctr, rfl, hctr⟩ := word_u32 lx
  by_cases hb : b.length ≤ 4000
  · exact xors_law (by omega) (by omega) hb (cxor hctr hb) (rxor hctr hb) w r0 r1 r2
  · exact xors_much (by omega) w
theorem twice_walk (r0 : Rd w0 w0.heap.size A0 c0 key) (r1 : Rd w0 w0.heap.size A1 c1 nonce) (r2 : Rd w0 w0.heap.size A2 c2 b) (lx : (Lit.int .u32 x).wf = true) (l0 : key.length ≤ 140737488351232) (l1 : nonce.length ≤ 140737488351232) (w : World) (hw : w = w0) :
    Calls Try.prog 6 #[.agg #[.slice A0 key.length c0, .slice A1 nonce.length c1, .int .u32 x, .slice A2 b.length c2]] w fun e w' => e = .returned (.bool true) ∧ Below w.heap.size w w' := by
  subst hw
  obtain ⟨ctr, rfl, hctr⟩ := word_u32 lx
  by_cases hb : b.length ≤ 4000
  · by_cases he : xorE key nonce ctr b = 0
    · obtain ⟨hk, hn, hnb, hL⟩ := xor_ok he
      have hl : (xorL key nonce ctr b).length = b.length := by rw [hL, xrN_len]
      have h2 := xor_zero (b := xorL key nonce ctr b) hk hn (by rw [hl]; exact hnb)
      have k1 := cxor (key := key) (nonce := nonce) hctr hb
      have k2 := cxor (key := key) (nonce := nonce) (b := xorL key nonce ctr b) hctr (by rw [hl]; exact hb)
      rw [he] at k1
      rw [h2.1, h2.2, hL, xr_twice] at k2
      rw [hL] at k1 hl
      exact twice_yes (by omega) (by omega) hb hl k1 k2 w r0 r1 r2
    · have k1 := cxor (key := key) (nonce := nonce) hctr hb
      exact twice_no (by omega) (by omega) hb (by rw [xor_no he]; rfl) he k1 w r0 r1 r2
  · exact twice_much (by omega) w
theorem begins_walk10 {y : Int} (r0 : Rd w0 w0.heap.size A0 c0 key) (r1 : Rd w0 w0.heap.size A1 c1 nonce) (r2 : Rd w0 w0.heap.size A2 c2 b) (lx : (Lit.int .u32 x).wf = true) (l0 : key.length ≤ 140737488351232) (l1 : nonce.length ≤ 140737488351232) (ly : (Lit.int .u16 y).wf = true) (w : World) (hw : w = w0) :
    Calls Try.prog 7 #[.agg #[.slice A0 key.length c0, .slice A1 nonce.length c1, .int .u32 x, .slice A2 b.length c2], .int .u16 y] w fun e w' => e = .returned (.bool true) ∧ Below w.heap.size w w' := by
  subst hw
  obtain ⟨ctr, rfl, hctr⟩ := word_u32 lx
  have by_ : 0 ≤ y ∧ y ≤ 65535 := by simpa [Lit.wf, IntKind.min, IntKind.max, IntKind.signed, IntKind.bits] using ly
  obtain ⟨at_, rfl⟩ : ∃ n : Nat, y = (n : Int) := ⟨y.toNat, by omega⟩
  by_cases hb : b.length ≤ 4000
  · by_cases he : xorE key nonce ctr b = 0
    · obtain ⟨hk, hn, hnb, hL⟩ := xor_ok he
      have hl : (xrN key nonce ctr b).length = b.length := xrN_len _ _ _ _
      have k1 := cxor (key := key) (nonce := nonce) hctr hb
      rw [he, hL] at k1
      have hkb : at_ % (b.length + 1) ≤ b.length := by have := Nat.mod_lt at_ (show 0 < b.length + 1 by omega); omega
      obtain ⟨k, ek⟩ : ∃ k, k = at_ % (b.length + 1) := ⟨_, rfl⟩
      rw [← ek] at hkb
      have htl : (b.take k).length = k := by rw [List.length_take]; omega
      have h2 := xor_zero (b := b.take k) hk hn (by rw [htl]; exact Nat.le_trans (nblk_mono hkb) hnb)
      have kf := cxor (key := key) (nonce := nonce) (b := b.take k) hctr (by rw [htl]; omega)
      rw [h2.1, h2.2, xr_take key nonce b ctr hkb] at kf
      have hfl : ((xrN key nonce ctr b).take k).length = k := by rw [List.length_take, hl]; omega
      rw [htl, hfl] at kf
      by_cases hend : k - k % 64 = b.length
      · exact begins_end (by omega) (by omega) hb hl (by omega) ek rfl rfl rfl hend k1 kf w r0 r1 r2
      · obtain ⟨k1', ek1⟩ : ∃ k', k' = k - k % 64 := ⟨_, rfl⟩
        have h64 : k1' % 64 = 0 := by omega
        have hk1 : k1' < b.length := by omega
        have hdl : (b.drop k1').length = b.length - k1' := List.length_drop
        have hnd : nblk (b.drop k1').length = nblk b.length - k1' / 64 := by rw [hdl]; exact nblk_drop (by omega) h64
        have hcq := nblk_le hnb hk1
        have h3 := xor_zero (b := b.drop k1') (ctr := ctr + k1' / 64) hk hn (by rw [hnd]; omega)
        have kb := cxor (key := key) (nonce := nonce) (b := b.drop k1') hcq (by rw [hdl]; omega)
        rw [h3.1, h3.2, xr_drop key nonce b ctr (by omega) h64] at kb
        have hgl : ((xrN key nonce ctr b).drop k1').length = b.length - k1' := by rw [List.length_drop, hl]
        rw [hdl, hgl] at kb
        have hend2 : k1' ≠ b.length := by omega
        have hmod : ctr + k1' / 64 = (ctr + k1' / 64) % 4294967296 := (Nat.mod_eq_of_lt hcq).symm
        exact begins_yes (by omega) (by omega) hb hl (by omega) ek ek1 rfl rfl hend2 rfl hmod rfl rfl rfl k1 kf kb w r0 r1 r2
    · have k1 := cxor (key := key) (nonce := nonce) hctr hb
      exact begins_no (by omega) (by omega) hb (by rw [xor_no he]; rfl) he k1 w r0 r1 r2
  · exact begins_much (by omega) w
end
end Go.Proofs.Ythbogplajbldaaa
