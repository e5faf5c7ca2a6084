/-
  The document's Clamp and bit (layer 5), over letters. By an AI agent. (and more)
-/
import Derived.Test.YtkbkalhcdbklkaaGreatDoorMS
import Derived.Test.YtkbkalhcdbklkaaGreatDoorJ03
import Derived.Test.YtkbkalhcdbklkaaGreatDoorJ12
import Derived.Test.YtkbkalhcdbklkaaGreatDoorJ07
import Derived.Test.YtkbkalhcdbklkaaGreatDoorJ12
import Derived.Test.YtkbkalhcdbklkaaGreatDoorJ08
import Derived.Test.YtkbkalhcdbklkaaGreatDoorJ18
import Derived.Test.YtkbkalhcdbklkaaGreatDoorS3
import Derived.Test.YtkbkalhcdbklkaaGreatDoorJ10
import Derived.Test.YtkbkalhcdbklkaaGreatDoorMG
import Derived.Test.YtkbkalhcdbklkaaGreatDoorJ16
import Derived.Test.YtkbkalhcdbklkaaGreatDoorJ16
import Derived.Test.YtkbkalhcdbklkaaGreatDoorJ22
namespace Go.Proofs.YtkbkalhcdbklkaaGreatDoor
section
open Go Go.RowKit
def clam (x : Nat) : Nat := 8 * (x / 8 % 2 ^ 251) + 2 ^ 254
theorem clam_zero (x : Nat) : by8 (clam x) 0 = by8 x 0 - by8 x 0 % 8 := by
 unfold clam by8 dgt
 simp only [Nat.reducePow, Nat.pow_zero, Nat.div_one]
 omega
theorem clam_top (x : Nat) : by8 (clam x) 31 = by8 x 31 % 64 + 64 := by
 unfold clam by8 dgt
 simp only [Nat.reducePow]
 omega
theorem clam_mid (x : Nat) {k : Nat} (h1 : 1 ≤ k) (h2 : k < 31) : by8 (clam x) k = by8 x k := by
 unfold clam by8 dgt
 have : k = 1 ∨ k = 2 ∨ k = 3 ∨ k = 4 ∨ k = 5 ∨ k = 6 ∨ k = 7 ∨ k = 8 ∨ k = 9 ∨ k = 10 ∨ k = 11 ∨ k = 12 ∨ k = 13 ∨ k = 14 ∨ k = 15 ∨ k = 16 ∨ k = 17 ∨ k = 18 ∨ k = 19 ∨ k = 20 ∨ k = 21 ∨ k = 22 ∨ k = 23 ∨ k = 24 ∨ k = 25 ∨ k = 26 ∨ k = 27 ∨ k = 28 ∨ k = 29 ∨ k = 30 := by omega
 rcases this with rfl | rfl | rfl | rfl | rfl | rfl | rfl | rfl | rfl | rfl | rfl | rfl | rfl | rfl | rfl | rfl | rfl | rfl | rfl | rfl | rfl | rfl | rfl | rfl | rfl | rfl | rfl | rfl | rfl | rfl <;>
  (simp only [Nat.reducePow]; omega)
theorem clam_lt (x : Nat) : clam x < 2 ^ 255 := by
 unfold clam
 have := Nat.mod_lt (x / 8) (show 0 < 2 ^ 251 by decide)
 omega
theorem clam_W4 (x : Nat) : clam x < W4 := Nat.lt_trans (clam_lt x) (by decide +kernel)
theorem clam_set {bs : List UInt8} (hl : bs.length = 32) {b0 b1 : UInt8} (h0 : b0.toNat = nth bs 0 - nth bs 0 % 8) (h1 : b1.toNat = nth bs 31 % 64 + 64) :
  (bs.set 0 b0).set 31 b1 = gen (bf (clam (vb bs))) 32 := by
 have hv : ∀ i, i < 32 → by8 (vb bs) i = nth bs i := fun i hi => by unfold vb; rw [hl]; exact vk_dig bs i 32 hi
 refine nth_ext (by simp [gen_length, hl]) fun k hk => ?_
 have hk' : k < 32 := by simpa [hl] using hk
 rw [nth_gen hk', bf_nat, nth_set _ _ _ _ (by simp [hl]), nth_set _ _ _ _ (by omega)]
 by_cases e31 : 31 = k
 ·subst e31; rw [if_pos rfl, h1, clam_top, hv 31 (by decide)]
 ·rw [if_neg e31]
  by_cases e0 : 0 = k
  ·subst e0; rw [if_pos rfl, h0, clam_zero, hv 0 (by decide)]
  ·rw [if_neg e0, clam_mid _ (by omega) (by omega), hv k hk']
set_option maxRecDepth 20000
def sbit (x i : Nat) : Nat := x / 2 ^ i % 2
end
section
def hsh (bs : List UInt8) : List UInt8 := sumN greatS bs
theorem hsh_len (bs : List UInt8) : (hsh bs).length = 64 := gen_length _ _
def secN (seed : List UInt8) : Nat := clam (vb ((hsh seed).take 32))
def preB (seed : List UInt8) : List UInt8 := (hsh seed).drop 32
def lefN (bs : List UInt8) : Nat := vb (hsh bs) % LB
def encP (p : Pt E25) : List UInt8 := encN p.x.val p.y.val
theorem encP_len (p : Pt E25) : (encP p).length = 32 := encN_len _ _
theorem preB_len (seed : List UInt8) : (preB seed).length = 32 := by unfold preB; rw [List.length_drop, hsh_len]
theorem lefN_lt (bs : List UInt8) : lefN bs < LB := Nat.mod_lt _ LB_pos
def pubB (seed : List UInt8) : List UInt8 := encP (B25.mul (secN seed))
def rN9 (seed b : List UInt8) : Nat := lefN (preB seed ++ b)
def rB9 (seed b : List UInt8) : List UInt8 := encP (B25.mul (rN9 seed b))
def kN9 (seed b : List UInt8) : Nat := lefN (rB9 seed b ++ pubB seed ++ b)
def sN9 (seed b : List UInt8) : Nat := (rN9 seed b + kN9 seed b * (secN seed % LB) % LB) % LB
def sigB (seed b : List UInt8) : List UInt8 := rB9 seed b ++ gen (bf (sN9 seed b)) 32
theorem pubB_len (seed : List UInt8) : (pubB seed).length = 32 := encP_len _
def ptD (n : Nat) : Pt E25 := if h : onN (decX n) (decY n) = true then ptN (decX n) (decY n) h else Pt.nought E25
def ptE (p q : Pt E25) : Bool := decide (p.x.val = q.x.val) && decide (p.y.val = q.y.val)
theorem ptE_iff {p q : Pt E25} : ptE p q = true ↔ p = q := by
 unfold ptE
 rw [Bool.and_eq_true, decide_eq_true_iff, decide_eq_true_iff]
 exact ⟨fun ⟨a, b⟩ => Pt.ext' (Fin.ext a) (Fin.ext b), fun h => by rw [h]; exact ⟨rfl, rfl⟩⟩
def smlP (p : Pt E25) : Bool := decide ((p.mul 8).x.val = 0) && decide ((p.mul 8).y.val = 1)
def endN (key b sig : List UInt8) : Nat := if ptE (B25.mul (vb (sig.drop 32))) ((ptD (vb (sig.take 32))).add ((ptD (vb key)).mul (lefN (sig.take 32 ++ key ++ b)))) = true then 0 else 10
def verN (key b sig : List UInt8) : Nat :=
 if key.length = 32 ∧ sig.length = 64 then
  if vb (sig.drop 32) < LB then
   if decE (vb key) = 0 then
    if smlP (ptD (vb key)) = true then 7
    else if decE (vb (sig.take 32)) = 0 then endN key b sig else decE (vb (sig.take 32))
   else decE (vb key)
  else 6
 else 1
theorem dec_pt {n : Nat} (h : decE n = 0) (h2 : n / 2 ^ 255 < 2) : decX n = (ptD n).x.val ∧ decY n = (ptD n).y.val ∧ decT n = ⟨(ptD n).x.val, (ptD n).y.val, 1⟩ := by
 obtain ⟨t, a, b, o, _⟩ := dec_good h h2
 have e : ptD n = ptN (decX n) (decY n) o := by unfold ptD; rw [dif_pos o]
 have hv := pt_val a b o
 rw [e, hv.1, hv.2]
 exact ⟨rfl, rfl, t⟩
theorem LB_W4' : LB < W4 := by decide +kernel
theorem ver_short (key b sig : List UInt8) (h : ¬ (key.length = 32 ∧ sig.length = 64)) : verN key b sig = 1 := by unfold verN; rw [if_neg h]
end
section
open Go Go.RowKit
theorem andNot7 : ∀ x : Fin 256, bits .andNot .u8 (x.val : Int) 7 = ((x.val - x.val % 8 : Nat) : Int) := by decide +kernel
theorem and63 : ∀ x : Fin 256, bits .and .u8 (x.val : Int) 63 = ((x.val % 64 : Nat) : Int) := by decide +kernel
theorem or64 : ∀ x : Fin 64, bits .or .u8 (x.val : Int) 64 = ((x.val + 64 : Nat) : Int) := by decide +kernel
set_option maxRecDepth 20000
theorem clone_any {A : Option Addr} {B c : Nat} {bs : List UInt8} (h0 : 0 < bs.length) (hl : bs.length ≤ 140737488355328) (w : World) (hr : Rd w B A c bs) (hB : B ≤ w.heap.size) :
  Calls Tryz.prog 87 #[.slice A bs.length c] w fun e w' => ∃ A' c', e = .returned (.slice A' bs.length c') ∧ Own w' w.heap.size 5 A' c' bs ∧ Below w.heap.size w w' := by
 obtain ⟨i0, hi, hz0, hz1, hz2⟩ := info_parts infoByte
 obtain ⟨b0, o0, rfl, _, _⟩ := hr.at_ h0
 have h2 : Rd (w.alloc (.cells #[] 5)) B (some ⟨b0, o0, none⟩) c bs := hr.keep ((Below.refl B w).alloc hB _)
 have h3 : Own (w.alloc (.cells #[] 5)) w.heap.size 5 (some ⟨w.heap.size, 0, none⟩) 0 [] := World.ownsRow_made w #[] 0 (Nat.le_refl _) (by decide) (by decide)
 have h4 : Below w.heap.size w (w.alloc (.cells #[] 5)) := (Below.refl _ w).alloc (Nat.le_refl _) _
 have he : ∀ w : World, (binOp .eql 22 (.slice (some ⟨b0, o0, none⟩) bs.length c) (.slice none 0 0)).run Tryz.prog w = .ok (.bool false) w := fun _ => rfl
 go_enter Tryz.func87, Tryz.ntmps87
 go_wp2_with (at_builtin; refine wpList_app _ rfl (.tmp 5) (.tmp 6) _ rfl w.heap.size 5 i0 _ Tryz.underlying22 hi hz0 hz1 hz2 rfl (xs := []) rfl h3 rfl h2 (by simpa using hl) (by simp) ?_; intro A1 c1 v1 ho hb)
 replace ho : Own v1 w.heap.size 5 A1 c1 bs := ho
 go_ret
 exact ⟨A1, c1, rfl, ho, h4.trans hb⟩
set_option maxHeartbeats 800000 in
theorem gclamp_gen {A : Option Addr} {B c : Nat} {bs : List UInt8} (h32 : bs.length = 32) (w : World) (hr : Rd w B A c bs) (hB : B ≤ w.heap.size) :
  Calls Tryz.prog 44 #[.slice A bs.length c] w fun e w' => ∃ A' c', e = .returned (.tuple #[.slice A' bs.length c', .int .i64 0]) ∧ Own w' w.heap.size 5 A' c' (gen (bf (clam (vb bs))) 32) ∧ Below w.heap.size w w' := by
 have KL := Lib.hid (clone_any (by omega) (by omega) w hr hB)
 obtain ⟨z, hz⟩ : ∃ z, z = clam (vb bs) := ⟨_, rfl⟩
 have l0 := nth_lt bs 0
 have l31 := nth_lt bs 31
 have hset := @clam_set bs h32 (UInt8.ofNat (nth bs 0 - nth bs 0 % 8)) (UInt8.ofNat (nth bs 31 % 64 + 64)) (by simp; omega) (by simp; omega)
 have hs1 : nth (bs.set 0 (UInt8.ofNat (nth bs 0 - nth bs 0 % 8))) 31 = nth bs 31 := by rw [nth_set _ _ _ _ (by omega), if_neg (by decide)]
 have hb0 : (UInt8.ofNat (nth bs 0 - nth bs 0 % 8)).toNat = nth bs 0 - nth bs 0 % 8 := by simp; omega
 have hb1 : (UInt8.ofNat (nth bs 31 % 64 + 64)).toNat = nth bs 31 % 64 + 64 := by simp; omega
 generalize UInt8.ofNat (nth bs 0 - nth bs 0 % 8) = b0 at hset hs1 hb0
 generalize UInt8.ofNat (nth bs 31 % 64 + 64) = b1 at hset hb1
 rw [← hz] at hset ⊢
 clear hz
 have u1 : bits .andNot .u8 (nth bs 0 : Int) 7 = (b0.toNat : Int) := by rw [hb0]; exact andNot7 ⟨nth bs 0, l0⟩
 have u2 : bits .and .u8 (nth bs 31 : Int) 63 = ((nth bs 31 % 64 : Nat) : Int) := and63 ⟨nth bs 31, l31⟩
 have u3 : bits .or .u8 ((nth bs 31 % 64 : Nat) : Int) 64 = (b1.toNat : Int) := by rw [hb1]; exact or64 ⟨nth bs 31 % 64, Nat.mod_lt _ (by decide)⟩
 generalize hy1 : nth bs 31 % 64 = m1 at *
 have g1 : ((bs.length : Int) == 32) = true := by simp; omega
 have g2 : ((bs.length : Int) != 32) = false := by simp; omega
 have hp : 0 < bs.length := by omega
 have gl0 : (0 : Int) < (bs.length : Int) := by omega
 have gl31 : (31 : Int) < (bs.length : Int) := by omega
 have H32 := Lib.hid h32
 clear hb0 hb1 hy1 h32
 go_enter Tryz.func44, Tryz.ntmps44
 go_wp2_with fail
 go_at_call 87
 refine KL.out.mono ?_
 rintro e v1 ⟨A1, c1, rfl, ho, hc⟩
 clear KL
 obtain ⟨g, rfl⟩ := ho.at0 hp
 have o3 := ho.set_ 0 b0
 have cl := ho.cell (k := 0) hp
 have fr := ho.free 0
 have cl3 := o3.cell (k := 31) (by rw [List.length_set, H32.out]; decide)
 have fr3 := o3.free 31
 have o4 := o3.set_ 31 b1
 rw [hs1] at cl3
 rw [hset] at o4
 have b3 : Below w.heap.size w _ := hc.setCell (p := ⟨g, 0, none⟩) ho.ge (.int .u8 (b0.toNat : Int))
 have b4 : Below w.heap.size w _ := b3.setCell (p := ⟨g, 31, none⟩) ho.ge (.int .u8 (b1.toNat : Int))
 go_wp2_with fail
 refine bodyPost_ret (v := .tuple #[.slice (some ⟨g, 0, none⟩) bs.length c1, .int .i64 0]) (by simp [results, Tryz.results44, go_sem, H32.out]) rfl ⟨_, _, rfl, o4, b4⟩
theorem gclamp_any {A : Option Addr} {B c : Nat} {bs : List UInt8} (h32 : bs.length = 32) (w : World) (hr : Rd w B A c bs) (hB : B ≤ w.heap.size) :
  Calls Tryz.prog 44 #[.slice A 32 c] w fun e w' => ∃ A' c', e = .returned (.tuple #[.slice A' 32 c', .int .i64 0]) ∧ Own w' w.heap.size 5 A' c' (gen (bf (clam (vb bs))) 32) ∧ Below w.heap.size w w' := by
 have h := gclamp_gen h32 w hr hB
 rwa [h32] at h
end
section
open Go Go.RowKit
set_option maxRecDepth 20000
theorem join9_any {A A' A3 : Option Addr} {B c c' c3 : Nat} {xs ys zs : List UInt8} (hl : xs.length + ys.length + zs.length ≤ 140737488355328) (w : World) (hr : Rd w B A c xs) (hs : Rd w B A' c' ys) (ht : Rd w B A3 c3 zs) (hB : B ≤ w.heap.size) :
  Calls Tryz.prog 26 #[.slice A xs.length c, .slice A' ys.length c', .slice A3 zs.length c3] w fun e w' => ∃ A2 c2, e = .returned (.slice A2 (xs ++ ys ++ zs).length c2) ∧ Own w' w.heap.size 5 A2 c2 (xs ++ ys ++ zs) ∧ Below w.heap.size w w' := by
 obtain ⟨i0, hi, hz0, hz1, hz2⟩ := info_parts infoByte
 have h2 : Rd (w.alloc (.cells #[] 5)) B A c xs := hr.keep ((Below.refl B w).alloc hB _)
 have h3 : Own (w.alloc (.cells #[] 5)) w.heap.size 5 (some ⟨w.heap.size, 0, none⟩) 0 [] := World.ownsRow_made w #[] 0 (Nat.le_refl _) (by decide) (by decide)
 have h4 : Below w.heap.size w (w.alloc (.cells #[] 5)) := (Below.refl _ w).alloc (Nat.le_refl _) _
 obtain ⟨L2, hL⟩ : ∃ L, L = xs ++ ys := ⟨_, rfl⟩
 have HL := Lib.hid hL
 clear hL
 go_enter Tryz.func26, Tryz.ntmps26
 go_wp2_with (first | (at_builtin; refine wpList_app _ rfl (.tmp 7) (.tmp 8) _ rfl w.heap.size 5 i0 _ Tryz.underlying22 hi hz0 hz1 hz2 rfl (xs := []) rfl h3 rfl h2 (by simp; omega) (by simp) ?_; intro A1 c1 v1 ho1 hb1; have hs1 := hs.keep ((h4.trans hb1).mono hB); have ht1 := ht.keep ((h4.trans hb1).mono hB); have hb2 := h4.trans hb1) | (at_builtin; refine wpList_app _ rfl (.tmp 9) (.tmp 10) _ rfl w.heap.size 5 i0 _ Tryz.underlying22 hi hz0 hz1 hz2 rfl (xs := xs) rfl ho1 rfl hs1 (by omega) hb2.size ?_; intro A4 c4 v3 ho3 hb3; rw [← HL.out] at ho3 ⊢; have ht2 := ht.keep ((hb2.trans hb3).mono hB); have hb4 := hb2.trans hb3) | (at_builtin; refine wpList_app _ rfl (.tmp 11) (.tmp 12) _ rfl w.heap.size 5 i0 _ Tryz.underlying22 hi hz0 hz1 hz2 rfl (xs := L2) rfl ho3 rfl ht2 (by rw [HL.out, List.length_append]; omega) hb4.size ?_; intro A5 c5 v5 ho5 hb5))
 go_ret
 rw [← HL.out]
 exact ⟨A5, c5, by rw [List.length_append]; rfl, ho5, hb4.trans hb5⟩
theorem vb_256 {bs : List UInt8} {n : Nat} (h : bs.length ≤ n) : vb bs < 256 ^ n := Nat.lt_of_lt_of_le (vk_lt bs _) (Nat.pow_le_pow_right (by decide) h)
theorem left9_any {A : Option Addr} {B c : Nat} {bs : List UInt8} (hl : bs.length ≤ 1000000) (w : World) (hr : Rd w B A c bs) (hB : B ≤ w.heap.size) :
  Calls Tryz.prog 25 #[.slice A bs.length c] w fun e w' => ∃ A c n, e = .returned (.slice A n c) ∧ DOwn w' w.heap.size A c n (lefN bs) ∧ Below w.heap.size w w' := by
 have KS := Lib.hid (sum512_any (A0 := A) (c0 := c) hl w hr hB)
 go_enter Tryz.func25, Tryz.ntmps25
 go_wp2_with fail
 go_at_call 46
 refine KS.out.mono ?_
 rintro e v1 ⟨A1, c1, rfl, ho, h0⟩
 have kr := read_any v1 ho.rd (Nat.le_refl _) (by rw [show (sumN greatS bs).length = 64 from hsh_len bs]; decide)
 rw [show (sumN greatS bs).length = 64 from hsh_len bs] at kr
 have KR := Lib.hid kr
 clear kr ho KS
 go_wp2_with fail
 go_at_call 48
 refine KR.out.mono ?_
 rintro e v2 ⟨A2, c2, n2, rfl, d, h1⟩
 have hn2 : n2 ≤ 64 := d.few (vb_256 (Nat.le_of_eq (hsh_len bs)))
 have KL := Lib.hid (rleft_any v2 d.dig (Nat.le_refl _) (Nat.le_trans hn2 (by decide)))
 replace h0 := bnx h0 h1
 clear d h1 KR hn2
 go_wp2_with fail
 go_at_call 29
 refine KL.out.mono ?_
 rintro e v3 ⟨A3, c3, n3, rfl, d, h1⟩
 replace d := d.mono h0.size
 replace h0 := bnx h0 h1
 clear h1 KL
 go_wp2_with fail
 go_ret
 exact ⟨A3, c3, n3, rfl, d, h0⟩
theorem base_tr : (⟨bx, by_, 1⟩ : Tr).of B25 := by
 refine ⟨?_, ?_, ?_⟩
 ·show toF 1 ≠ 0
  decide +kernel
 ·show toF bx = toF bx * 1
  grind
 ·show toF by_ = toF by_ * 1
  grind
section
attribute [local irreducible] wd by8 d16 set16w fl rl setA t3f ivN mlN adN sbN
end
end
section
open Go Go.RowKit
set_option maxRecDepth 20000
section
attribute [local irreducible] wd by8 d16 set16w fl rl setA t3f ivN mlN adN sbN hsh clam
end
end
section
open Go Go.RowKit
set_option maxRecDepth 20000
theorem join9_n {A A' A3 : Option Addr} {B c c' c3 n m k l : Nat} {xs ys zs L : List UInt8} (hx : xs.length = n) (hy : ys.length = m) (hz : zs.length = k) (hL : L = xs ++ ys ++ zs) (hl : L.length = l) (hm : l ≤ 140737488355328) (w : World) (hr : Rd w B A c xs) (hs : Rd w B A' c' ys) (ht : Rd w B A3 c3 zs) (hB : B ≤ w.heap.size) :
  Calls Tryz.prog 26 #[.slice A n c, .slice A' m c', .slice A3 k c3] w fun e w' => ∃ A2 c2, e = .returned (.slice A2 l c2) ∧ Own w' w.heap.size 5 A2 c2 L ∧ Below w.heap.size w w' := by
 subst hx hy hz hL hl
 exact join9_any (by rwa [List.length_append, List.length_append] at hm) w hr hs ht hB
theorem left9_n {A : Option Addr} {B c n : Nat} {bs : List UInt8} (hn : bs.length = n) (hl : n ≤ 1000000) (w : World) (hr : Rd w B A c bs) (hB : B ≤ w.heap.size) :
  Calls Tryz.prog 25 #[.slice A n c] w fun e w' => ∃ A c n, e = .returned (.slice A n c) ∧ DOwn w' w.heap.size A c n (lefN bs) ∧ Below w.heap.size w w' := by
 subst hn
 exact left9_any hl w hr hB
theorem few_l {n x : Nat} (h : Can n x) (hx : x < LB) : n ≤ 1000 := Nat.le_trans (h 32 (by rw [← W4_256]; exact Nat.lt_trans hx LB_W4')) (by decide)
section
attribute [local irreducible] wd by8 d16 set16w fl rl setA t3f ivN mlN adN sbN hsh clam
end
end
end Go.Proofs.YtkbkalhcdbklkaaGreatDoor
