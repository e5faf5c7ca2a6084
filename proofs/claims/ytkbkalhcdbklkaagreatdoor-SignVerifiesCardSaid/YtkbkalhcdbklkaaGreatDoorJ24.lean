/-
  The code's functions of layer 8 in numbers and points. By an AI agent. (and more)
-/
import Derived.Test.YtkbkalhcdbklkaaGreatDoorU9
import Derived.Test.YtkbkalhcdbklkaaGreatDoorJ16
import Derived.Test.YtkbkalhcdbklkaaGreatDoorJ18
import Derived.Test.YtkbkalhcdbklkaaGreatDoorJ10
import Derived.Test.YtkbkalhcdbklkaaGreatDoorJ21
import Derived.Test.YtkbkalhcdbklkaaGreatDoorJ19
import Derived.Test.YtkbkalhcdbklkaaGreatDoorJ19
import Derived.Test.YtkbkalhcdbklkaaGreatDoorJ20
import Derived.Test.YtkbkalhcdbklkaaGreatDoorJ03
import Derived.Test.YtkbkalhcdbklkaaGreatDoorJ16
namespace Go.Proofs.YtkbkalhcdbklkaaGreatDoor
section
open Go Go.RowKit
section
attribute [local irreducible] wd by8 d16 set16w fl rl setA sf taf set8p set4w t3f ivN mlN adN sbN
theorem cOn_any {x y : Nat} (hx : x < W4) (hy : y < W4) (w : World) : Calls Tryz.prog 70 #[prv x y] w fun e w' => e = .returned (.bool (okN x y)) ∧ Below w.heap.size w w' := by
 have rx := fun w => right_any hx w
 have ry := fun w => right_any hy w
 unfold okN
 by_cases h1 : x < P25
 ·rw [decide_eq_true h1] at rx ⊢
  by_cases h2 : y < P25
  ·rw [decide_eq_true h2] at ry ⊢
   exact cOn_c (b := onN x y) (ltW (sbN_lt _ _)) (ltW (adN_lt _ _)) rfl rx ry (fun w => cMul h1 h1 w) (fun w => cMul h2 h2 w) (fun w => cSub (mlN_lt _ _) (mlN_lt _ _) w) cD_any (fun w => cMul (mlN_lt _ _) (mlN_lt _ _) w) (fun w => cMul ed_lt (mlN_lt _ _) w) (fun w => cAdd P25_one (mlN_lt _ _) w) w
  ·rw [decide_eq_false h2] at ry ⊢
   exact cOn_b rx ry w
 ·rw [decide_eq_false h1] at rx ⊢
  exact cOn_a rx w
theorem pt_ok (p : Pt E25) : okN p.x.val p.y.val = true := by
 unfold okN
 rw [pt_on p, decide_eq_true p.x.isLt, decide_eq_true p.y.isLt]
 rfl
theorem xW (p : Pt E25) : p.x.val < W4 := ltW p.x.isLt
theorem yW (p : Pt E25) : p.y.val < W4 := ltW p.y.isLt
theorem cOn_pt (p : Pt E25) (w : World) : Calls Tryz.prog 70 #[prv p.x.val p.y.val] w fun e w' => e = .returned (.bool true) ∧ Below w.heap.size w w' := by
 have h := cOn_any (xW p) (yW p) w
 rwa [pt_ok] at h
def Sp.lift (p : Pt E25) : Sp := Sp.up p.x.val p.y.val
theorem Sp.lift_ok (p : Pt E25) : (Sp.lift p).ok := Sp.up_ok p.x.isLt p.y.isLt
theorem Sp.lift_of (p : Pt E25) : (Sp.lift p).of p := by
 have h := Sp.up_of (pt_on p)
 rwa [pt_self] at h
theorem nought_xy : (Pt.nought E25).x.val = 0 ∧ (Pt.nought E25).y.val = 1 := ⟨rfl, Nat.mod_eq_of_lt P25_one⟩
theorem cLift (p : Pt E25) (w : World) : Calls Tryz.prog 71 #[prv p.x.val p.y.val] w fun e w' => e = .returned (sv (Sp.lift p)) ∧ Below w.heap.size w w' :=
 lift_gen (fun w => cMul p.x.isLt p.y.isLt w) w
theorem cSum {s t : Sp} (hs : s.ok) (ht : t.ok) (w : World) (hG : G8 w) : Calls Tryz.prog 72 #[sv s, sv t] w fun e w' => e = .returned (sv (Sp.plus s t)) ∧ Below w.heap.size w w' := by
 obtain ⟨s1, s2, s3, s4⟩ := hs
 obtain ⟨t1, t2, t3, t4⟩ := ht
 exact add_gen (fun w => cSub s2 s1 w) (fun w => cSub t2 t1 w) (fun w => cMul (sbN_lt _ _) (sbN_lt _ _) w) (fun w => cAdd s2 s1 w) (fun w => cAdd t2 t1 w) (fun w => cMul (adN_lt _ _) (adN_lt _ _) w)
  (fun w => cAdd s3 s3 w) (fun w => cMul (adN_lt _ _) t3 w) (fun w => cMul s4 t4 w) (fun w => cMul (mlN_lt _ _) ed2_lt w) (fun w => cSub (mlN_lt _ _) (mlN_lt _ _) w) (fun w => cAdd (mlN_lt _ _) (mlN_lt _ _) w) (fun w => cAdd (mlN_lt _ _) (mlN_lt _ _) w) (fun w => cSub (mlN_lt _ _) (mlN_lt _ _) w)
  (fun w => cMul (sbN_lt _ _) (sbN_lt _ _) w) (fun w => cMul (adN_lt _ _) (adN_lt _ _) w) (fun w => cMul (adN_lt _ _) (sbN_lt _ _) w) (fun w => cMul (sbN_lt _ _) (adN_lt _ _) w) w hG
theorem cFlat {s : Sp} {p : Pt E25} (hs : s.ok) (h : s.of p) (w : World) : Calls Tryz.prog 75 #[sv s] w fun e w' => e = .returned (prv p.x.val p.y.val) ∧ Below w.heap.size w w' := by
 have h2 := Sp.down hs h
 have h1 := flat_gen (s := s) (fun w => cInv hs.2.2.1 w) (fun w => cMul hs.1 (ivN_lt _) w) (fun w => cMul hs.2.1 (ivN_lt _) w) w
 rwa [h2.1, h2.2] at h1
theorem cPick {i : Nat} (hi : i < 2) (p q : Sp) (w : World) : Calls Tryz.prog 107 #[.int .u64 (i : Int), sv p, sv q] w fun e w' => e = .returned (sv (if i = 0 then p else q)) ∧ Below w.heap.size w w' := by
 refine pick_gen (fun w => ?_) (fun w => ?_) (fun w => ?_) (fun w => ?_) w
 ·have h := pick_any i p.x q.x (by omega) w
  by_cases h0 : i = 0
  ·rw [if_pos h0] at h ⊢; exact h
  ·rw [if_neg h0] at h ⊢; exact h
 ·have h := pick_any i p.y q.y (by omega) w
  by_cases h0 : i = 0
  ·rw [if_pos h0] at h ⊢; exact h
  ·rw [if_neg h0] at h ⊢; exact h
 ·have h := pick_any i p.z q.z (by omega) w
  by_cases h0 : i = 0
  ·rw [if_pos h0] at h ⊢; exact h
  ·rw [if_neg h0] at h ⊢; exact h
 ·have h := pick_any i p.t q.t (by omega) w
  by_cases h0 : i = 0
  ·rw [if_pos h0] at h ⊢; exact h
  ·rw [if_neg h0] at h ⊢; exact h
theorem cPut {B g i j : Nat} {s n f h b : Sp} (hs : s.ok) (hn : n.ok) (hf : f.ok) (hh : h.ok) (hb : b.ok) (hi : i < 2) (hj : j < 2) (w : World) (hG : G8 w) (hT : OTa w B g ⟨s, n, f, h, b⟩) :
  Calls Tryz.prog 74 #[.pointer (some ⟨g, 0, none⟩), .int .u64 (i : Int), .int .u64 (j : Int)] w fun e w' => e = .returned (.tuple #[]) ∧ OTa w' B g ⟨Sp.plus (Sp.plus s s) (if j = 0 then (if i = 0 then n else f) else (if i = 0 then h else b)), n, f, h, b⟩ ∧ Oth B g w w' :=
 put_gen (t := ⟨s, n, f, h, b⟩) (fun w => cPick hi n f w) (fun w => cPick hi h b w) (fun w => cPick hj _ _ w) (fun w hG => cSum hs hs w hG)
  (fun w hG => cSum (Sp.plus_ok _ _) (by split <;> split <;> assumption) w hG) w hG hT
theorem cBoth_pt {i j : Nat} (hi : i < W4) (hj : j < W4) (p q : Pt E25) (w : World) (hG : G8 w) : Calls Tryz.prog 34 #[nv i, prv p.x.val p.y.val, nv j, prv q.x.val q.y.val] w fun e w' => e = .returned (.tuple #[prv ((p.mul i).add (q.mul j)).x.val ((p.mul i).add (q.mul j)).y.val, .int .i64 0]) ∧ Below w.heap.size w w' := by
 have hn := fun w => cLift (Pt.nought E25) w
 rw [nought_xy.1, nought_xy.2] at hn
 have k0 := Sp.lift_ok (Pt.nought E25)
 have k1 := Sp.lift_ok p
 have k2 := Sp.lift_ok q
 have k3 := Sp.plus_ok (Sp.lift p) (Sp.lift q)
 have h4 : (⟨Sp.lift (Pt.nought E25), Sp.lift (Pt.nought E25), Sp.lift p, Sp.lift q, Sp.plus (Sp.lift p) (Sp.lift q)⟩ : Ta).of4 p q := ⟨k0, k1, k2, k3, Sp.lift_of _, Sp.lift_of _, Sp.lift_of _, Sp.plus_of k1 k2 (Sp.lift_of _) (Sp.lift_of _)⟩
 exact cBoth_c (Sx := fun s => s.ok ∧ s.of ((p.mul i).add (q.mul j))) (cOn_pt p) (cOn_pt q) hn (cLift p) (cLift q) (fun w hG => cSum k1 k2 w hG)
  (fun B g v hv hT => each_any hi hj h4 k0 (Sp.lift_of _) v hv hT (fun s m n w hs hm hn hG hT => cPut hs k0 k1 k2 k3 hm hn w hG hT))
  (fun s hs w => cFlat hs.1 hs.2 w) w hG
theorem cMult_pt {i : Nat} (hi : i < W4) (p : Pt E25) (w : World) (hG : G8 w) : Calls Tryz.prog 51 #[nv i, prv p.x.val p.y.val] w fun e w' => e = .returned (.tuple #[prv (p.mul i).x.val (p.mul i).y.val, .int .i64 0]) ∧ Below w.heap.size w w' := by
 refine cMult_gen (fun w hG => ?_) w hG
 have h := cBoth_pt hi W4_pos p (Pt.nought E25) w hG
 rw [nought_xy.1, nought_xy.2, show (Pt.nought E25).mul 0 = Pt.nought E25 from rfl, Pt.add_nought, nv_small (x := 0) (by decide)] at h
 exact h
theorem neg_val (x : Fp) : (P25 - x.val) % P25 = (-x).val := rfl
theorem cNeg_pt (p : Pt E25) (w : World) : Calls Tryz.prog 65 #[prv p.x.val p.y.val] w fun e w' => e = .returned (.tuple #[prv p.neg.x.val p.neg.y.val, .int .i64 0]) ∧ Below w.heap.size w w' := by
 refine cNeg_b (cOn_pt p) (fun w => ?_) w
 have h := cNeg p.x.isLt w
 rw [neg_val] at h
 exact h
def Sp.dbl (s : Sp) : Nat → Sp
 | 0 => s
 | k + 1 => Sp.plus (s.dbl k) (s.dbl k)
theorem Sp.dbl_ok {s : Sp} (hs : s.ok) : ∀ k, (s.dbl k).ok
 | 0 => hs
 | _ + 1 => Sp.plus_ok _ _
theorem Sp.dbl_of {s : Sp} {p : Pt E25} (hs : s.ok) (h : s.of p) : ∀ k, (s.dbl k).of (p.mul (2 ^ k))
 | 0 => by rw [Nat.pow_zero, Pt.mul_one]; exact h
 | k + 1 => by
  have h1 := Sp.plus_of (Sp.dbl_ok hs k) (Sp.dbl_ok hs k) (Sp.dbl_of hs h k) (Sp.dbl_of hs h k)
  rw [← Pt.mul_two, Nat.mul_comm, ← Nat.pow_succ] at h1
  exact h1
theorem cSmall_pt (p : Pt E25) (w : World) (hG : G8 w) : Calls Tryz.prog 64 #[prv p.x.val p.y.val] w fun e w' => e = .returned (.bool (decide ((p.mul 8).x.val = 0) && decide ((p.mul 8).y.val = 1))) ∧ Below w.heap.size w w' :=
 cSmall_b (r := (Sp.lift p).dbl) (xW (p.mul 8)) (yW (p.mul 8)) rfl (cOn_pt p) (cLift p) (fun w => cFlat (Sp.dbl_ok (Sp.lift_ok p) 3) (Sp.dbl_of (Sp.lift_ok p) (Sp.lift_of p) 3) w)
  (fun k _ w hG => cSum (Sp.dbl_ok (Sp.lift_ok p) k) (Sp.dbl_ok (Sp.lift_ok p) k) w hG) w hG
end
end
section
open Go Go.RowKit
theorem H25_2 : H25 = 2 ^ 255 := by decide +kernel
theorem H25_pos : 0 < H25 := by decide +kernel
theorem top_word {y b : Nat} (hy : y < H25) (hb : b < 2) : (∀ k, k < 3 → wd (y + H25 * b) k = wd y k) ∧ wd (y + H25 * b) 3 = wd y 3 + 9223372036854775808 * b ∧ wd y 3 < 9223372036854775808 := by
 have hz : y + H25 * b < W4 := by
  rw [H25_eq, Nat.mul_comm 2]
  rcases (show b = 0 ∨ b = 1 by omega) with rfl | rfl <;> omega
 have e1 : (y + H25 * b) % H25 = y := by rw [Nat.add_mul_mod_self_left, Nat.mod_eq_of_lt hy]
 have e2 : (y + H25 * b) / H25 = b := by rw [Nat.add_mul_div_left _ _ H25_pos, Nat.div_eq_of_lt hy, Nat.zero_add]
 have h1 := wd_top hz
 have h2 := top_bit hz
 rw [e1] at h1
 rw [e2] at h2
 refine ⟨fun k hk => ?_, ?_, ?_⟩
 ·have h := wd_low (a := y + H25 * b) hk
  rw [e1] at h
  exact h.symm
 ·omega
 ·omega
theorem or_top {a b : Nat} (ha : a < 9223372036854775808) (hb : b < 2) : bits .or .u64 (a : Int) ((9223372036854775808 * b : Nat) : Int) = ((a + 9223372036854775808 * b : Nat) : Int) := by
 rw [bits_or_u64_nat _ _ (by omega) (by omega)]
 have h := Nat.two_pow_add_eq_or_of_lt (i := 63) (b := a) (by omega) b
 rw [show (2 : Nat) ^ 63 = 9223372036854775808 from rfl] at h
 rw [Nat.or_comm, ← h, Nat.add_comm]
theorem bt_low (x : Nat) : bt x 0 = x % 2 := by unfold bt; rw [Nat.pow_zero, Nat.div_one]
theorem cEncode_pt (p : Pt E25) (w : World) : Calls Tryz.prog 52 #[prv p.x.val p.y.val] w fun e w' => ∃ A c, e = .returned (.tuple #[.slice A 32 c, .int .i64 0]) ∧ Own w' w.heap.size 5 A c (encN p.x.val p.y.val) ∧ Below w.heap.size w w' := by
 have hy : p.y.val < H25 := by rw [H25_2]; exact Nat.lt_trans p.y.isLt P25_half
 have k2 := fun w => bit_in p.x.val 0 (by decide) w
 have kO := fun w => cOn_pt p w
 unfold encN
 rw [← H25_2, ← bt_low]
 have hb : bt p.x.val 0 < 2 := by rw [bt_low]; omega
 have kb := fun w => bytes_any (p.y.val + H25 * bt p.x.val 0) w
 obtain ⟨z1, z2, z3⟩ := top_word hy hb
 have ho := or_top z3 hb
 rw [← z2] at ho
 rcases (show bt p.x.val 0 = 0 ∨ bt p.x.val 0 = 1 by omega) with e | e
 ·rw [e] at k2 kb z1 ho ⊢
  exact cEncode_b0 ho z1 kO k2 kb w
 ·rw [e] at k2 kb z1 ho ⊢
  exact cEncode_b1 ho z1 kO k2 kb w
section
attribute [local irreducible] wd by8 d16 set16w fl rl setA sf taf set8p set4w t3f ivN
theorem adN_comm (x y : Nat) : adN x y = adN y x := by unfold adN; rw [Nat.add_comm]
theorem cAcross {y : Nat} (hy : y < P25) (w : World) (hG : Glb w) : Calls Tryz.prog 68 #[nv y] w fun e w' => e = .returned (.tuple #[nv (rtr (uN y)), .bool (decide (rtq (uN y) = 1))]) ∧ Below w.heap.size w w' := by
 have k7 := fun w => cMul (sbN_lt (mlN y y) 1) (ivN_lt (adN (mlN ed (mlN y y)) 1)) w
 rw [adN_comm, ← uN_is] at k7
 have k6 := fun w => cInv (adN_lt (mlN ed (mlN y y)) 1) w
 rw [adN_comm] at k6
 have k5 := fun w => cAdd (mlN_lt ed (mlN y y)) P25_one w
 rw [adN_comm] at k5
 have k8 : ∀ w, Glb w → Calls Tryz.prog 105 #[nv (uN y)] w fun e w' => e = .returned (.tuple #[nv (rtr (uN y)), .bool (decide (rtq (uN y) = 1))]) ∧ Below w.heap.size w w' := fun w hG => by
  have h := froot_any (ltW (uN_lt y)) w hG
  rwa [Nat.mod_eq_of_lt (uN_lt y)] at h
 exact across_gen (fun w => cMul hy hy w) (fun w => cSub (mlN_lt _ _) P25_one w) cD_any (fun w => cMul ed_lt (mlN_lt _ _) w) k5 k6 k7 k8 w hG
end
theorem andNot_top (x : Int) : bits .andNot .u64 x 9223372036854775808 = bits .and .u64 x 9223372036854775807 := by
 show IntKind.u64.wrap ((BitVec.ofInt 64 x &&& ~~~ BitVec.ofInt 64 9223372036854775808).toNat : Int) = IntKind.u64.wrap ((BitVec.ofInt 64 x &&& BitVec.ofInt 64 9223372036854775807).toNat : Int)
 rw [show ~~~ BitVec.ofInt 64 9223372036854775808 = BitVec.ofInt 64 9223372036854775807 by decide]
theorem mod_odd {r : Nat} (hr : r < P25) (he : r % 2 = 0) : (P25 - r) % P25 < P25 ∧ (r = 0 → (P25 - r) % P25 = 0) ∧ (r ≠ 0 → (P25 - r) % P25 % 2 = 1) := by
 have ho := P_odd
 refine ⟨Nat.mod_lt _ P25_pos, fun h => by rw [h, Nat.sub_zero, Nat.mod_self], fun h => ?_⟩
 rw [Nat.mod_eq_of_lt (show P25 - r < P25 by omega)]
 omega
theorem rtr_W4 (a : Nat) : rtr a < W4 := by
 unfold rtr
 split
 ·exact ltW (rt2_lt _)
 ·exact W4_pos
section
attribute [local irreducible] wd by8 d16 set16w fl rl setA sf taf set8p set4w t3f ivN mlN adN sbN uN rtr rtq vk vb
theorem cDecode_num {A : Option Addr} {c z : Nat} (hz : z < W4) (w : World) (kF : ∀ v, Below w.heap.size w v → Calls Tryz.prog 45 #[.slice A 32 c] v fun e w' => e = .returned (.tuple #[nv z, .int .i64 0]) ∧ Below v.heap.size v w') (hG : Glb w) :
  Calls Tryz.prog 33 #[.slice A 32 c] w fun e w' => e = .returned (.tuple #[prv (decX z) (decY z), .int .i64 (decE z : Int)]) ∧ Below w.heap.size w w' := by
 have hb2 : z / 2 ^ 255 < 2 := by rw [← H25_2]; exact Nat.div_lt_of_lt_mul (by rw [Nat.mul_comm, ← H25_eq]; exact hz)
 have kB := fun w => bit_in z 255 (by decide) w
 rw [show bt z 255 = z / 2 ^ 255 by unfold bt; exact Nat.mod_eq_of_lt hb2] at kB
 have han : bits .andNot .u64 (wd z 3 : Int) 9223372036854775808 = (wd (z % 2 ^ 255) 3 : Int) := by rw [andNot_top, and_top (wd_lt _ _), ← wd_top hz, H25_2]
 have h3 : ∀ k, k < 3 → wd (z % 2 ^ 255) k = wd z k := fun k hk => by rw [← H25_2]; exact wd_low hk
 have hyW : z % 2 ^ 255 < W4 := Nat.lt_of_le_of_lt (Nat.mod_le _ _) hz
 have kR := fun w => right_any hyW w
 unfold decX decY decE
 generalize z / 2 ^ 255 = o at *
 generalize z % 2 ^ 255 = y at *
 by_cases hy : y < P25
 ·rw [decide_eq_true hy] at kR
  rw [if_pos hy]
  have kA := fun w hG => cAcross hy w hG
  have hw : wokN y o = (decide (rtq (uN y) = 1) && !(decide (rtr (uN y) = 0) && decide (o = 1))) := rfl
  have hx : wxN y o = if o = 1 then (P25 - rtr (uN y)) % P25 else rtr (uN y) := rfl
  by_cases hq : rtq (uN y) = 1
  ·rw [decide_eq_true hq] at kA hw
   have hs := rtr_sq ((rtq_iff _).1 hq)
   have hr : rtr (uN y) < P25 := by rw [hs]; exact rt2_lt _
   have he : rtr (uN y) % 2 = 0 := by rw [hs]; exact rt2_even _
   generalize rtr (uN y) = r at *
   obtain ⟨m1, m2, m3⟩ := mod_odd hr he
   rcases (show o = 0 ∨ o = 1 by omega) with rfl | rfl
   ·have kb := fun w => bit_in r 0 (by decide) w
    rw [bt_low, he] at kb
    have ht : wokN y 0 = true := by rw [hw]; simp
    rw [ht, hx, if_pos rfl, if_pos rfl, if_pos rfl, if_neg (by decide)]
    exact cDecode_y00 w han h3 kB kR kb kF kA hG
   ·have kN := fun w => cNeg hr w
    have kb := fun w => bit_in ((P25 - r) % P25) 0 (by decide) w
    rw [bt_low] at kb
    by_cases h0 : r = 0
    ·rw [m2 h0] at kb kN
     have ht : wokN y 1 = false := by rw [hw]; simp [h0]
     rw [ht, if_neg (by decide), if_neg (by decide), if_neg (by decide)]
     exact cDecode_y10 w han h3 kB kR kN kb kF kA hG
    ·rw [m3 h0] at kb
     have ht : wokN y 1 = true := by rw [hw]; simp [h0]
     rw [ht, hx, if_pos rfl, if_pos rfl, if_pos rfl, if_pos rfl]
     exact cDecode_y11 w han h3 kB kR kN kb kF kA hG
  ·rw [decide_eq_false hq] at kA hw
   have ht : wokN y o = false := by rw [hw]; rfl
   rw [ht, if_neg (by decide), if_neg (by decide), if_neg (by decide)]
   rcases (show o = 0 ∨ o = 1 by omega) with rfl | rfl
   ·exact cDecode_n0 w han h3 kB kR kF kA hG
   ·refine cDecode_n1 (s := fsub 0 (rtr (uN y))) w han h3 kB kR (fun w => fneg_any ?_ w) kF kA hG
    exact rtr_W4 _
 ·rw [decide_eq_false hy] at kR
  rw [if_neg hy, if_neg (by decide), if_neg (by decide)]
  rcases (show o = 0 ∨ o = 1 by omega) with rfl | rfl
  ·exact cDecode_r0 w han h3 kB kR kF
  ·exact cDecode_r1 w han h3 kB kR kF
theorem cDecode_any {A : Option Addr} {c : Nat} {us : List UInt8} (u32 : us.length = 32) (w : World) (hr : Rd w w.heap.size A c us) (hG : Glb w) :
  Calls Tryz.prog 33 #[.slice A 32 c] w fun e w' => e = .returned (.tuple #[prv (decX (vb us)) (decY (vb us)), .int .i64 (decE (vb us) : Int)]) ∧ Below w.heap.size w w' :=
 cDecode_num (vb_lt u32) w (fun v hv => by
  have h := from_good v (hr.keep hv) hv.size (Nat.le_of_eq u32)
  rwa [u32] at h) hG
end
end
section
open Go Go.RowKit
set_option maxRecDepth 20000
theorem own9_of {w : World} {B c n : Nat} {e : TypeId} {A : Option Addr} {S : List UInt8} (h : OwnF w B e A c n (bvf S)) (hl : S.length = n) : Own w B e A c S := by
 unfold OwnF at h
 unfold Own
 have : (List.range n).map (bvf S) = S.map bv := by
  refine List.ext_getElem (by simp [hl]) fun i h1 h2 => ?_
  have hi : i < S.length := by simpa using h2
  simp only [List.getElem_map, List.getElem_range, bvf, bv]
  rw [nth_get hi]
 rw [hl, ← this]
 exact h
theorem code_hsh {A : Option Addr} {B c : Nat} {bs : List UInt8} (hl : bs.length ≤ 140737488355328) (w : World) (hG : GlbS w) (hr : Rd w B A c bs) (hB : B ≤ w.heap.size) :
  Calls Tryz.prog 43 #[.slice A bs.length c] w fun e w' => ∃ A1 c1, e = .returned (.slice A1 64 c1) ∧ Own w' w.heap.size 5 A1 c1 (hsh bs) ∧ Below w.heap.size w w' :=
 (code512 hl w hG hr hB).mono fun _ _ ⟨_, he, ho, hb⟩ => ⟨_, _, he, own9_of ho (hsh_len bs), hb⟩
theorem code_of {A : Option Addr} {c : Nat} {bs : List UInt8} (w : World) (hr : Rd w w.heap.size A c (hsh bs)) :
  Calls Tryz.prog 50 #[.slice A 64 c] w fun e w' => e = .returned (.tuple #[nv (lefN bs), .int .i64 0]) ∧ Below w.heap.size w w' := by
 have h := tof_good w hr (Nat.le_refl _) (by rw [hsh_len]; decide)
 rw [hsh_len] at h
 exact h
section
attribute [local irreducible] wd by8 d16 set16w set4w set8p set6 gw gz fl rl setA t3f ivN mlN adN sbN hsh lefN clam
set_option maxHeartbeats 800000 in
theorem digest_any {A : Option Addr} {B c n : Nat} {L : List (List UInt8)} (hn : L.length = n) (h6 : n ≤ 1048576) (hs : (joinL L).length ≤ 1048576) (w : World) (hG : GlbS w) (hr : Rds w B A c L) (hB : B ≤ w.heap.size) :
  Calls Tryz.prog 17 #[.slice A n c] w fun e w' => e = .returned (nv (lefN (joinL L))) ∧ Below w.heap.size w w' := by
 subst hn
 obtain ⟨v0, ev⟩ : ∃ v, v = w.alloc Zs := ⟨_, rfl⟩
 have b0 := bnw ev
 obtain ⟨g0, eg⟩ : ∃ g, g = w.heap.size := ⟨_, rfl⟩
 have o0 : Osc v0 w.heap.size g0 0 := by rw [eg, ev]; exact Osc.newz (Nat.le_refl _)
 have KJ := Lib.hid (join_code v0 (hr.keep (b0.mono hB)) (Nat.le_trans hB b0.size) hs h6)
 have HS := Lib.hid hs
 have HG := Lib.hid hG
 obtain ⟨x, hx⟩ : ∃ x, x = lefN (joinL L) := ⟨_, rfl⟩
 rw [← hx]
 have HX := Lib.hid hx
 clear hs hr hG h6 hx
 go_enter Tryz.func17, Tryz.ntmps17
 go_upto_region 1 with fail
 rw [← ev]
 rw [show Value.pointer (some ⟨w.heap.size, 0, none⟩) = .pointer (some ⟨g0, 0, none⟩) by rw [eg]]
 clear ev eg
 go_wp2_with fail
 go_at_call 23
 refine KJ.out.mono ?_
 rintro e v1 ⟨A1, c1, rfl, ho, hb⟩
 have hc := bnx b0 hb
 replace o0 := o0.keep hb
 have KS := Lib.hid (code_hsh (Nat.le_trans HS.out (by decide)) v1 (HG.out.next hc) ho.rd (Nat.le_refl _))
 clear hb ho KJ b0
 go_wp2_with fail
 go_at_call 43
 refine KS.out.mono ?_
 rintro e v2 ⟨A2, c2, rfl, rd, hb⟩
 replace o0 := o0.keep hb
 replace hc := bnx hc hb
 have ko := code_of v2 rd.rd
 rw [← HX.out] at ko
 have KO := Lib.hid ko
 clear hb rd KS ko
 go_wp2_with fail
 go_at_call 50
 refine KO.out.mono ?_
 rintro e v3 ⟨rfl, hb⟩
 replace o0 := o0.keep hb
 replace hc := bnx hc hb
 clear hb KO
 have on0 := Osc.newz (w := v3) (B := v3.heap.size) (Nat.le_refl _)
 have o1 := on0.put x
 have hbz := ((Below.refl _ v3).alloc (Nat.le_refl _) Zs).trans (on0.below x)
 replace o0 := o0.keep hbz
 replace hc := bnx hc hbz
 clear hbz
 go_upto_region 2 with ((with_reducible refine sc_store on0 x ?_ ?_ ?_); rfl; rfl)
 obtain ⟨v4, ev⟩ : ∃ v, v = set4w (v3.alloc Zs) v3.heap.size x := ⟨_, rfl⟩
 obtain ⟨g1, eg⟩ : ∃ g, g = v3.heap.size := ⟨_, rfl⟩
 rw [← ev] at o0 o1 hc ⊢
 rw [← eg] at o1 ⊢
 clear ev eg on0
 have HR := Lib.hid (o0.put x)
 have HC := Lib.hid (hc.trans (o0.below x))
 go_wp2_with (first | ((with_reducible refine sc_load o1 ?_ ?_); rfl) | ((with_reducible refine sc_store o0 x ?_ ?_ ?_); rfl; rfl))
 exact bodyPost_ret (scres Tryz.results17 _ HR.out rfl) rfl ⟨rfl, HC.out⟩
set_option maxHeartbeats 800000 in
theorem timesc_any {n : Nat} (hn : n < W4) (w : World) (hG : G8 w) :
  Calls Tryz.prog 18 #[nv n] w fun e w' => ∃ A c, e = .returned (.slice A 32 c) ∧ Own w' w.heap.size 5 A c (encP (B25.mul n)) ∧ Below w.heap.size w w' := by
 have hx : bx = B25.x.val ∧ by_ = B25.y.val := ⟨(Nat.mod_eq_of_lt bx_lt).symm, (Nat.mod_eq_of_lt by_lt).symm⟩
 have kb := cBase_any
 rw [hx.1, hx.2] at kb
 have km := fun v => cMult_pt (i := n) hn B25 v
 have ke := cEncode_pt (B25.mul n)
 obtain ⟨x, ex⟩ : ∃ x, x = (B25.mul n).x.val := ⟨_, rfl⟩
 obtain ⟨y, ey⟩ : ∃ x, x = (B25.mul n).y.val := ⟨_, rfl⟩
 obtain ⟨E, eE⟩ : ∃ E, E = encP (B25.mul n) := ⟨_, rfl⟩
 rw [show encN (B25.mul n).x.val (B25.mul n).y.val = E from eE.symm, ← ex, ← ey] at ke
 rw [← ex, ← ey] at km
 rw [← eE]
 obtain ⟨p, ep⟩ : ∃ x, x = B25.x.val := ⟨_, rfl⟩
 obtain ⟨q, eq⟩ : ∃ x, x = B25.y.val := ⟨_, rfl⟩
 rw [← ep, ← eq] at kb km
 have KB := Lib.hid kb
 have KM := Lib.hid km
 have KE := Lib.hid ke
 have HG := Lib.hid hG
 clear kb km ke hx ex ey eE ep eq hn hG
 obtain ⟨v0, ev⟩ : ∃ v, v = w.alloc (A4 n) := ⟨_, rfl⟩
 have hc := bnw ev
 obtain ⟨g0, eg⟩ : ∃ g, g = w.heap.size := ⟨_, rfl⟩
 have o0 : O4 v0 w.heap.size g0 n := by rw [eg, ev]; exact O4.new (Nat.le_refl _) n
 replace HG := Lib.hid (HG.out.next hc)
 go_enter Tryz.func18, Tryz.ntmps18
 go_upto_region 1 with fail
 rw [← ev]
 rw [show Value.pointer (some ⟨w.heap.size, 0, none⟩) = .pointer (some ⟨g0, 0, none⟩) by rw [eg]]
 clear ev eg
 refine wp_region_box 9 [some 8, some 9, some 10, some 7, some 11, some 12, some 3, none, some 4] [.val (nv n), .val (prv p q), .val (.tuple #[prv x y, .int .i64 0]), .val (.tuple #[prv x y, .int .i64 0]), .val (prv x y), .val (.int .i64 0), .box 60 8, .holds 6 60 8 (pw x y), .val (.int .i64 0)] v0.heap.size (fun wz => Below v0.heap.size v0 wz) (by kernel_rfl) (by kernel_rfl)
  (fun _ _ h _ hb => h.trans hb) ((Below.refl _ _).drew) (Nat.le_refl _) (fun u => by simp only [List.filterMap_cons, List.filterMap_nil, id, puts, List.foldl_cons, List.foldl_nil]; go_simp; exact rfl) ?_ ?_
 ·simp only [List.take_succ_cons, List.take_zero]
  refine .cons (fun u w L hL hS hBw hd => ?_) ?_
  ·exact GB.run 8 rfl (nv n) rfl (run_nload rfl rfl (O4.keep o0 hS)) rfl rfl
  refine .cons (fun u w L hL hS hBw hd => ?_) ?_
  ·refine GB.call 9 rfl 35 #[] rfl (by go_simp) rfl ((KB.out w).mono ?_)
   rintro e w' ⟨rfl, hb⟩
   exact ⟨_, rfl, rfl, hb⟩
  refine .cons (fun u w L hL hS hBw hd => ?_) ?_
  ·have d8 : u 8 = nv n := depB hd 0 rfl
   rw [d8]
   have d9 : u 9 = prv p q := depB hd 1 rfl
   rw [d9]
   refine GB.call 10 rfl 51 #[nv n, prv p q] rfl (by go_simp) rfl ((KM.out w (HG.out.next hS)).mono ?_)
   rintro e w' ⟨rfl, hb⟩
   exact ⟨_, rfl, rfl, hb⟩
  refine .cons (fun u w L hL hS hBw hd => ?_) ?_
  ·have d10 : u 10 = .tuple #[prv x y, .int .i64 0] := depB hd 2 rfl
   rw [d10]
   exact GB.run 7 rfl (.tuple #[prv x y, .int .i64 0]) rfl (by go_simp) rfl rfl
  refine .cons (fun u w L hL hS hBw hd => ?_) ?_
  ·have d7 : u 7 = .tuple #[prv x y, .int .i64 0] := depB hd 3 rfl
   rw [d7]
   exact GB.run 11 rfl (prv x y) rfl (by go_simp) rfl rfl
  refine .cons (fun u w L hL hS hBw hd => ?_) ?_
  ·have d7 : u 7 = .tuple #[prv x y, .int .i64 0] := depB hd 3 rfl
   rw [d7]
   exact GB.run 12 rfl (.int .i64 0) rfl (by go_simp) rfl rfl
  refine .cons (fun u w L hL hS hBw hd => ?_) ?_
  ·exact GB.alloc 3 rfl rfl #[.int .u64 0, .int .u64 0, .int .u64 0, .int .u64 0, .int .u64 0, .int .u64 0, .int .u64 0, .int .u64 0] 60 8 (fun _ => .int .u64 0) rfl rfl (by go_simp) hBw (by decide) rfl
  refine .cons (fun u w L hL hS hBw hd => ?_) ?_
  ·have d11 : u 11 = prv x y := depB hd 4 rfl
   obtain ⟨g, fg, e3, o3⟩ : (Fact.box 60 8).ok v0.heap.size [some 8, some 9, some 10, some 7, some 11, some 12, some 3, none, some 4] 6 u w L := depB hd 6 rfl
   exact GB.store rfl 6 g 60 8 (pw x y) rfl rfl rfl e3 (run_pstore rfl (by exact e3) (by exact d11) o3) (only8p w g x y) (put8p o3 x y)
  refine .cons (fun u w L hL hS hBw hd => ?_) ?_
  ·have d12 : u 12 = .int .i64 0 := depB hd 5 rfl
   rw [d12]
   exact GB.run 4 rfl (.int .i64 0) rfl (by go_simp) rfl rfl
  exact ObsB.nil
 intro u1 v1 hS hd
 obtain ⟨g3, e3, o3⟩ : (Fact.holds 6 60 8 (pw x y)).ok v0.heap.size [some 8, some 9, some 10, some 7, some 11, some 12, some 3, none, some 4] 7 u1 v1 (fun _ => true) := hd 7 (by decide)
 replace e3 : u1 3 = .pointer (some ⟨g3, 0, none⟩) := e3
 replace o3 : O8 v1 v0.heap.size g3 x y := o3
 replace hc := bnx hc hS
 have KE1 := Lib.hid (KE.out v1)
 rw [e3]
 clear hS hd e3 KE KM KB HG o0
 simp only [List.drop_succ_cons, List.drop_zero]
 go_wp2_with ((with_reducible refine p_load o3 ?_ ?_); rfl)
 go_at_call 52
 refine KE1.out.mono ?_
 rintro e v2 ⟨A, c, rfl, ho, hb⟩
 replace ho := ho.mono hc.size
 replace hc := bnx hc hb
 clear hb KE1 o3
 go_wp2_with fail
 go_ret
 exact ⟨A, c, rfl, ho, hc⟩
end
end
section
open Go Go.RowKit
set_option maxRecDepth 20000
def G9w (w : World) : Prop := G8 w ∧ Glb w ∧ GlbS w
theorem g9n : ∀ w w', G9w w → Below w.heap.size w w' → G9w w' := fun _ _ h hb => ⟨h.1.next hb, h.2.1.next hb, h.2.2.next hb⟩
theorem grow_no {A : Option Addr} {n c : Nat} (hn : n ≠ 32) (w : World) :
  Calls Tryz.prog 14 #[.slice A n c] w fun e w' => e = .returned (.tuple #[.agg #[.int .u64 0, .int .u64 0, .int .u64 0, .int .u64 0, .slice none 0 0, .slice none 0 0], .int .i64 1]) ∧ Below w.heap.size w w' := by
 have g1 : ((n : Int) == 32) = false := by simp; omega
 have g2 : ((n : Int) != 32) = true := by simp; omega
 clear hn
 go_enter Tryz.func14, Tryz.ntmps14
 go_wp2_with fail
 refine bodyPost_ret (v := .tuple #[.agg #[.int .u64 0, .int .u64 0, .int .u64 0, .int .u64 0, .slice none 0 0, .slice none 0 0], .int .i64 1]) (by simp [results, Tryz.results14, go_sem]) rfl ⟨rfl, (Below.refl _ w).alloc (Nat.le_refl _) _⟩
theorem cver_len {A A1 A2 : Option Addr} {n0 n1 n2 c0 c1 c2 : Nat} (h : ¬ (n0 = 32 ∧ n2 = 64)) (w : World) : Calls Tryz.prog 12 #[.slice A n0 c0, .slice A1 n1 c1, .slice A2 n2 c2] w fun e w' => e = .returned (.int .i64 1) ∧ Below w.heap.size w w' := by
 by_cases h0 : n0 = 32
 ·have h2 : n2 ≠ 64 := fun e => h ⟨h0, e⟩
  subst h0
  have g1 : ((n2 : Int) == 64) = false := by simp; omega
  have g2 : ((n2 : Int) != 64) = true := by simp; omega
  clear h h2
  go_enter Tryz.func12, Tryz.ntmps12
  go_wp2_with fail
  go_ret
  exact ⟨rfl, Below.refl _ _⟩
 ·have g1 : ((n0 : Int) == 32) = false := by simp; omega
  have g2 : ((n0 : Int) != 32) = true := by simp; omega
  clear h h0
  go_enter Tryz.func12, Tryz.ntmps12
  go_wp2_with fail
  go_ret
  exact ⟨rfl, Below.refl _ _⟩
theorem cver0_any : CVer0 G9w := fun _ _ w _ => cver_len (by rintro ⟨_, h⟩; exact absurd h (by decide)) w
theorem from32 {bs : List UInt8} (hl : bs.length = 32) {A : Option Addr} {c : Nat} (w : World) (hr : Rd w w.heap.size A c bs) :
  Calls Tryz.prog 45 #[.slice A 32 c] w fun e w' => e = .returned (.tuple #[nv (vb bs), .int .i64 0]) ∧ Below w.heap.size w w' := by
 have h := from_good w hr (Nat.le_refl _) (Nat.le_of_eq hl)
 rwa [hl] at h
section
attribute [local irreducible] wd by8 d16 set16w set4w set8p set6 gw gz fl rl setA t3f ivN mlN adN sbN hsh lefN clam
set_option maxHeartbeats 1600000 in
theorem grow_any {A : Option Addr} {c : Nat} {seed : List UInt8} (h32 : seed.length = 32) (w : World) (hG : G9w w) (hr : Rd w w.heap.size A c seed) :
  Calls Tryz.prog 14 #[.slice A 32 c] w fun e w' => ∃ A1 c1 A2 c2, e = .returned (.tuple #[gv (secN seed) A1 32 c1 A2 32 c2, .int .i64 0]) ∧ Rd w' w'.heap.size A1 c1 (preB seed) ∧ Rd w' w'.heap.size A2 c2 (pubB seed) ∧ Below w.heap.size w w' := by
 obtain ⟨v0, ev⟩ : ∃ v, v = w.alloc Zg := ⟨_, rfl⟩
 have hc := bnw ev
 obtain ⟨g0, eg⟩ : ∃ g, g = w.heap.size := ⟨_, rfl⟩
 have o0 : OwnF v0 w.heap.size 37 (some ⟨g0, 0, none⟩) 6 6 gz := by rw [eg, ev]; exact g6_newz (Nat.le_refl _)
 have HG := Lib.hid (g9n _ _ hG hc)
 have r0 : Rd v0 v0.heap.size A c seed := (hr.keep hc).mono hc.size
 have ks := code_hsh (bs := seed) (by rw [h32]; decide) v0 HG.out.2.2 r0 (Nat.le_refl _)
 rw [h32] at ks
 have KS := Lib.hid ks
 obtain ⟨H, hH⟩ : ∃ H, H = hsh seed := ⟨_, rfl⟩
 have hHl : H.length = 64 := by rw [hH, hsh_len]
 obtain ⟨X, hX⟩ : ∃ X, X = secN seed := ⟨_, rfl⟩
 obtain ⟨Pb, hP⟩ : ∃ P, P = preB seed := ⟨_, rfl⟩
 have hPl : Pb.length = 32 := by rw [hP, preB_len]
 obtain ⟨PB, hB⟩ : ∃ P, P = pubB seed := ⟨_, rfl⟩
 have hBl : PB.length = 32 := by rw [hB, pubB_len]
 have kt : ∀ w, G8 w → Calls Tryz.prog 18 #[nv (secN seed)] w fun e w' => ∃ A c, e = .returned (.slice A 32 c) ∧ Own w' w.heap.size 5 A c (pubB seed) ∧ Below w.heap.size w w' := fun w h => timesc_any (clam_W4 _) w h
 rw [← hX, ← hB] at kt
 have KT := Lib.hid kt
 rw [← hX, ← hP, ← hB]
 replace hP := Lib.hid (show Pb = H.drop 32 by rw [hP, hH]; rfl)
 obtain ⟨L, hL⟩ : ∃ L, L = gen (bf (clam (vb (H.take 32)))) 32 := ⟨_, rfl⟩
 have hLl : L.length = 32 := by rw [hL, gen_length]
 have hXL : X = vb L := by rw [hL, vb_of (clam_W4 _), hX, hH]; rfl
 have HH := Lib.hid hH
 have HL := Lib.hid hL
 have HXL := Lib.hid hXL
 clear ks kt hX hB hH hL hXL hr r0 hG
 go_enter Tryz.func14, Tryz.ntmps14
 go_upto_region 1 with fail
 rw [← ev]
 rw [show Value.pointer (some ⟨w.heap.size, 0, none⟩) = .pointer (some ⟨g0, 0, none⟩) by rw [eg]]
 clear ev eg
 go_wp2_with fail
 go_at_call 43
 refine KS.out.mono ?_
 rintro e v1 ⟨A1, c1, rfl, ho1, hb⟩
 have f1 : Off g0 A1 := Off.own ho1 (OwnF.lt o0)
 have r1 := ho1.rd
 rw [← HH.out] at r1
 clear ho1
 replace o0 := OwnF.keep o0 hb
 replace HG := Lib.hid (g9n _ _ HG.out hb)
 replace hc := bnx hc hb
 have hcap := r1.cap
 rw [hHl] at hcap
 have rl0 := r1.pre (n := 32) (by rw [hHl]; decide) (by decide)
 have kc := gclamp_any (by rw [List.length_take, hHl]; rfl) v1 rl0 (Nat.le_refl _)
 rw [← HL.out] at kc
 have KC := Lib.hid kc
 clear hb KS kc rl0
 go_wp2_with fail
 go_at_call 44
 refine KC.out.mono ?_
 rintro e v2 ⟨A2, c2, rfl, ho, hb⟩
 replace o0 := OwnF.keep o0 hb
 replace HG := Lib.hid (g9n _ _ HG.out hb)
 replace hc := bnx hc hb
 replace r1 := (r1.keep hb).mono hb.size
 have kf := from32 hLl v2 ho.rd
 rw [← HXL.out] at kf
 have KF := Lib.hid kf
 clear ho hb KC hcap kf
 go_wp2_with fail
 go_at_call 45
 refine KF.out.mono ?_
 rintro e v3 ⟨rfl, hb⟩
 replace o0 := OwnF.keep o0 hb
 replace HG := Lib.hid (g9n _ _ HG.out hb)
 replace hc := bnx hc hb
 replace r1 := (r1.keep hb).mono hb.size
 clear hb KF
 have on0 := O4.newz (w := v3) (B := v3.heap.size) (Nat.le_refl _)
 have o7 := (on0.put X).mono hc.size
 have hbz := ((Below.refl _ v3).alloc (Nat.le_refl _) Z4).trans ((set4w_below _ _ X).mono (O4.ge on0))
 replace o0 := OwnF.keep o0 hbz
 replace HG := Lib.hid (g9n _ _ HG.out hbz)
 replace hc := bnx hc hbz
 replace r1 := (r1.keep hbz).mono hbz.size
 clear hbz
 go_upto_region 6 with ((with_reducible refine n_store on0 X ?_ ?_ ?_); rfl; rfl)
 obtain ⟨v4, ev⟩ : ∃ v, v = set4w (v3.alloc Z4) v3.heap.size X := ⟨_, rfl⟩
 obtain ⟨g7, eg⟩ : ∃ g, g = v3.heap.size := ⟨_, rfl⟩
 rw [← ev] at o0 r1 o7 hc HG ⊢
 rw [← eg] at o7 ⊢
 clear ev eg on0
 refine wp_region_inv 5 [26, 27, 28, 29, 30] [.val (nv X), .sat (Bo g0 64 H) (Bo.keep g0 64 H), .sat (Bo g0 32 Pb) (Bo.keep g0 32 Pb), .val (nv X), .sat (Bo g0 32 PB) (Bo.keep g0 32 PB)] (fun wz => Below v4.heap.size v4 wz) (by kernel_rfl) (by kernel_rfl) (fun wz wz' hz hb => bnx hz hb) ((Below.refl _ _).drew) (fun u => by simp only [puts, List.foldl_cons, List.foldl_nil]; go_simp; exact rfl) ?_ ?_
 ·simp only [List.take_succ_cons, List.take_zero]
  refine .cons (fun u w hS hd => ?_) ?_
  ·exact Gv.run (nv X) rfl (run_nload rfl rfl (O4.keep o7 hS)) rfl
  refine .cons (fun u w hS hd => ?_) ?_
  ·exact Gv.run (.slice A1 64 c1) rfl (by go_simp) ⟨_, _, rfl, (r1.keep hS).mono hS.size, f1⟩
  refine .cons (fun u w hS hd => ?_) ?_
  ·obtain ⟨A27, c27, d27, g27, f27⟩ : (Know.sat (Bo g0 64 H) (Bo.keep g0 64 H)).ok (u 27) w := dep hd 1 rfl
   rw [d27]
   exact Gv.run (.slice (subA A27 c27 32) 32 (c27 - 32)) rfl (slice_op_lo (n := 64) (l := 32) rfl rfl rfl (by decide)) ⟨_, _, rfl, by rw [hP.out]; exact g27.drop_ (by rw [hHl]; decide), f27.sub⟩
  refine .cons (fun u w hS hd => ?_) ?_
  ·exact Gv.run (nv X) rfl (run_nload rfl rfl (O4.keep o7 hS)) rfl
  refine .cons (fun u w hS hd => ?_) ?_
  ·have d29 : u 29 = nv X := dep hd 3 rfl
   rw [d29]
   refine Gv.call 18 #[nv X] rfl (by go_simp) ((KT.out w (g9n _ _ HG.out hS).1).mono ?_)
   rintro e w' ⟨A, c, rfl, ho, hb⟩
   exact ⟨_, rfl, ⟨A, c, rfl, ho.rd, Off.own ho (Nat.lt_of_lt_of_le (OwnF.lt o0) hS.size)⟩, hb⟩
  exact Obs.nil
 intro u1 v5 hS hd
 have d26 : u1 26 = nv X := hd 0 (by decide)
 obtain ⟨A8, c8, d28, g28, f28⟩ : (Know.sat (Bo g0 32 Pb) (Bo.keep g0 32 Pb)).ok (u1 28) v5 := hd 2 (by decide)
 obtain ⟨A9, c9, d30, g30, f30⟩ : (Know.sat (Bo g0 32 PB) (Bo.keep g0 32 PB)).ok (u1 30) v5 := hd 4 (by decide)
 rw [d26, d28, d30]
 replace o0 := OwnF.keep o0 hS
 replace hc := bnx hc hS
 have HR := Lib.hid (put6 o0 X A8 32 c8 A9 32 c9)
 have hw := only6 v5 g0 X A8 32 c8 A9 32 c9
 have hb5 := hw.below (OwnF.ge o0)
 have H1 := Lib.hid ((g28.only hw f28).mono (Nat.le_of_eq hw.size.symm))
 have H2 := Lib.hid ((g30.only hw f30).mono (Nat.le_of_eq hw.size.symm))
 have HC := Lib.hid (hc.trans hb5)
 clear hS hd d26 d28 d30 g28 g30 f28 f30 hw hb5 hc r1 f1 o7 KT
 simp only [List.drop_succ_cons, List.drop_zero]
 go_wp2_with (first | ((with_reducible refine g_build X A8 32 c8 A9 32 c9 ?_ ?_ ?_ ?_); rfl; rfl; rfl) | ((with_reducible refine g_store o0 X A8 32 c8 A9 32 c9 ?_ ?_ ?_); rfl; rfl))
 exact bodyPost_ret (gres Tryz.results14 _ HR.out rfl rfl) rfl ⟨_, _, _, _, rfl, H1.out, H2.out, HC.out⟩
set_option maxHeartbeats 800000 in
theorem cpub_any : CPub G9w := by
 intro seed A c w hG hr
 by_cases h32 : seed.length = 32
 ·obtain ⟨p1, p2, p3⟩ := pubL_yes h32
  rw [p2, p3, p1, h32]
  have KG := Lib.hid (grow_any h32 w hG hr)
  clear hG hr p1 p2 p3
  obtain ⟨PB, hB⟩ : ∃ P, P = pubB seed := ⟨_, rfl⟩
  rw [← hB] at KG ⊢
  obtain ⟨X, hX⟩ : ∃ X, X = secN seed := ⟨_, rfl⟩
  rw [← hX] at KG
  clear hB hX
  go_enter Tryz.func7, Tryz.ntmps7
  go_wp2_with fail
  go_at_call 14
  refine KG.out.mono ?_
  rintro e v1 ⟨A1, c1, A2, c2, rfl, -, r2, hb⟩
  have on0 := g6_newz (w := v1) (B := v1.heap.size) (Nat.le_refl _)
  have o4 := put6 on0 X A1 32 c1 A2 32 c2
  have hbz := ((Below.refl _ v1).alloc (Nat.le_refl _) Zg).trans ((only6 _ _ X A1 32 c1 A2 32 c2).below (OwnF.ge on0))
  replace r2 := (r2.keep hbz).mono hbz.size
  replace hb := bnx hb hbz
  clear hbz KG
  go_upto_region 2 with ((with_reducible refine g_store on0 X A1 32 c1 A2 32 c2 ?_ ?_ ?_); rfl; rfl)
  obtain ⟨v2, ev⟩ : ∃ v, v = set6 (v1.alloc Zg) v1.heap.size X A1 32 c1 A2 32 c2 := ⟨_, rfl⟩
  obtain ⟨g4, eg⟩ : ∃ g, g = v1.heap.size := ⟨_, rfl⟩
  rw [← ev] at r2 hb o4 ⊢
  rw [← eg] at o4 ⊢
  clear ev eg on0
  have H2 := Lib.hid r2
  have HC := Lib.hid hb
  obtain ⟨t4, t5⟩ := o4.two
  clear r2 hb o4
  go_wp2_with fail
  go_returns
  exact ⟨_, _, rfl, H2.out, HC.out⟩
 ·obtain ⟨p1, p3⟩ := pubL_no h32
  rw [p1, p3]
  have KG := Lib.hid (grow_no (A := A) (c := c) h32 w)
  obtain ⟨n, hn⟩ : ∃ n, n = seed.length := ⟨_, rfl⟩
  rw [← hn] at KG ⊢
  clear hn h32 hr hG p1 p3
  go_enter Tryz.func7, Tryz.ntmps7
  go_wp2_with fail
  go_at_call 14
  refine KG.out.mono ?_
  rintro e v1 ⟨rfl, hb⟩
  go_wp2_with fail
  go_returns
  exact ⟨none, 0, rfl, rd_nil9 _ _, hb.alloc hb.size _⟩
end
end
section
open Go Go.RowKit
set_option maxRecDepth 20000
theorem dig3_any {A A' A3 : Option Addr} {n m l c c' c3 : Nat} {xs ys zs : List UInt8} (hx : xs.length = n) (hy : ys.length = m) (hz : zs.length = l) (hl : n + m + l ≤ 1048576) (w v : World) (hv : v = w.alloc (.cells #[.slice A n c, .slice A' m c', .slice A3 l c3] 22)) (hG : GlbS w) (h1 : Rd w w.heap.size A c xs) (h2 : Rd w w.heap.size A' c' ys) (h3 : Rd w w.heap.size A3 c3 zs) :
  Calls Tryz.prog 17 #[.slice (some ⟨w.heap.size, 0, none⟩) 3 3] v fun e w' => e = .returned (nv (lefN (xs ++ ys ++ zs))) ∧ Below v.heap.size v w' := by
 subst hv
 have hb := (Below.refl w.heap.size w).alloc (Nat.le_refl _) (.cells #[.slice A n c, .slice A' m c', .slice A3 l c3] 22)
 have h := digest_any (n := 3) (L := [xs, ys, zs]) rfl (by decide) (by rw [join3, List.length_append, List.length_append]; omega) _ (hG.next hb) (rds3 hx hy hz h1 h2 h3) (Nat.le_refl _)
 rwa [join3] at h
theorem num_any {r : Nat} (hr : r < LB) (w : World) : Calls Tryz.prog 19 #[nv r] w fun e w' => e = .returned (nv r) ∧ Below w.heap.size w w' := by
 have h := tnum_any (a := r) (Nat.lt_trans hr LB_W4') w
 rwa [Nat.mod_eq_of_lt (show r < LL from hr)] at h
section
attribute [local irreducible] wd by8 d16 set16w set4w set8p set6 gw gz fl rl setA t3f ivN mlN adN sbN hsh lefN clam
end
end
section
open Go Go.RowKit
set_option maxRecDepth 20000
theorem Pt.mul_succ {C : Cv} (p : Pt C) (n : Nat) : p.mul (n + 1) = (p.mul n).add p := rfl
section
attribute [local irreducible] Pt.add Pt.mul
theorem swap_add {C : Cv} (a b p q : Pt C) : (a.add b).add (p.add q) = (a.add p).add (b.add q) := by
 rw [Pt.assoc, ← Pt.assoc b p q, Pt.comm b p, Pt.assoc p b q, ← Pt.assoc a p]
theorem Pt.add_mul {C : Cv} (p q : Pt C) (n : Nat) : (p.add q).mul n = (p.mul n).add (q.mul n) := by
 induction n with
 | zero => rw [show (p.add q).mul 0 = Pt.nought C by unfold Pt.mul; rfl, show p.mul 0 = Pt.nought C by unfold Pt.mul; rfl, show q.mul 0 = Pt.nought C by unfold Pt.mul; rfl, Pt.add_nought]
 | succ n ih => rw [Pt.mul_succ, Pt.mul_succ, Pt.mul_succ, ih, swap_add]
end
theorem neg_side {C : Cv} (s r p : Pt C) (k : Nat) : s.add (p.neg.mul k) = r ↔ s = r.add (p.mul k) := by
 have h : (p.neg.mul k).add (p.mul k) = Pt.nought C := by rw [← Pt.add_mul, Pt.comm p.neg p, Pt.add_neg, Pt.mul_nought]
 constructor
 ·intro e
  rw [← e, Pt.assoc, h, Pt.add_nought]
 ·intro e
  rw [e, Pt.assoc, Pt.comm (p.mul k), h, Pt.add_nought]
theorem ptE_side (s r p : Pt E25) (k : Nat) : ptE (s.add (p.neg.mul k)) r = ptE s (r.add (p.mul k)) :=
 Bool.eq_iff_iff.2 (by rw [ptE_iff, ptE_iff]; exact neg_side s r p k)
section
attribute [local irreducible] wd
theorem built_T09 : Tryz.prog.built 60 [] = some #[.int .u64 (wd 0 0 : Int), .int .u64 (wd 0 1 : Int), .int .u64 (wd 0 2 : Int), .int .u64 (wd 0 3 : Int), .int .u64 (wd 0 0 : Int), .int .u64 (wd 0 1 : Int), .int .u64 (wd 0 2 : Int), .int .u64 (wd 0 3 : Int)] := by kernel_rfl
theorem run_T09 {o : Oper} {a : Act} (ho : o.op = .build 60 #[]) (w : World) : (execOp a.eval o).run Tryz.prog w = .ok (.value (prv 0 0)) w := by
 have hb := run_build (P := Tryz.prog) w 60 #[] _ built_T09
 unfold execOp
 simp only [ho, List.map_toArray, List.map_nil, Sem.run_bind, hb, Result.andThen_ok, Sem.run_pure]
variable {ops : Array Oper} {rest : List Oper} {a : Act} {w : World} {Q : Exit → Act → World → Prop} {dst : Option Nat} {tp : TypeId} {ps : String} {af : Array Edge} {s0 s1 : Operand}
theorem T_zero9 (h : wpList Tryz.prog ops Q rest (a.put dst (prv 0 0)) w) : wpList Tryz.prog ops Q (⟨dst, .build 60 #[], tp, ps, af, none⟩ :: rest) a w :=
 read_to (prv 0 0) rfl (run_T09 rfl w) h
theorem T_ne {ty : TypeId} {x y u v : Nat} (r : Bool) (hx : x < W4) (hy : y < W4) (hu : u < W4) (hv : v < W4) (hr : (!(decide (x = u) && decide (y = v))) = r) (h1 : a.eval s0 = prv x y) (h2 : a.eval s1 = prv u v)
  (h : wpList Tryz.prog ops Q rest (a.put dst (.bool r)) w) : wpList Tryz.prog ops Q (⟨dst, .binOp .neq 60 s0 s1 ty, tp, ps, af, none⟩ :: rest) a w :=
 read_to (.bool r) rfl (run_neT rfl h1 h2 hx hy hu hv hr w) h
end
section
attribute [local irreducible] wd by8 d16 set16w set4w set8p set6 gw gz fl rl setA t3f ivN mlN adN sbN hsh lefN clam decX decY decE ptD smlP
set_option maxHeartbeats 3200000 in
theorem ag_bad {A : Option Addr} {c : Nat} {us : List UInt8} (u32 : us.length = 32) (h : decE (vb us) ≠ 0) (w : World) (hG : Glb w) (hr : Rd w w.heap.size A c us) :
  Calls Tryz.prog 32 #[.slice A 32 c] w fun e w' => e = .returned (.tuple #[prv 0 0, .int .i64 (decE (vb us) : Int)]) ∧ Below w.heap.size w w' := by
 obtain ⟨v0, ev⟩ : ∃ v, v = w.alloc Z8p := ⟨_, rfl⟩
 have hc := bnw ev
 obtain ⟨g2, eg⟩ : ∃ g, g = w.heap.size := ⟨_, rfl⟩
 have o2 : O8 v0 w.heap.size g2 0 0 := by rw [eg, ev]; exact O8.newz (Nat.le_refl _)
 have kd := cDecode_any u32 v0 ((hr.keep hc).mono hc.size) (hG.next hc)
 obtain ⟨x, hx⟩ : ∃ x, x = decX (vb us) := ⟨_, rfl⟩
 obtain ⟨y, hy⟩ : ∃ x, x = decY (vb us) := ⟨_, rfl⟩
 obtain ⟨E, hE⟩ : ∃ x, x = decE (vb us) := ⟨_, rfl⟩
 rw [← hx, ← hy, ← hE] at kd
 rw [← hE] at h ⊢
 have KD := Lib.hid kd
 have q1 : ((E : Int) == 0) = false := beq_eq_false_iff_ne.2 (by omega)
 have q2 : ((E : Int) != 0) = true := by simp; omega
 clear kd hx hy hE h hr hG u32
 go_enter Tryz.func32, Tryz.ntmps32
 go_upto_region 1 with fail
 rw [← ev]
 rw [show Value.pointer (some ⟨w.heap.size, 0, none⟩) = .pointer (some ⟨g2, 0, none⟩) by rw [eg]]
 clear ev eg
 go_wp2_with fail
 go_at_call 33
 refine KD.out.mono ?_
 rintro e v1 ⟨rfl, hb⟩
 replace o2 := O8.keep o2 hb
 replace hc := bnx hc hb
 clear hb KD
 have on0 := O8.newz (w := v1) (B := v1.heap.size) (Nat.le_refl _)
 have hbz := ((Below.refl _ v1).alloc (Nat.le_refl _) Z8p).trans (on0.below x y)
 replace o2 := O8.keep o2 hbz
 replace hc := bnx hc hbz
 clear hbz
 go_upto_region 2 with ((with_reducible refine p_store on0 x y ?_ ?_ ?_); rfl; rfl)
 obtain ⟨v2, ev⟩ : ∃ v, v = set8p (v1.alloc Z8p) v1.heap.size x y := ⟨_, rfl⟩
 obtain ⟨g4, eg⟩ : ∃ g, g = v1.heap.size := ⟨_, rfl⟩
 rw [← ev] at o2 hc ⊢
 rw [← eg]
 clear ev eg on0
 have HR := Lib.hid (o2.put 0 0)
 have HC := Lib.hid (hc.trans (o2.below 0 0))
 go_wp2_with (first | (with_reducible refine T_zero9 ?_) | ((with_reducible refine p_store o2 0 0 ?_ ?_ ?_); rfl; rfl))
 exact bodyPost_ret (pres2 Tryz.results32 _ HR.out rfl rfl) rfl ⟨rfl, HC.out⟩
set_option maxHeartbeats 6400000 in
theorem ag_pt {A : Option Addr} {c : Nat} {us : List UInt8} {s : Bool} (u32 : us.length = 32) (h : decE (vb us) = 0) (hs : smlP (ptD (vb us)) = s) (w : World) (hG : G9w w) (hr : Rd w w.heap.size A c us) :
  Calls Tryz.prog 32 #[.slice A 32 c] w fun e w' => e = .returned (.tuple #[if s then prv 0 0 else prv (ptD (vb us)).neg.x.val (ptD (vb us)).neg.y.val, .int .i64 (if s then 7 else 0)]) ∧ Below w.heap.size w w' := by
 obtain ⟨v0, ev⟩ : ∃ v, v = w.alloc Z8p := ⟨_, rfl⟩
 have hc := bnw ev
 obtain ⟨g2, eg⟩ : ∃ g, g = w.heap.size := ⟨_, rfl⟩
 have o2 : O8 v0 w.heap.size g2 0 0 := by rw [eg, ev]; exact O8.newz (Nat.le_refl _)
 have HG := Lib.hid (g9n _ _ hG hc)
 have kd := cDecode_any u32 v0 ((hr.keep hc).mono hc.size) HG.out.2.1
 obtain ⟨P, hP⟩ : ∃ x, x = ptD (vb us) := ⟨_, rfl⟩
 obtain ⟨dx, dy, -⟩ := dec_pt h (vb_top u32).2
 rw [dx, dy, h, ← hP] at kd
 rw [← hP] at hs ⊢
 have ks := fun w hG => cSmall_pt P w hG
 unfold smlP at hs
 rw [hs] at ks
 have kn := cNeg_pt P
 obtain ⟨x, hx⟩ : ∃ x, x = P.x.val := ⟨_, rfl⟩
 obtain ⟨y, hy⟩ : ∃ x, x = P.y.val := ⟨_, rfl⟩
 obtain ⟨x1, hx1⟩ : ∃ x, x = P.neg.x.val := ⟨_, rfl⟩
 obtain ⟨y1, hy1⟩ : ∃ x, x = P.neg.y.val := ⟨_, rfl⟩
 rw [← hx, ← hy] at kd ks kn
 rw [← hx1, ← hy1] at kn ⊢
 have KD := Lib.hid kd
 have KS := Lib.hid ks
 have KN := Lib.hid kn
 clear kd hx hy hx1 hy1 h hr hG u32 dx dy hP hs ks kn
 go_enter Tryz.func32, Tryz.ntmps32
 go_upto_region 1 with fail
 rw [← ev]
 rw [show Value.pointer (some ⟨w.heap.size, 0, none⟩) = .pointer (some ⟨g2, 0, none⟩) by rw [eg]]
 clear ev eg
 go_wp2_with fail
 go_at_call 33
 refine KD.out.mono ?_
 rintro e v1 ⟨rfl, hb⟩
 replace o2 := O8.keep o2 hb
 replace hc := bnx hc hb
 replace HG := Lib.hid (g9n _ _ HG.out hb)
 clear hb KD
 have on0 := O8.newz (w := v1) (B := v1.heap.size) (Nat.le_refl _)
 have o4 := (on0.put x y).mono hc.size
 have hbz := ((Below.refl _ v1).alloc (Nat.le_refl _) Z8p).trans (on0.below x y)
 replace o2 := O8.keep o2 hbz
 replace hc := bnx hc hbz
 replace HG := Lib.hid (g9n _ _ HG.out hbz)
 clear hbz
 go_upto_region 2 with ((with_reducible refine p_store on0 x y ?_ ?_ ?_); rfl; rfl)
 obtain ⟨v2, ev⟩ : ∃ v, v = set8p (v1.alloc Z8p) v1.heap.size x y := ⟨_, rfl⟩
 obtain ⟨g4, eg⟩ : ∃ g, g = v1.heap.size := ⟨_, rfl⟩
 rw [← ev] at o2 o4 hc HG ⊢
 rw [← eg] at o4 ⊢
 clear ev eg on0
 refine wp_region_obs 6 [12, 13, 14, 15, 16, 17] [.val (.int .i64 0), .val (.bool true), .val (.bool true), .val (prv x y), .val (.bool s), .val (.bool s)] (fun wz => Below v2.heap.size v2 wz) (by kernel_rfl) (fun wz wz' hz hb => bnx hz hb) (Below.refl _ _) (fun u => by simp only [puts, List.foldl_cons, List.foldl_nil]; go_simp; exact rfl) ?_ ?_
 ·simp only [List.take_succ_cons, List.take_zero]
  refine .cons (fun u w hS hd => ?_) ?_
  ·exact Gv.run (.int .i64 0) rfl (by go_simp) rfl
  refine .cons (fun u w hS hd => ?_) ?_
  ·have d12 : u 12 = .int .i64 0 := hd 0 (by decide)
   rw [d12]
   exact Gv.run (.bool true) rfl (by go_simp) rfl
  refine .cons (fun u w hS hd => ?_) ?_
  ·have d13 : u 13 = .bool true := hd 1 (by decide)
   rw [d13]
   exact Gv.run (.bool true) rfl (by go_simp) rfl
  refine .cons (fun u w hS hd => ?_) ?_
  ·have d14 : u 14 = .bool true := hd 2 (by decide)
   rw [d14]
   exact Gv.run (prv x y) (by rfl) (run_pload rfl rfl (O8.keep o4 hS)) rfl
  refine .cons (fun u w hS hd => ?_) ?_
  ·have d14 : u 14 = .bool true := hd 2 (by decide)
   rw [d14]
   have d15 : u 15 = prv x y := hd 3 (by decide)
   rw [d15]
   refine Gv.call 64 #[prv x y] (by rfl) (by go_simp) ((KS.out w (g9n _ _ HG.out hS).1).mono ?_)
   rintro e w' ⟨rfl, hb⟩
   exact ⟨_, rfl, rfl, hb⟩
  refine .cons (fun u w hS hd => ?_) ?_
  ·have d14 : u 14 = .bool true := hd 2 (by decide)
   rw [d14]
   have d16 : u 16 = .bool s := hd 4 (by decide)
   rw [d16]
   exact Gv.run (.bool s) rfl (by go_simp) rfl
  exact ObsS.nil
 intro u3 v3 hS hd
 have d17 : u3 17 = .bool s := hd 5 (by decide)
 rw [d17]
 replace o2 := O8.keep o2 hS
 replace o4 := O8.keep o4 hS
 replace hc := bnx hc hS
 clear hS hd d17 HG KS
 simp only [List.drop_succ_cons, List.drop_zero]
 cases s
 case true =>
  have HR := Lib.hid (o2.put 0 0)
  have HC := Lib.hid (hc.trans (o2.below 0 0))
  go_wp2_with (first | (with_reducible refine T_zero9 ?_) | ((with_reducible refine p_store o2 0 0 ?_ ?_ ?_); rfl; rfl))
  exact bodyPost_ret (pres2 Tryz.results32 _ HR.out rfl rfl) rfl ⟨rfl, HC.out⟩
 case false =>
  go_wp2_with ((with_reducible refine p_load o4 ?_ ?_); rfl)
  go_at_call 65
  refine (KN.out _).mono ?_
  rintro e v4 ⟨rfl, hb⟩
  replace o2 := O8.keep o2 hb
  replace hc := bnx hc hb
  have HR := Lib.hid (o2.put x1 y1)
  have HC := Lib.hid (hc.trans (o2.below x1 y1))
  clear hb KN o4
  go_wp2_with ((with_reducible refine p_store o2 x1 y1 ?_ ?_ ?_); rfl; rfl)
  exact bodyPost_ret (pres2 Tryz.results32 _ HR.out rfl rfl) rfl ⟨rfl, HC.out⟩
end
end
end Go.Proofs.YtkbkalhcdbklkaaGreatDoor
