/-
  The code's functions of layer 8 in numbers and points. By an AI agent. The code's across, Encode, Decode of layer 8 in numbers. By an AI agent.
-/
import Derived.Test.YtgaofocjnifjdaaDoorU9
import Derived.Test.YtgaofocjnifjdaaDoorJ16
import Derived.Test.YtgaofocjnifjdaaDoorJ16
namespace Go.Proofs.YtgaofocjnifjdaaDoor
open Go Go.RowKit
section
attribute [local irreducible] wd by8 d16 set16w fl rl setA sf taf set8p set4w t3f ivN mlN adN sbN
theorem cOn_any {x y : Nat} (hx : x < W4) (hy : y < W4) (w : World) : Calls Tryd.prog 42 #[prv x y] w fun e w' => e = .returned (.bool (okN x y)) ∧ Below w.heap.size w w' := by
  have rx := fun w => right_any hx w
  have ry := fun w => right_any hy w
  unfold okN
  by_cases h1 : x < P25
  · rw [decide_eq_true h1] at rx ⊢
    by_cases h2 : y < P25
    · rw [decide_eq_true h2] at ry ⊢
      exact cOn_c (b := onN x y) (ltW (sbN_lt _ _)) (ltW (adN_lt _ _)) rfl rx ry (fun w => cMul h1 h1 w) (fun w => cMul h2 h2 w) (fun w => cSub (mlN_lt _ _) (mlN_lt _ _) w) cD_any (fun w => cMul (mlN_lt _ _) (mlN_lt _ _) w) (fun w => cMul ed_lt (mlN_lt _ _) w) (fun w => cAdd P25_one (mlN_lt _ _) w) w
    · rw [decide_eq_false h2] at ry ⊢
      exact cOn_b rx ry w
  · rw [decide_eq_false h1] at rx ⊢
    exact cOn_a rx w
/-! Points as such: their two numbers. -/
theorem pt_ok (p : Pt E25) : okN p.x.val p.y.val = true := by
  unfold okN
  rw [pt_on p, decide_eq_true p.x.isLt, decide_eq_true p.y.isLt]
  rfl
theorem xW (p : Pt E25) : p.x.val < W4 := ltW p.x.isLt
theorem yW (p : Pt E25) : p.y.val < W4 := ltW p.y.isLt
theorem cOn_pt (p : Pt E25) (w : World) : Calls Tryd.prog 42 #[prv p.x.val p.y.val] w fun e w' => e = .returned (.bool true) ∧ Below w.heap.size w w' := by
  have h := cOn_any (xW p) (yW p) w
  rwa [pt_ok] at h
/-- A point as a spot. -/
def Sp.lift (p : Pt E25) : Sp := Sp.up p.x.val p.y.val
theorem Sp.lift_ok (p : Pt E25) : (Sp.lift p).ok := Sp.up_ok p.x.isLt p.y.isLt
theorem Sp.lift_of (p : Pt E25) : (Sp.lift p).of p := by
  have h := Sp.up_of (pt_on p)
  rwa [pt_self] at h
theorem nought_xy : (Pt.nought E25).x.val = 0 ∧ (Pt.nought E25).y.val = 1 := ⟨rfl, Nat.mod_eq_of_lt P25_one⟩
theorem cLift (p : Pt E25) (w : World) : Calls Tryd.prog 43 #[prv p.x.val p.y.val] w fun e w' => e = .returned (sv (Sp.lift p)) ∧ Below w.heap.size w w' :=
  lift_gen (fun w => cMul p.x.isLt p.y.isLt w) w
theorem cSum {s t : Sp} (hs : s.ok) (ht : t.ok) (w : World) (hG : G8 w) : Calls Tryd.prog 44 #[sv s, sv t] w fun e w' => e = .returned (sv (Sp.plus s t)) ∧ Below w.heap.size w w' := by
  obtain ⟨s1, s2, s3, s4⟩ := hs
  obtain ⟨t1, t2, t3, t4⟩ := ht
  exact add_gen (fun w => cSub s2 s1 w) (fun w => cSub t2 t1 w) (fun w => cMul (sbN_lt _ _) (sbN_lt _ _) w) (fun w => cAdd s2 s1 w) (fun w => cAdd t2 t1 w) (fun w => cMul (adN_lt _ _) (adN_lt _ _) w)
    (fun w => cAdd s3 s3 w) (fun w => cMul (adN_lt _ _) t3 w) (fun w => cMul s4 t4 w) (fun w => cMul (mlN_lt _ _) ed2_lt w) (fun w => cSub (mlN_lt _ _) (mlN_lt _ _) w) (fun w => cAdd (mlN_lt _ _) (mlN_lt _ _) w) (fun w => cAdd (mlN_lt _ _) (mlN_lt _ _) w) (fun w => cSub (mlN_lt _ _) (mlN_lt _ _) w)
    (fun w => cMul (sbN_lt _ _) (sbN_lt _ _) w) (fun w => cMul (adN_lt _ _) (adN_lt _ _) w) (fun w => cMul (adN_lt _ _) (sbN_lt _ _) w) (fun w => cMul (sbN_lt _ _) (adN_lt _ _) w) w hG
theorem cFlat {s : Sp} {p : Pt E25} (hs : s.ok) (h : s.of p) (w : World) : Calls Tryd.prog 47 #[sv s] w fun e w' => e = .returned (prv p.x.val p.y.val) ∧ Below w.heap.size w w' := by
  have h2 := Sp.down hs h
  have h1 := flat_gen (s := s) (fun w => cInv hs.2.2.1 w) (fun w => cMul hs.1 (ivN_lt _) w) (fun w => cMul hs.2.1 (ivN_lt _) w) w
  rwa [h2.1, h2.2] at h1
theorem cPick {i : Nat} (hi : i < 2) (p q : Sp) (w : World) : Calls Tryd.prog 63 #[.int .u64 (i : Int), sv p, sv q] w fun e w' => e = .returned (sv (if i = 0 then p else q)) ∧ Below w.heap.size w w' := by
  refine pick_gen (fun w => ?_) (fun w => ?_) (fun w => ?_) (fun w => ?_) w
  · have h := pick_any i p.x q.x (by omega) w
    by_cases h0 : i = 0
    · rw [if_pos h0] at h ⊢; exact h
    · rw [if_neg h0] at h ⊢; exact h
  · have h := pick_any i p.y q.y (by omega) w
    by_cases h0 : i = 0
    · rw [if_pos h0] at h ⊢; exact h
    · rw [if_neg h0] at h ⊢; exact h
  · have h := pick_any i p.z q.z (by omega) w
    by_cases h0 : i = 0
    · rw [if_pos h0] at h ⊢; exact h
    · rw [if_neg h0] at h ⊢; exact h
  · have h := pick_any i p.t q.t (by omega) w
    by_cases h0 : i = 0
    · rw [if_pos h0] at h ⊢; exact h
    · rw [if_neg h0] at h ⊢; exact h
theorem cPut {B g i j : Nat} {s n f h b : Sp} (hs : s.ok) (hn : n.ok) (hf : f.ok) (hh : h.ok) (hb : b.ok) (hi : i < 2) (hj : j < 2) (w : World) (hG : G8 w) (hT : OTa w B g ⟨s, n, f, h, b⟩) :
    Calls Tryd.prog 46 #[.pointer (some ⟨g, 0, none⟩), .int .u64 (i : Int), .int .u64 (j : Int)] w fun e w' => e = .returned (.tuple #[]) ∧ OTa w' B g ⟨Sp.plus (Sp.plus s s) (if j = 0 then (if i = 0 then n else f) else (if i = 0 then h else b)), n, f, h, b⟩ ∧ Oth B g w w' :=
  put_gen (t := ⟨s, n, f, h, b⟩) (fun w => cPick hi n f w) (fun w => cPick hi h b w) (fun w => cPick hj _ _ w) (fun w hG => cSum hs hs w hG)
    (fun w hG => cSum (Sp.plus_ok _ _) (by split <;> split <;> assumption) w hG) w hG hT
theorem cBoth_pt {i j : Nat} (hi : i < W4) (hj : j < W4) (p q : Pt E25) (w : World) (hG : G8 w) : Calls Tryd.prog 22 #[nv i, prv p.x.val p.y.val, nv j, prv q.x.val q.y.val] w fun e w' => e = .returned (.tuple #[prv ((p.mul i).add (q.mul j)).x.val ((p.mul i).add (q.mul j)).y.val, .int .i64 0]) ∧ Below w.heap.size w w' := by
  have hn := fun w => cLift (Pt.nought E25) w
  rw [nought_xy.1, nought_xy.2] at hn
  have k0 := Sp.lift_ok (Pt.nought E25)
  have k1 := Sp.lift_ok p
  have k2 := Sp.lift_ok q
  have k3 := Sp.plus_ok (Sp.lift p) (Sp.lift q)
  have h4 : (⟨Sp.lift (Pt.nought E25), Sp.lift (Pt.nought E25), Sp.lift p, Sp.lift q, Sp.plus (Sp.lift p) (Sp.lift q)⟩ : Ta).of4 p q := ⟨k0, k1, k2, k3, Sp.lift_of _, Sp.lift_of _, Sp.lift_of _, Sp.plus_of k1 k2 (Sp.lift_of _) (Sp.lift_of _)⟩
  exact cBoth_c (Sx := fun s => s.ok ∧ s.of ((p.mul i).add (q.mul j))) (cOn_pt p) (cOn_pt q) hn (cLift p) (cLift q) (fun w hG => cSum k1 k2 w hG)
    (fun B g v hv hT => each_any hi hj h4 k0 (Sp.lift_of _) v hv hT (fun s m n w hs hm hn hG hT => cPut hs k0 k1 k2 k3 hm hn w hG hT))
    (fun s hs w => cFlat hs.1 hs.2 w) w hG
theorem cMult_pt {i : Nat} (hi : i < W4) (p : Pt E25) (w : World) (hG : G8 w) : Calls Tryd.prog 28 #[nv i, prv p.x.val p.y.val] w fun e w' => e = .returned (.tuple #[prv (p.mul i).x.val (p.mul i).y.val, .int .i64 0]) ∧ Below w.heap.size w w' := by
  refine cMult_gen (fun w hG => ?_) w hG
  have h := cBoth_pt hi W4_pos p (Pt.nought E25) w hG
  rw [nought_xy.1, nought_xy.2, show (Pt.nought E25).mul 0 = Pt.nought E25 from rfl, Pt.add_nought, nv_small (x := 0) (by decide)] at h
  exact h
theorem neg_val (x : Fp) : (P25 - x.val) % P25 = (-x).val := rfl
theorem cNeg_pt (p : Pt E25) (w : World) : Calls Tryd.prog 37 #[prv p.x.val p.y.val] w fun e w' => e = .returned (.tuple #[prv p.neg.x.val p.neg.y.val, .int .i64 0]) ∧ Below w.heap.size w w' := by
  refine cNeg_b (cOn_pt p) (fun w => ?_) w
  have h := cNeg p.x.isLt w
  rw [neg_val] at h
  exact h
/-- Doubled so often. -/
def Sp.dbl (s : Sp) : Nat → Sp
  | 0 => s
  | k + 1 => Sp.plus (s.dbl k) (s.dbl k)
theorem Sp.dbl_ok {s : Sp} (hs : s.ok) : ∀ k, (s.dbl k).ok
  | 0 => hs
  | _ + 1 => Sp.plus_ok _ _
theorem Sp.dbl_of {s : Sp} {p : Pt E25} (hs : s.ok) (h : s.of p) : ∀ k, (s.dbl k).of (p.mul (2 ^ k))
  | 0 => by rw [Nat.pow_zero, Pt.mul_one]; exact h
  | k + 1 => by
    have h1 := Sp.plus_of (Sp.dbl_ok hs k) (Sp.dbl_ok hs k) (Sp.dbl_of hs h k) (Sp.dbl_of hs h k)
    rw [← Pt.mul_two, Nat.mul_comm, ← Nat.pow_succ] at h1
    exact h1
theorem cSmall_pt (p : Pt E25) (w : World) (hG : G8 w) : Calls Tryd.prog 36 #[prv p.x.val p.y.val] w fun e w' => e = .returned (.bool (decide ((p.mul 8).x.val = 0) && decide ((p.mul 8).y.val = 1))) ∧ Below w.heap.size w w' :=
  cSmall_b (r := (Sp.lift p).dbl) (xW (p.mul 8)) (yW (p.mul 8)) rfl (cOn_pt p) (cLift p) (fun w => cFlat (Sp.dbl_ok (Sp.lift_ok p) 3) (Sp.dbl_of (Sp.lift_ok p) (Sp.lift_of p) 3) w)
    (fun k _ w hG => cSum (Sp.dbl_ok (Sp.lift_ok p) k) (Sp.dbl_ok (Sp.lift_ok p) k) w hG) w hG
end
end Go.Proofs.YtgaofocjnifjdaaDoor
namespace Go.Proofs.YtgaofocjnifjdaaDoor
open Go Go.RowKit
theorem H25_2 : H25 = 2 ^ 255 := by decide +kernel
theorem H25_pos : 0 < H25 := by decide +kernel
/-- A number's highest word, its highest bit apart. -/
theorem top_word {y b : Nat} (hy : y < H25) (hb : b < 2) : (∀ k, k < 3 → wd (y + H25 * b) k = wd y k) ∧ wd (y + H25 * b) 3 = wd y 3 + 9223372036854775808 * b ∧ wd y 3 < 9223372036854775808 := by
  have hz : y + H25 * b < W4 := by
    rw [H25_eq, Nat.mul_comm 2]
    rcases (show b = 0 ∨ b = 1 by omega) with rfl | rfl <;> omega
  have e1 : (y + H25 * b) % H25 = y := by rw [Nat.add_mul_mod_self_left, Nat.mod_eq_of_lt hy]
  have e2 : (y + H25 * b) / H25 = b := by rw [Nat.add_mul_div_left _ _ H25_pos, Nat.div_eq_of_lt hy, Nat.zero_add]
  have h1 := wd_top hz
  have h2 := top_bit hz
  rw [e1] at h1
  rw [e2] at h2
  refine ⟨fun k hk => ?_, ?_, ?_⟩
  · have h := wd_low (a := y + H25 * b) hk
    rw [e1] at h
    exact h.symm
  · omega
  · omega
theorem or_top {a b : Nat} (ha : a < 9223372036854775808) (hb : b < 2) : bits .or .u64 (a : Int) ((9223372036854775808 * b : Nat) : Int) = ((a + 9223372036854775808 * b : Nat) : Int) := by
  rw [bits_or_u64_nat _ _ (by omega) (by omega)]
  have h := Nat.two_pow_add_eq_or_of_lt (i := 63) (b := a) (by omega) b
  rw [show (2 : Nat) ^ 63 = 9223372036854775808 from rfl] at h
  rw [Nat.or_comm, ← h, Nat.add_comm]
theorem bt_low (x : Nat) : bt x 0 = x % 2 := by unfold bt; rw [Nat.pow_zero, Nat.div_one]
theorem cEncode_pt (p : Pt E25) (w : World) : Calls Tryd.prog 29 #[prv p.x.val p.y.val] w fun e w' => ∃ A c, e = .returned (.tuple #[.slice A 32 c, .int .i64 0]) ∧ Own w' w.heap.size 5 A c (encN p.x.val p.y.val) ∧ Below w.heap.size w w' := by
  have hy : p.y.val < H25 := by rw [H25_2]; exact Nat.lt_trans p.y.isLt P25_half
  have k2 := fun w => bit_in p.x.val 0 (by decide) w
  have kO := fun w => cOn_pt p w
  unfold encN
  rw [← H25_2, ← bt_low]
  have hb : bt p.x.val 0 < 2 := by rw [bt_low]; omega
  have kb := fun w => bytes_any (p.y.val + H25 * bt p.x.val 0) w
  obtain ⟨z1, z2, z3⟩ := top_word hy hb
  have ho := or_top z3 hb
  rw [← z2] at ho
  rcases (show bt p.x.val 0 = 0 ∨ bt p.x.val 0 = 1 by omega) with e | e
  · rw [e] at k2 kb z1 ho ⊢
    exact cEncode_b0 ho z1 kO k2 kb w
  · rw [e] at k2 kb z1 ho ⊢
    exact cEncode_b1 ho z1 kO k2 kb w
section
attribute [local irreducible] wd by8 d16 set16w fl rl setA sf taf set8p set4w t3f ivN
theorem adN_comm (x y : Nat) : adN x y = adN y x := by unfold adN; rw [Nat.add_comm]
theorem cAcross {y : Nat} (hy : y < P25) (w : World) (hG : Glb w) : Calls Tryd.prog 40 #[nv y] w fun e w' => e = .returned (.tuple #[nv (rtr (uN y)), .bool (decide (rtq (uN y) = 1))]) ∧ Below w.heap.size w w' := by
  have k7 := fun w => cMul (sbN_lt (mlN y y) 1) (ivN_lt (adN (mlN ed (mlN y y)) 1)) w
  rw [adN_comm, ← uN_is] at k7
  have k6 := fun w => cInv (adN_lt (mlN ed (mlN y y)) 1) w
  rw [adN_comm] at k6
  have k5 := fun w => cAdd (mlN_lt ed (mlN y y)) P25_one w
  rw [adN_comm] at k5
  have k8 : ∀ w, Glb w → Calls Tryd.prog 61 #[nv (uN y)] w fun e w' => e = .returned (.tuple #[nv (rtr (uN y)), .bool (decide (rtq (uN y) = 1))]) ∧ Below w.heap.size w w' := fun w hG => by
    have h := froot_any (ltW (uN_lt y)) w hG
    rwa [Nat.mod_eq_of_lt (uN_lt y)] at h
  exact across_gen (fun w => cMul hy hy w) (fun w => cSub (mlN_lt _ _) P25_one w) cD_any (fun w => cMul ed_lt (mlN_lt _ _) w) k5 k6 k7 k8 w hG
end
theorem andNot_top (x : Int) : bits .andNot .u64 x 9223372036854775808 = bits .and .u64 x 9223372036854775807 := by
  show IntKind.u64.wrap ((BitVec.ofInt 64 x &&& ~~~ BitVec.ofInt 64 9223372036854775808).toNat : Int) = IntKind.u64.wrap ((BitVec.ofInt 64 x &&& BitVec.ofInt 64 9223372036854775807).toNat : Int)
  rw [show ~~~ BitVec.ofInt 64 9223372036854775808 = BitVec.ofInt 64 9223372036854775807 by decide]
theorem mod_odd {r : Nat} (hr : r < P25) (he : r % 2 = 0) : (P25 - r) % P25 < P25 ∧ (r = 0 → (P25 - r) % P25 = 0) ∧ (r ≠ 0 → (P25 - r) % P25 % 2 = 1) := by
  have ho := P_odd
  refine ⟨Nat.mod_lt _ P25_pos, fun h => by rw [h, Nat.sub_zero, Nat.mod_self], fun h => ?_⟩
  rw [Nat.mod_eq_of_lt (show P25 - r < P25 by omega)]
  omega
theorem rtr_W4 (a : Nat) : rtr a < W4 := by
  unfold rtr
  split
  · exact ltW (rt2_lt _)
  · exact W4_pos
section
attribute [local irreducible] wd by8 d16 set16w fl rl setA sf taf set8p set4w t3f ivN mlN adN sbN uN rtr rtq vk vb
theorem cDecode_num {A : Option Addr} {c z : Nat} (hz : z < W4) (w : World) (kF : ∀ v, Below w.heap.size w v → Calls Tryd.prog 26 #[.slice A 32 c] v fun e w' => e = .returned (.tuple #[nv z, .int .i64 0]) ∧ Below v.heap.size v w') (hG : Glb w) :
    Calls Tryd.prog 21 #[.slice A 32 c] w fun e w' => e = .returned (.tuple #[prv (decX z) (decY z), .int .i64 (decE z : Int)]) ∧ Below w.heap.size w w' := by
  have hb2 : z / 2 ^ 255 < 2 := by rw [← H25_2]; exact Nat.div_lt_of_lt_mul (by rw [Nat.mul_comm, ← H25_eq]; exact hz)
  have kB := fun w => bit_in z 255 (by decide) w
  rw [show bt z 255 = z / 2 ^ 255 by unfold bt; exact Nat.mod_eq_of_lt hb2] at kB
  have han : bits .andNot .u64 (wd z 3 : Int) 9223372036854775808 = (wd (z % 2 ^ 255) 3 : Int) := by rw [andNot_top, and_top (wd_lt _ _), ← wd_top hz, H25_2]
  have h3 : ∀ k, k < 3 → wd (z % 2 ^ 255) k = wd z k := fun k hk => by rw [← H25_2]; exact wd_low hk
  have hyW : z % 2 ^ 255 < W4 := Nat.lt_of_le_of_lt (Nat.mod_le _ _) hz
  have kR := fun w => right_any hyW w
  unfold decX decY decE
  generalize z / 2 ^ 255 = o at *
  generalize z % 2 ^ 255 = y at *
  by_cases hy : y < P25
  · rw [decide_eq_true hy] at kR
    rw [if_pos hy]
    have kA := fun w hG => cAcross hy w hG
    have hw : wokN y o = (decide (rtq (uN y) = 1) && !(decide (rtr (uN y) = 0) && decide (o = 1))) := rfl
    have hx : wxN y o = if o = 1 then (P25 - rtr (uN y)) % P25 else rtr (uN y) := rfl
    by_cases hq : rtq (uN y) = 1
    · rw [decide_eq_true hq] at kA hw
      have hs := rtr_sq ((rtq_iff _).1 hq)
      have hr : rtr (uN y) < P25 := by rw [hs]; exact rt2_lt _
      have he : rtr (uN y) % 2 = 0 := by rw [hs]; exact rt2_even _
      generalize rtr (uN y) = r at *
      obtain ⟨m1, m2, m3⟩ := mod_odd hr he
      rcases (show o = 0 ∨ o = 1 by omega) with rfl | rfl
      · have kb := fun w => bit_in r 0 (by decide) w
        rw [bt_low, he] at kb
        have ht : wokN y 0 = true := by rw [hw]; simp
        rw [ht, hx, if_pos rfl, if_pos rfl, if_pos rfl, if_neg (by decide)]
        exact cDecode_y00 w han h3 kB kR kb kF kA hG
      · have kN := fun w => cNeg hr w
        have kb := fun w => bit_in ((P25 - r) % P25) 0 (by decide) w
        rw [bt_low] at kb
        by_cases h0 : r = 0
        · rw [m2 h0] at kb kN
          have ht : wokN y 1 = false := by rw [hw]; simp [h0]
          rw [ht, if_neg (by decide), if_neg (by decide), if_neg (by decide)]
          exact cDecode_y10 w han h3 kB kR kN kb kF kA hG
        · rw [m3 h0] at kb
          have ht : wokN y 1 = true := by rw [hw]; simp [h0]
          rw [ht, hx, if_pos rfl, if_pos rfl, if_pos rfl, if_pos rfl]
          exact cDecode_y11 w han h3 kB kR kN kb kF kA hG
    · rw [decide_eq_false hq] at kA hw
      have ht : wokN y o = false := by rw [hw]; rfl
      rw [ht, if_neg (by decide), if_neg (by decide), if_neg (by decide)]
      rcases (show o = 0 ∨ o = 1 by omega) with rfl | rfl
      · exact cDecode_n0 w han h3 kB kR kF kA hG
      · refine cDecode_n1 (s := fsub 0 (rtr (uN y))) w han h3 kB kR (fun w => fneg_any ?_ w) kF kA hG
        exact rtr_W4 _
  · rw [decide_eq_false hy] at kR
    rw [if_neg hy, if_neg (by decide), if_neg (by decide)]
    rcases (show o = 0 ∨ o = 1 by omega) with rfl | rfl
    · exact cDecode_r0 w han h3 kB kR kF
    · exact cDecode_r1 w han h3 kB kR kF
theorem cDecode_any {A : Option Addr} {c : Nat} {us : List UInt8} (u32 : us.length = 32) (w : World) (hr : Rd w w.heap.size A c us) (hG : Glb w) :
    Calls Tryd.prog 21 #[.slice A 32 c] w fun e w' => e = .returned (.tuple #[prv (decX (vb us)) (decY (vb us)), .int .i64 (decE (vb us) : Int)]) ∧ Below w.heap.size w w' :=
  cDecode_num (vb_lt u32) w (fun v hv => by
    have h := from_good v (hr.keep hv) hv.size (Nat.le_of_eq u32)
    rwa [u32] at h) hG
end
end Go.Proofs.YtgaofocjnifjdaaDoor
