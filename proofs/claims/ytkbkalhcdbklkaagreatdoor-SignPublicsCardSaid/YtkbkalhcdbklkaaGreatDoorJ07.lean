/-
  The numbers of layer 6, written out. By an AI agent. The code's functions of layer 8 in numbers and points. By an AI agent. The code's across, Encode, Decode of layer 8 in numbers. By an AI agent. The code's digest and times (layer 9). By an AI agent. The code's grow and Public (layer 9). By an AI agent. From what the row says of the listed variables (the tables of SHA-512, the root of -1, the curve's constants) to what the walks ask. Written by tools/gen_tab9.py. By an AI agent. Layer 9's SignPublics of the code as it landed. By an AI agent. The code's Sign (layer 9). By an AI agent. Layer 9's SignSigns of the code as it landed. By an AI agent.
-/
import Derived.Test.YtkbkalhcdbklkaaGreatDoorN13
import Derived.Test.YtkbkalhcdbklkaaGreatDoorU9
import Derived.Test.YtkbkalhcdbklkaaGreatDoorJ13
import Derived.Test.YtkbkalhcdbklkaaGreatDoorJ15
import Derived.Test.YtkbkalhcdbklkaaGreatDoorJ19
import Derived.Test.YtkbkalhcdbklkaaGreatDoorJ19
import Derived.Test.YtkbkalhcdbklkaaGreatDoorJ15
import Derived.Test.YtkbkalhcdbklkaaGreatDoorJ11
import Derived.Test.YtkbkalhcdbklkaaGreatDoorJ16
import Derived.Lib.LaidTab
import Derived.ChangeSame
import Derived.Test.YtkbkalhcdbklkaaGreatDoorJ16
namespace Go.Proofs.YtkbkalhcdbklkaaGreatDoor
def k256 : List Nat := [0x428a2f98, 0x71374491, 0xb5c0fbcf, 0xe9b5dba5, 0x3956c25b, 0x59f111f1, 0x923f82a4, 0xab1c5ed5, 0xd807aa98, 0x12835b01, 0x243185be, 0x550c7dc3, 0x72be5d74, 0x80deb1fe, 0x9bdc06a7, 0xc19bf174, 0xe49b69c1, 0xefbe4786, 0xfc19dc6, 0x240ca1cc, 0x2de92c6f, 0x4a7484aa, 0x5cb0a9dc, 0x76f988da, 0x983e5152, 0xa831c66d, 0xb00327c8, 0xbf597fc7, 0xc6e00bf3, 0xd5a79147, 0x6ca6351, 0x14292967, 0x27b70a85, 0x2e1b2138, 0x4d2c6dfc, 0x53380d13, 0x650a7354, 0x766a0abb, 0x81c2c92e, 0x92722c85, 0xa2bfe8a1, 0xa81a664b, 0xc24b8b70, 0xc76c51a3, 0xd192e819, 0xd6990624, 0xf40e3585, 0x106aa070, 0x19a4c116, 0x1e376c08, 0x2748774c, 0x34b0bcb5, 0x391c0cb3, 0x4ed8aa4a, 0x5b9cca4f, 0x682e6ff3, 0x748f82ee, 0x78a5636f, 0x84c87814, 0x8cc70208, 0x90befffa, 0xa4506ceb, 0xbef9a3f7, 0xc67178f2]
def h256 : List Nat := [0x6a09e667, 0xbb67ae85, 0x3c6ef372, 0xa54ff53a, 0x510e527f, 0x9b05688c, 0x1f83d9ab, 0x5be0cd19]
def k512 : List Nat := [0x428a2f98d728ae22, 0x7137449123ef65cd, 0xb5c0fbcfec4d3b2f, 0xe9b5dba58189dbbc, 0x3956c25bf348b538, 0x59f111f1b605d019, 0x923f82a4af194f9b, 0xab1c5ed5da6d8118, 0xd807aa98a3030242, 0x12835b0145706fbe, 0x243185be4ee4b28c, 0x550c7dc3d5ffb4e2, 0x72be5d74f27b896f, 0x80deb1fe3b1696b1, 0x9bdc06a725c71235, 0xc19bf174cf692694, 0xe49b69c19ef14ad2, 0xefbe4786384f25e3, 0xfc19dc68b8cd5b5, 0x240ca1cc77ac9c65, 0x2de92c6f592b0275, 0x4a7484aa6ea6e483, 0x5cb0a9dcbd41fbd4, 0x76f988da831153b5, 0x983e5152ee66dfab, 0xa831c66d2db43210, 0xb00327c898fb213f, 0xbf597fc7beef0ee4, 0xc6e00bf33da88fc2, 0xd5a79147930aa725, 0x6ca6351e003826f, 0x142929670a0e6e70, 0x27b70a8546d22ffc, 0x2e1b21385c26c926, 0x4d2c6dfc5ac42aed, 0x53380d139d95b3df, 0x650a73548baf63de, 0x766a0abb3c77b2a8, 0x81c2c92e47edaee6, 0x92722c851482353b, 0xa2bfe8a14cf10364, 0xa81a664bbc423001, 0xc24b8b70d0f89791, 0xc76c51a30654be30, 0xd192e819d6ef5218, 0xd69906245565a910, 0xf40e35855771202a, 0x106aa07032bbd1b8, 0x19a4c116b8d2d0c8, 0x1e376c085141ab53, 0x2748774cdf8eeb99, 0x34b0bcb5e19b48a8, 0x391c0cb3c5c95a63, 0x4ed8aa4ae3418acb, 0x5b9cca4f7763e373, 0x682e6ff3d6b2b8a3, 0x748f82ee5defb2fc, 0x78a5636f43172f60, 0x84c87814a1f0ab72, 0x8cc702081a6439ec, 0x90befffa23631e28, 0xa4506cebde82bde9, 0xbef9a3f7b2c67915, 0xc67178f2e372532b, 0xca273eceea26619c, 0xd186b8c721c0c207, 0xeada7dd6cde0eb1e, 0xf57d4f7fee6ed178, 0x6f067aa72176fba, 0xa637dc5a2c898a6, 0x113f9804bef90dae, 0x1b710b35131c471b, 0x28db77f523047d84, 0x32caab7b40c72493, 0x3c9ebe0a15c9bebc, 0x431d67c49c100d4c, 0x4cc5d4becb3e42b6, 0x597f299cfc657e2a, 0x5fcb6fab3ad6faec, 0x6c44198c4a475817]
def h512 : List Nat := [0x6a09e667f3bcc908, 0xbb67ae8584caa73b, 0x3c6ef372fe94f82b, 0xa54ff53a5f1d36f1, 0x510e527fade682d1, 0x9b05688c2b3e6c1f, 0x1f83d9abfb41bd6b, 0x5be0cd19137e2179]
theorem small_keys : smallS.keys = k256 := by decide +kernel
theorem great_keys : greatS.keys = k512 := by decide +kernel
theorem great_first : greatS.first = h512 := by decide +kernel
end Go.Proofs.YtkbkalhcdbklkaaGreatDoor
namespace Go.Proofs.YtkbkalhcdbklkaaGreatDoor
open Go Go.RowKit
section
attribute [local irreducible] wd by8 d16 set16w fl rl setA sf taf set8p set4w t3f ivN mlN adN sbN
theorem cOn_any {x y : Nat} (hx : x < W4) (hy : y < W4) (w : World) : Calls Tryz.prog 70 #[prv x y] w fun e w' => e = .returned (.bool (okN x y)) ∧ Below w.heap.size w w' := by
  have rx := fun w => right_any hx w
  have ry := fun w => right_any hy w
  unfold okN
  by_cases h1 : x < P25
  · rw [decide_eq_true h1] at rx ⊢
    by_cases h2 : y < P25
    · rw [decide_eq_true h2] at ry ⊢
      exact cOn_c (b := onN x y) (ltW (sbN_lt _ _)) (ltW (adN_lt _ _)) rfl rx ry (fun w => cMul h1 h1 w) (fun w => cMul h2 h2 w) (fun w => cSub (mlN_lt _ _) (mlN_lt _ _) w) cD_any (fun w => cMul (mlN_lt _ _) (mlN_lt _ _) w) (fun w => cMul ed_lt (mlN_lt _ _) w) (fun w => cAdd P25_one (mlN_lt _ _) w) w
    · rw [decide_eq_false h2] at ry ⊢
      exact cOn_b rx ry w
  · rw [decide_eq_false h1] at rx ⊢
    exact cOn_a rx w
/-! Points as such: their two numbers. -/
theorem pt_ok (p : Pt E25) : okN p.x.val p.y.val = true := by
  unfold okN
  rw [pt_on p, decide_eq_true p.x.isLt, decide_eq_true p.y.isLt]
  rfl
theorem xW (p : Pt E25) : p.x.val < W4 := ltW p.x.isLt
theorem yW (p : Pt E25) : p.y.val < W4 := ltW p.y.isLt
theorem cOn_pt (p : Pt E25) (w : World) : Calls Tryz.prog 70 #[prv p.x.val p.y.val] w fun e w' => e = .returned (.bool true) ∧ Below w.heap.size w w' := by
  have h := cOn_any (xW p) (yW p) w
  rwa [pt_ok] at h
/-- A point as a spot. -/
def Sp.lift (p : Pt E25) : Sp := Sp.up p.x.val p.y.val
theorem Sp.lift_ok (p : Pt E25) : (Sp.lift p).ok := Sp.up_ok p.x.isLt p.y.isLt
theorem Sp.lift_of (p : Pt E25) : (Sp.lift p).of p := by
  have h := Sp.up_of (pt_on p)
  rwa [pt_self] at h
theorem nought_xy : (Pt.nought E25).x.val = 0 ∧ (Pt.nought E25).y.val = 1 := ⟨rfl, Nat.mod_eq_of_lt P25_one⟩
theorem cLift (p : Pt E25) (w : World) : Calls Tryz.prog 71 #[prv p.x.val p.y.val] w fun e w' => e = .returned (sv (Sp.lift p)) ∧ Below w.heap.size w w' :=
  lift_gen (fun w => cMul p.x.isLt p.y.isLt w) w
theorem cSum {s t : Sp} (hs : s.ok) (ht : t.ok) (w : World) (hG : G8 w) : Calls Tryz.prog 72 #[sv s, sv t] w fun e w' => e = .returned (sv (Sp.plus s t)) ∧ Below w.heap.size w w' := by
  obtain ⟨s1, s2, s3, s4⟩ := hs
  obtain ⟨t1, t2, t3, t4⟩ := ht
  exact add_gen (fun w => cSub s2 s1 w) (fun w => cSub t2 t1 w) (fun w => cMul (sbN_lt _ _) (sbN_lt _ _) w) (fun w => cAdd s2 s1 w) (fun w => cAdd t2 t1 w) (fun w => cMul (adN_lt _ _) (adN_lt _ _) w)
    (fun w => cAdd s3 s3 w) (fun w => cMul (adN_lt _ _) t3 w) (fun w => cMul s4 t4 w) (fun w => cMul (mlN_lt _ _) ed2_lt w) (fun w => cSub (mlN_lt _ _) (mlN_lt _ _) w) (fun w => cAdd (mlN_lt _ _) (mlN_lt _ _) w) (fun w => cAdd (mlN_lt _ _) (mlN_lt _ _) w) (fun w => cSub (mlN_lt _ _) (mlN_lt _ _) w)
    (fun w => cMul (sbN_lt _ _) (sbN_lt _ _) w) (fun w => cMul (adN_lt _ _) (adN_lt _ _) w) (fun w => cMul (adN_lt _ _) (sbN_lt _ _) w) (fun w => cMul (sbN_lt _ _) (adN_lt _ _) w) w hG
theorem cFlat {s : Sp} {p : Pt E25} (hs : s.ok) (h : s.of p) (w : World) : Calls Tryz.prog 75 #[sv s] w fun e w' => e = .returned (prv p.x.val p.y.val) ∧ Below w.heap.size w w' := by
  have h2 := Sp.down hs h
  have h1 := flat_gen (s := s) (fun w => cInv hs.2.2.1 w) (fun w => cMul hs.1 (ivN_lt _) w) (fun w => cMul hs.2.1 (ivN_lt _) w) w
  rwa [h2.1, h2.2] at h1
theorem cPick {i : Nat} (hi : i < 2) (p q : Sp) (w : World) : Calls Tryz.prog 107 #[.int .u64 (i : Int), sv p, sv q] w fun e w' => e = .returned (sv (if i = 0 then p else q)) ∧ Below w.heap.size w w' := by
  refine pick_gen (fun w => ?_) (fun w => ?_) (fun w => ?_) (fun w => ?_) w
  · have h := pick_any i p.x q.x (by omega) w
    by_cases h0 : i = 0
    · rw [if_pos h0] at h ⊢; exact h
    · rw [if_neg h0] at h ⊢; exact h
  · have h := pick_any i p.y q.y (by omega) w
    by_cases h0 : i = 0
    · rw [if_pos h0] at h ⊢; exact h
    · rw [if_neg h0] at h ⊢; exact h
  · have h := pick_any i p.z q.z (by omega) w
    by_cases h0 : i = 0
    · rw [if_pos h0] at h ⊢; exact h
    · rw [if_neg h0] at h ⊢; exact h
  · have h := pick_any i p.t q.t (by omega) w
    by_cases h0 : i = 0
    · rw [if_pos h0] at h ⊢; exact h
    · rw [if_neg h0] at h ⊢; exact h
theorem cPut {B g i j : Nat} {s n f h b : Sp} (hs : s.ok) (hn : n.ok) (hf : f.ok) (hh : h.ok) (hb : b.ok) (hi : i < 2) (hj : j < 2) (w : World) (hG : G8 w) (hT : OTa w B g ⟨s, n, f, h, b⟩) :
    Calls Tryz.prog 74 #[.pointer (some ⟨g, 0, none⟩), .int .u64 (i : Int), .int .u64 (j : Int)] w fun e w' => e = .returned (.tuple #[]) ∧ OTa w' B g ⟨Sp.plus (Sp.plus s s) (if j = 0 then (if i = 0 then n else f) else (if i = 0 then h else b)), n, f, h, b⟩ ∧ Oth B g w w' :=
  put_gen (t := ⟨s, n, f, h, b⟩) (fun w => cPick hi n f w) (fun w => cPick hi h b w) (fun w => cPick hj _ _ w) (fun w hG => cSum hs hs w hG)
    (fun w hG => cSum (Sp.plus_ok _ _) (by split <;> split <;> assumption) w hG) w hG hT
theorem cBoth_pt {i j : Nat} (hi : i < W4) (hj : j < W4) (p q : Pt E25) (w : World) (hG : G8 w) : Calls Tryz.prog 34 #[nv i, prv p.x.val p.y.val, nv j, prv q.x.val q.y.val] w fun e w' => e = .returned (.tuple #[prv ((p.mul i).add (q.mul j)).x.val ((p.mul i).add (q.mul j)).y.val, .int .i64 0]) ∧ Below w.heap.size w w' := by
  have hn := fun w => cLift (Pt.nought E25) w
  rw [nought_xy.1, nought_xy.2] at hn
  have k0 := Sp.lift_ok (Pt.nought E25)
  have k1 := Sp.lift_ok p
  have k2 := Sp.lift_ok q
  have k3 := Sp.plus_ok (Sp.lift p) (Sp.lift q)
  have h4 : (⟨Sp.lift (Pt.nought E25), Sp.lift (Pt.nought E25), Sp.lift p, Sp.lift q, Sp.plus (Sp.lift p) (Sp.lift q)⟩ : Ta).of4 p q := ⟨k0, k1, k2, k3, Sp.lift_of _, Sp.lift_of _, Sp.lift_of _, Sp.plus_of k1 k2 (Sp.lift_of _) (Sp.lift_of _)⟩
  exact cBoth_c (Sx := fun s => s.ok ∧ s.of ((p.mul i).add (q.mul j))) (cOn_pt p) (cOn_pt q) hn (cLift p) (cLift q) (fun w hG => cSum k1 k2 w hG)
    (fun B g v hv hT => each_any hi hj h4 k0 (Sp.lift_of _) v hv hT (fun s m n w hs hm hn hG hT => cPut hs k0 k1 k2 k3 hm hn w hG hT))
    (fun s hs w => cFlat hs.1 hs.2 w) w hG
theorem cMult_pt {i : Nat} (hi : i < W4) (p : Pt E25) (w : World) (hG : G8 w) : Calls Tryz.prog 51 #[nv i, prv p.x.val p.y.val] w fun e w' => e = .returned (.tuple #[prv (p.mul i).x.val (p.mul i).y.val, .int .i64 0]) ∧ Below w.heap.size w w' := by
  refine cMult_gen (fun w hG => ?_) w hG
  have h := cBoth_pt hi W4_pos p (Pt.nought E25) w hG
  rw [nought_xy.1, nought_xy.2, show (Pt.nought E25).mul 0 = Pt.nought E25 from rfl, Pt.add_nought, nv_small (x := 0) (by decide)] at h
  exact h
/-- Doubled so often. -/
def Sp.dbl (s : Sp) : Nat → Sp
  | 0 => s
  | k + 1 => Sp.plus (s.dbl k) (s.dbl k)
end
end Go.Proofs.YtkbkalhcdbklkaaGreatDoor
namespace Go.Proofs.YtkbkalhcdbklkaaGreatDoor
open Go Go.RowKit
theorem H25_2 : H25 = 2 ^ 255 := by decide +kernel
theorem H25_pos : 0 < H25 := by decide +kernel
/-- A number's highest word, its highest bit apart. -/
theorem top_word {y b : Nat} (hy : y < H25) (hb : b < 2) : (∀ k, k < 3 → wd (y + H25 * b) k = wd y k) ∧ wd (y + H25 * b) 3 = wd y 3 + 9223372036854775808 * b ∧ wd y 3 < 9223372036854775808 := by
  have hz : y + H25 * b < W4 := by
    rw [H25_eq, Nat.mul_comm 2]
    rcases (show b = 0 ∨ b = 1 by omega) with rfl | rfl <;> omega
  have e1 : (y + H25 * b) % H25 = y := by rw [Nat.add_mul_mod_self_left, Nat.mod_eq_of_lt hy]
  have e2 : (y + H25 * b) / H25 = b := by rw [Nat.add_mul_div_left _ _ H25_pos, Nat.div_eq_of_lt hy, Nat.zero_add]
  have h1 := wd_top hz
  have h2 := top_bit hz
  rw [e1] at h1
  rw [e2] at h2
  refine ⟨fun k hk => ?_, ?_, ?_⟩
  · have h := wd_low (a := y + H25 * b) hk
    rw [e1] at h
    exact h.symm
  · omega
  · omega
theorem or_top {a b : Nat} (ha : a < 9223372036854775808) (hb : b < 2) : bits .or .u64 (a : Int) ((9223372036854775808 * b : Nat) : Int) = ((a + 9223372036854775808 * b : Nat) : Int) := by
  rw [bits_or_u64_nat _ _ (by omega) (by omega)]
  have h := Nat.two_pow_add_eq_or_of_lt (i := 63) (b := a) (by omega) b
  rw [show (2 : Nat) ^ 63 = 9223372036854775808 from rfl] at h
  rw [Nat.or_comm, ← h, Nat.add_comm]
theorem bt_low (x : Nat) : bt x 0 = x % 2 := by unfold bt; rw [Nat.pow_zero, Nat.div_one]
theorem cEncode_pt (p : Pt E25) (w : World) : Calls Tryz.prog 52 #[prv p.x.val p.y.val] w fun e w' => ∃ A c, e = .returned (.tuple #[.slice A 32 c, .int .i64 0]) ∧ Own w' w.heap.size 5 A c (encN p.x.val p.y.val) ∧ Below w.heap.size w w' := by
  have hy : p.y.val < H25 := by rw [H25_2]; exact Nat.lt_trans p.y.isLt P25_half
  have k2 := fun w => bit_in p.x.val 0 (by decide) w
  have kO := fun w => cOn_pt p w
  unfold encN
  rw [← H25_2, ← bt_low]
  have hb : bt p.x.val 0 < 2 := by rw [bt_low]; omega
  have kb := fun w => bytes_any (p.y.val + H25 * bt p.x.val 0) w
  obtain ⟨z1, z2, z3⟩ := top_word hy hb
  have ho := or_top z3 hb
  rw [← z2] at ho
  rcases (show bt p.x.val 0 = 0 ∨ bt p.x.val 0 = 1 by omega) with e | e
  · rw [e] at k2 kb z1 ho ⊢
    exact cEncode_b0 ho z1 kO k2 kb w
  · rw [e] at k2 kb z1 ho ⊢
    exact cEncode_b1 ho z1 kO k2 kb w
section
attribute [local irreducible] wd by8 d16 set16w fl rl setA sf taf set8p set4w t3f ivN
end
section
attribute [local irreducible] wd by8 d16 set16w fl rl setA sf taf set8p set4w t3f ivN mlN adN sbN uN rtr rtq vk vb
end
end Go.Proofs.YtkbkalhcdbklkaaGreatDoor
namespace Go.Proofs.YtkbkalhcdbklkaaGreatDoor
open Go Go.RowKit
set_option maxRecDepth 20000
theorem own9_of {w : World} {B c n : Nat} {e : TypeId} {A : Option Addr} {S : List UInt8} (h : OwnF w B e A c n (bvf S)) (hl : S.length = n) : Own w B e A c S := by
  unfold OwnF at h
  unfold Own
  have : (List.range n).map (bvf S) = S.map bv := by
    refine List.ext_getElem (by simp [hl]) fun i h1 h2 => ?_
    have hi : i < S.length := by simpa using h2
    simp only [List.getElem_map, List.getElem_range, bvf, bv]
    rw [nth_get hi]
  rw [hl, ← this]
  exact h
theorem code_hsh {A : Option Addr} {B c : Nat} {bs : List UInt8} (hl : bs.length ≤ 140737488355328) (w : World) (hG : GlbS w) (hr : Rd w B A c bs) (hB : B ≤ w.heap.size) :
    Calls Tryz.prog 43 #[.slice A bs.length c] w fun e w' => ∃ A1 c1, e = .returned (.slice A1 64 c1) ∧ Own w' w.heap.size 5 A1 c1 (hsh bs) ∧ Below w.heap.size w w' :=
  (code512 hl w hG hr hB).mono fun _ _ ⟨_, he, ho, hb⟩ => ⟨_, _, he, own9_of ho (hsh_len bs), hb⟩
theorem code_of {A : Option Addr} {c : Nat} {bs : List UInt8} (w : World) (hr : Rd w w.heap.size A c (hsh bs)) :
    Calls Tryz.prog 50 #[.slice A 64 c] w fun e w' => e = .returned (.tuple #[nv (lefN bs), .int .i64 0]) ∧ Below w.heap.size w w' := by
  have h := tof_good w hr (Nat.le_refl _) (by rw [hsh_len]; decide)
  rw [hsh_len] at h
  exact h
section
attribute [local irreducible] wd by8 d16 set16w set4w set8p set6 gw gz fl rl setA t3f ivN mlN adN sbN hsh lefN clam
set_option maxHeartbeats 800000 in
theorem digest_any {A : Option Addr} {B c n : Nat} {L : List (List UInt8)} (hn : L.length = n) (h6 : n ≤ 1048576) (hs : (joinL L).length ≤ 1048576) (w : World) (hG : GlbS w) (hr : Rds w B A c L) (hB : B ≤ w.heap.size) :
    Calls Tryz.prog 17 #[.slice A n c] w fun e w' => e = .returned (nv (lefN (joinL L))) ∧ Below w.heap.size w w' := by
  subst hn
  obtain ⟨v0, ev⟩ : ∃ v, v = w.alloc Zs := ⟨_, rfl⟩
  have b0 : Below w.heap.size w v0 := by rw [ev]; exact (Below.refl _ _).alloc (Nat.le_refl _) _
  obtain ⟨g0, eg⟩ : ∃ g, g = w.heap.size := ⟨_, rfl⟩
  have o0 : Osc v0 w.heap.size g0 0 := by rw [eg, ev]; exact Osc.newz (Nat.le_refl _)
  have KJ := Lib.hid (join_code v0 (hr.keep (b0.mono hB)) (Nat.le_trans hB b0.size) hs h6)
  have HS := Lib.hid hs
  have HG := Lib.hid hG
  obtain ⟨x, hx⟩ : ∃ x, x = lefN (joinL L) := ⟨_, rfl⟩
  rw [← hx]
  have HX := Lib.hid hx
  clear hs hr hG h6 hx
  go_enter Tryz.func17, Tryz.ntmps17
  go_upto_region 1 with fail
  rw [← ev]
  rw [show Value.pointer (some ⟨w.heap.size, 0, none⟩) = .pointer (some ⟨g0, 0, none⟩) by rw [eg]]
  clear ev eg
  go_wp2_with fail
  go_at_call 23
  refine KJ.out.mono ?_
  rintro e v1 ⟨A1, c1, rfl, ho, hb⟩
  have hc := b0.trans (hb.mono b0.size)
  replace o0 := o0.keep hb
  have KS := Lib.hid (code_hsh (Nat.le_trans HS.out (by decide)) v1 (HG.out.next hc) ho.rd (Nat.le_refl _))
  clear hb ho KJ b0
  go_wp2_with fail
  go_at_call 43
  refine KS.out.mono ?_
  rintro e v2 ⟨A2, c2, rfl, rd, hb⟩
  replace o0 := o0.keep hb
  replace hc := hc.trans (hb.mono hc.size)
  have ko := code_of v2 rd.rd
  rw [← HX.out] at ko
  have KO := Lib.hid ko
  clear hb rd KS ko
  go_wp2_with fail
  go_at_call 50
  refine KO.out.mono ?_
  rintro e v3 ⟨rfl, hb⟩
  replace o0 := o0.keep hb
  replace hc := hc.trans (hb.mono hc.size)
  clear hb KO
  have on0 := Osc.newz (w := v3) (B := v3.heap.size) (Nat.le_refl _)
  have o1 := on0.put x
  have hbz := ((Below.refl _ v3).alloc (Nat.le_refl _) Zs).trans (on0.below x)
  replace o0 := o0.keep hbz
  replace hc := hc.trans (hbz.mono hc.size)
  clear hbz
  go_upto_region 2 with ((with_reducible refine sc_store on0 x ?_ ?_ ?_); rfl; rfl)
  obtain ⟨v4, ev⟩ : ∃ v, v = set4w (v3.alloc Zs) v3.heap.size x := ⟨_, rfl⟩
  obtain ⟨g1, eg⟩ : ∃ g, g = v3.heap.size := ⟨_, rfl⟩
  rw [← ev] at o0 o1 hc ⊢
  rw [← eg] at o1 ⊢
  clear ev eg on0
  have HR := Lib.hid (o0.put x)
  have HC := Lib.hid (hc.trans (o0.below x))
  go_wp2_with (first | ((with_reducible refine sc_load o1 ?_ ?_); rfl) | ((with_reducible refine sc_store o0 x ?_ ?_ ?_); rfl; rfl))
  exact bodyPost_ret (scres Tryz.results17 _ HR.out rfl) rfl ⟨rfl, HC.out⟩
set_option maxHeartbeats 800000 in
theorem timesc_any {n : Nat} (hn : n < W4) (w : World) (hG : G8 w) :
    Calls Tryz.prog 18 #[nv n] w fun e w' => ∃ A c, e = .returned (.slice A 32 c) ∧ Own w' w.heap.size 5 A c (encP (B25.mul n)) ∧ Below w.heap.size w w' := by
  have hx : bx = B25.x.val ∧ by_ = B25.y.val := ⟨(Nat.mod_eq_of_lt bx_lt).symm, (Nat.mod_eq_of_lt by_lt).symm⟩
  have kb := cBase_any
  rw [hx.1, hx.2] at kb
  have km := fun v => cMult_pt (i := n) hn B25 v
  have ke := cEncode_pt (B25.mul n)
  obtain ⟨x, ex⟩ : ∃ x, x = (B25.mul n).x.val := ⟨_, rfl⟩
  obtain ⟨y, ey⟩ : ∃ x, x = (B25.mul n).y.val := ⟨_, rfl⟩
  obtain ⟨E, eE⟩ : ∃ E, E = encP (B25.mul n) := ⟨_, rfl⟩
  rw [show encN (B25.mul n).x.val (B25.mul n).y.val = E from eE.symm, ← ex, ← ey] at ke
  rw [← ex, ← ey] at km
  rw [← eE]
  obtain ⟨p, ep⟩ : ∃ x, x = B25.x.val := ⟨_, rfl⟩
  obtain ⟨q, eq⟩ : ∃ x, x = B25.y.val := ⟨_, rfl⟩
  rw [← ep, ← eq] at kb km
  have KB := Lib.hid kb
  have KM := Lib.hid km
  have KE := Lib.hid ke
  have HG := Lib.hid hG
  clear kb km ke hx ex ey eE ep eq hn hG
  obtain ⟨v0, ev⟩ : ∃ v, v = w.alloc (A4 n) := ⟨_, rfl⟩
  have hc : Below w.heap.size w v0 := by rw [ev]; exact (Below.refl _ _).alloc (Nat.le_refl _) _
  obtain ⟨g0, eg⟩ : ∃ g, g = w.heap.size := ⟨_, rfl⟩
  have o0 : O4 v0 w.heap.size g0 n := by rw [eg, ev]; exact O4.new (Nat.le_refl _) n
  replace HG := Lib.hid (HG.out.next hc)
  go_enter Tryz.func18, Tryz.ntmps18
  go_upto_region 1 with fail
  rw [← ev]
  rw [show Value.pointer (some ⟨w.heap.size, 0, none⟩) = .pointer (some ⟨g0, 0, none⟩) by rw [eg]]
  clear ev eg
  refine wp_region_box 9 [some 8, some 9, some 10, some 7, some 11, some 12, some 3, none, some 4] [.val (nv n), .val (prv p q), .val (.tuple #[prv x y, .int .i64 0]), .val (.tuple #[prv x y, .int .i64 0]), .val (prv x y), .val (.int .i64 0), .box 60 8, .holds 6 60 8 (pw x y), .val (.int .i64 0)] v0.heap.size (fun wz => Below v0.heap.size v0 wz) (by kernel_rfl) (by kernel_rfl)
    (fun _ _ h _ hb => h.trans hb) ((Below.refl _ _).drew) (Nat.le_refl _) (fun u => by simp only [List.filterMap_cons, List.filterMap_nil, id, puts, List.foldl_cons, List.foldl_nil]; go_simp; exact rfl) ?_ ?_
  · simp only [List.take_succ_cons, List.take_zero]
    refine ObsB.cons (fun u w L hL hS hBw hd => ?_) ?_
    · exact GB.run 8 rfl (nv n) rfl (run_nload rfl rfl (O4.keep o0 hS)) rfl rfl
    refine ObsB.cons (fun u w L hL hS hBw hd => ?_) ?_
    · refine GB.call 9 rfl 35 #[] rfl (by go_simp) rfl ((KB.out w).mono ?_)
      rintro e w' ⟨rfl, hb⟩
      exact ⟨_, rfl, rfl, hb⟩
    refine ObsB.cons (fun u w L hL hS hBw hd => ?_) ?_
    · have d8 : u 8 = nv n := depB hd 0 rfl
      rw [d8]
      have d9 : u 9 = prv p q := depB hd 1 rfl
      rw [d9]
      refine GB.call 10 rfl 51 #[nv n, prv p q] rfl (by go_simp) rfl ((KM.out w (HG.out.next hS)).mono ?_)
      rintro e w' ⟨rfl, hb⟩
      exact ⟨_, rfl, rfl, hb⟩
    refine ObsB.cons (fun u w L hL hS hBw hd => ?_) ?_
    · have d10 : u 10 = .tuple #[prv x y, .int .i64 0] := depB hd 2 rfl
      rw [d10]
      exact GB.run 7 rfl (.tuple #[prv x y, .int .i64 0]) rfl (by go_simp) rfl rfl
    refine ObsB.cons (fun u w L hL hS hBw hd => ?_) ?_
    · have d7 : u 7 = .tuple #[prv x y, .int .i64 0] := depB hd 3 rfl
      rw [d7]
      exact GB.run 11 rfl (prv x y) rfl (by go_simp) rfl rfl
    refine ObsB.cons (fun u w L hL hS hBw hd => ?_) ?_
    · have d7 : u 7 = .tuple #[prv x y, .int .i64 0] := depB hd 3 rfl
      rw [d7]
      exact GB.run 12 rfl (.int .i64 0) rfl (by go_simp) rfl rfl
    refine ObsB.cons (fun u w L hL hS hBw hd => ?_) ?_
    · exact GB.alloc 3 rfl rfl #[.int .u64 0, .int .u64 0, .int .u64 0, .int .u64 0, .int .u64 0, .int .u64 0, .int .u64 0, .int .u64 0] 60 8 (fun _ => .int .u64 0) rfl rfl (by go_simp) hBw (by decide) rfl
    refine ObsB.cons (fun u w L hL hS hBw hd => ?_) ?_
    · have d11 : u 11 = prv x y := depB hd 4 rfl
      obtain ⟨g, fg, e3, o3⟩ : (Fact.box 60 8).ok v0.heap.size [some 8, some 9, some 10, some 7, some 11, some 12, some 3, none, some 4] 6 u w L := depB hd 6 rfl
      exact GB.store rfl 6 g 60 8 (pw x y) rfl rfl rfl e3 (run_pstore rfl (by exact e3) (by exact d11) o3) (only8p w g x y) (put8p o3 x y)
    refine ObsB.cons (fun u w L hL hS hBw hd => ?_) ?_
    · have d12 : u 12 = .int .i64 0 := depB hd 5 rfl
      rw [d12]
      exact GB.run 4 rfl (.int .i64 0) rfl (by go_simp) rfl rfl
    exact ObsB.nil
  intro u1 v1 hS hd
  obtain ⟨g3, e3, o3⟩ : (Fact.holds 6 60 8 (pw x y)).ok v0.heap.size [some 8, some 9, some 10, some 7, some 11, some 12, some 3, none, some 4] 7 u1 v1 (fun _ => true) := hd 7 (by decide)
  replace e3 : u1 3 = .pointer (some ⟨g3, 0, none⟩) := e3
  replace o3 : O8 v1 v0.heap.size g3 x y := o3
  replace hc := hc.trans (hS.mono hc.size)
  have KE1 := Lib.hid (KE.out v1)
  rw [e3]
  clear hS hd e3 KE KM KB HG o0
  simp only [List.drop_succ_cons, List.drop_zero]
  go_wp2_with ((with_reducible refine p_load o3 ?_ ?_); rfl)
  go_at_call 52
  refine KE1.out.mono ?_
  rintro e v2 ⟨A, c, rfl, ho, hb⟩
  replace ho := ho.mono hc.size
  replace hc := hc.trans (hb.mono hc.size)
  clear hb KE1 o3
  go_wp2_with fail
  go_ret
  exact ⟨A, c, rfl, ho, hc⟩
end
end Go.Proofs.YtkbkalhcdbklkaaGreatDoor
namespace Go.Proofs.YtkbkalhcdbklkaaGreatDoor
open Go Go.RowKit
set_option maxRecDepth 20000
/-- What the walks of this layer ask of a world: the curve's constants, the root of -1, the tables of SHA-512. -/
def G9w (w : World) : Prop := G8 w ∧ Glb w ∧ GlbS w
theorem g9n : ∀ w w', G9w w → Below w.heap.size w w' → G9w w' := fun _ _ h hb => ⟨h.1.next hb, h.2.1.next hb, h.2.2.next hb⟩
theorem grow_no {A : Option Addr} {n c : Nat} (hn : n ≠ 32) (w : World) :
    Calls Tryz.prog 14 #[.slice A n c] w fun e w' => e = .returned (.tuple #[.agg #[.int .u64 0, .int .u64 0, .int .u64 0, .int .u64 0, .slice none 0 0, .slice none 0 0], .int .i64 1]) ∧ Below w.heap.size w w' := by
  have g1 : ((n : Int) == 32) = false := by simp; omega
  have g2 : ((n : Int) != 32) = true := by simp; omega
  clear hn
  go_enter Tryz.func14, Tryz.ntmps14
  go_wp2_with fail
  refine bodyPost_ret (v := .tuple #[.agg #[.int .u64 0, .int .u64 0, .int .u64 0, .int .u64 0, .slice none 0 0, .slice none 0 0], .int .i64 1]) (by simp [results, Tryz.results14, go_sem]) rfl ⟨rfl, (Below.refl _ w).alloc (Nat.le_refl _) _⟩
theorem cver_len {A A1 A2 : Option Addr} {n0 n1 n2 c0 c1 c2 : Nat} (h : ¬ (n0 = 32 ∧ n2 = 64)) (w : World) : Calls Tryz.prog 12 #[.slice A n0 c0, .slice A1 n1 c1, .slice A2 n2 c2] w fun e w' => e = .returned (.int .i64 1) ∧ Below w.heap.size w w' := by
  by_cases h0 : n0 = 32
  · have h2 : n2 ≠ 64 := fun e => h ⟨h0, e⟩
    subst h0
    have g1 : ((n2 : Int) == 64) = false := by simp; omega
    have g2 : ((n2 : Int) != 64) = true := by simp; omega
    clear h h2
    go_enter Tryz.func12, Tryz.ntmps12
    go_wp2_with fail
    go_ret
    exact ⟨rfl, Below.refl _ _⟩
  · have g1 : ((n0 : Int) == 32) = false := by simp; omega
    have g2 : ((n0 : Int) != 32) = true := by simp; omega
    clear h h0
    go_enter Tryz.func12, Tryz.ntmps12
    go_wp2_with fail
    go_ret
    exact ⟨rfl, Below.refl _ _⟩
theorem cver0_any : CVer0 G9w := fun _ _ w _ => cver_len (by rintro ⟨_, h⟩; exact absurd h (by decide)) w
theorem from32 {bs : List UInt8} (hl : bs.length = 32) {A : Option Addr} {c : Nat} (w : World) (hr : Rd w w.heap.size A c bs) :
    Calls Tryz.prog 45 #[.slice A 32 c] w fun e w' => e = .returned (.tuple #[nv (vb bs), .int .i64 0]) ∧ Below w.heap.size w w' := by
  have h := from_good w hr (Nat.le_refl _) (Nat.le_of_eq hl)
  rwa [hl] at h
section
attribute [local irreducible] wd by8 d16 set16w set4w set8p set6 gw gz fl rl setA t3f ivN mlN adN sbN hsh lefN clam
set_option maxHeartbeats 1600000 in
theorem grow_any {A : Option Addr} {c : Nat} {seed : List UInt8} (h32 : seed.length = 32) (w : World) (hG : G9w w) (hr : Rd w w.heap.size A c seed) :
    Calls Tryz.prog 14 #[.slice A 32 c] w fun e w' => ∃ A1 c1 A2 c2, e = .returned (.tuple #[gv (secN seed) A1 32 c1 A2 32 c2, .int .i64 0]) ∧ Rd w' w'.heap.size A1 c1 (preB seed) ∧ Rd w' w'.heap.size A2 c2 (pubB seed) ∧ Below w.heap.size w w' := by
  obtain ⟨v0, ev⟩ : ∃ v, v = w.alloc Zg := ⟨_, rfl⟩
  have hc : Below w.heap.size w v0 := by rw [ev]; exact (Below.refl _ _).alloc (Nat.le_refl _) _
  obtain ⟨g0, eg⟩ : ∃ g, g = w.heap.size := ⟨_, rfl⟩
  have o0 : OwnF v0 w.heap.size 37 (some ⟨g0, 0, none⟩) 6 6 gz := by rw [eg, ev]; exact g6_newz (Nat.le_refl _)
  have HG := Lib.hid (g9n _ _ hG hc)
  have r0 : Rd v0 v0.heap.size A c seed := (hr.keep hc).mono hc.size
  have ks := code_hsh (bs := seed) (by rw [h32]; decide) v0 HG.out.2.2 r0 (Nat.le_refl _)
  rw [h32] at ks
  have KS := Lib.hid ks
  obtain ⟨H, hH⟩ : ∃ H, H = hsh seed := ⟨_, rfl⟩
  have hHl : H.length = 64 := by rw [hH, hsh_len]
  obtain ⟨X, hX⟩ : ∃ X, X = secN seed := ⟨_, rfl⟩
  obtain ⟨Pb, hP⟩ : ∃ P, P = preB seed := ⟨_, rfl⟩
  have hPl : Pb.length = 32 := by rw [hP, preB_len]
  obtain ⟨PB, hB⟩ : ∃ P, P = pubB seed := ⟨_, rfl⟩
  have hBl : PB.length = 32 := by rw [hB, pubB_len]
  have kt : ∀ w, G8 w → Calls Tryz.prog 18 #[nv (secN seed)] w fun e w' => ∃ A c, e = .returned (.slice A 32 c) ∧ Own w' w.heap.size 5 A c (pubB seed) ∧ Below w.heap.size w w' := fun w h => timesc_any (clam_W4 _) w h
  rw [← hX, ← hB] at kt
  have KT := Lib.hid kt
  rw [← hX, ← hP, ← hB]
  replace hP := Lib.hid (show Pb = H.drop 32 by rw [hP, hH]; rfl)
  obtain ⟨L, hL⟩ : ∃ L, L = gen (bf (clam (vb (H.take 32)))) 32 := ⟨_, rfl⟩
  have hLl : L.length = 32 := by rw [hL, gen_length]
  have hXL : X = vb L := by rw [hL, vb_of (clam_W4 _), hX, hH]; rfl
  have HH := Lib.hid hH
  have HL := Lib.hid hL
  have HXL := Lib.hid hXL
  clear ks kt hX hB hH hL hXL hr r0 hG
  go_enter Tryz.func14, Tryz.ntmps14
  go_upto_region 1 with fail
  rw [← ev]
  rw [show Value.pointer (some ⟨w.heap.size, 0, none⟩) = .pointer (some ⟨g0, 0, none⟩) by rw [eg]]
  clear ev eg
  go_wp2_with fail
  go_at_call 43
  refine KS.out.mono ?_
  rintro e v1 ⟨A1, c1, rfl, ho1, hb⟩
  have f1 : Off g0 A1 := Off.own ho1 (OwnF.lt o0)
  have r1 := ho1.rd
  rw [← HH.out] at r1
  clear ho1
  replace o0 := OwnF.keep o0 hb
  replace HG := Lib.hid (g9n _ _ HG.out hb)
  replace hc := hc.trans (hb.mono hc.size)
  have hcap := r1.cap
  rw [hHl] at hcap
  have rl0 := r1.pre (n := 32) (by rw [hHl]; decide) (by decide)
  have kc := gclamp_any (by rw [List.length_take, hHl]; rfl) v1 rl0 (Nat.le_refl _)
  rw [← HL.out] at kc
  have KC := Lib.hid kc
  clear hb KS kc rl0
  go_wp2_with fail
  go_at_call 44
  refine KC.out.mono ?_
  rintro e v2 ⟨A2, c2, rfl, ho, hb⟩
  replace o0 := OwnF.keep o0 hb
  replace HG := Lib.hid (g9n _ _ HG.out hb)
  replace hc := hc.trans (hb.mono hc.size)
  replace r1 := (r1.keep hb).mono hb.size
  have kf := from32 hLl v2 ho.rd
  rw [← HXL.out] at kf
  have KF := Lib.hid kf
  clear ho hb KC hcap kf
  go_wp2_with fail
  go_at_call 45
  refine KF.out.mono ?_
  rintro e v3 ⟨rfl, hb⟩
  replace o0 := OwnF.keep o0 hb
  replace HG := Lib.hid (g9n _ _ HG.out hb)
  replace hc := hc.trans (hb.mono hc.size)
  replace r1 := (r1.keep hb).mono hb.size
  clear hb KF
  have on0 := O4.newz (w := v3) (B := v3.heap.size) (Nat.le_refl _)
  have o7 := (on0.put X).mono hc.size
  have hbz := ((Below.refl _ v3).alloc (Nat.le_refl _) Z4).trans ((set4w_below _ _ X).mono (O4.ge on0))
  replace o0 := OwnF.keep o0 hbz
  replace HG := Lib.hid (g9n _ _ HG.out hbz)
  replace hc := hc.trans (hbz.mono hc.size)
  replace r1 := (r1.keep hbz).mono hbz.size
  clear hbz
  go_upto_region 6 with ((with_reducible refine n_store on0 X ?_ ?_ ?_); rfl; rfl)
  obtain ⟨v4, ev⟩ : ∃ v, v = set4w (v3.alloc Z4) v3.heap.size X := ⟨_, rfl⟩
  obtain ⟨g7, eg⟩ : ∃ g, g = v3.heap.size := ⟨_, rfl⟩
  rw [← ev] at o0 r1 o7 hc HG ⊢
  rw [← eg] at o7 ⊢
  clear ev eg on0
  refine wp_region_inv 5 [26, 27, 28, 29, 30] [.val (nv X), .sat (Bo g0 64 H) (Bo.keep g0 64 H), .sat (Bo g0 32 Pb) (Bo.keep g0 32 Pb), .val (nv X), .sat (Bo g0 32 PB) (Bo.keep g0 32 PB)] (fun wz => Below v4.heap.size v4 wz) (by kernel_rfl) (by kernel_rfl) (fun wz wz' hz hb => hz.trans (hb.mono hz.size)) ((Below.refl _ _).drew) (fun u => by simp only [puts, List.foldl_cons, List.foldl_nil]; go_simp; exact rfl) ?_ ?_
  · simp only [List.take_succ_cons, List.take_zero]
    refine Obs.cons (fun u w hS hd => ?_) ?_
    · exact Gv.run (nv X) rfl (run_nload rfl rfl (O4.keep o7 hS)) rfl
    refine Obs.cons (fun u w hS hd => ?_) ?_
    · exact Gv.run (.slice A1 64 c1) rfl (by go_simp) ⟨_, _, rfl, (r1.keep hS).mono hS.size, f1⟩
    refine Obs.cons (fun u w hS hd => ?_) ?_
    · obtain ⟨A27, c27, d27, g27, f27⟩ : (Know.sat (Bo g0 64 H) (Bo.keep g0 64 H)).ok (u 27) w := dep hd 1 rfl
      rw [d27]
      exact Gv.run (.slice (subA A27 c27 32) 32 (c27 - 32)) rfl (slice_op_lo (n := 64) (l := 32) rfl rfl rfl (by decide)) ⟨_, _, rfl, by rw [hP.out]; exact g27.drop_ (by rw [hHl]; decide), f27.sub⟩
    refine Obs.cons (fun u w hS hd => ?_) ?_
    · exact Gv.run (nv X) rfl (run_nload rfl rfl (O4.keep o7 hS)) rfl
    refine Obs.cons (fun u w hS hd => ?_) ?_
    · have d29 : u 29 = nv X := dep hd 3 rfl
      rw [d29]
      refine Gv.call 18 #[nv X] rfl (by go_simp) ((KT.out w (g9n _ _ HG.out hS).1).mono ?_)
      rintro e w' ⟨A, c, rfl, ho, hb⟩
      exact ⟨_, rfl, ⟨A, c, rfl, ho.rd, Off.own ho (Nat.lt_of_lt_of_le (OwnF.lt o0) hS.size)⟩, hb⟩
    exact Obs.nil
  intro u1 v5 hS hd
  have d26 : u1 26 = nv X := hd 0 (by decide)
  obtain ⟨A8, c8, d28, g28, f28⟩ : (Know.sat (Bo g0 32 Pb) (Bo.keep g0 32 Pb)).ok (u1 28) v5 := hd 2 (by decide)
  obtain ⟨A9, c9, d30, g30, f30⟩ : (Know.sat (Bo g0 32 PB) (Bo.keep g0 32 PB)).ok (u1 30) v5 := hd 4 (by decide)
  rw [d26, d28, d30]
  replace o0 := OwnF.keep o0 hS
  replace hc := hc.trans (hS.mono hc.size)
  have HR := Lib.hid (put6 o0 X A8 32 c8 A9 32 c9)
  have hw := only6 v5 g0 X A8 32 c8 A9 32 c9
  have hb5 := hw.below (OwnF.ge o0)
  have H1 := Lib.hid ((g28.only hw f28).mono (Nat.le_of_eq hw.size.symm))
  have H2 := Lib.hid ((g30.only hw f30).mono (Nat.le_of_eq hw.size.symm))
  have HC := Lib.hid (hc.trans hb5)
  clear hS hd d26 d28 d30 g28 g30 f28 f30 hw hb5 hc r1 f1 o7 KT
  simp only [List.drop_succ_cons, List.drop_zero]
  go_wp2_with (first | ((with_reducible refine g_build X A8 32 c8 A9 32 c9 ?_ ?_ ?_ ?_); rfl; rfl; rfl) | ((with_reducible refine g_store o0 X A8 32 c8 A9 32 c9 ?_ ?_ ?_); rfl; rfl))
  exact bodyPost_ret (gres Tryz.results14 _ HR.out rfl rfl) rfl ⟨_, _, _, _, rfl, H1.out, H2.out, HC.out⟩
set_option maxHeartbeats 800000 in
theorem cpub_any : CPub G9w := by
  intro seed A c w hG hr
  by_cases h32 : seed.length = 32
  · obtain ⟨p1, p2, p3⟩ := pubL_yes h32
    rw [p2, p3, p1, h32]
    have KG := Lib.hid (grow_any h32 w hG hr)
    clear hG hr p1 p2 p3
    obtain ⟨PB, hB⟩ : ∃ P, P = pubB seed := ⟨_, rfl⟩
    rw [← hB] at KG ⊢
    obtain ⟨X, hX⟩ : ∃ X, X = secN seed := ⟨_, rfl⟩
    rw [← hX] at KG
    clear hB hX
    go_enter Tryz.func7, Tryz.ntmps7
    go_wp2_with fail
    go_at_call 14
    refine KG.out.mono ?_
    rintro e v1 ⟨A1, c1, A2, c2, rfl, -, r2, hb⟩
    have on0 := g6_newz (w := v1) (B := v1.heap.size) (Nat.le_refl _)
    have o4 := put6 on0 X A1 32 c1 A2 32 c2
    have hbz := ((Below.refl _ v1).alloc (Nat.le_refl _) Zg).trans ((only6 _ _ X A1 32 c1 A2 32 c2).below (OwnF.ge on0))
    replace r2 := (r2.keep hbz).mono hbz.size
    replace hb := hb.trans (hbz.mono hb.size)
    clear hbz KG
    go_upto_region 2 with ((with_reducible refine g_store on0 X A1 32 c1 A2 32 c2 ?_ ?_ ?_); rfl; rfl)
    obtain ⟨v2, ev⟩ : ∃ v, v = set6 (v1.alloc Zg) v1.heap.size X A1 32 c1 A2 32 c2 := ⟨_, rfl⟩
    obtain ⟨g4, eg⟩ : ∃ g, g = v1.heap.size := ⟨_, rfl⟩
    rw [← ev] at r2 hb o4 ⊢
    rw [← eg] at o4 ⊢
    clear ev eg on0
    have H2 := Lib.hid r2
    have HC := Lib.hid hb
    obtain ⟨t4, t5⟩ := o4.two
    clear r2 hb o4
    go_wp2_with fail
    go_returns
    exact ⟨_, _, rfl, H2.out, HC.out⟩
  · obtain ⟨p1, p3⟩ := pubL_no h32
    rw [p1, p3]
    have KG := Lib.hid (grow_no (A := A) (c := c) h32 w)
    obtain ⟨n, hn⟩ : ∃ n, n = seed.length := ⟨_, rfl⟩
    rw [← hn] at KG ⊢
    clear hn h32 hr hG p1 p3
    go_enter Tryz.func7, Tryz.ntmps7
    go_wp2_with fail
    go_at_call 14
    refine KG.out.mono ?_
    rintro e v1 ⟨rfl, hb⟩
    go_wp2_with fail
    go_returns
    exact ⟨none, 0, rfl, rd_nil9 _ _, hb.alloc hb.size _⟩
end
end Go.Proofs.YtkbkalhcdbklkaaGreatDoor
namespace Go.Proofs.YtkbkalhcdbklkaaGreatDoor
open Go Go.RowKit Go.ChangeShapes
theorem tab_nxt {P : Program} {W : World} {name : String} {k : IntKind} {zs : List Int} {rest : List (String × DataW Unit)} {g : Nat} {t e : TypeId} {n : Nat} {ps : List MemPlace}
    (hg : P.globalNamed name = some g) (hty : (P.globals[g]?).map (·.type) = some t) (ht : P.underlying t = some (.array n e)) (he : P.underlying e = some (.int k)) (hce : P.cellsOf e = 1) (hct : P.cellsOf t = n)
    (h : DataW.LaidVars P W ((name, Lib.tabData k zs) :: rest) ps) : Lib.TabIs P W name k zs ∧ ∃ q, DataW.LaidVars P W rest q := by
  obtain ⟨g', t', cs, fuel, p, q, hg', ht', hvar, hd, hr, _⟩ := h
  obtain rfl := Option.some.inj (hg.symm.trans hg')
  obtain rfl := Option.some.inj (hty.symm.trans ht')
  refine ⟨?_, q, hr⟩
  unfold Lib.TabIs
  rw [hvar, ← Lib.cells_of_tab ht he hce hct hd]
theorem pt_nxt {P : Program} {W : World} {name : String} {zs zs' : List Int} {rest : List (String × DataW Unit)} {g : Nat} {t tn e : TypeId} {f0 f1 : Field} {ps : List MemPlace}
    (hg : P.globalNamed name = some g) (hty : (P.globals[g]?).map (·.type) = some t) (hs : P.underlying t = some (.struct #[f0, f1])) (k0 : f0.type = tn) (k1 : f1.type = tn) (o0 : f0.offset = 0) (o1 : f1.offset = 4) (ht : P.underlying tn = some (.array 4 e)) (he : P.underlying e = some (.int .u64)) (hc : P.cellsOf e = 1) (hcn : P.cellsOf tn = 4) (hct : P.cellsOf t = 8)
    (h : DataW.LaidVars P W ((name, .agg [Lib.tabData .u64 zs, Lib.tabData .u64 zs']) :: rest) ps) : Lib.TabIs P W name .u64 (zs ++ zs') ∧ ∃ q, DataW.LaidVars P W rest q := by
  obtain ⟨g', t', cs, fuel, p, q, hg', ht', hvar, hd, hr, _⟩ := h
  obtain rfl := Option.some.inj (hg.symm.trans hg')
  obtain rfl := Option.some.inj (hty.symm.trans ht')
  refine ⟨?_, q, hr⟩
  obtain ⟨⟨d0, p0⟩, ⟨d1, p1⟩, m, hx, hl, h0, h1⟩ := trod_struct2 hs hd
  rw [hct] at hl
  rw [k0, o0, hcn] at h0
  rw [k1, o1, hcn] at h1
  simp only [Prod.mk.injEq, DataW.agg.injEq, List.cons.injEq, and_true] at hx
  obtain ⟨⟨rfl, rfl⟩, _⟩ := hx
  have e0 := Lib.cells_of_tab ht he hc hcn h0
  have e1 := Lib.cells_of_tab ht he hc hcn h1
  have e2 : cs.toList = (zs ++ zs').map fun z => Value.int .u64 z := by
    rw [List.map_append, ← e0, ← e1, List.drop_zero, List.take_of_length_le (l := cs.toList.drop 4) (by simp at hl ⊢; omega), List.take_append_drop]
  unfold Lib.TabIs
  rw [hvar, ← e2]
theorem gN8 : Tryz.prog.globalNamed "sealwax/curve.nought" = some 0 := by kernel_rfl
theorem gD8 : Tryz.prog.globalNamed "sealwax/curve.twiceD" = some 2 := by kernel_rfl
theorem gM8 : Tryz.prog.globalNamed "sealwax/field.minusOneRoot" = some 3 := by kernel_rfl
theorem c64_8 : Tryz.prog.cellsOf 33 = 1 := by kernel_rfl
theorem c4_8 : Tryz.prog.cellsOf 35 = 4 := by kernel_rfl
theorem c8_8 : Tryz.prog.cellsOf 60 = 8 := by kernel_rfl
theorem g8_of {W : World} {ps : List MemPlace} (h : DataW.LaidVars Tryz.prog W [("sealwax/curve.nought", .agg [Lib.tabData .u64 [0, 0, 0, 0], Lib.tabData .u64 [1, 0, 0, 0]]), ("sealwax/curve.twiceD", Lib.tabData .u64 [16993941304535871833, 63073048630374742, 1841551078520508720, 2596001775599221991])] ps) : G8 W := by
  obtain ⟨hn, q, h⟩ := pt_nxt gN8 (t := 60) (by kernel_rfl) Tryz.underlying60 rfl rfl rfl rfl Tryz.underlying35 Tryz.underlying33 c64_8 c4_8 c8_8 h
  obtain ⟨hd, _⟩ := tab_nxt gD8 (t := 35) (by kernel_rfl) Tryz.underlying35 Tryz.underlying33 c64_8 c4_8 h
  have e0 : wd ed2 0 = 16993941304535871833 := by decide +kernel
  have e1 : wd ed2 1 = 63073048630374742 := by decide +kernel
  have e2 : wd ed2 2 = 1841551078520508720 := by decide +kernel
  have e3 : wd ed2 3 = 2596001775599221991 := by decide +kernel
  have z0 : wd 0 0 = 0 := by decide +kernel
  have z1 : wd 0 1 = 0 := by decide +kernel
  have z2 : wd 0 2 = 0 := by decide +kernel
  have z3 : wd 0 3 = 0 := by decide +kernel
  have i0 : wd 1 0 = 1 := by decide +kernel
  have i1 : wd 1 1 = 0 := by decide +kernel
  have i2 : wd 1 2 = 0 := by decide +kernel
  have i3 : wd 1 3 = 0 := by decide +kernel
  unfold G8 C8p
  rw [e0, e1, e2, e3, z0, z1, z2, z3, i0, i1, i2, i3]
  exact ⟨⟨hd.cell gD8 0 (by decide), hd.cell gD8 1 (by decide), hd.cell gD8 2 (by decide), hd.cell gD8 3 (by decide)⟩,
    hn.cell gN8 0 (by decide), hn.cell gN8 1 (by decide), hn.cell gN8 2 (by decide), hn.cell gN8 3 (by decide), hn.cell gN8 4 (by decide), hn.cell gN8 5 (by decide), hn.cell gN8 6 (by decide), hn.cell gN8 7 (by decide)⟩
def z_numbers256 : List Int := [1116352408, 1899447441, 3049323471, 3921009573, 961987163, 1508970993, 2453635748, 2870763221, 3624381080, 310598401, 607225278, 1426881987, 1925078388, 2162078206, 2614888103, 3248222580, 3835390401, 4022224774, 264347078, 604807628, 770255983, 1249150122, 1555081692, 1996064986, 2554220882, 2821834349, 2952996808, 3210313671, 3336571891, 3584528711, 113926993, 338241895, 666307205, 773529912, 1294757372, 1396182291, 1695183700, 1986661051, 2177026350, 2456956037, 2730485921, 2820302411, 3259730800, 3345764771, 3516065817, 3600352804, 4094571909, 275423344, 430227734, 506948616, 659060556, 883997877, 958139571, 1322822218, 1537002063, 1747873779, 1955562222, 2024104815, 2227730452, 2361852424, 2428436474, 2756734187, 3204031479, 3329325298]
theorem z_numbers256_at : ∀ k, k < 64 → z_numbers256.getD k 0 = ((k256.getD k 0 : Nat) : Int) := by decide +kernel
theorem gs_numbers256 : Tryz.prog.globalNamed "sealwax/sha.numbers256" = some 4 := by kernel_rfl
def z_first512 : List Int := [7640891576956012808, 13503953896175478587, 4354685564936845355, 11912009170470909681, 5840696475078001361, 11170449401992604703, 2270897969802886507, 6620516959819538809]
theorem z_first512_at : ∀ k, k < 8 → z_first512.getD k 0 = ((h512.getD k 0 : Nat) : Int) := by decide +kernel
theorem gs_first512 : Tryz.prog.globalNamed "sealwax/sha.first512" = some 1 := by kernel_rfl
def z_numbers512 : List Int := [4794697086780616226, 8158064640168781261, 13096744586834688815, 16840607885511220156, 4131703408338449720, 6480981068601479193, 10538285296894168987, 12329834152419229976, 15566598209576043074, 1334009975649890238, 2608012711638119052, 6128411473006802146, 8268148722764581231, 9286055187155687089, 11230858885718282805, 13951009754708518548, 16472876342353939154, 17275323862435702243, 1135362057144423861, 2597628984639134821, 3308224258029322869, 5365058923640841347, 6679025012923562964, 8573033837759648693, 10970295158949994411, 12119686244451234320, 12683024718118986047, 13788192230050041572, 14330467153632333762, 15395433587784984357, 489312712824947311, 1452737877330783856, 2861767655752347644, 3322285676063803686, 5560940570517711597, 5996557281743188959, 7280758554555802590, 8532644243296465576, 9350256976987008742, 10552545826968843579, 11727347734174303076, 12113106623233404929, 14000437183269869457, 14369950271660146224, 15101387698204529176, 15463397548674623760, 17586052441742319658, 1182934255886127544, 1847814050463011016, 2177327727835720531, 2830643537854262169, 3796741975233480872, 4115178125766777443, 5681478168544905931, 6601373596472566643, 7507060721942968483, 8399075790359081724, 8693463985226723168, 9568029438360202098, 10144078919501101548, 10430055236837252648, 11840083180663258601, 13761210420658862357, 14299343276471374635, 14566680578165727644, 15097957966210449927, 16922976911328602910, 17689382322260857208, 500013540394364858, 748580250866718886, 1242879168328830382, 1977374033974150939, 2944078676154940804, 3659926193048069267, 4368137639120453308, 4836135668995329356, 5532061633213252278, 6448918945643986474, 6902733635092675308, 7801388544844847127]
theorem z_numbers512_at : ∀ k, k < 80 → z_numbers512.getD k 0 = ((k512.getD k 0 : Nat) : Int) := by decide +kernel
theorem gs_numbers512 : Tryz.prog.globalNamed "sealwax/sha.numbers512" = some 5 := by kernel_rfl
theorem c32_9 : Tryz.prog.cellsOf 171 = 1 := by kernel_rfl
theorem g9_of {W : World} {ps : List MemPlace} (h : DataW.LaidVars Tryz.prog W [("sealwax/sha.numbers256", Lib.tabData .u32 z_numbers256), ("sealwax/sha.first512", Lib.tabData .u64 z_first512), ("sealwax/sha.numbers512", Lib.tabData .u64 z_numbers512), ("sealwax/field.minusOneRoot", Lib.tabData .u64 [14190309331451158704, 3405592160176694392, 3120150775007532967, 3135389899092516619]), ("sealwax/curve.nought", .agg [Lib.tabData .u64 [0, 0, 0, 0], Lib.tabData .u64 [1, 0, 0, 0]]), ("sealwax/curve.twiceD", Lib.tabData .u64 [16993941304535871833, 63073048630374742, 1841551078520508720, 2596001775599221991])] ps) : G9w W := by
  obtain ⟨h_numbers256, p_numbers256, h⟩ := tab_nxt (n := 64) gs_numbers256 (t := 172) (by kernel_rfl) Tryz.underlying172 Tryz.underlying171 c32_9 (by kernel_rfl) h
  obtain ⟨h_first512, p_first512, h⟩ := tab_nxt (n := 8) gs_first512 (t := 86) (by kernel_rfl) Tryz.underlying86 Tryz.underlying33 c64_8 (by kernel_rfl) h
  obtain ⟨h_numbers512, p_numbers512, h⟩ := tab_nxt (n := 80) gs_numbers512 (t := 165) (by kernel_rfl) Tryz.underlying165 Tryz.underlying33 c64_8 (by kernel_rfl) h
  obtain ⟨ht, q, h⟩ := tab_nxt gM8 (t := 35) (by kernel_rfl) Tryz.underlying35 Tryz.underlying33 c64_8 c4_8 h
  have e0 : wd IM 0 = 14190309331451158704 := by decide +kernel
  have e1 : wd IM 1 = 3405592160176694392 := by decide +kernel
  have e2 : wd IM 2 = 3120150775007532967 := by decide +kernel
  have e3 : wd IM 3 = 3135389899092516619 := by decide +kernel
  refine ⟨g8_of h, ?_, ⟨fun k hk => ?_, fun k hk => ?_, fun k hk => ?_⟩⟩
  · unfold Glb
    rw [e0, e1, e2, e3]
    exact ⟨ht.cell gM8 0 (by decide), ht.cell gM8 1 (by decide), ht.cell gM8 2 (by decide), ht.cell gM8 3 (by decide)⟩
  · rw [h_first512.cell gs_first512 k (by exact hk), z_first512_at k hk]; unfold fst; rw [great_first]
  · rw [h_numbers256.cell gs_numbers256 k (by exact hk), z_numbers256_at k hk, small_keys]
  · rw [h_numbers512.cell gs_numbers512 k (by exact hk), z_numbers512_at k hk, great_keys]
end Go.Proofs.YtkbkalhcdbklkaaGreatDoor
namespace Go.Proofs.YtkbkalhcdbklkaaGreatDoor
open Go Go.RowKit
theorem publics_law9 {A : Option Addr} {c : Nat} {seed : List UInt8} {w0 : World} (hr : Rd w0 w0.heap.size A c seed) (hl : seed.length ≤ 140737488351232) (_w : World) (hG : G9w w0) :
    Calls Tryz.prog 3 #[.slice A seed.length c] w0 fun e w' => e = .returned (.bool true) ∧ Below w0.heap.size w0 w' :=
  law9_publics g9n cpub_any cver0_any (by omega) w0 hr hG
end Go.Proofs.YtkbkalhcdbklkaaGreatDoor
namespace Go.Proofs.YtkbkalhcdbklkaaGreatDoor
open Go Go.RowKit
set_option maxRecDepth 20000
theorem dig2_any {A A' : Option Addr} {n m c c' : Nat} {xs ys : List UInt8} (hx : xs.length = n) (hy : ys.length = m) (hl : n + m ≤ 1048576) (w v : World) (hv : v = w.alloc (.cells #[.slice A n c, .slice A' m c'] 22)) (hG : GlbS w) (h1 : Rd w w.heap.size A c xs) (h2 : Rd w w.heap.size A' c' ys) :
    Calls Tryz.prog 17 #[.slice (some ⟨w.heap.size, 0, none⟩) 2 2] v fun e w' => e = .returned (nv (lefN (xs ++ ys))) ∧ Below v.heap.size v w' := by
  subst hv
  have hb := (Below.refl w.heap.size w).alloc (Nat.le_refl _) (.cells #[.slice A n c, .slice A' m c'] 22)
  have h := digest_any (n := 2) (L := [xs, ys]) rfl (by decide) (by rw [join2, List.length_append]; omega) _ (hG.next hb) (rds2 hx hy h1 h2) (Nat.le_refl _)
  rwa [join2] at h
theorem dig3_any {A A' A3 : Option Addr} {n m l c c' c3 : Nat} {xs ys zs : List UInt8} (hx : xs.length = n) (hy : ys.length = m) (hz : zs.length = l) (hl : n + m + l ≤ 1048576) (w v : World) (hv : v = w.alloc (.cells #[.slice A n c, .slice A' m c', .slice A3 l c3] 22)) (hG : GlbS w) (h1 : Rd w w.heap.size A c xs) (h2 : Rd w w.heap.size A' c' ys) (h3 : Rd w w.heap.size A3 c3 zs) :
    Calls Tryz.prog 17 #[.slice (some ⟨w.heap.size, 0, none⟩) 3 3] v fun e w' => e = .returned (nv (lefN (xs ++ ys ++ zs))) ∧ Below v.heap.size v w' := by
  subst hv
  have hb := (Below.refl w.heap.size w).alloc (Nat.le_refl _) (.cells #[.slice A n c, .slice A' m c', .slice A3 l c3] 22)
  have h := digest_any (n := 3) (L := [xs, ys, zs]) rfl (by decide) (by rw [join3, List.length_append, List.length_append]; omega) _ (hG.next hb) (rds3 hx hy hz h1 h2 h3) (Nat.le_refl _)
  rwa [join3] at h
theorem joinc_any {A A' : Option Addr} {n m c c' : Nat} {xs ys : List UInt8} (hx : xs.length = n) (hy : ys.length = m) (hl : n + m ≤ 1048576) (w v : World) (hv : v = w.alloc (.cells #[.slice A n c, .slice A' m c'] 22)) (h1 : Rd w w.heap.size A c xs) (h2 : Rd w w.heap.size A' c' ys) :
    Calls Tryz.prog 23 #[.slice (some ⟨w.heap.size, 0, none⟩) 2 2] v fun e w' => ∃ A c, e = .returned (.slice A (n + m) c) ∧ Own w' v.heap.size 5 A c (xs ++ ys) ∧ Below v.heap.size v w' := by
  subst hv
  have hs : (joinL [xs, ys]).length = n + m := by rw [join2, List.length_append, hx, hy]
  have h := join_code (L := [xs, ys]) _ (rds2 hx hy h1 h2) (Nat.le_refl _) (by rw [hs]; omega) (show 2 ≤ 1048576 by decide)
  rw [hs, join2] at h
  exact h
theorem num_any {r : Nat} (hr : r < LB) (w : World) : Calls Tryz.prog 19 #[nv r] w fun e w' => e = .returned (nv r) ∧ Below w.heap.size w w' := by
  have h := tnum_any (a := r) (Nat.lt_trans hr LB_W4') w
  rwa [Nat.mod_eq_of_lt (show r < LL from hr)] at h
section
attribute [local irreducible] wd by8 d16 set16w set4w set8p set6 gw gz fl rl setA t3f ivN mlN adN sbN hsh lefN clam
set_option maxHeartbeats 6400000 in
theorem sign_yes {A B : Option Addr} {c d : Nat} {seed b : List UInt8} (h32 : seed.length = 32) (hb4 : b.length ≤ 4000) (w : World) (hG : G9w w) (hr : Rd w w.heap.size A c seed) (hs : Rd w w.heap.size B d b) :
    Calls Tryz.prog 10 #[.slice A 32 c, .slice B b.length d] w fun e w' => ∃ A2 c2, e = .returned (.tuple #[.slice A2 64 c2, .int .i64 0]) ∧ Rd w' w'.heap.size A2 c2 (sigB seed b) ∧ Below w.heap.size w w' := by
  have KG := Lib.hid (grow_any h32 w hG hr)
  have HG := Lib.hid hG
  obtain ⟨lb, hlb⟩ : ∃ l, l = b.length := ⟨_, rfl⟩
  have HLB := Lib.hid hlb
  have HB4 := Lib.hid (show lb ≤ 4000 by rw [hlb]; exact hb4)
  rw [← hlb]
  obtain ⟨X, hX⟩ : ∃ X, X = secN seed := ⟨_, rfl⟩
  have HX := Lib.hid hX
  have HXW := Lib.hid (show X < W4 by rw [hX]; exact clam_W4 _)
  rw [← hX] at KG
  obtain ⟨r, hr⟩ : ∃ r, r = rN9 seed b := ⟨_, rfl⟩
  have HR := Lib.hid hr
  obtain ⟨k, hk⟩ : ∃ k, k = kN9 seed b := ⟨_, rfl⟩
  have HK := Lib.hid hk
  obtain ⟨S, hS⟩ : ∃ S, S = sN9 seed b := ⟨_, rfl⟩
  have HS := Lib.hid hS
  clear hlb hb4 hX hr hk hS hG
  go_enter Tryz.func10, Tryz.ntmps10
  go_wp2_with fail
  go_at_call 14
  refine KG.out.mono ?_
  rintro e v1 ⟨A1, c1, A2, c2, rfl, rP, rB, hc⟩
  have rb := (hs.keep hc).mono hc.size
  replace HG := Lib.hid (g9n _ _ HG.out hc)
  clear hs KG
  have on0 := g6_newz (w := v1) (B := v1.heap.size) (Nat.le_refl _)
  have o6 := (put6 on0 X A1 32 c1 A2 32 c2).mono hc.size
  have hbz := ((Below.refl _ v1).alloc (Nat.le_refl _) Zg).trans ((only6 _ _ X A1 32 c1 A2 32 c2).below (OwnF.ge on0))
  replace rP := (rP.keep hbz).mono hbz.size
  replace rB := (rB.keep hbz).mono hbz.size
  replace rb := (rb.keep hbz).mono hbz.size
  replace HG := Lib.hid (g9n _ _ HG.out hbz)
  replace hc := hc.trans (hbz.mono hc.size)
  clear hbz
  go_upto_region 4 with ((with_reducible refine g_store on0 X A1 32 c1 A2 32 c2 ?_ ?_ ?_); rfl; rfl)
  obtain ⟨v2, ev⟩ : ∃ v, v = set6 (v1.alloc Zg) v1.heap.size X A1 32 c1 A2 32 c2 := ⟨_, rfl⟩
  obtain ⟨g6, eg⟩ : ∃ g, g = v1.heap.size := ⟨_, rfl⟩
  rw [← ev] at rP rB rb o6 hc HG ⊢
  rw [← eg] at o6 ⊢
  clear ev eg on0
  -- r
  obtain ⟨v3, ev⟩ : ∃ v, v = v2.alloc (.cells #[.slice A1 32 c1, .slice B lb d] 22) := ⟨_, rfl⟩
  have hbz : Below v2.heap.size v2 v3 := by rw [ev]; exact (Below.refl _ v2).alloc (Nat.le_refl _) _
  have kd := dig2_any (preB_len seed) HLB.out.symm (by have := HB4.out; omega) v2 v3 ev HG.out.2.2 rP rb
  rw [show lefN (preB seed ++ b) = r from HR.out.symm] at kd
  obtain ⟨t4, t5⟩ := o6.two
  have EV := Lib.hid ev
  have KD := Lib.hid kd
  clear kd ev rP
  go_wp2_with fail
  go_at_call 17
  rw [← EV.out]
  refine KD.out.mono ?_
  rintro e v4 ⟨rfl, hb⟩
  replace hbz := hbz.trans (hb.mono hbz.size)
  clear t4 t5 hb KD EV
  replace rB := (rB.keep hbz).mono hbz.size
  replace rb := (rb.keep hbz).mono hbz.size
  replace o6 := o6.keep hbz
  replace HG := Lib.hid (g9n _ _ HG.out hbz)
  replace hc := hc.trans (hbz.mono hc.size)
  clear hbz
  have on0 := Osc.newz (w := v4) (B := v4.heap.size) (Nat.le_refl _)
  have o8 := (on0.put r).mono hc.size
  have hbz := ((Below.refl _ v4).alloc (Nat.le_refl _) Zs).trans (on0.below r)
  replace rB := (rB.keep hbz).mono hbz.size
  replace rb := (rb.keep hbz).mono hbz.size
  replace o6 := o6.keep hbz
  replace HG := Lib.hid (g9n _ _ HG.out hbz)
  replace hc := hc.trans (hbz.mono hc.size)
  clear hbz
  go_upto_region 5 with ((with_reducible refine sc_store on0 r ?_ ?_ ?_); rfl; rfl)
  obtain ⟨v5, ev⟩ : ∃ v, v = set4w (v4.alloc Zs) v4.heap.size r := ⟨_, rfl⟩
  obtain ⟨g8, eg⟩ : ∃ g, g = v4.heap.size := ⟨_, rfl⟩
  rw [← ev] at rB rb o6 o8 hc HG ⊢
  rw [← eg] at o8 ⊢
  clear ev eg on0
  have hrL : r < LB := by rw [HR.out]; exact lefN_lt _
  have KN := Lib.hid (num_any hrL)
  have HRL := Lib.hid hrL
  clear hrL
  go_wp2_with ((with_reducible refine sc_load o8 ?_ ?_); rfl)
  go_at_call 19
  refine (KN.out _).mono ?_
  rintro e v6 ⟨rfl, hb⟩
  replace rB := (rB.keep hb).mono hb.size
  replace rb := (rb.keep hb).mono hb.size
  replace o6 := o6.keep hb
  replace o8 := o8.keep hb
  replace HG := Lib.hid (g9n _ _ HG.out hb)
  replace hc := hc.trans (hb.mono hc.size)
  clear hb KN
  have KT := Lib.hid (timesc_any (Nat.lt_trans HRL.out LB_W4') v6 HG.out.1)
  go_wp2_with fail
  go_at_call 18
  refine KT.out.mono ?_
  rintro e v7 ⟨A3, c3, rfl, ho, hb⟩
  have rR := ho.rd
  replace rB := (rB.keep hb).mono hb.size
  replace rb := (rb.keep hb).mono hb.size
  replace o6 := o6.keep hb
  replace o8 := o8.keep hb
  replace HG := Lib.hid (g9n _ _ HG.out hb)
  replace hc := hc.trans (hb.mono hc.size)
  clear hb ho KT
  -- k
  obtain ⟨v8, ev⟩ : ∃ v, v = v7.alloc (.cells #[.slice A3 32 c3, .slice A2 32 c2, .slice B lb d] 22) := ⟨_, rfl⟩
  have hbz : Below v7.heap.size v7 v8 := by rw [ev]; exact (Below.refl _ v7).alloc (Nat.le_refl _) _
  have kd := dig3_any (encP_len _) (pubB_len seed) HLB.out.symm (by have := HB4.out; omega) v7 v8 ev HG.out.2.2 rR rB rb
  rw [show lefN (encP (B25.mul r) ++ pubB seed ++ b) = k by rw [HR.out, HK.out]; rfl] at kd
  obtain ⟨t4, t5⟩ := o6.two
  have EV := Lib.hid ev
  have KD := Lib.hid kd
  clear kd ev rB rb
  go_wp2_with fail
  go_at_call 17
  rw [← EV.out]
  refine KD.out.mono ?_
  rintro e v9 ⟨rfl, hb⟩
  replace hbz := hbz.trans (hb.mono hbz.size)
  clear t4 t5 hb KD EV
  replace rR := (rR.keep hbz).mono hbz.size
  replace o6 := o6.keep hbz
  replace o8 := o8.keep hbz
  replace hc := hc.trans (hbz.mono hc.size)
  clear hbz HG
  have on0 := Osc.newz (w := v9) (B := v9.heap.size) (Nat.le_refl _)
  have o10 := (on0.put k).mono hc.size
  have hbz := ((Below.refl _ v9).alloc (Nat.le_refl _) Zs).trans (on0.below k)
  replace rR := (rR.keep hbz).mono hbz.size
  replace o6 := o6.keep hbz
  replace o8 := o8.keep hbz
  replace hc := hc.trans (hbz.mono hc.size)
  clear hbz
  go_upto_region 7 with ((with_reducible refine sc_store on0 k ?_ ?_ ?_); rfl; rfl)
  obtain ⟨v10, ev⟩ : ∃ v, v = set4w (v9.alloc Zs) v9.heap.size k := ⟨_, rfl⟩
  obtain ⟨g10, eg⟩ : ∃ g, g = v9.heap.size := ⟨_, rfl⟩
  rw [← ev] at rR o6 o8 o10 hc ⊢
  rw [← eg] at o10 ⊢
  clear ev eg on0
  have hkL : k < LB := by rw [HK.out]; exact lefN_lt _
  have hrL := HRL.out
  have K1 := Lib.hid (fun w => treduce_any HXW.out w)
  obtain ⟨Y, hY⟩ : ∃ Y, Y = X % LL := ⟨_, rfl⟩
  rw [← hY] at K1
  have hYW : Y < W4 := by rw [hY]; exact LL_lt _
  have K2 := Lib.hid (fun w => tmul_any (Nat.lt_trans hkL LB_W4') hYW w)
  obtain ⟨M, hM⟩ : ∃ M, M = k * Y % LL := ⟨_, rfl⟩
  rw [← hM] at K2
  have hMW : M < W4 := by rw [hM]; exact LL_lt _
  have K3 := Lib.hid (fun w => tadd_any (Nat.lt_trans hrL LB_W4') hMW w)
  have hSe : S = (r + M) % LL := by rw [HS.out, hM, hY, HK.out, HX.out, HR.out]; rfl
  rw [← hSe] at K3
  have HSL := Lib.hid (show S < LL by rw [hSe]; exact Nat.mod_lt _ LL_pos)
  clear hkL hrL hY hYW hM hMW hSe
  refine wp_region_box 9 [some 34, some 35, some 36, some 37, some 38, some 39, some 40, some 11, none] [.val (nv r), .val (nv k), .val (.pointer (some ⟨g6, 0, none⟩)), .val (nv X), .val (nv Y), .val (nv M), .val (nv S), .box 44 4, .holds 7 44 4 (wv S)] v10.heap.size (fun wz => Below v10.heap.size v10 wz) (by kernel_rfl) (by kernel_rfl)
    (fun _ _ h _ hb => h.trans hb) ((Below.refl _ _).drew) (Nat.le_refl _) (fun u => by simp only [List.filterMap_cons, List.filterMap_nil, id, puts, List.foldl_cons, List.foldl_nil]; go_simp; exact rfl) ?_ ?_
  · simp only [List.take_succ_cons, List.take_zero]
    refine ObsB.cons (fun u w L hL hS hBw hd => ?_) ?_
    · exact GB.run 34 rfl (nv r) rfl (run_scload rfl rfl (o8.keep hS)) rfl rfl
    refine ObsB.cons (fun u w L hL hS hBw hd => ?_) ?_
    · exact GB.run 35 rfl (nv k) rfl (run_scload rfl rfl (o10.keep hS)) rfl rfl
    refine ObsB.cons (fun u w L hL hS hBw hd => ?_) ?_
    · exact GB.run 36 rfl (.pointer (some ⟨g6, 0, none⟩)) rfl (by go_simp) rfl rfl
    refine ObsB.cons (fun u w L hL hS hBw hd => ?_) ?_
    · have d36 : u 36 = .pointer (some ⟨g6, 0, none⟩) := depB hd 2 rfl
      rw [d36]
      exact GB.run 37 rfl (nv X) rfl (run_gnum rfl rfl (o6.keep hS)) rfl rfl
    refine ObsB.cons (fun u w L hL hS hBw hd => ?_) ?_
    · have d37 : u 37 = nv X := depB hd 3 rfl
      rw [d37]
      refine GB.call 38 rfl 22 #[nv X] rfl (by go_simp) rfl ((K1.out w).mono ?_)
      rintro e w' ⟨rfl, hb⟩
      exact ⟨_, rfl, rfl, hb⟩
    refine ObsB.cons (fun u w L hL hS hBw hd => ?_) ?_
    · have d35 : u 35 = nv k := depB hd 1 rfl
      rw [d35]
      have d38 : u 38 = nv Y := depB hd 4 rfl
      rw [d38]
      refine GB.call 39 rfl 21 #[nv k, nv Y] rfl (by go_simp) rfl ((K2.out w).mono ?_)
      rintro e w' ⟨rfl, hb⟩
      exact ⟨_, rfl, rfl, hb⟩
    refine ObsB.cons (fun u w L hL hS hBw hd => ?_) ?_
    · have d34 : u 34 = nv r := depB hd 0 rfl
      rw [d34]
      have d39 : u 39 = nv M := depB hd 5 rfl
      rw [d39]
      refine GB.call 40 rfl 20 #[nv r, nv M] rfl (by go_simp) rfl ((K3.out w).mono ?_)
      rintro e w' ⟨rfl, hb⟩
      exact ⟨_, rfl, rfl, hb⟩
    refine ObsB.cons (fun u w L hL hS hBw hd => ?_) ?_
    · exact GB.alloc 11 rfl rfl #[.int .u64 0, .int .u64 0, .int .u64 0, .int .u64 0] 44 4 (fun _ => .int .u64 0) rfl rfl (by go_simp) hBw (by decide) rfl
    refine ObsB.cons (fun u w L hL hS hBw hd => ?_) ?_
    · have d40 : u 40 = nv S := depB hd 6 rfl
      obtain ⟨g, fg, e11, o11⟩ : (Fact.box 44 4).ok v10.heap.size [some 34, some 35, some 36, some 37, some 38, some 39, some 40, some 11, none] 7 u w L := depB hd 7 rfl
      exact GB.store rfl 7 g 44 4 (wv S) rfl rfl rfl e11 (run_scstore rfl (by exact e11) (by exact d40) o11) (only4 w g S) (put4o o11 S)
    exact ObsB.nil
  intro u1 v11 hS hd
  obtain ⟨g11, e11, o11⟩ : (Fact.holds 7 44 4 (wv S)).ok v10.heap.size [some 34, some 35, some 36, some 37, some 38, some 39, some 40, some 11, none] 8 u1 v11 (fun _ => true) := hd 8 (by decide)
  replace e11 : u1 11 = .pointer (some ⟨g11, 0, none⟩) := e11
  replace o11 : Osc v11 v10.heap.size g11 S := o11
  replace rR := (rR.keep hS).mono hS.size
  replace hc := hc.trans (hS.mono hc.size)
  have kb := tbytes_any (a := S) (Nat.lt_trans HSL.out LL_W4) v11
  rw [Nat.mod_eq_of_lt HSL.out] at kb
  have KB := Lib.hid kb
  rw [e11]
  clear hS hd e11 K1 K2 K3 o6 o8 o10 kb
  simp only [List.drop_succ_cons, List.drop_zero]
  go_wp2_with ((with_reducible refine sc_load o11 ?_ ?_); rfl)
  go_at_call 24
  refine KB.out.mono ?_
  rintro e v12 ⟨A5, c5, rfl, ho, hb⟩
  replace rR := (rR.keep hb).mono hb.size
  replace hc := hc.trans (hb.mono hc.size)
  obtain ⟨v13, ev⟩ : ∃ v, v = v12.alloc (.cells #[.slice A3 32 c3, .slice A5 32 c5] 22) := ⟨_, rfl⟩
  have hbz : Below v12.heap.size v12 v13 := by rw [ev]; exact (Below.refl _ v12).alloc (Nat.le_refl _) _
  have KJ := Lib.hid (joinc_any (encP_len (B25.mul r)) (gen_length _ _) (by decide) v12 v13 ev rR ho.rd)
  have EV := Lib.hid ev
  clear hb KB o11 ho ev rR
  go_wp2_with fail
  go_at_call 23
  rw [← EV.out]
  refine KJ.out.mono ?_
  rintro e v14 ⟨A6, c6, rfl, ho, hb⟩
  have HC := Lib.hid (hc.trans ((hbz.trans (hb.mono hbz.size)).mono hc.size))
  have ro := ho.rd
  rw [show encP (B25.mul r) ++ gen (bf S) 32 = sigB seed b by rw [HR.out, HS.out]; rfl] at ro
  have RO := Lib.hid ro
  clear hb hbz ho KJ EV hc ro
  go_wp2_with fail
  go_returns
  exact ⟨_, _, rfl, RO.out, HC.out⟩
set_option maxHeartbeats 800000 in
theorem sign_no {A B : Option Addr} {n m c d : Nat} (hn : n ≠ 32) (w : World) :
    Calls Tryz.prog 10 #[.slice A n c, .slice B m d] w fun e w' => e = .returned (.tuple #[.slice none 0 0, .int .i64 1]) ∧ Below w.heap.size w w' := by
  have KG := Lib.hid (grow_no (A := A) (c := c) hn w)
  clear hn
  go_enter Tryz.func10, Tryz.ntmps10
  go_wp2_with fail
  go_at_call 14
  refine KG.out.mono ?_
  rintro e v1 ⟨rfl, hb⟩
  go_wp2_with fail
  go_returns
  exact ⟨rfl, hb.alloc hb.size _⟩
end
theorem csign_any : CSign G9w := by
  intro seed b hm A B c d w hG hr hs
  by_cases h32 : seed.length = 32
  · obtain ⟨p1, p2, p3⟩ := pubL_yes h32
    obtain ⟨s1, s2⟩ := sigL_yes b h32
    rw [s2, p3, s1, h32]
    exact sign_yes h32 hm w hG hr hs
  · obtain ⟨p1, p3⟩ := pubL_no h32
    rw [sigL_no b h32, p3]
    refine (sign_no h32 w).mono ?_
    rintro e w' ⟨rfl, hb⟩
    exact ⟨none, 0, rfl, rd_nil9 _ _, hb⟩
end Go.Proofs.YtkbkalhcdbklkaaGreatDoor
namespace Go.Proofs.YtkbkalhcdbklkaaGreatDoor
open Go Go.RowKit
theorem signs_law9 {A B : Option Addr} {c d : Nat} {seed b : List UInt8} {w0 : World} (hr : Rd w0 w0.heap.size A c seed) (hl : seed.length ≤ 140737488351232) (hs : Rd w0 w0.heap.size B d b) (_ : b.length ≤ 140737488351232) (_w : World) (hG : G9w w0) :
    Calls Tryz.prog 4 #[.slice A seed.length c, .slice B b.length d] w0 fun e w' => e = .returned (.bool true) ∧ Below w0.heap.size w0 w' :=
  law9_signs g9n cpub_any csign_any cver0_any (by omega) w0 hr hs hG
end Go.Proofs.YtkbkalhcdbklkaaGreatDoor
