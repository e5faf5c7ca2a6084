/-
  Layer 9: the public key of 32 noughts. By an AI agent. Layer 9: what the code of sign is asked for (contracts over a predicate of worlds), and awake out of it. By an AI agent. The document's Sign (layer 9). By an AI agent. The document's Verify (layer 9). Written by tools/gen_g5.py. By an AI agent. Layer 9's SignPublics, SignSigns, SignVerifies out of the code's contracts. By an AI agent.
-/
import Derived.Test.YtkbkalhcdbklkaaGreatDoorJ15
import Derived.Test.YtkbkalhcdbklkaaGreatDoorJ01
import Derived.Test.YtkbkalhcdbklkaaGreatDoorJ18
import Derived.Test.YtkbkalhcdbklkaaGreatDoorJ09
import Derived.Test.YtkbkalhcdbklkaaGreatDoorJ01
namespace Go.Proofs.YtkbkalhcdbklkaaGreatDoor
open Go Go.RowKit
set_option maxRecDepth 20000
def secZ : Nat := clam (vb ((hsh zer9).take 32))
theorem sec_z : secN zer9 = secZ := by unfold secN secZ; rfl
def secL : Nat := 39325648866980652792715009169219496062012184734522019333892538943312776480336
theorem secZ_is : secZ = secL := by decide +kernel
def trZ : Tr := Tr.times ed ⟨bx, by_, 1⟩ secL 256
def tyL : Nat := 19726323970308381861037264260459780811373847171889358821150822261828039361496
def tzL : Nat := 24471432733940390919967843837209335102995873066817353683885557581620014762187
theorem trZ_is : trZ.y = tyL ∧ trZ.z = tzL := by decide +kernel
def yZ : Nat := mlN tyL (pm P25 256 tzL (P25 - 2))
theorem zer_key2 : (yZ % 256 = 59 ∧ yZ / 256 % 256 = 106) ∧ (tzL < P25 ∧ secL < 2 ^ 256) := by decide +kernel
theorem base_tr9 : (⟨bx, by_, 1⟩ : Tr).of B25 := by
  refine ⟨?_, ?_, ?_⟩
  · show toF 1 ≠ 0
    decide +kernel
  · show toF bx = toF bx * 1
    grind
  · show toF by_ = toF by_ * 1
    grind
theorem yZ_is : (B25.mul secZ).y.val = yZ := by
  rw [secZ_is]
  have h := Tr.times_of (C := E25) (dd := ed) rfl base_tr9 256 secL zer_key2.2.2
  have h2 := of_point (t := trZ) h (by rw [trZ_is.2]; exact zer_key2.2.1)
  rw [ivN_pm, trZ_is.1, trZ_is.2] at h2
  exact h2.2.symm
theorem pub_gen {p : Pt E25} {Y : Nat} (hy : p.y.val = Y) (h0 : Y % 256 = 59) (h1 : Y / 256 % 256 = 106) : nth (encP p) 0 = 59 ∧ nth (encP p) 1 = 106 := by
  unfold encP encN
  rw [nth_gen (by decide), nth_gen (by decide), bf_nat, bf_nat, hy]
  generalize p.x.val % 2 = b at *
  have e1 : by8 (Y + 2 ^ 255 * b) 0 = Y % 256 := by
    unfold by8 dgt
    rw [Nat.pow_zero, Nat.div_one, half_is, show 256 ^ 31 * 128 = 256 * (256 ^ 30 * 128) by decide, Nat.mul_assoc, Nat.add_mul_mod_self_left]
  have e2 : by8 (Y + 2 ^ 255 * b) 1 = Y / 256 % 256 := by
    unfold by8 dgt
    rw [Nat.pow_one, half_is, show 256 ^ 31 * 128 = 256 * (256 * (256 ^ 29 * 128)) by decide, Nat.mul_assoc, Nat.add_mul_div_left _ _ (by decide), Nat.mul_assoc, Nat.add_mul_mod_self_left]
  rw [e1, e2]
  exact ⟨h0, h1⟩
theorem pub_zer : nth (pubB zer9) 0 = 59 ∧ nth (pubB zer9) 1 = 106 := by
  have h := pub_gen yZ_is zer_key2.1.1 zer_key2.1.2
  unfold pubB
  rw [sec_z]
  exact h
end Go.Proofs.YtkbkalhcdbklkaaGreatDoor
namespace Go.Proofs.YtkbkalhcdbklkaaGreatDoor
open Go Go.RowKit
attribute [local irreducible] hsh secN pubB sigB verN
def pubL (seed : List UInt8) : List UInt8 := if seed.length = 32 then pubB seed else []
def sigL (seed b : List UInt8) : List UInt8 := if seed.length = 32 then sigB seed b else []
def seedE (seed : List UInt8) : Nat := if seed.length = 32 then 0 else 1
theorem pubL_yes {seed : List UInt8} (h : seed.length = 32) : pubL seed = pubB seed ∧ (pubL seed).length = 32 ∧ seedE seed = 0 := by
  unfold pubL seedE
  rw [if_pos h, if_pos h]
  exact ⟨rfl, pubB_len _, rfl⟩
theorem sigL_yes {seed : List UInt8} (b : List UInt8) (h : seed.length = 32) : sigL seed b = sigB seed b ∧ (sigL seed b).length = 64 := by
  unfold sigL
  rw [if_pos h]
  exact ⟨rfl, sigB_len _ _⟩
theorem pubL_no {seed : List UInt8} (h : seed.length ≠ 32) : pubL seed = [] ∧ seedE seed = 1 := by
  unfold pubL seedE
  rw [if_neg h, if_neg h]
  exact ⟨rfl, rfl⟩
theorem sigL_no {seed : List UInt8} (b : List UInt8) (h : seed.length ≠ 32) : sigL seed b = [] := by
  unfold sigL
  rw [if_neg h]
def CPub (G : World → Prop) : Prop := ∀ (seed : List UInt8) (A : Option Addr) (c : Nat) (w : World), G w → Rd w w.heap.size A c seed →
  Calls Tryz.prog 7 #[.slice A seed.length c] w fun e w' => ∃ A2 c2, e = .returned (.tuple #[.slice A2 (pubL seed).length c2, .int .i64 (seedE seed : Int)]) ∧ Rd w' w'.heap.size A2 c2 (pubL seed) ∧ Below w.heap.size w w'
def CSign (G : World → Prop) : Prop := ∀ (seed b : List UInt8), b.length ≤ 4000 → ∀ (A B : Option Addr) (c d : Nat) (w : World), G w → Rd w w.heap.size A c seed → Rd w w.heap.size B d b →
  Calls Tryz.prog 10 #[.slice A seed.length c, .slice B b.length d] w fun e w' => ∃ A2 c2, e = .returned (.tuple #[.slice A2 (sigL seed b).length c2, .int .i64 (seedE seed : Int)]) ∧ Rd w' w'.heap.size A2 c2 (sigL seed b) ∧ Below w.heap.size w w'
def CVer (G : World → Prop) : Prop := ∀ (key b sig : List UInt8), b.length ≤ 4000 → ∀ (A B C : Option Addr) (c d e0 : Nat) (w : World), G w → Rd w w.heap.size A c key → Rd w w.heap.size B d b → Rd w w.heap.size C e0 sig →
  Calls Tryz.prog 12 #[.slice A key.length c, .slice B b.length d, .slice C sig.length e0] w fun e w' => e = .returned (.int .i64 (verN key b sig : Int)) ∧ Below w.heap.size w w'
/-- What awake asks of Verify: a signature of no bytes. -/
def CVer0 (G : World → Prop) : Prop := ∀ (A : Option Addr) (c : Nat) (w : World), G w →
  Calls Tryz.prog 12 #[.slice A 32 c, .slice none 0 0, .slice none 0 0] w fun e w' => e = .returned (.int .i64 1) ∧ Below w.heap.size w w'
theorem rd_nil9 (w : World) (B : Nat) : Rd w B none 0 [] := ⟨Nat.le_refl _, fun _ => ⟨rfl, rfl⟩, fun h => absurd rfl h⟩
theorem awake9 {G : World → Prop} (hGn : ∀ w w', G w → Below w.heap.size w w' → G w') (kp : CPub G) (kv : CVer0 G) (w : World) (hG : G w) :
    Calls Tryz.prog 9 #[] w fun e w' => e = .returned (.bool true) ∧ Below w.heap.size w w' := by
  obtain ⟨p1, p2, p3⟩ := pubL_yes zer9_len
  refine awake9_gen hGn (L := pubL zer9) p2 (by rw [p1]; exact pub_zer.1) (by rw [p1]; exact pub_zer.2) (fun A c w hG hr => ?_) (fun A c w hG hr => ?_) w hG
  · have h := kp zer9 A c w hG hr
    rw [p2, p3, zer9_len] at h
    exact h
  · exact kv A c w hG
end Go.Proofs.YtkbkalhcdbklkaaGreatDoor
namespace Go.Proofs.YtkbkalhcdbklkaaGreatDoor
open Go Go.RowKit
set_option maxRecDepth 20000
theorem join9_n {A A' A3 : Option Addr} {B c c' c3 n m k l : Nat} {xs ys zs L : List UInt8} (hx : xs.length = n) (hy : ys.length = m) (hz : zs.length = k) (hL : L = xs ++ ys ++ zs) (hl : L.length = l) (hm : l ≤ 140737488355328) (w : World) (hr : Rd w B A c xs) (hs : Rd w B A' c' ys) (ht : Rd w B A3 c3 zs) (hB : B ≤ w.heap.size) :
    Calls Tryz.prog 26 #[.slice A n c, .slice A' m c', .slice A3 k c3] w fun e w' => ∃ A2 c2, e = .returned (.slice A2 l c2) ∧ Own w' w.heap.size 5 A2 c2 L ∧ Below w.heap.size w w' := by
  subst hx hy hz hL hl
  exact join9_any (by rwa [List.length_append, List.length_append] at hm) w hr hs ht hB
theorem left9_n {A : Option Addr} {B c n : Nat} {bs : List UInt8} (hn : bs.length = n) (hl : n ≤ 1000000) (w : World) (hr : Rd w B A c bs) (hB : B ≤ w.heap.size) :
    Calls Tryz.prog 25 #[.slice A n c] w fun e w' => ∃ A c n, e = .returned (.slice A n c) ∧ DOwn w' w.heap.size A c n (lefN bs) ∧ Below w.heap.size w w' := by
  subst hn
  exact left9_any hl w hr hB
theorem rd_nil (w : World) (B : Nat) : Rd w B none 0 [] := ⟨Nat.le_refl _, fun _ => ⟨rfl, rfl⟩, fun h => absurd rfl h⟩
theorem few_l {n x : Nat} (h : Can n x) (hx : x < LB) : n ≤ 1000 := Nat.le_trans (h 32 (by rw [← W4_256]; exact Nat.lt_trans hx LB_W4')) (by decide)
theorem LB_200 {x y : Nat} (hx : x < LB) (hy : y < LB) : x + y < 256 ^ 200 ∧ x * y < 256 ^ 200 := by
  have h : LB * LB < 256 ^ 100 ∧ LB + LB < 256 ^ 100 ∧ (256 : Nat) ^ 100 < 256 ^ 200 := by decide +kernel
  have h1 : x * y ≤ LB * LB := Nat.mul_le_mul (Nat.le_of_lt hx) (Nat.le_of_lt hy)
  omega
theorem sign_len {A A1 : Option Addr} {n c n1 c1 : Nat} (hn : n ≠ 32) (w : World) : Calls Tryz.prog 11 #[.slice A n c, .slice A1 n1 c1] w fun e w' => e = .returned (.tuple #[.slice none 0 0, .int .i64 1]) ∧ Below w.heap.size w w' := by
  have g1 : ((n : Int) == 32) = false := by simp; omega
  have g2 : ((n : Int) != 32) = true := by simp; omega
  clear hn
  go_enter Tryz.func11, Tryz.ntmps11
  go_wp2_with fail
  go_returns
  exact ⟨rfl, Below.refl _ _⟩
section
attribute [local irreducible] wd by8 d16 set16w fl rl setA t3f ivN mlN adN sbN hsh clam
set_option maxHeartbeats 3200000 in
theorem sign9_any {A A1 : Option Addr} {B c cb : Nat} {seed b : List UInt8} (h32 : seed.length = 32) (hb4 : b.length ≤ 4000) (w : World) (hr : Rd w B A c seed) (hs : Rd w B A1 cb b) (hB : B ≤ w.heap.size) :
    Calls Tryz.prog 11 #[.slice A 32 c, .slice A1 b.length cb] w fun e w' => ∃ A c, e = .returned (.tuple #[.slice A 64 c, .int .i64 0]) ∧ Own w' w.heap.size 5 A c (sigB seed b) ∧ Below w.heap.size w w' := by
  have KP := Lib.hid (parts_any h32 w hr hB)
  clear hr
  obtain ⟨lb, hlb⟩ : ∃ l, l = b.length := ⟨_, rfl⟩
  have HLB := Lib.hid hlb
  have HB4 := Lib.hid (show lb ≤ 4000 by rw [hlb]; exact hb4)
  rw [← hlb]
  obtain ⟨l1, hl1⟩ : ∃ l, l = 32 + lb := ⟨_, rfl⟩
  have HL1 := Lib.hid hl1
  obtain ⟨l2, hl2⟩ : ∃ l, l = 64 + lb := ⟨_, rfl⟩
  have HL2 := Lib.hid hl2
  obtain ⟨X, hX⟩ : ∃ X, X = secN seed := ⟨_, rfl⟩
  have HX := Lib.hid hX
  rw [← hX] at KP
  obtain ⟨r, hr⟩ : ∃ r, r = rN9 seed b := ⟨_, rfl⟩
  have HR := Lib.hid hr
  obtain ⟨k, hk⟩ : ∃ k, k = kN9 seed b := ⟨_, rfl⟩
  have HK := Lib.hid hk
  clear hlb hb4 hl1 hl2 hX hr hk
  go_enter Tryz.func11, Tryz.ntmps11
  go_wp2_with fail
  go_at_call 15
  refine KP.out.mono ?_
  rintro e v1 ⟨A2, n2, c2, A3, c3, rfl, ⟨dn, kn⟩, rp, hc⟩
  have rb := (hs.keep (hc.mono hB)).mono (Nat.le_trans hB hc.size)
  clear KP hs
  -- r
  have KJ := Lib.hid (join9_n (n := 32) (m := lb) (k := 0) (l := l1) (L := preB seed ++ b ++ []) (preB_len seed) HLB.out.symm rfl rfl (by rw [List.append_nil, List.length_append, preB_len, ← HLB.out, HL1.out]) (by have := HB4.out; have := HL1.out; omega) v1 rp rb (rd_nil v1 v1.heap.size) (Nat.le_refl _))
  clear rp
  go_wp2_with fail
  go_at_call 26
  refine KJ.out.mono ?_
  rintro e v2 ⟨A4, c4, rfl, ho, hb⟩
  rw [List.append_nil] at ho
  have kl := left9_n (n := l1) (bs := preB seed ++ b) (by rw [List.length_append, preB_len, ← HLB.out, HL1.out]) (by have := HB4.out; have := HL1.out; omega) v2 ho.rd (Nat.le_refl _)
  rw [show lefN (preB seed ++ b) = r from HR.out.symm] at kl
  have KL := Lib.hid kl
  replace hc := hc.trans (hb.mono hc.size)
  replace rb := (rb.keep hb).mono hb.size
  replace dn := dn.next hb
  clear hb ho kl KJ
  go_wp2_with fail
  go_at_call 25
  refine KL.out.mono ?_
  rintro e v3 ⟨A5, c5, n5, rfl, d, hb⟩
  replace hc := hc.trans (hb.mono hc.size)
  replace rb := (rb.keep hb).mono hb.size
  replace dn := dn.next hb
  have dr := d.dig
  have kr := few_l d.can (by rw [HR.out]; exact lefN_lt _)
  have canr := d.can
  clear hb d KL
  have KQ := Lib.hid (point9_any kr v3 dr)
  go_wp2_with fail
  go_at_call 16
  refine KQ.out.mono ?_
  rintro e v4 ⟨A6, c6, rfl, ho, hb⟩
  replace hc := hc.trans (hb.mono hc.size)
  replace rb := (rb.keep hb).mono hb.size
  replace dn := dn.next hb
  replace dr := dr.next hb
  have rR := ho.rd
  clear hb ho KQ
  have kn2 : n2 ≤ 1000 := by rw [HX.out] at kn; exact sec_n kn
  have KQ := Lib.hid (point9_any kn2 v4 dn)
  go_wp2_with fail
  go_at_call 16
  refine KQ.out.mono ?_
  rintro e v5 ⟨A7, c7, rfl, ho, hb⟩
  replace hc := hc.trans (hb.mono hc.size)
  replace rb := (rb.keep hb).mono hb.size
  replace dn := dn.next hb
  replace dr := dr.next hb
  replace rR := (rR.keep hb).mono hb.size
  have rP := ho.rd
  clear hb ho KQ
  have KJ := Lib.hid (join9_n (n := 32) (m := 32) (k := lb) (l := l2) (L := encP (B25.mul r) ++ encP (B25.mul X) ++ b) (encP_len _) (encP_len _) HLB.out.symm rfl (by rw [List.length_append, List.length_append, encP_len, encP_len, ← HLB.out, HL2.out]) (by have := HB4.out; have := HL2.out; omega) v5 rR rP rb (Nat.le_refl _))
  go_wp2_with fail
  go_at_call 26
  refine KJ.out.mono ?_
  rintro e v6 ⟨A8, c8, rfl, ho, hb⟩
  have kl := left9_n (n := l2) (by rw [List.length_append, List.length_append, encP_len, encP_len, ← HLB.out, HL2.out]) (by have := HB4.out; have := HL2.out; omega) v6 ho.rd (Nat.le_refl _)
  rw [show lefN (encP (B25.mul r) ++ encP (B25.mul X) ++ b) = k by rw [HR.out, HX.out, HK.out]; rfl] at kl
  have KL := Lib.hid kl
  replace hc := hc.trans (hb.mono hc.size)
  replace dn := dn.next hb
  replace dr := dr.next hb
  replace rR := (rR.keep hb).mono hb.size
  clear hb ho kl KJ rP rb
  go_wp2_with fail
  go_at_call 25
  refine KL.out.mono ?_
  rintro e v7 ⟨A9, c9, n9, rfl, d, hb⟩
  replace hc := hc.trans (hb.mono hc.size)
  replace dn := dn.next hb
  replace dr := dr.next hb
  replace rR := (rR.keep hb).mono hb.size
  have hkL : k < LB := by rw [HK.out]; exact lefN_lt _
  have hrL : r < LB := by rw [HR.out]; exact lefN_lt _
  have dk := d.dig
  have kk := few_l d.can hkL
  clear hb d KL
  have KF := Lib.hid (rleft_any v7 dn (Nat.le_refl _) kn2)
  go_wp2_with fail
  go_at_call 29
  refine KF.out.mono ?_
  rintro e v8 ⟨A10, c10, n10, rfl, d, hb⟩
  replace hc := hc.trans (hb.mono hc.size)
  replace dk := dk.next hb
  replace dr := dr.next hb
  replace rR := (rR.keep hb).mono hb.size
  have hml : X % LL < LB := Nat.mod_lt _ LB_pos
  have km := few_l d.can hml
  have KM := Lib.hid (rsmul_any v8 dk d.dig (Nat.le_refl _) kk km (LB_200 hkL hml).2)
  clear hb d KF dn
  go_wp2_with fail
  go_at_call 28
  refine KM.out.mono ?_
  rintro e v9 ⟨A11, c11, n11, rfl, d, hb⟩
  replace hc := hc.trans (hb.mono hc.size)
  replace dr := dr.next hb
  replace rR := (rR.keep hb).mono hb.size
  have hpl : k * (X % LL) % LL < LB := Nat.mod_lt _ LB_pos
  have kp := few_l d.can hpl
  have KA := Lib.hid (rsadd_any v9 dr d.dig (Nat.le_refl _) kr kp (LB_200 hrL hpl).1)
  clear hb d KM dk
  go_wp2_with fail
  go_at_call 27
  refine KA.out.mono ?_
  rintro e v10 ⟨A12, c12, n12, rfl, d, hb⟩
  replace hc := hc.trans (hb.mono hc.size)
  replace rR := (rR.keep hb).mono hb.size
  have kt := told_any v10 d.dig (Nat.le_refl _)
  rw [show (r + k * (X % LL) % LL) % LL = sN9 seed b by rw [HR.out, HK.out, HX.out]; rfl] at kt
  have KT := Lib.hid kt
  clear hb d KA dr kt
  go_wp2_with fail
  go_at_call 30
  refine KT.out.mono ?_
  rintro e v11 ⟨A13, c13, rfl, ho, hb⟩
  replace hc := hc.trans (hb.mono hc.size)
  replace rR := (rR.keep hb).mono hb.size
  have KJ := Lib.hid (join9_n (n := 32) (m := 32) (k := 0) (l := 64) (L := encP (B25.mul r) ++ gen (bf (sN9 seed b)) 32 ++ []) (encP_len _) (gen_length _ _) rfl rfl (by rw [List.append_nil, List.length_append, encP_len, gen_length]) (by decide) v11 rR ho.rd (rd_nil v11 v11.heap.size) (Nat.le_refl _))
  clear hb ho KT
  go_wp2_with fail
  go_at_call 26
  refine KJ.out.mono ?_
  rintro e v12 ⟨A14, c14, rfl, ho, hb⟩
  rw [List.append_nil] at ho
  replace ho := ho.mono hc.size
  replace hc := hc.trans (hb.mono hc.size)
  rw [HR.out] at ho
  clear hb KJ rR
  go_wp2_with fail
  go_returns
  exact ⟨A14, c14, rfl, ho, hc⟩
end
end Go.Proofs.YtkbkalhcdbklkaaGreatDoor
namespace Go.Proofs.YtkbkalhcdbklkaaGreatDoor
open Go Go.RowKit
set_option maxRecDepth 20000
def tr9 (p : Pt E25) : Tr := ⟨p.x.val, p.y.val, 1⟩
def tr9E (q : Pt E25) (v : Value) (_ : World) : Prop := ∃ r : Tr, v = t3v r ∧ r.ok ∧ r.of q
def bx9 (B : Nat) (v : Value) (w : World) : Prop := ∃ g, v = .pointer (some ⟨g, 0, none⟩) ∧ OwnF w B 70 (some ⟨g, 0, none⟩) 48 48 (fun _ => .int .i64 0)
section
attribute [local irreducible] wd by8 d16 set16w fl rl setA t3f ivN mlN adN sbN hsh clam decT decE ptD smlP
end
end Go.Proofs.YtkbkalhcdbklkaaGreatDoor
namespace Go.Proofs.YtkbkalhcdbklkaaGreatDoor
open Go Go.RowKit
attribute [local irreducible] hsh secN pubB sigB verN rB9 sN9
theorem law9_publics {G : World → Prop} (hGn : ∀ w w', G w → Below w.heap.size w w' → G w') (kp : CPub G) (kv : CVer0 G) {A : Option Addr} {c : Nat} {seed : List UInt8} (hl : seed.length ≤ 140737488355328)
    (w : World) (r0 : Rd w w.heap.size A c seed) (hG : G w) : Calls Tryz.prog 3 #[.slice A seed.length c] w fun e w' => e = .returned (.bool true) ∧ Below w.heap.size w w' := by
  refine publics_gen hGn (L := pubL seed) (er := seedE seed) hl (kp seed) (fun A c w hr => ?_) (awake9 hGn kp kv) w r0 hG
  by_cases hn : seed.length = 32
  · obtain ⟨p1, p2, p3⟩ := pubL_yes hn
    rw [p2, p3, p1, hn]
    refine (public9_any hn w hr (Nat.le_refl _)).mono ?_
    rintro e w' ⟨A2, c2, rfl, ho, hb⟩
    exact ⟨A2, c2, rfl, ho.rd, hb⟩
  · obtain ⟨p1, p3⟩ := pubL_no hn
    rw [p1, p3]
    refine (pub_len hn w).mono ?_
    rintro e w' ⟨rfl, hb⟩
    exact ⟨none, 0, rfl, rd_nil9 _ _, hb⟩
theorem law9_signs {G : World → Prop} (hGn : ∀ w w', G w → Below w.heap.size w w' → G w') (kp : CPub G) (ks : CSign G) (kv : CVer0 G) {A B : Option Addr} {c d : Nat} {seed b : List UInt8} (hl : seed.length ≤ 140737488355328)
    (w : World) (r0 : Rd w w.heap.size A c seed) (q0 : Rd w w.heap.size B d b) (hG : G w) : Calls Tryz.prog 4 #[.slice A seed.length c, .slice B b.length d] w fun e w' => e = .returned (.bool true) ∧ Below w.heap.size w w' := by
  by_cases hm : 4000 < b.length
  · exact signs_much (awake9 hGn kp kv) hm w hG
  replace hm : b.length ≤ 4000 := by omega
  refine signs_gen hGn (L := sigL seed b) (er := seedE seed) hl hm (ks seed b hm) (fun A B c d w hr hs => ?_) (awake9 hGn kp kv) w r0 q0 hG
  by_cases hn : seed.length = 32
  · obtain ⟨p1, p2, p3⟩ := pubL_yes hn
    obtain ⟨s1, s2⟩ := sigL_yes b hn
    rw [s2, p3, s1, hn]
    refine (sign9_any hn hm w hr hs (Nat.le_refl _)).mono ?_
    rintro e w' ⟨A2, c2, rfl, ho, hb⟩
    exact ⟨A2, c2, rfl, ho.rd, hb⟩
  · obtain ⟨p1, p3⟩ := pubL_no hn
    rw [sigL_no b hn, p3]
    refine (sign_len hn w).mono ?_
    rintro e w' ⟨rfl, hb⟩
    exact ⟨none, 0, rfl, rd_nil9 _ _, hb⟩
end Go.Proofs.YtkbkalhcdbklkaaGreatDoor
