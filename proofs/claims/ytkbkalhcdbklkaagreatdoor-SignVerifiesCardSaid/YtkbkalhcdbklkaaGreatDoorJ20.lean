/-
  Layer 9: the public key of 32 noughts. By an AI agent. (and more)
-/
import Derived.Test.YtkbkalhcdbklkaaGreatDoorJ19
import Derived.Test.YtkbkalhcdbklkaaGreatDoorG8
import Derived.Test.YtkbkalhcdbklkaaGreatDoorS3
import Derived.Test.YtkbkalhcdbklkaaGreatDoorJ13
import Derived.Test.YtkbkalhcdbklkaaGreatDoorJ19
import Derived.Test.YtkbkalhcdbklkaaGreatDoorG7
namespace Go.Proofs.YtkbkalhcdbklkaaGreatDoor
section
open Go Go.RowKit
set_option maxRecDepth 20000
def secZ : Nat := clam (vb ((hsh zer9).take 32))
theorem sec_z : secN zer9 = secZ := by unfold secN secZ; rfl
def secL : Nat := 39325648866980652792715009169219496062012184734522019333892538943312776480336
theorem secZ_is : secZ = secL := by decide +kernel
def trZ : Tr := Tr.times ed ⟨bx, by_, 1⟩ secL 256
def tyL : Nat := 19726323970308381861037264260459780811373847171889358821150822261828039361496
def tzL : Nat := 24471432733940390919967843837209335102995873066817353683885557581620014762187
theorem trZ_is : trZ.y = tyL ∧ trZ.z = tzL := by decide +kernel
def yZ : Nat := mlN tyL (pm P25 256 tzL (P25 - 2))
theorem zer_key2 : (yZ % 256 = 59 ∧ yZ / 256 % 256 = 106) ∧ (tzL < P25 ∧ secL < 2 ^ 256) := by decide +kernel
theorem base_tr9 : (⟨bx, by_, 1⟩ : Tr).of B25 := by
 refine ⟨?_, ?_, ?_⟩
 ·show toF 1 ≠ 0
  decide +kernel
 ·show toF bx = toF bx * 1
  grind
 ·show toF by_ = toF by_ * 1
  grind
theorem yZ_is : (B25.mul secZ).y.val = yZ := by
 rw [secZ_is]
 have h := Tr.times_of (C := E25) (dd := ed) rfl base_tr9 256 secL zer_key2.2.2
 have h2 := of_point (t := trZ) h (by rw [trZ_is.2]; exact zer_key2.2.1)
 rw [ivN_pm, trZ_is.1, trZ_is.2] at h2
 exact h2.2.symm
theorem pub_gen {p : Pt E25} {Y : Nat} (hy : p.y.val = Y) (h0 : Y % 256 = 59) (h1 : Y / 256 % 256 = 106) : nth (encP p) 0 = 59 ∧ nth (encP p) 1 = 106 := by
 unfold encP encN
 rw [nth_gen (by decide), nth_gen (by decide), bf_nat, bf_nat, hy]
 generalize p.x.val % 2 = b at *
 have e1 : by8 (Y + 2 ^ 255 * b) 0 = Y % 256 := by
  unfold by8 dgt
  rw [Nat.pow_zero, Nat.div_one, half_is, show 256 ^ 31 * 128 = 256 * (256 ^ 30 * 128) by decide, Nat.mul_assoc, Nat.add_mul_mod_self_left]
 have e2 : by8 (Y + 2 ^ 255 * b) 1 = Y / 256 % 256 := by
  unfold by8 dgt
  rw [Nat.pow_one, half_is, show 256 ^ 31 * 128 = 256 * (256 * (256 ^ 29 * 128)) by decide, Nat.mul_assoc, Nat.add_mul_div_left _ _ (by decide), Nat.mul_assoc, Nat.add_mul_mod_self_left]
 rw [e1, e2]
 exact ⟨h0, h1⟩
theorem pub_zer : nth (pubB zer9) 0 = 59 ∧ nth (pubB zer9) 1 = 106 := by
 have h := pub_gen yZ_is zer_key2.1.1 zer_key2.1.2
 unfold pubB
 rw [sec_z]
 exact h
end
section
open Go Go.RowKit
attribute [local irreducible] hsh secN pubB sigB verN
def pubL (seed : List UInt8) : List UInt8 := if seed.length = 32 then pubB seed else []
def sigL (seed b : List UInt8) : List UInt8 := if seed.length = 32 then sigB seed b else []
def seedE (seed : List UInt8) : Nat := if seed.length = 32 then 0 else 1
theorem pubL_yes {seed : List UInt8} (h : seed.length = 32) : pubL seed = pubB seed ∧ (pubL seed).length = 32 ∧ seedE seed = 0 := by
 unfold pubL seedE
 rw [if_pos h, if_pos h]
 exact ⟨rfl, pubB_len _, rfl⟩
theorem pubL_no {seed : List UInt8} (h : seed.length ≠ 32) : pubL seed = [] ∧ seedE seed = 1 := by
 unfold pubL seedE
 rw [if_neg h, if_neg h]
 exact ⟨rfl, rfl⟩
def CPub (G : World → Prop) : Prop := ∀ (seed : List UInt8) (A : Option Addr) (c : Nat) (w : World), G w → Rd w w.heap.size A c seed →
 Calls Tryz.prog 7 #[.slice A seed.length c] w fun e w' => ∃ A2 c2, e = .returned (.tuple #[.slice A2 (pubL seed).length c2, .int .i64 (seedE seed : Int)]) ∧ Rd w' w'.heap.size A2 c2 (pubL seed) ∧ Below w.heap.size w w'
def CSign (G : World → Prop) : Prop := ∀ (seed b : List UInt8), b.length ≤ 4000 → ∀ (A B : Option Addr) (c d : Nat) (w : World), G w → Rd w w.heap.size A c seed → Rd w w.heap.size B d b →
 Calls Tryz.prog 10 #[.slice A seed.length c, .slice B b.length d] w fun e w' => ∃ A2 c2, e = .returned (.tuple #[.slice A2 (sigL seed b).length c2, .int .i64 (seedE seed : Int)]) ∧ Rd w' w'.heap.size A2 c2 (sigL seed b) ∧ Below w.heap.size w w'
def CVer (G : World → Prop) : Prop := ∀ (key b sig : List UInt8), b.length ≤ 4000 → ∀ (A B C : Option Addr) (c d e0 : Nat) (w : World), G w → Rd w w.heap.size A c key → Rd w w.heap.size B d b → Rd w w.heap.size C e0 sig →
 Calls Tryz.prog 12 #[.slice A key.length c, .slice B b.length d, .slice C sig.length e0] w fun e w' => e = .returned (.int .i64 (verN key b sig : Int)) ∧ Below w.heap.size w w'
def CVer0 (G : World → Prop) : Prop := ∀ (A : Option Addr) (c : Nat) (w : World), G w →
 Calls Tryz.prog 12 #[.slice A 32 c, .slice none 0 0, .slice none 0 0] w fun e w' => e = .returned (.int .i64 1) ∧ Below w.heap.size w w'
theorem rd_nil9 (w : World) (B : Nat) : Rd w B none 0 [] := ⟨Nat.le_refl _, fun _ => ⟨rfl, rfl⟩, fun h => absurd rfl h⟩
theorem awake9 {G : World → Prop} (hGn : ∀ w w', G w → Below w.heap.size w w' → G w') (kp : CPub G) (kv : CVer0 G) (w : World) (hG : G w) :
  Calls Tryz.prog 9 #[] w fun e w' => e = .returned (.bool true) ∧ Below w.heap.size w w' := by
 obtain ⟨p1, p2, p3⟩ := pubL_yes zer9_len
 refine awake9_gen hGn (L := pubL zer9) p2 (by rw [p1]; exact pub_zer.1) (by rw [p1]; exact pub_zer.2) (fun A c w hG hr => ?_) (fun A c w hG hr => ?_) w hG
 ·have h := kp zer9 A c w hG hr
  rw [p2, p3, zer9_len] at h
  exact h
 ·exact kv A c w hG
end
section
open Go Go.RowKit
structure RdS (w : World) (B : Nat) (A : Option Addr) (n : Nat) (f : Nat → Nat) : Prop where
 nil : A = none → n = 0
 some_ : 0 < n → ∃ b o, A = some ⟨b, o, none⟩ ∧ b < B ∧ ∀ k, k < n → ∀ j, j < 4 → w.cell? ⟨b, o + k * 4 + j, none⟩ = some (.int .u64 (wd (f k) j : Int))
section
variable {w w' : World} {B B' n : Nat} {A : Option Addr} {f : Nat → Nat}
theorem RdS.keep (h : RdS w B A n f) (hb : Below B w w') : RdS w' B A n f :=
 ⟨h.nil, fun hn => by
  obtain ⟨b, o, e, hlt, hc⟩ := h.some_ hn
  exact ⟨b, o, e, hlt, fun k hk j hj => (hb.cell (p := ⟨b, o + k * 4 + j, none⟩) hlt).trans (hc k hk j hj)⟩⟩
theorem RdS.mono (h : RdS w B A n f) (hb : B ≤ B') : RdS w B' A n f :=
 ⟨h.nil, fun hn => by
  obtain ⟨b, o, e, hlt, hc⟩ := h.some_ hn
  exact ⟨b, o, e, by omega, hc⟩⟩
theorem RdS.at_ {k : Nat} (h : RdS w B A n f) (hk : k < n) : ∃ b o, A = some ⟨b, o, none⟩ ∧ b < B ∧ w.cell? ⟨b, o + k * 4, none⟩ = some (.int .u64 (wd (f k) 0 : Int)) ∧ w.cell? ⟨b, o + k * 4 + 1, none⟩ = some (.int .u64 (wd (f k) 1 : Int)) ∧
  w.cell? ⟨b, o + k * 4 + 2, none⟩ = some (.int .u64 (wd (f k) 2 : Int)) ∧ w.cell? ⟨b, o + k * 4 + 3, none⟩ = some (.int .u64 (wd (f k) 3 : Int)) := by
 obtain ⟨b, o, e, hlt, hc⟩ := h.some_ (by omega)
 exact ⟨b, o, e, hlt, hc k hk 0 (by decide), hc k hk 1 (by decide), hc k hk 2 (by decide), hc k hk 3 (by decide)⟩
end
def foldS (f : Nat → Nat) : Nat → Nat
 | 0 => 0
 | k + 1 => (foldS f k + f k) % LL
def foldM (f : Nat → Nat) : Nat → Nat
 | 0 => 1
 | k + 1 => foldM f k * f k % LL
abbrev OE (e : TypeId) : Obj := .cells #[.int .u64 1, .int .u64 0, .int .u64 0, .int .u64 0] e
theorem T4.one {w : World} {B : Nat} (hB : B ≤ w.heap.size) (e : TypeId) : T4 (w.alloc (OE e)) B w.heap.size 1 := by
 have h : ∀ k, 1 ≤ k → wd 1 k = 0 := fun k hk => dgt_zero_of_lt (Nat.lt_of_lt_of_le (show 1 < 18446744073709551616 ^ 1 by decide) (Nat.pow_le_pow_right (by decide) hk))
 have h0 : wd 1 0 = 1 := by simp [wd, dgt]
 refine ⟨e, OwnF.lit e hB _ 4 (wv 1) (by decide) ?_⟩
 simp [List.range_succ, wv, h0, h 1 (by decide), h 2 (by decide), h 3 (by decide)]
attribute [local irreducible] wd by8 foldS foldM
set_option maxRecDepth 20000
end
section
open Go Go.RowKit
section
variable {a : Act} {o : Oper}
end
def lit12 (k : Nat) : Value := .int .u64 (wd (k / 4 + 2) (k % 4) : Int)
attribute [local irreducible] wd by8
set_option maxRecDepth 20000
theorem rdec_any {B c : Nat} {A : Option Addr} {bs : List UInt8} (w : World) (hr : Rd w B A c bs) (hB : B ≤ w.heap.size) (hl : bs.length = 32) :
  Calls Tryz.prog 36 #[.slice A bs.length c] w fun e w' => ∃ A c n, e = .returned (.tuple #[.slice A n c, .int .i64 (if vb bs < LL then 0 else 6)]) ∧ DOwn w' w.heap.size A c n (if vb bs < LL then vb bs else 0) ∧ Below w.heap.size w w' := by
 have hv : vb bs < 256 ^ 32 := by rw [← W4_256]; exact vb_lt hl
 have KR := read_any w hr hB (by omega)
 rw [hl] at KR ⊢
 clear hr
 generalize vb bs = x at *
 have KR := Lib.hid KR
 have KO := Lib.hid rorder_any
 by_cases hx : x < LL
 ·rw [if_pos hx, if_pos hx]
  have hq : decide (x < LL) = true := decide_eq_true hx
  go_enter Tryz.func36, Tryz.ntmps36
  go_wp2_with fail
  go_at_call 48
  refine KR.out.mono ?_
  rintro e v1 ⟨A1, c1, n1, rfl, d1, h0⟩
  clear KR
  go_wp2_with fail
  go_at_call 60
  refine (KO.out _).mono ?_
  rintro e v2 ⟨A2, c2, rfl, d2, h1⟩
  have KL := less_any v2 (d1.dig.next h1) d2.dig (Nat.le_trans (d1.few hv) (by decide)) (by decide)
  replace d1 := d1.keep h1
  replace h0 := bnx h0 h1
  rw [hq] at KL
  replace KL := Lib.hid KL
  clear d2
  go_wp2_with fail
  go_at_call 76
  refine KL.out.mono ?_
  rintro e v3 ⟨rfl, rfl⟩
  clear KL
  go_wp2_with fail
  refine bodyPost_ret (v := .tuple #[.slice A1 n1 c1, .int .i64 0]) (by simp [results, Tryz.results36, go_sem]) rfl ⟨A1, c1, n1, rfl, d1, h0⟩
 ·rw [if_neg hx, if_neg hx]
  have hq : decide (x < LL) = false := decide_eq_false hx
  go_enter Tryz.func36, Tryz.ntmps36
  go_wp2_with fail
  go_at_call 48
  refine KR.out.mono ?_
  rintro e v1 ⟨A1, c1, n1, rfl, d1, h0⟩
  clear KR
  go_wp2_with fail
  go_at_call 60
  refine (KO.out _).mono ?_
  rintro e v2 ⟨A2, c2, rfl, d2, h1⟩
  have KL := less_any v2 (d1.dig.next h1) d2.dig (Nat.le_trans (d1.few hv) (by decide)) (by decide)
  replace h0 := bnx h0 h1
  rw [hq] at KL
  replace KL := Lib.hid KL
  clear d2 d1
  go_wp2_with fail
  go_at_call 76
  refine KL.out.mono ?_
  rintro e v3 ⟨rfl, rfl⟩
  clear KL
  go_wp2_with fail
  refine bodyPost_ret (v := .tuple #[.slice none 0 0, .int .i64 6]) (by simp [results, Tryz.results36, go_sem]) rfl ⟨none, 0, 0, rfl, DOwn.nothing _ _, h0⟩
end
section
open Go Go.RowKit
set_option maxRecDepth 20000
def tr9 (p : Pt E25) : Tr := ⟨p.x.val, p.y.val, 1⟩
theorem tr9_ok (p : Pt E25) : (tr9 p).ok := ⟨p.x.isLt, p.y.isLt, P25_one⟩
theorem tr9_of (p : Pt E25) : (tr9 p).of p := by
 have h := of_pt (pt_on p)
 rwa [pt_self] at h
def tr9E (q : Pt E25) (v : Value) (_ : World) : Prop := ∃ r : Tr, v = t3v r ∧ r.ok ∧ r.of q
theorem tr9E_keep (q : Pt E25) : ∀ v w w', tr9E q v w → Below w.heap.size w w' → tr9E q v w' := fun _ _ _ h _ => h
def bx9 (B : Nat) (v : Value) (w : World) : Prop := ∃ g, v = .pointer (some ⟨g, 0, none⟩) ∧ OwnF w B 70 (some ⟨g, 0, none⟩) 48 48 (fun _ => .int .i64 0)
theorem bx9_keep (B : Nat) : ∀ v w w', bx9 B v w → Below w.heap.size w w' → bx9 B v w' := fun _ _ _ ⟨g, h, o⟩ hb => ⟨g, h, OwnF.keep o hb⟩
theorem ver_len {A A1 A2 : Option Addr} {n0 n1 n2 c0 c1 c2 : Nat} (h : ¬ (n0 = 32 ∧ n2 = 64)) (w : World) : Calls Tryz.prog 13 #[.slice A n0 c0, .slice A1 n1 c1, .slice A2 n2 c2] w fun e w' => e = .returned (.int .i64 1) ∧ Below w.heap.size w w' := by
 by_cases h0 : n0 = 32
 ·have h2 : n2 ≠ 64 := fun e => h ⟨h0, e⟩
  subst h0
  have g1 : ((n2 : Int) == 64) = false := by simp; omega
  have g2 : ((n2 : Int) != 64) = true := by simp; omega
  clear h h2
  go_enter Tryz.func13, Tryz.ntmps13
  go_wp2_with fail
  go_ret
  exact ⟨rfl, Below.refl _ _⟩
 ·have g1 : ((n0 : Int) == 32) = false := by simp; omega
  have g2 : ((n0 : Int) != 32) = true := by simp; omega
  clear h h0
  go_enter Tryz.func13, Tryz.ntmps13
  go_wp2_with fail
  go_ret
  exact ⟨rfl, Below.refl _ _⟩
theorem dec_ok {us : List UInt8} (h32 : us.length = 32) (h : decE (vb us) = 0) : decT (vb us) = tr9 (ptD (vb us)) := (dec_pt h (vb_top h32).2).2.2
theorem sml_any (p : Pt E25) (w : World) : Calls Tryz.prog 38 #[t3v (tr9 p)] w fun e w' => e = .returned (.bool (smlP p)) ∧ Below w.heap.size w w' := refSmall_any (tr9_ok p) (tr9_of p) w
theorem point_tr {t : Tr} {p : Pt E25} (ht : t.ok) (h : t.of p) (w : World) : Calls Tryz.prog 42 #[t3v t] w fun e w' => e = .returned (prv p.x.val p.y.val) ∧ Below w.heap.size w w' := by
 have h2 := refPoint_any ht w
 have h3 := of_point h ht.2.2
 rwa [h3.1, h3.2] at h2
section
attribute [local irreducible] wd by8 d16 set16w fl rl setA t3f ivN mlN adN sbN hsh clam decT decE ptD smlP
set_option maxHeartbeats 6400000 in
theorem ver9_any {A A1 A2 : Option Addr} {B c cb cs : Nat} {key b sig : List UInt8} (h32 : key.length = 32) (h64 : sig.length = 64) (hb4 : b.length ≤ 4000) (w : World) (hr : Rd w B A c key) (hs : Rd w B A1 cb b) (ht : Rd w B A2 cs sig) (hB : B ≤ w.heap.size) :
  Calls Tryz.prog 13 #[.slice A 32 c, .slice A1 b.length cb, .slice A2 64 cs] w fun e w' => e = .returned (.int .i64 (verN key b sig : Int)) ∧ Below w.heap.size w w' := by
 obtain ⟨lb, hlb⟩ : ∃ l, l = b.length := ⟨_, rfl⟩
 have HLB := Lib.hid hlb
 have HB4 := Lib.hid (show lb ≤ 4000 by rw [hlb]; exact hb4)
 rw [← hlb]
 obtain ⟨l1, hl1⟩ : ∃ l, l = 64 + lb := ⟨_, rfl⟩
 have HL1 := Lib.hid hl1
 clear hlb hb4 hl1
 have hcap := ht.cap
 rw [h64] at hcap
 have hd32 : (sig.drop 32).length = 32 := by rw [List.length_drop, h64]
 have ht32 : (sig.take 32).length = 32 := by rw [List.length_take, h64]; rfl
 have rS := ht.drop_ (l := 32) (by rw [h64]; decide)
 obtain ⟨b2, o2, rfl, _, _⟩ := ht.at_ (k := 0) (by omega)
 rw [show subA (some ⟨b2, o2, none⟩) cs 32 = some ⟨b2, o2 + 32, none⟩ by unfold subA; rw [if_neg (by omega)]; simp [Addr.add_mid]] at rS
 have rR := ht.pre (n := 32) (by rw [h64]; decide) (by decide)
 have kd := rdec_any w rS hB hd32
 rw [hd32] at kd
 have hv : verN key b sig = if vb (sig.drop 32) < LB then if decE (vb key) = 0 then if smlP (ptD (vb key)) = true then 7 else if decE (vb (sig.take 32)) = 0 then endN key b sig else decE (vb (sig.take 32)) else decE (vb key) else 6 := by
  unfold verN
  rw [if_pos ⟨h32, h64⟩]
 obtain ⟨Z, hZ⟩ : ∃ Z, Z = verN key b sig := ⟨_, rfl⟩
 rw [← hZ]
 rw [hv] at hZ
 clear hv rS
 obtain ⟨S, hS⟩ : ∃ S, S = vb (sig.drop 32) := ⟨_, rfl⟩
 rw [← hS] at kd hZ
 have HSS := Lib.hid hS
 have HZ := Lib.hid hZ
 clear hS hZ
 by_cases h1 : S < LB
 case neg =>
  rw [if_neg (show ¬ S < LL from h1), if_neg (show ¬ S < LL from h1)] at kd
  have KD := Lib.hid kd
  have H1 := Lib.hid h1
  clear kd h1
  go_enter Tryz.func13, Tryz.ntmps13
  go_wp2_with fail
  go_at_call 36
  refine KD.out.mono ?_
  rintro e v1 ⟨A3, c3, n3, rfl, -, hc⟩
  go_wp2_with fail
  go_ret
  exact ⟨by rw [show Z = 6 by rw [HZ.out, if_neg H1.out]]; rfl, hc⟩
 rw [if_pos (show S < LL from h1), if_pos (show S < LL from h1)] at kd
 have KD := Lib.hid kd
 have HS1 := Lib.hid h1
 clear kd h1
 have hE0 : (0 : Int) = ((0 : Nat) : Int) := rfl
 clear hE0
 go_enter Tryz.func13, Tryz.ntmps13
 go_wp2_with fail
 go_at_call 36
 refine KD.out.mono ?_
 rintro e v1 ⟨A3, c3, n3, rfl, d, hc⟩
 have dS := d.dig
 have kS := d.can
 replace hr := (hr.keep (hc.mono hB)).mono (Nat.le_trans hB hc.size)
 replace hs := (hs.keep (hc.mono hB)).mono (Nat.le_trans hB hc.size)
 replace rR := (rR.keep (hc.mono hB)).mono (Nat.le_trans hB hc.size)
 clear d KD ht
 have KK := Lib.hid (refDecode_any h32 v1 hr)
 obtain ⟨E1, hE1⟩ : ∃ E, E = decE (vb key) := ⟨_, rfl⟩
 obtain ⟨T1, hT1⟩ : ∃ T, T = decT (vb key) := ⟨_, rfl⟩
 rw [← hE1, ← hT1] at KK
 have HE1 := Lib.hid hE1
 have HT1 := Lib.hid hT1
 clear hE1 hT1
 go_wp2_with fail
 go_at_call 37
 refine KK.out.mono ?_
 rintro e v2 ⟨rfl, hb⟩
 replace hr := (hr.keep hb).mono hb.size
 replace hs := (hs.keep hb).mono hb.size
 replace rR := (rR.keep hb).mono hb.size
 replace dS := dS.next hb
 replace hc := bnx hc hb
 clear hb KK
 have on0 := z48_new (w := v2) (B := v2.heap.size) (Nat.le_refl _)
 have o9 := (t3_put on0 (T1)).mono hc.size
 have hbz := ((Below.refl _ v2).alloc (Nat.le_refl _) Z48).trans (t3_below on0 (T1))
 replace hr := (hr.keep hbz).mono hbz.size
 replace hs := (hs.keep hbz).mono hbz.size
 replace rR := (rR.keep hbz).mono hbz.size
 replace dS := dS.next hbz
 replace hc := bnx hc hbz
 clear hbz
 go_upto_region 7 with ((with_reducible refine t3_store on0 (T1) ?_ ?_ ?_); rfl; rfl)
 obtain ⟨v3, ev⟩ : ∃ v, v = setA (v2.alloc Z48) v2.heap.size 0 48 (t3f (T1)) := ⟨_, rfl⟩
 obtain ⟨g9, eg⟩ : ∃ g, g = v2.heap.size := ⟨_, rfl⟩
 rw [← ev] at hr hs rR dS o9 hc ⊢
 rw [← eg] at o9 ⊢
 clear ev eg on0
 by_cases h2 : E1 = 0
 case neg =>
  have g1 : ((E1 : Int) == 0) = false := beq_eq_false_iff_ne.2 (by omega)
  have g2 : ((E1 : Int) != 0) = true := by simp; omega
  have H2 := Lib.hid h2
  clear h2
  go_wp2_with fail
  go_ret
  exact ⟨by rw [show Z = E1 by rw [HZ.out, if_pos HS1.out, if_neg (by rw [← HE1.out]; exact H2.out), HE1.out]]; rfl, hc⟩
 subst h2
 obtain ⟨P, hP⟩ : ∃ P, P = ptD (vb key) := ⟨_, rfl⟩
 have eT : T1 = tr9 P := by rw [HT1.out, hP]; exact dec_ok h32 HE1.out.symm
 subst eT
 have HP := Lib.hid hP
 clear hP HT1
 have KM := Lib.hid (sml_any P)
 go_wp2_with (first | ((with_reducible refine t3_load o9 ?_ ?_); rfl))
 go_at_call 38
 refine (KM.out _).mono ?_
 rintro e v4 ⟨rfl, hb⟩
 replace hr := (hr.keep hb).mono hb.size
 replace hs := (hs.keep hb).mono hb.size
 replace rR := (rR.keep hb).mono hb.size
 replace dS := dS.next hb
 replace o9 := O48.keep o9 hb
 replace hc := bnx hc hb
 clear hb KM
 by_cases h3 : smlP P = true
 ·go_wp2_with fail
  go_ret
  exact ⟨by rw [show Z = 7 by rw [HZ.out, if_pos HS1.out, if_pos HE1.out.symm, if_pos (by rw [← HP.out]; exact h3)]]; rfl, hc⟩
 have H3 := Lib.hid h3
 have h3' : smlP P = false := Bool.eq_false_iff.2 h3
 clear h3
 have KK := Lib.hid (refDecode_any ht32 v4 rR)
 obtain ⟨E2, hE2⟩ : ∃ E, E = decE (vb (sig.take 32)) := ⟨_, rfl⟩
 obtain ⟨T2, hT2⟩ : ∃ T, T = decT (vb (sig.take 32)) := ⟨_, rfl⟩
 rw [← hE2, ← hT2] at KK
 have HE2 := Lib.hid hE2
 have HT2 := Lib.hid hT2
 clear hE2 hT2
 go_wp2_with fail
 go_at_call 37
 refine KK.out.mono ?_
 rintro e v5 ⟨rfl, hb⟩
 replace hr := (hr.keep hb).mono hb.size
 replace hs := (hs.keep hb).mono hb.size
 replace rR := (rR.keep hb).mono hb.size
 replace dS := dS.next hb
 replace o9 := O48.keep o9 hb
 replace hc := bnx hc hb
 clear hb KK h3'
 have on0 := z48_new (w := v5) (B := v5.heap.size) (Nat.le_refl _)
 have o10 := (t3_put on0 (T2)).mono hc.size
 have hbz := ((Below.refl _ v5).alloc (Nat.le_refl _) Z48).trans (t3_below on0 (T2))
 replace hr := (hr.keep hbz).mono hbz.size
 replace hs := (hs.keep hbz).mono hbz.size
 replace rR := (rR.keep hbz).mono hbz.size
 replace dS := dS.next hbz
 replace o9 := O48.keep o9 hbz
 replace hc := bnx hc hbz
 clear hbz
 go_upto_region 12 with ((with_reducible refine t3_store on0 (T2) ?_ ?_ ?_); rfl; rfl)
 obtain ⟨v6, ev⟩ : ∃ v, v = setA (v5.alloc Z48) v5.heap.size 0 48 (t3f (T2)) := ⟨_, rfl⟩
 obtain ⟨g10, eg⟩ : ∃ g, g = v5.heap.size := ⟨_, rfl⟩
 rw [← ev] at hr hs rR dS o9 o10 hc ⊢
 rw [← eg] at o10 ⊢
 clear ev eg on0
 by_cases h4 : E2 = 0
 case neg =>
  have g1 : ((E2 : Int) == 0) = false := beq_eq_false_iff_ne.2 (by omega)
  have g2 : ((E2 : Int) != 0) = true := by simp; omega
  have H4 := Lib.hid h4
  clear h4
  go_wp2_with fail
  go_ret
  exact ⟨by rw [show Z = E2 by rw [HZ.out, if_pos HS1.out, if_pos HE1.out.symm, if_neg (by rw [← HP.out]; exact H3.out), if_neg (by rw [← HE2.out]; exact H4.out), HE2.out]]; rfl, hc⟩
 subst h4
 obtain ⟨R, hR⟩ : ∃ R, R = ptD (vb (sig.take 32)) := ⟨_, rfl⟩
 have eT : T2 = tr9 R := by rw [HT2.out, hR]; exact dec_ok ht32 HE2.out.symm
 subst eT
 have HR := Lib.hid hR
 clear hR HT2
 have KJ := Lib.hid (join9_n (n := 32) (m := 32) (k := lb) (l := l1) (L := sig.take 32 ++ key ++ b) ht32 h32 HLB.out.symm rfl (by rw [List.length_append, List.length_append, ht32, h32, ← HLB.out, HL1.out]) (by have := HB4.out; have := HL1.out; omega) v6 rR hr hs (Nat.le_refl _))
 go_wp2_with fail
 go_at_call 26
 refine KJ.out.mono ?_
 rintro e v7 ⟨A8, c8, rfl, ho, hb⟩
 have KL := Lib.hid (left9_n (n := l1) (by rw [List.length_append, List.length_append, ht32, h32, ← HLB.out, HL1.out]) (by have := HB4.out; have := HL1.out; omega) v7 ho.rd (Nat.le_refl _))
 obtain ⟨K, hK⟩ : ∃ K, K = lefN (sig.take 32 ++ key ++ b) := ⟨_, rfl⟩
 rw [← hK] at KL
 have HK := Lib.hid hK
 have HKL := Lib.hid (show K < LB by rw [hK]; exact lefN_lt _)
 clear hK
 replace dS := dS.next hb
 replace o9 := O48.keep o9 hb
 replace o10 := O48.keep o10 hb
 replace hc := bnx hc hb
 clear hb ho KJ hr hs rR
 go_wp2_with fail
 go_at_call 25
 refine KL.out.mono ?_
 rintro e v8 ⟨A11, c11, n11, rfl, d, hb⟩
 have dk := d.dig
 have kk := d.can
 replace dS := dS.next hb
 replace o9 := O48.keep o9 hb
 replace o10 := O48.keep o10 hb
 replace hc := bnx hc hb
 clear d hb KL
 go_wp2_with fail
 go_at_call 40
 refine (refBase_any _).mono ?_
 rintro e v9 ⟨rfl, hb⟩
 replace dk := dk.next hb
 replace dS := dS.next hb
 replace o9 := O48.keep o9 hb
 replace o10 := O48.keep o10 hb
 replace hc := bnx hc hb
 clear hb
 have KT := Lib.hid (refTimes_any (few_l kS HS1.out) v9 dS (t := ⟨bx, by_, 1⟩) ⟨bx_lt, by_lt, P25_one⟩ base_tr)
 go_wp2_with fail
 go_at_call 39
 refine KT.out.mono ?_
 rintro e v10 ⟨r1, rfl, hr1, hq1, hb⟩
 replace dk := dk.next hb
 replace o9 := O48.keep o9 hb
 replace o10 := O48.keep o10 hb
 replace hc := bnx hc hb
 have KP1 := Lib.hid (point_tr hr1 hq1)
 clear hb KT dS kS hr1 hq1
 have on0 := z48_new (w := v10) (B := v10.heap.size) (Nat.le_refl _)
 have o12 := (t3_put on0 (r1)).mono hc.size
 have hbz := ((Below.refl _ v10).alloc (Nat.le_refl _) Z48).trans (t3_below on0 (r1))
 replace dk := dk.next hbz
 replace o9 := O48.keep o9 hbz
 replace o10 := O48.keep o10 hbz
 replace hc := bnx hc hbz
 clear hbz
 go_upto_region 16 with ((with_reducible refine t3_store on0 (r1) ?_ ?_ ?_); rfl; rfl)
 obtain ⟨v12, ev⟩ : ∃ v, v = setA (v10.alloc Z48) v10.heap.size 0 48 (t3f (r1)) := ⟨_, rfl⟩
 obtain ⟨g12, eg⟩ : ∃ g, g = v10.heap.size := ⟨_, rfl⟩
 rw [← ev] at dk o9 o10 o12 hc ⊢
 rw [← eg] at o12 ⊢
 clear ev eg on0
 obtain ⟨B0, hB0⟩ : ∃ B, B = v12.heap.size := ⟨_, rfl⟩
 have HB0 := Lib.hid (show B0 ≤ v12.heap.size by rw [hB0]; exact Nat.le_refl _)
 have hl12 := OwnF.lt o12
 rw [← hB0] at hl12
 refine wp_region_inv 6 [59, 60, 61, 62, 63, 13] [.val (t3v (tr9 R)), .dig K, .val (t3v (tr9 P)), .sat (tr9E (P.mul K)) (tr9E_keep (P.mul K)), .sat (tr9E (R.add (P.mul K))) (tr9E_keep (R.add (P.mul K))), .sat (bx9 B0) (bx9_keep B0)] (fun wz => Below v12.heap.size v12 wz) (by kernel_rfl) (by kernel_rfl) (fun wz wz' hz hb => bnx hz hb) ((Below.refl _ _).drew) (fun u => by simp only [puts, List.foldl_cons, List.foldl_nil]; go_simp; exact rfl) ?_ ?_
 ·simp only [List.take_succ_cons, List.take_zero]
  refine .cons (fun u w hS hd => ?_) ?_
  ·exact Gv.run (t3v (tr9 R)) rfl (run_Pload rfl rfl (O48.keep o10 hS)) rfl
  refine .cons (fun u w hS hd => ?_) ?_
  ·exact Gv.run (.slice A11 n11 c11) rfl (by go_simp) (⟨_, _, _, rfl, dk.next hS, kk⟩)
  refine .cons (fun u w hS hd => ?_) ?_
  ·exact Gv.run (t3v (tr9 P)) rfl (run_Pload rfl rfl (O48.keep o9 hS)) rfl
  refine .cons (fun u w hS hd => ?_) ?_
  ·obtain ⟨A60, c60, n60, d60, g60, k60⟩ : (Know.dig K).ok (u 60) w := dep hd 1 rfl
   rw [d60]
   have d61 : u 61 = t3v (tr9 P) := dep hd 2 rfl
   rw [d61]
   refine Gv.call 39 #[.slice A60 n60 c60, t3v (tr9 P)] rfl (by go_simp) ((refTimes_any (few_l k60 HKL.out) w g60 (tr9_ok P) (tr9_of P)).mono ?_)
   rintro e w' ⟨r, rfl, h1, h2, hb⟩
   exact ⟨_, rfl, ⟨r, rfl, h1, h2⟩, hb⟩
  refine .cons (fun u w hS hd => ?_) ?_
  ·have d59 : u 59 = t3v (tr9 R) := dep hd 0 rfl
   obtain ⟨r62, d62, h62, i62⟩ : (Know.sat (tr9E (P.mul K)) (tr9E_keep (P.mul K))).ok (u 62) w := dep hd 3 rfl
   rw [d59, d62]
   refine Gv.call 41 #[t3v (tr9 R), t3v r62] rfl (by go_simp) ((refPlus_any (tr9_ok R) h62 w).mono ?_)
   rintro e w' ⟨rfl, hb⟩
   exact ⟨_, rfl, ⟨_, rfl, plus_ok _ _ _, Tr.plus_of (C := E25) rfl (tr9_of R) i62⟩, hb⟩
  refine .cons (fun u w hS hd => ?_) ?_
  ·exact Gv.make (.pointer (some ⟨w.heap.size, 0, none⟩)) (w.alloc Z48) rfl (by go_simp) ⟨_, rfl, z48_new (Nat.le_trans HB0.out hS.size)⟩ ((Below.refl _ _).alloc (Nat.le_refl _) _)
  exact Obs.nil
 intro u v13 hS hd
 obtain ⟨r2, d63, hr2, hq2⟩ : (Know.sat (tr9E (R.add (P.mul K))) (tr9E_keep (R.add (P.mul K)))).ok (u 63) v13 := hd 4 (by decide)
 obtain ⟨g13, d13, ob⟩ : (Know.sat (bx9 B0) (bx9_keep B0)).ok (u 13) v13 := hd 5 (by decide)
 rw [d63, d13]
 have hge := OwnF.ge ob
 have n13 : g13 ≠ g12 := by omega
 have hs12 : w.heap.size ≤ B0 := by rw [hB0]; exact hc.size
 replace o12 := O48.keep o12 hS
 replace hc := bnx hc hS
 have KP2 := Lib.hid (point_tr hr2 hq2)
 have o13 := t3_put ob r2
 replace o12 : O48 (setA v13 g13 0 48 (t3f r2)) w.heap.size g12 r1 := OwnF.only o12 (t3_only v13 g13 r2) n13
 replace hc := hc.trans ((t3_below ob r2).mono hs12)
 have hZe : Z = if ptE (B25.mul S) (R.add (P.mul K)) = true then 0 else 10 := by
  rw [HZ.out, if_pos HS1.out, if_pos HE1.out.symm, if_neg (by rw [← HP.out]; exact H3.out), if_pos HE2.out.symm]
  unfold endN
  rw [HSS.out, HR.out, HP.out, HK.out]
 have HZE := Lib.hid hZe
 clear hZe hge n13 hs12 hS hd d63 d13 hr2 hq2 dk kk HB0 o9 o10 hl12
 simp only [List.drop_succ_cons, List.drop_zero]
 go_upto_region 17 with ((with_reducible refine t3_store ob r2 ?_ ?_ ?_); rfl; rfl)
 obtain ⟨v14, ev⟩ : ∃ v, v = setA v13 g13 0 48 (t3f r2) := ⟨_, rfl⟩
 rw [← ev] at o12 o13 hc ⊢
 clear ev ob
 refine wp_region_inv 4 [64, 65, 66, 67] [.val (t3v r1), .val (prv (B25.mul S).x.val (B25.mul S).y.val), .val (t3v r2), .val (prv (R.add (P.mul K)).x.val (R.add (P.mul K)).y.val)] (fun wz => Below v14.heap.size v14 wz) (by kernel_rfl) (by kernel_rfl) (fun wz wz' hz hb => bnx hz hb) ((Below.refl _ _).drew) (fun u => by simp only [puts, List.foldl_cons, List.foldl_nil]; go_simp; exact rfl) ?_ ?_
 ·simp only [List.take_succ_cons, List.take_zero]
  refine .cons (fun u w hS hd => ?_) ?_
  ·exact Gv.run (t3v r1) rfl (run_Pload rfl rfl (O48.keep o12 hS)) rfl
  refine .cons (fun u w hS hd => ?_) ?_
  ·have d64 : u 64 = t3v r1 := dep hd 0 rfl
   rw [d64]
   refine Gv.call 42 #[t3v r1] rfl (by go_simp) ((KP1.out w).mono ?_)
   rintro e w' ⟨rfl, hb⟩
   exact ⟨_, rfl, rfl, hb⟩
  refine .cons (fun u w hS hd => ?_) ?_
  ·exact Gv.run (t3v r2) rfl (run_Pload rfl rfl (O48.keep o13 hS)) rfl
  refine .cons (fun u w hS hd => ?_) ?_
  ·have d66 : u 66 = t3v r2 := dep hd 2 rfl
   rw [d66]
   refine Gv.call 42 #[t3v r2] rfl (by go_simp) ((KP2.out w).mono ?_)
   rintro e w' ⟨rfl, hb⟩
   exact ⟨_, rfl, rfl, hb⟩
  exact Obs.nil
 intro u2 v15 hS hd
 have d65 : u2 65 = prv (B25.mul S).x.val (B25.mul S).y.val := hd 1 (by decide)
 have d67 : u2 67 = prv (R.add (P.mul K)).x.val (R.add (P.mul K)).y.val := hd 3 (by decide)
 rw [d65, d67]
 replace hc := bnx hc hS
 clear hS hd d65 d67 o12 o13 KP1 KP2
 simp only [List.drop_succ_cons, List.drop_zero]
 by_cases h5 : ptE (B25.mul S) (R.add (P.mul K)) = true
 ·have HZ2 := Lib.hid (show Z = 0 by rw [HZE.out, if_pos h5])
  have hq : (!(decide ((B25.mul S).x.val = (R.add (P.mul K)).x.val) && decide ((B25.mul S).y.val = (R.add (P.mul K)).y.val))) = false := by unfold ptE at h5; rw [h5]; rfl
  have HQ := Lib.hid hq
  clear h5 hq
  refine read_to (.bool false) rfl (run_neT rfl rfl rfl (val_W _) (val_W _) (val_W _) (val_W _) HQ.out _) ?_
  go_wp2_with fail
  go_ret
  exact ⟨by rw [HZ2.out]; rfl, hc⟩
 ·have HZ2 := Lib.hid (show Z = 10 by rw [HZE.out, if_neg h5])
  have h6 := Bool.eq_false_iff.2 h5
  have hq : (!(decide ((B25.mul S).x.val = (R.add (P.mul K)).x.val) && decide ((B25.mul S).y.val = (R.add (P.mul K)).y.val))) = true := by unfold ptE at h6; rw [h6]; rfl
  have HQ := Lib.hid hq
  clear h5 h6 hq
  refine read_to (.bool true) rfl (run_neT rfl rfl rfl (val_W _) (val_W _) (val_W _) (val_W _) HQ.out _) ?_
  go_wp2_with fail
  go_ret
  exact ⟨by rw [HZ2.out]; rfl, hc⟩
end
end
section
open Go Go.RowKit
attribute [local irreducible] hsh secN pubB sigB verN rB9 sN9
theorem law9_verifies {G : World → Prop} (hGn : ∀ w w', G w → Below w.heap.size w w' → G w') (kp : CPub G) (kv0 : CVer0 G) (kv : CVer G) {A B C : Option Addr} {c d e0 : Nat} {key b sig : List UInt8} (hl : key.length ≤ 140737488355328) (hs : sig.length ≤ 140737488355328)
  (w : World) (r0 : Rd w w.heap.size A c key) (q0 : Rd w w.heap.size B d b) (p0 : Rd w w.heap.size C e0 sig) (hG : G w) : Calls Tryz.prog 5 #[.slice A key.length c, .slice B b.length d, .slice C sig.length e0] w fun e w' => e = .returned (.bool true) ∧ Below w.heap.size w w' := by
 by_cases hm : 4000 < b.length
 ·exact verifies_much (awake9 hGn kp kv0) hm w hG
 replace hm : b.length ≤ 4000 := by omega
 refine verifies_gen hGn (er := verN key b sig) hl hs hm (kv key b sig hm) (fun A B C c d e0 w h1 h2 h3 => ?_) (awake9 hGn kp kv0) w r0 q0 p0 hG
 by_cases hn : key.length = 32 ∧ sig.length = 64
 ·obtain ⟨n1, n2⟩ := hn
  rw [n1, n2]
  exact ver9_any n1 n2 hm w h1 h2 h3 (Nat.le_refl _)
 ·rw [ver_short _ _ _ hn]
  exact ver_len hn w
end
end Go.Proofs.YtkbkalhcdbklkaaGreatDoor
