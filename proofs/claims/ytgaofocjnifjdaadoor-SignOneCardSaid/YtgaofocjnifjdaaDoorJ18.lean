/-
  Layer 9: the public key of 32 noughts. By an AI agent. Layer 9: what the code of sign is asked for (contracts over a predicate of worlds), and awake out of it. By an AI agent. Layer 9's SignBack, SignOne out of the code's contracts. By an AI agent.
-/
import Derived.Test.YtgaofocjnifjdaaDoorJ17
import Derived.Test.YtgaofocjnifjdaaDoorJ01
import Derived.Test.YtgaofocjnifjdaaDoorG9
import Derived.Test.YtgaofocjnifjdaaDoorG10
namespace Go.Proofs.YtgaofocjnifjdaaDoor
open Go Go.RowKit
set_option maxRecDepth 20000
def secZ : Nat := clam (vb ((hsh zer9).take 32))
theorem sec_z : secN zer9 = secZ := by unfold secN secZ; rfl
def secL : Nat := 39325648866980652792715009169219496062012184734522019333892538943312776480336
theorem secZ_is : secZ = secL := by decide +kernel
def trZ : Tr := Tr.times ed ⟨bx, by_, 1⟩ secL 256
def tyL : Nat := 19726323970308381861037264260459780811373847171889358821150822261828039361496
def tzL : Nat := 24471432733940390919967843837209335102995873066817353683885557581620014762187
theorem trZ_is : trZ.y = tyL ∧ trZ.z = tzL := by decide +kernel
def yZ : Nat := mlN tyL (pm P25 256 tzL (P25 - 2))
theorem zer_key2 : (yZ % 256 = 59 ∧ yZ / 256 % 256 = 106) ∧ (tzL < P25 ∧ secL < 2 ^ 256) := by decide +kernel
theorem base_tr9 : (⟨bx, by_, 1⟩ : Tr).of B25 := by
  refine ⟨?_, ?_, ?_⟩
  · show toF 1 ≠ 0
    decide +kernel
  · show toF bx = toF bx * 1
    grind
  · show toF by_ = toF by_ * 1
    grind
theorem yZ_is : (B25.mul secZ).y.val = yZ := by
  rw [secZ_is]
  have h := Tr.times_of (C := E25) (dd := ed) rfl base_tr9 256 secL zer_key2.2.2
  have h2 := of_point (t := trZ) h (by rw [trZ_is.2]; exact zer_key2.2.1)
  rw [ivN_pm, trZ_is.1, trZ_is.2] at h2
  exact h2.2.symm
theorem pub_gen {p : Pt E25} {Y : Nat} (hy : p.y.val = Y) (h0 : Y % 256 = 59) (h1 : Y / 256 % 256 = 106) : nth (encP p) 0 = 59 ∧ nth (encP p) 1 = 106 := by
  unfold encP encN
  rw [nth_gen (by decide), nth_gen (by decide), bf_nat, bf_nat, hy]
  generalize p.x.val % 2 = b at *
  have e1 : by8 (Y + 2 ^ 255 * b) 0 = Y % 256 := by
    unfold by8 dgt
    rw [Nat.pow_zero, Nat.div_one, half_is, show 256 ^ 31 * 128 = 256 * (256 ^ 30 * 128) by decide, Nat.mul_assoc, Nat.add_mul_mod_self_left]
  have e2 : by8 (Y + 2 ^ 255 * b) 1 = Y / 256 % 256 := by
    unfold by8 dgt
    rw [Nat.pow_one, half_is, show 256 ^ 31 * 128 = 256 * (256 * (256 ^ 29 * 128)) by decide, Nat.mul_assoc, Nat.add_mul_div_left _ _ (by decide), Nat.mul_assoc, Nat.add_mul_mod_self_left]
  rw [e1, e2]
  exact ⟨h0, h1⟩
theorem pub_zer : nth (pubB zer9) 0 = 59 ∧ nth (pubB zer9) 1 = 106 := by
  have h := pub_gen yZ_is zer_key2.1.1 zer_key2.1.2
  unfold pubB
  rw [sec_z]
  exact h
end Go.Proofs.YtgaofocjnifjdaaDoor
namespace Go.Proofs.YtgaofocjnifjdaaDoor
open Go Go.RowKit
attribute [local irreducible] hsh secN pubB sigB verN
def pubL (seed : List UInt8) : List UInt8 := if seed.length = 32 then pubB seed else []
def sigL (seed b : List UInt8) : List UInt8 := if seed.length = 32 then sigB seed b else []
def seedE (seed : List UInt8) : Nat := if seed.length = 32 then 0 else 1
theorem pubL_yes {seed : List UInt8} (h : seed.length = 32) : pubL seed = pubB seed ∧ (pubL seed).length = 32 ∧ seedE seed = 0 := by
  unfold pubL seedE
  rw [if_pos h, if_pos h]
  exact ⟨rfl, pubB_len _, rfl⟩
theorem sigL_yes {seed : List UInt8} (b : List UInt8) (h : seed.length = 32) : sigL seed b = sigB seed b ∧ (sigL seed b).length = 64 := by
  unfold sigL
  rw [if_pos h]
  exact ⟨rfl, sigB_len _ _⟩
theorem pubL_no {seed : List UInt8} (h : seed.length ≠ 32) : pubL seed = [] ∧ seedE seed = 1 := by
  unfold pubL seedE
  rw [if_neg h, if_neg h]
  exact ⟨rfl, rfl⟩
theorem sigL_no {seed : List UInt8} (b : List UInt8) (h : seed.length ≠ 32) : sigL seed b = [] := by
  unfold sigL
  rw [if_neg h]
def CPub (G : World → Prop) : Prop := ∀ (seed : List UInt8) (A : Option Addr) (c : Nat) (w : World), G w → Rd w w.heap.size A c seed →
  Calls Tryd.prog 8 #[.slice A seed.length c] w fun e w' => ∃ A2 c2, e = .returned (.tuple #[.slice A2 (pubL seed).length c2, .int .i64 (seedE seed : Int)]) ∧ Rd w' w'.heap.size A2 c2 (pubL seed) ∧ Below w.heap.size w w'
def CSign (G : World → Prop) : Prop := ∀ (seed b : List UInt8), b.length ≤ 4000 → ∀ (A B : Option Addr) (c d : Nat) (w : World), G w → Rd w w.heap.size A c seed → Rd w w.heap.size B d b →
  Calls Tryd.prog 6 #[.slice A seed.length c, .slice B b.length d] w fun e w' => ∃ A2 c2, e = .returned (.tuple #[.slice A2 (sigL seed b).length c2, .int .i64 (seedE seed : Int)]) ∧ Rd w' w'.heap.size A2 c2 (sigL seed b) ∧ Below w.heap.size w w'
def CVer (G : World → Prop) : Prop := ∀ (key b sig : List UInt8), b.length ≤ 4000 → ∀ (A B C : Option Addr) (c d e0 : Nat) (w : World), G w → Rd w w.heap.size A c key → Rd w w.heap.size B d b → Rd w w.heap.size C e0 sig →
  Calls Tryd.prog 9 #[.slice A key.length c, .slice B b.length d, .slice C sig.length e0] w fun e w' => e = .returned (.int .i64 (verN key b sig : Int)) ∧ Below w.heap.size w w'
/-- What awake asks of Verify: a signature of no bytes. -/
def CVer0 (G : World → Prop) : Prop := ∀ (A : Option Addr) (c : Nat) (w : World), G w →
  Calls Tryd.prog 9 #[.slice A 32 c, .slice none 0 0, .slice none 0 0] w fun e w' => e = .returned (.int .i64 1) ∧ Below w.heap.size w w'
theorem rd_nil9 (w : World) (B : Nat) : Rd w B none 0 [] := ⟨Nat.le_refl _, fun _ => ⟨rfl, rfl⟩, fun h => absurd rfl h⟩
theorem awake9 {G : World → Prop} (hGn : ∀ w w', G w → Below w.heap.size w w' → G w') (kp : CPub G) (kv : CVer0 G) (w : World) (hG : G w) :
    Calls Tryd.prog 5 #[] w fun e w' => e = .returned (.bool true) ∧ Below w.heap.size w w' := by
  obtain ⟨p1, p2, p3⟩ := pubL_yes zer9_len
  refine awake9_gen hGn (L := pubL zer9) p2 (by rw [p1]; exact pub_zer.1) (by rw [p1]; exact pub_zer.2) (fun A c w hG hr => ?_) (fun A c w hG hr => ?_) w hG
  · have h := kp zer9 A c w hG hr
    rw [p2, p3, zer9_len] at h
    exact h
  · exact kv A c w hG
end Go.Proofs.YtgaofocjnifjdaaDoor
namespace Go.Proofs.YtgaofocjnifjdaaDoor
open Go Go.RowKit
attribute [local irreducible] hsh secN pubB sigB verN rB9 sN9
theorem law9_back {G : World → Prop} (hGn : ∀ w w', G w → Below w.heap.size w w' → G w') (kp : CPub G) (ks : CSign G) (kv0 : CVer0 G) (kv : CVer G) {A B : Option Addr} {c d : Nat} {seed b : List UInt8} (hl : seed.length ≤ 140737488355328)
    (w : World) (r0 : Rd w w.heap.size A c seed) (q0 : Rd w w.heap.size B d b) (hG : G w) : Calls Tryd.prog 3 #[.slice A seed.length c, .slice B b.length d] w fun e w' => e = .returned (.bool true) ∧ Below w.heap.size w w' := by
  by_cases hm : 4000 < b.length
  · exact back_much (awake9 hGn kp kv0) hm w hG
  replace hm : b.length ≤ 4000 := by omega
  by_cases hn : seed.length = 32
  · obtain ⟨p1, p2, p3⟩ := pubL_yes hn
    obtain ⟨s1, s2⟩ := sigL_yes b hn
    have hcl : ((sigL seed b).take 63).length = 63 := by rw [List.length_take, s2]; rfl
    refine back_yes hGn hl hm hn s2 p2 hcl rfl (fun A B c d w hG h1 h2 => ?_) (fun A c w hG h1 => ?_) (fun A B C c d e0 w hG h1 h2 h3 => ?_) (fun A B C c d e0 w hG h1 h2 h3 => ?_) (awake9 hGn kp kv0) w r0 q0 hG
    · have h := ks seed b hm A B c d w hG h1 h2
      rw [s2, p3] at h
      exact h
    · have h := kp seed A c w hG h1
      rw [p2, p3] at h
      exact h
    · have h := kv _ b _ hm A B C c d e0 w hG h1 h2 h3
      rw [p2, s2, p1, s1, ver_back] at h
      exact h
    · have h := kv _ b _ hm A B C c d e0 w hG h1 h2 h3
      rw [ver_short _ _ _ (by rw [hcl]; rintro ⟨_, h⟩; exact absurd h (by decide)), p2, hcl] at h
      exact h
  · obtain ⟨p1, p3⟩ := pubL_no hn
    have s1 := sigL_no b hn
    refine back_no hGn hl hm hn (fun A B c d w hG h1 h2 => ?_) (fun A c w hG h1 => ?_) (awake9 hGn kp kv0) w r0 q0 hG
    · refine (ks seed b hm A B c d w hG h1 h2).mono ?_
      rintro e w' ⟨A2, c2, he, -, hb⟩
      rw [s1, p3] at he
      exact ⟨⟨A2, c2, he⟩, hb⟩
    · refine (kp seed A c w hG h1).mono ?_
      rintro e w' ⟨A2, c2, he, -, hb⟩
      rw [p1, p3] at he
      exact ⟨⟨A2, c2, he⟩, hb⟩
theorem sig_take (seed b : List UInt8) : (sigB seed b).take 32 = rB9 seed b := by
  unfold sigB
  rw [List.take_append_of_le_length (by rw [rB9_len]; exact Nat.le_refl _), List.take_of_length_le (by rw [rB9_len]; exact Nat.le_refl _)]
theorem sig_drop (seed b : List UInt8) : (sigB seed b).drop 32 = gen (bf (sN9 seed b)) 32 := by
  unfold sigB
  exact List.drop_left' (rB9_len seed b)
theorem law9_one {G : World → Prop} (hGn : ∀ w w', G w → Below w.heap.size w w' → G w') (kp : CPub G) (ks : CSign G) (kv0 : CVer0 G) (kv : CVer G) {A B C : Option Addr} {c d e0 : Nat} {seed b other : List UInt8} (hl : seed.length ≤ 140737488355328)
    (w : World) (r0 : Rd w w.heap.size A c seed) (q0 : Rd w w.heap.size B d b) (p0 : Rd w w.heap.size C e0 other) (hG : G w) : Calls Tryd.prog 4 #[.slice A seed.length c, .slice B b.length d, .slice C other.length e0] w fun e w' => e = .returned (.bool true) ∧ Below w.heap.size w w' := by
  by_cases hm : 4000 < b.length
  · exact one_much (awake9 hGn kp kv0) hm w hG
  by_cases hn : seed.length = 32
  case neg => exact one_no (awake9 hGn kp kv0) hm hn w hG
  by_cases hol : other.length = 32
  case neg => exact one_no2 (awake9 hGn kp kv0) hm hn hol w hG
  replace hm : b.length ≤ 4000 := by omega
  obtain ⟨p1, p2, p3⟩ := pubL_yes hn
  obtain ⟨s1, s2⟩ := sigL_yes b hn
  have hFl : (rB9 seed b ++ other).length = 64 := by rw [List.length_append, rB9_len, hol]
  have hT : (sigL seed b).take 32 = rB9 seed b := by rw [s1, sig_take]
  have KS : ∀ (A B : Option Addr) (c d : Nat) (w : World), G w → Rd w w.heap.size A c seed → Rd w w.heap.size B d b → Calls Tryd.prog 6 #[.slice A seed.length c, .slice B b.length d] w fun e w' => ∃ A2 c2, e = .returned (.tuple #[.slice A2 64 c2, .int .i64 0]) ∧ Rd w' w'.heap.size A2 c2 (sigL seed b) ∧ Below w.heap.size w w' := by
    intro A B c d w hG h1 h2
    have h := ks seed b hm A B c d w hG h1 h2
    rw [s2, p3] at h
    exact h
  have KP : ∀ (A : Option Addr) (c : Nat) (w : World), G w → Rd w w.heap.size A c seed → Calls Tryd.prog 8 #[.slice A seed.length c] w fun e w' => ∃ A2 c2, e = .returned (.tuple #[.slice A2 32 c2, .int .i64 0]) ∧ Rd w' w'.heap.size A2 c2 (pubL seed) ∧ Below w.heap.size w w' := by
    intro A c w hG h1
    have h := kp seed A c w hG h1
    rw [p2, p3] at h
    exact h
  have KV : ∀ (A B C : Option Addr) (c d e0 : Nat) (w : World), G w → Rd w w.heap.size A c (pubL seed) → Rd w w.heap.size B d b → Rd w w.heap.size C e0 (rB9 seed b ++ other) → Calls Tryd.prog 9 #[.slice A 32 c, .slice B b.length d, .slice C 64 e0] w fun e w' => e = .returned (.int .i64 (verN (pubL seed) b (rB9 seed b ++ other) : Int)) ∧ Below w.heap.size w w' := by
    intro A B C c d e0 w hG h1 h2 h3
    have h := kv _ b _ hm A B C c d e0 w hG h1 h2 h3
    rw [p2, hFl] at h
    exact h
  rw [hol]
  have hv := ver_one seed b other hol
  by_cases ho : other = gen (bf (sN9 seed b)) 32
  · have h0 := hv.2 ho
    rw [p1, h0] at KV
    rw [p1] at KP
    exact one_yes hGn hl hm hn hol s2 (pubB_len seed) hT (rB9_len _ _) rfl hFl (by rw [s1, sig_drop]; exact ho.symm) KS KP KV (awake9 hGn kp kv0) w r0 q0 p0 hG
  · have h0 : ¬ verN (pubB seed) b (rB9 seed b ++ other) = 0 := fun h => ho (hv.1 h)
    rw [p1] at KP KV
    exact one_not hGn hl hm hn hol s2 (pubB_len seed) hT (rB9_len _ _) rfl hFl (by rw [s1, sig_drop]) (gen_length _ _) ho (by omega) KS KP KV (awake9 hGn kp kv0) w r0 q0 p0 hG
end Go.Proofs.YtgaofocjnifjdaaDoor
