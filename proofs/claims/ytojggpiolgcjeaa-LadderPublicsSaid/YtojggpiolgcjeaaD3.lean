/-
  Layer 5: the document's answers, as the laws' contracts want them. By an AI agent.
-/
import Derived.Test.YtojggpiolgcjeaaD2
namespace Go.Proofs.Ytojggpiolgcjeaa
open Go Go.RowKit
attribute [local irreducible] wd by8 d16 set16w fl vk
set_option maxRecDepth 20000
def clampL (bs : List UInt8) : List UInt8 := if bs.length = 32 then gen (bf (clam (vb bs))) 32 else []
def clampZ (bs : List UInt8) : Int := if bs.length = 32 then 0 else 1
def multN (ks us : List UInt8) : Nat := ladderN (vb us % 2 ^ 255 % P25) (clam (vb ks))
def multL (ks us : List UInt8) : List UInt8 := if ks.length = 32 ∧ us.length = 32 then gen (bf (multN ks us)) 32 else []
def multZ (ks us : List UInt8) : Int := if ks.length = 32 ∧ us.length = 32 then 0 else 1
def sharedL (ks us : List UInt8) : List UInt8 := if ks.length = 32 ∧ us.length = 32 ∧ multN ks us ≠ 0 then gen (bf (multN ks us)) 32 else []
def sharedZ (ks us : List UInt8) : Int := if ks.length = 32 ∧ us.length = 32 then (if multN ks us = 0 then 8 else 0) else 1
theorem rd_none (w : World) (B : Nat) : Rd w B none 0 [] := ⟨Nat.le_refl _, fun _ => ⟨rfl, rfl⟩, fun h => absurd rfl h⟩
theorem rclampA {bs : List UInt8} (A : Option Addr) (c : Nat) (w : World) (h : Rd w w.heap.size A c bs) :
    Calls Try.prog 11 #[.slice A bs.length c] w fun e w' => Ans (clampL bs) (clampZ bs) e w' ∧ Below w.heap.size w w' := by
  unfold clampL clampZ
  by_cases hl : bs.length = 32
  · rw [if_pos hl, if_pos hl, hl]
    exact (rclamp_any hl w h (Nat.le_refl _)).mono fun e w' ⟨A', c', he, ho, hb⟩ => ⟨⟨A', c', by rw [gen_length]; exact he, ho.rd⟩, hb⟩
  · rw [if_neg hl, if_neg hl]
    exact (rclamp_len hl w).mono fun e w' ⟨he, hb⟩ => ⟨⟨none, 0, he, rd_none _ _⟩, hb⟩
theorem rmultA {ks us : List UInt8} (A A' : Option Addr) (c c' : Nat) (w : World) (h : Rd w w.heap.size A c ks) (h' : Rd w w.heap.size A' c' us) :
    Calls Try.prog 14 #[.slice A ks.length c, .slice A' us.length c'] w fun e w' => Ans (multL ks us) (multZ ks us) e w' ∧ Below w.heap.size w w' := by
  unfold multL multZ
  by_cases hl : ks.length = 32 ∧ us.length = 32
  · rw [if_pos hl, if_pos hl, hl.1, hl.2]
    exact (rmult_any hl.1 hl.2 w h h' (Nat.le_refl _)).mono fun e w' ⟨A', c', he, ho, hb⟩ => ⟨⟨A', c', by rw [gen_length]; exact he, ho⟩, hb⟩
  · rw [if_neg hl, if_neg hl]
    exact (rmult_len (by omega) w).mono fun e w' ⟨he, hb⟩ => ⟨⟨none, 0, he, rd_none _ _⟩, hb⟩
theorem rsharedA {ks us : List UInt8} (A A' : Option Addr) (c c' : Nat) (w : World) (h : Rd w w.heap.size A c ks) (h' : Rd w w.heap.size A' c' us) :
    Calls Try.prog 18 #[.slice A ks.length c, .slice A' us.length c'] w fun e w' => Ans (sharedL ks us) (sharedZ ks us) e w' ∧ Below w.heap.size w w' := by
  unfold sharedL sharedZ
  by_cases hl : ks.length = 32 ∧ us.length = 32
  · rw [if_pos hl, hl.1, hl.2]
    refine (rshared_any hl.1 hl.2 w h h' (Nat.le_refl _) (Y := multN ks us) rfl).mono fun e w' ⟨he, hb⟩ => ⟨?_, hb⟩
    by_cases h0 : multN ks us = 0
    · rw [if_pos h0] at he
      rw [if_pos h0, if_neg (fun h => h.2.2 h0)]
      exact ⟨none, 0, he, rd_none _ _⟩
    · rw [if_neg h0] at he
      obtain ⟨A1, c1, he, hr⟩ := he
      rw [if_neg h0, if_pos ⟨rfl, rfl, h0⟩]
      exact ⟨A1, c1, by rw [gen_length]; exact he, hr⟩
  · rw [if_neg hl, if_neg (fun h => hl ⟨h.1, h.2.1⟩)]
    exact (rshared_len (by omega) w).mono fun e w' ⟨he, hb⟩ => ⟨⟨none, 0, he, rd_none _ _⟩, hb⟩
theorem rnineA (w : World) : Calls Try.prog 16 #[] w fun e w' => ∃ A c, e = .returned (.slice A nineL.length c) ∧ Rd w' w'.heap.size A c nineL ∧ Below w.heap.size w w' :=
  (rnine_any w).mono fun e w' ⟨A, c, he, ho, hb⟩ => ⟨A, c, by rw [nine_len]; exact he, ho.rd, hb⟩
theorem vb_nine : vb nineL % 2 ^ 255 % P25 = 9 := by
  unfold nineL
  rw [vb_of (show 9 < W4 by decide +kernel)]
  decide +kernel
theorem multN_lt (ks us : List UInt8) : multN ks us < P25 := ladderN_lt _ _
theorem multN_of (js : List UInt8) {Y : Nat} (hY : Y < P25) : multN js (gen (bf Y) 32) = ladderN Y (clam (vb js)) := by
  unfold multN
  rw [vb_of (Nat.lt_trans hY P25_W4), Nat.mod_eq_of_lt (Nat.lt_trans hY (show P25 < 2 ^ 255 by decide +kernel)), Nat.mod_eq_of_lt hY]
theorem multN_nine (ks : List UInt8) : multN ks nineL = ladderN 9 (clam (vb ks)) := by
  unfold multN
  rw [vb_nine]
theorem agrees_num (js ks : List UInt8) : multN js (gen (bf (multN ks nineL)) 32) = multN ks (gen (bf (multN js nineL)) 32) := by
  rw [multN_of js (multN_lt _ _), multN_of ks (multN_lt _ _), multN_nine, multN_nine]
  exact agreesN (clam_lt _) (clam_lt _)
theorem agrees_law {js ks : List UInt8} {B : Nat} {A0 A1 : Option Addr} {c0 c1 : Nat} (hl0 : js.length ≤ 140737488355328) (hl1 : ks.length ≤ 140737488355328)
    (kp : ∀ (bs : List UInt8) (A : Option Addr) (c : Nat) (w : World), Rd w w.heap.size A c bs → Calls Try.prog 15 #[.slice A bs.length c] w fun e w' => Ans (multL bs nineL) (multZ bs nineL) e w' ∧ Below w.heap.size w w')
    (kg : ∀ (ks us : List UInt8) (A A' : Option Addr) (c c' : Nat) (w : World), Rd w w.heap.size A c ks → Rd w w.heap.size A' c' us → Calls Try.prog 17 #[.slice A ks.length c, .slice A' us.length c'] w fun e w' => Ans (sharedL ks us) (sharedZ ks us) e w' ∧ Below w.heap.size w w')
    (ka : ∀ w, Calls Try.prog 12 #[] w fun e w' => e = .returned (.bool true) ∧ Below w.heap.size w w')
    (w : World) (a0 : Rd w B A0 c0 js) (a1 : Rd w B A1 c1 ks) (hB : B ≤ w.heap.size) :
    Calls Try.prog 8 #[.slice A0 js.length c0, .slice A1 ks.length c1] w fun e w' => e = .returned (.bool true) ∧ Below w.heap.size w w' := by
  have kz : ∀ (bs : List UInt8), bs.length = 32 → multZ bs nineL = 0 ∧ multL bs nineL = gen (bf (multN bs nineL)) 32 := fun bs h => ⟨if_pos ⟨h, nine_len⟩, if_pos ⟨h, nine_len⟩⟩
  have kn : ∀ (bs : List UInt8), bs.length ≠ 32 → multZ bs nineL = 1 := fun bs h => if_neg (fun h' => h h'.1)
  by_cases hj : js.length = 32
  · by_cases hk : ks.length = 32
    · refine agrees_good (P := multL js nineL) (Q := multL ks nineL) (L := sharedL js (multL ks nineL)) (z := sharedZ js (multL ks nineL)) hl0 hl1 (fun A c w h => ?_) (fun A c w h => ?_) (fun A c A' c' w h h' => kg _ _ A A' c c' w h h') (fun A c A' c' w h h' => ?_) ka w a0 a1 hB
      · rw [← (kz js hj).1]; exact kp js A c w h
      · rw [← (kz ks hk).1]; exact kp ks A c w h
      · have h9 := kg ks (multL js nineL) A A' c c' w h h'
        have e := agrees_num js ks
        have e1 : sharedL ks (multL js nineL) = sharedL js (multL ks nineL) := by
          rw [(kz js hj).2, (kz ks hk).2]
          unfold sharedL
          rw [e, hj, hk, gen_length, gen_length]
        have e2 : sharedZ ks (multL js nineL) = sharedZ js (multL ks nineL) := by
          rw [(kz js hj).2, (kz ks hk).2]
          unfold sharedZ
          rw [e, hj, hk, gen_length, gen_length]
        rw [e1, e2] at h9
        exact h9
    · refine agrees_gb (P := multL js nineL) (Q := multL ks nineL) hj hk hl0 hl1 (fun A c w h => ?_) (fun A c w h => ?_) ka w a0 a1 hB
      · rw [← (kz js hj).1]; exact kp js A c w h
      · rw [← kn ks hk]; exact kp ks A c w h
  · by_cases hk : ks.length = 32
    · refine agrees_bg (P := multL js nineL) (Q := multL ks nineL) hj hk hl0 hl1 (fun A c w h => ?_) (fun A c w h => ?_) ka w a0 a1 hB
      · rw [← kn js hj]; exact kp js A c w h
      · rw [← (kz ks hk).1]; exact kp ks A c w h
    · refine agrees_bb (P := multL js nineL) (Q := multL ks nineL) hj hk hl0 hl1 (fun A c w h => ?_) (fun A c w h => ?_) ka w a0 a1 hB
      · rw [← kn js hj]; exact kp js A c w h
      · rw [← kn ks hk]; exact kp ks A c w h
end Go.Proofs.Ytojggpiolgcjeaa
