/-
  Layer 12's AeadBack, over contracts. Written by tools/gen_ae4.py. By an AI agent.
-/
import Derived.Test.YtmhfkabpfkoocaaDoorAe7
namespace Go.Proofs.YtmhfkabpfkoocaaDoor
open Go Go.RowKit
set_option maxRecDepth 20000
section
attribute [local irreducible] sealA sealE openA openE boxL
theorem aeadback_much {G : World → Prop} (kg : ∀ w w', G w → Below w.heap.size w w' → G w') (ks : CSealP G 9) (ko : COpenP G 12) {A0 A1 A2 A3 : Option Addr} {n0 n1 n2 n3 c0 c1 c2 c3 : Nat} (h : 1000 < n2 ∨ (n2 ≤ 1000 ∧ 2000 < n3)) (w : World) (hG : G w) :
    Calls Tryd.prog 5 #[.agg (partsV A0 n0 c0 A1 n1 c1 A2 n2 c2 A3 n3 c3)] w fun e w' => e = .returned (.bool true) ∧ Below w.heap.size w w' := by
  have hc := (Below.refl w.heap.size w).alloc (Nat.le_refl _) (.cells (partsV A0 n0 c0 A1 n1 c1 A2 n2 c2 A3 n3 c3) 24)
  have HG := Lib.hid (kg _ _ hG hc)
  have HC := Lib.hid hc
  have KA := Lib.hid (fun w h => awake12 kg ks ko w h)
  clear kg ks ko hc hG
  rcases h with h | ⟨h, h'⟩
  · have g1 : (1000 : Int) < (n2 : Int) := by omega
    go_enter Tryd.func5, Tryd.ntmps5
    go_wp2_with fail
    go_at_call 7
    refine (KA.out _ HG.out).mono ?_
    rintro e v1 ⟨rfl, hc⟩
    have hfin := HC.out.trans (hc.mono HC.out.size)
    go_wp2_with fail
    go_ret
    exact ⟨rfl, hfin⟩
  · have g1 : ¬ (1000 : Int) < (n2 : Int) := by omega
    have g2 : (2000 : Int) < (n3 : Int) := by omega
    go_enter Tryd.func5, Tryd.ntmps5
    go_wp2_with fail
    go_at_call 7
    refine (KA.out _ HG.out).mono ?_
    rintro e v1 ⟨rfl, hc⟩
    have hfin := HC.out.trans (hc.mono HC.out.size)
    go_wp2_with fail
    go_ret
    exact ⟨rfl, hfin⟩
set_option maxHeartbeats 6400000 in
theorem back_bad {G : World → Prop} (kg : ∀ w w', G w → Below w.heap.size w w' → G w') (ks : CSealP G 9) (ko : COpenP G 12) {A0 A1 A2 A3 : Option Addr} {c0 c1 c2 c3 : Nat} {key nonce other b : List UInt8} (hl : key.length ≤ 140737488355328 ∧ nonce.length ≤ 140737488355328 ∧ other.length ≤ 140737488355328 ∧ b.length ≤ 140737488355328) (ho : other.length ≤ 1000) (hb : b.length ≤ 2000) (hbad : key.length ≠ 32 ∨ nonce.length ≠ 12) (w : World) (hG : G w) (r0 : Rd w w.heap.size A0 c0 key) (r1 : Rd w w.heap.size A1 c1 nonce) (r2 : Rd w w.heap.size A2 c2 other) (r3 : Rd w w.heap.size A3 c3 b) :
    Calls Tryd.prog 5 #[.agg (partsV A0 key.length c0 A1 nonce.length c1 A2 other.length c2 A3 b.length c3)] w fun e w' => e = .returned (.bool true) ∧ Below w.heap.size w w' := by
  have kf := fun A0 A1 A2 A3 c0 c1 c2 c3 w hG => ks key nonce other b A0 A1 A2 A3 c0 c1 c2 c3 w ho (by omega) hG
  have e1 : sealA key nonce other b = [] := by unfold sealA; rw [if_neg (by omega)]
  have e2 : sealE key nonce = 1 := by unfold sealE; rw [if_neg (by omega)]
  rw [e1, e2] at kf
  have KF := Lib.hid kf
  have hcond : ((key.length : Int) != 32) = true ∨ (((key.length : Int) != 32) = false ∧ ((nonce.length : Int) != 12) = true) := by
    by_cases h1 : key.length = 32
    · right; constructor <;> simp <;> omega
    · left; simp; omega
  have HCD := Lib.hid hcond
  clear kf e1 e2 hbad hcond
  have HL := Lib.hid hl
  have KA := Lib.hid (fun w h => awake12 kg ks ko w h)
  have kG := Lib.hid kg
  have g1 : ¬ (1000 : Int) < (other.length : Int) := by omega
  have g2 : ¬ (2000 : Int) < (b.length : Int) := by omega
  clear hl ho hb kg ks ko
  have op := OwnF.lit (w := w) (B := w.heap.size) 24 (Nat.le_refl _) (partsV A0 key.length c0 A1 nonce.length c1 A2 other.length c2 A3 b.length c3) 4 (partsF A0 key.length c0 A1 nonce.length c1 A2 other.length c2 A3 b.length c3) (by decide) (by rfl)
  have hc := (Below.refl w.heap.size w).alloc (Nat.le_refl _) (.cells (partsV A0 key.length c0 A1 nonce.length c1 A2 other.length c2 A3 b.length c3) 24)
  go_enter Tryd.func5, Tryd.ntmps5
  go_upto_region 1 with fail
  obtain ⟨v1, e1⟩ : ∃ v, v = w.alloc (.cells (partsV A0 key.length c0 A1 nonce.length c1 A2 other.length c2 A3 b.length c3) 24) := ⟨_, rfl⟩
  obtain ⟨gp, f1⟩ : ∃ g, g = w.heap.size := ⟨_, rfl⟩
  rw [← e1] at op hc ⊢
  replace op : OwnF v1 w.heap.size 24 (some ⟨gp, 0, none⟩) 4 4 (partsF A0 key.length c0 A1 nonce.length c1 A2 other.length c2 A3 b.length c3) := by rw [f1]; exact op
  rw [show Value.pointer (some ⟨w.heap.size, 0, none⟩) = .pointer (some ⟨gp, 0, none⟩) by rw [f1]]
  clear e1 f1
  replace r0 := (r0.keep hc).mono hc.size
  replace r1 := (r1.keep hc).mono hc.size
  replace r2 := (r2.keep hc).mono hc.size
  replace r3 := (r3.keep hc).mono hc.size
  have k0 : v1.cell? ⟨gp, 0, none⟩ = some (.slice A0 key.length c0) := OwnF.cell op (k := 0) (by decide)
  have k1 : v1.cell? ⟨gp, 1, none⟩ = some (.slice A1 nonce.length c1) := OwnF.cell op (k := 1) (by decide)
  have k2 : v1.cell? ⟨gp, 2, none⟩ = some (.slice A2 other.length c2) := OwnF.cell op (k := 2) (by decide)
  have k3 : v1.cell? ⟨gp, 3, none⟩ = some (.slice A3 b.length c3) := OwnF.cell op (k := 3) (by decide)
  go_wp2_with fail
  go_at_call 8
  refine (partsOwn HL.out v1 r0 r1 r2 r3).mono ?_
  rintro e v2 ⟨B0, d0, B1, d1, B2, d2, B3, d3, rfl, q0, q1, q2, q3, h0⟩
  clear k0 k1 k2 k3 g1 g2
  replace op := OwnF.keep op h0
  replace r0 := (r0.keep h0).mono h0.size
  replace r1 := (r1.keep h0).mono h0.size
  replace r2 := (r2.keep h0).mono h0.size
  replace r3 := (r3.keep h0).mono h0.size
  replace hc := hc.trans (h0.mono hc.size)
  clear h0
  have oq := OwnF.lit (w := v2) (B := w.heap.size) 24 hc.size (partsV B0 key.length d0 B1 nonce.length d1 B2 other.length d2 B3 b.length d3) 4 (partsF B0 key.length d0 B1 nonce.length d1 B2 other.length d2 B3 b.length d3) (by decide) (by rfl)
  have h0 := (Below.refl v2.heap.size v2).alloc (Nat.le_refl _) (.cells (partsV B0 key.length d0 B1 nonce.length d1 B2 other.length d2 B3 b.length d3) 24)
  replace op := OwnF.keep op h0
  replace r0 := (r0.keep h0).mono h0.size
  replace r1 := (r1.keep h0).mono h0.size
  replace r2 := (r2.keep h0).mono h0.size
  replace r3 := (r3.keep h0).mono h0.size
  replace q0 := (q0.keep h0).mono h0.size
  replace q1 := (q1.keep h0).mono h0.size
  replace q2 := (q2.keep h0).mono h0.size
  replace q3 := (q3.keep h0).mono h0.size
  replace hc := hc.trans (h0.mono hc.size)
  clear h0
  go_upto_region 4 with fail
  obtain ⟨v3, e3⟩ : ∃ v, v = v2.alloc (.cells (partsV B0 key.length d0 B1 nonce.length d1 B2 other.length d2 B3 b.length d3) 24) := ⟨_, rfl⟩
  obtain ⟨gq, f3⟩ : ∃ g, g = v2.heap.size := ⟨_, rfl⟩
  rw [← e3] at op oq hc r0 r1 r2 r3 q0 q1 q2 q3 ⊢
  rw [← f3] at oq ⊢
  clear e3 f3
  have j0 : v3.cell? ⟨gq, 0, none⟩ = some (.slice B0 key.length d0) := OwnF.cell oq (k := 0) (by decide)
  have j1 : v3.cell? ⟨gq, 1, none⟩ = some (.slice B1 nonce.length d1) := OwnF.cell oq (k := 1) (by decide)
  have j2 : v3.cell? ⟨gq, 2, none⟩ = some (.slice B2 other.length d2) := OwnF.cell oq (k := 2) (by decide)
  have j3 : v3.cell? ⟨gq, 3, none⟩ = some (.slice B3 b.length d3) := OwnF.cell oq (k := 3) (by decide)
  go_wp2_with fail
  go_at_call 9
  refine (KF.out _ _ _ _ _ _ _ _ v3 (kG.out _ _ hG hc) q0 q1 q2 q3).mono ?_
  rintro e v4 ⟨A4, c4, rfl, r4, h0⟩
  clear j0 j1 j2 j3 r4
  replace op := OwnF.keep op h0
  replace oq := OwnF.keep oq h0
  replace r0 := (r0.keep h0).mono h0.size
  replace r1 := (r1.keep h0).mono h0.size
  replace r2 := (r2.keep h0).mono h0.size
  replace r3 := (r3.keep h0).mono h0.size
  replace q0 := (q0.keep h0).mono h0.size
  replace q1 := (q1.keep h0).mono h0.size
  replace q2 := (q2.keep h0).mono h0.size
  replace q3 := (q3.keep h0).mono h0.size
  replace hc := hc.trans (h0.mono hc.size)
  clear h0
  have k0 : v4.cell? ⟨gp, 0, none⟩ = some (.slice A0 key.length c0) := OwnF.cell op (k := 0) (by decide)
  have k1 : v4.cell? ⟨gp, 1, none⟩ = some (.slice A1 nonce.length c1) := OwnF.cell op (k := 1) (by decide)
  have k2 : v4.cell? ⟨gp, 2, none⟩ = some (.slice A2 other.length c2) := OwnF.cell op (k := 2) (by decide)
  have k3 : v4.cell? ⟨gp, 3, none⟩ = some (.slice A3 b.length c3) := OwnF.cell op (k := 3) (by decide)
  rcases HCD.out with g1 | ⟨g1, g2⟩
  · go_wp2_with fail
    go_at_call 7
    refine (KA.out _ (kG.out _ _ hG hc)).mono ?_
    rintro e v9 ⟨rfl, h0⟩
    have hfin := hc.trans (h0.mono hc.size)
    go_wp2_with fail
    go_ret
    exact ⟨rfl, hfin⟩
  · go_wp2_with fail
    go_at_call 7
    refine (KA.out _ (kG.out _ _ hG hc)).mono ?_
    rintro e v9 ⟨rfl, h0⟩
    have hfin := hc.trans (h0.mono hc.size)
    go_wp2_with fail
    go_ret
    exact ⟨rfl, hfin⟩
set_option maxHeartbeats 6400000 in
theorem back_good {G : World → Prop} (kg : ∀ w w', G w → Below w.heap.size w w' → G w') (ks : CSealP G 9) (ko : COpenP G 12) {A0 A1 A2 A3 : Option Addr} {c0 c1 c2 c3 : Nat} {key nonce other b : List UInt8} (hl : key.length ≤ 140737488355328 ∧ nonce.length ≤ 140737488355328 ∧ other.length ≤ 140737488355328 ∧ b.length ≤ 140737488355328) (ho : other.length ≤ 1000) (hb : b.length ≤ 2000) (hk : key.length = 32) (hn : nonce.length = 12) (w : World) (hG : G w) (r0 : Rd w w.heap.size A0 c0 key) (r1 : Rd w w.heap.size A1 c1 nonce) (r2 : Rd w w.heap.size A2 c2 other) (r3 : Rd w w.heap.size A3 c3 b) :
    Calls Tryd.prog 5 #[.agg (partsV A0 key.length c0 A1 nonce.length c1 A2 other.length c2 A3 b.length c3)] w fun e w' => e = .returned (.bool true) ∧ Below w.heap.size w w' := by
  have kf := fun A0 A1 A2 A3 c0 c1 c2 c3 w hG => ks key nonce other b A0 A1 A2 A3 c0 c1 c2 c3 w ho (by omega) hG
  have e1 : sealA key nonce other b = boxL key nonce other b := by unfold sealA; rw [if_pos ⟨hk, hn⟩]
  have e2 : sealE key nonce = 0 := by unfold sealE; rw [if_pos ⟨hk, hn⟩]
  have hSl := boxL_len key nonce other b
  obtain ⟨e3, e4⟩ := open_seal hk hn other b
  have kf2 := fun A0 A1 A2 A3 c0 c1 c2 c3 w hG => ko key nonce other (boxL key nonce other b) A0 A1 A2 A3 c0 c1 c2 c3 w ho (by omega) hG
  rw [e3, e4] at kf2
  rw [e1, e2] at kf
  obtain ⟨S, eS⟩ : ∃ S, S = boxL key nonce other b := ⟨_, rfl⟩
  rw [← eS] at kf kf2 hSl
  obtain ⟨m, em⟩ : ∃ m, m = S.length := ⟨_, rfl⟩
  rw [← em] at kf kf2 hSl
  have w1 : IntKind.i64.wrap ((b.length : Int) + 16) = (m : Int) := by rw [IntKind.wrap_i64]; omega
  have KF := Lib.hid kf
  have KR := Lib.hid kf2
  have HM := Lib.hid em.symm
  clear kf kf2 e1 e2 e3 e4 eS hSl em hk hn
  have HL := Lib.hid hl
  have KA := Lib.hid (fun w h => awake12 kg ks ko w h)
  have kG := Lib.hid kg
  have g1 : ¬ (1000 : Int) < (other.length : Int) := by omega
  have g2 : ¬ (2000 : Int) < (b.length : Int) := by omega
  clear hl ho hb kg ks ko
  have op := OwnF.lit (w := w) (B := w.heap.size) 24 (Nat.le_refl _) (partsV A0 key.length c0 A1 nonce.length c1 A2 other.length c2 A3 b.length c3) 4 (partsF A0 key.length c0 A1 nonce.length c1 A2 other.length c2 A3 b.length c3) (by decide) (by rfl)
  have hc := (Below.refl w.heap.size w).alloc (Nat.le_refl _) (.cells (partsV A0 key.length c0 A1 nonce.length c1 A2 other.length c2 A3 b.length c3) 24)
  go_enter Tryd.func5, Tryd.ntmps5
  go_upto_region 1 with fail
  obtain ⟨v1, e1⟩ : ∃ v, v = w.alloc (.cells (partsV A0 key.length c0 A1 nonce.length c1 A2 other.length c2 A3 b.length c3) 24) := ⟨_, rfl⟩
  obtain ⟨gp, f1⟩ : ∃ g, g = w.heap.size := ⟨_, rfl⟩
  rw [← e1] at op hc ⊢
  replace op : OwnF v1 w.heap.size 24 (some ⟨gp, 0, none⟩) 4 4 (partsF A0 key.length c0 A1 nonce.length c1 A2 other.length c2 A3 b.length c3) := by rw [f1]; exact op
  rw [show Value.pointer (some ⟨w.heap.size, 0, none⟩) = .pointer (some ⟨gp, 0, none⟩) by rw [f1]]
  clear e1 f1
  replace r0 := (r0.keep hc).mono hc.size
  replace r1 := (r1.keep hc).mono hc.size
  replace r2 := (r2.keep hc).mono hc.size
  replace r3 := (r3.keep hc).mono hc.size
  have k0 : v1.cell? ⟨gp, 0, none⟩ = some (.slice A0 key.length c0) := OwnF.cell op (k := 0) (by decide)
  have k1 : v1.cell? ⟨gp, 1, none⟩ = some (.slice A1 nonce.length c1) := OwnF.cell op (k := 1) (by decide)
  have k2 : v1.cell? ⟨gp, 2, none⟩ = some (.slice A2 other.length c2) := OwnF.cell op (k := 2) (by decide)
  have k3 : v1.cell? ⟨gp, 3, none⟩ = some (.slice A3 b.length c3) := OwnF.cell op (k := 3) (by decide)
  go_wp2_with fail
  go_at_call 8
  refine (partsOwn HL.out v1 r0 r1 r2 r3).mono ?_
  rintro e v2 ⟨B0, d0, B1, d1, B2, d2, B3, d3, rfl, q0, q1, q2, q3, h0⟩
  clear k0 k1 k2 k3 g1 g2
  replace op := OwnF.keep op h0
  replace r0 := (r0.keep h0).mono h0.size
  replace r1 := (r1.keep h0).mono h0.size
  replace r2 := (r2.keep h0).mono h0.size
  replace r3 := (r3.keep h0).mono h0.size
  replace hc := hc.trans (h0.mono hc.size)
  clear h0
  have oq := OwnF.lit (w := v2) (B := w.heap.size) 24 hc.size (partsV B0 key.length d0 B1 nonce.length d1 B2 other.length d2 B3 b.length d3) 4 (partsF B0 key.length d0 B1 nonce.length d1 B2 other.length d2 B3 b.length d3) (by decide) (by rfl)
  have h0 := (Below.refl v2.heap.size v2).alloc (Nat.le_refl _) (.cells (partsV B0 key.length d0 B1 nonce.length d1 B2 other.length d2 B3 b.length d3) 24)
  replace op := OwnF.keep op h0
  replace r0 := (r0.keep h0).mono h0.size
  replace r1 := (r1.keep h0).mono h0.size
  replace r2 := (r2.keep h0).mono h0.size
  replace r3 := (r3.keep h0).mono h0.size
  replace q0 := (q0.keep h0).mono h0.size
  replace q1 := (q1.keep h0).mono h0.size
  replace q2 := (q2.keep h0).mono h0.size
  replace q3 := (q3.keep h0).mono h0.size
  replace hc := hc.trans (h0.mono hc.size)
  clear h0
  go_upto_region 4 with fail
  obtain ⟨v3, e3⟩ : ∃ v, v = v2.alloc (.cells (partsV B0 key.length d0 B1 nonce.length d1 B2 other.length d2 B3 b.length d3) 24) := ⟨_, rfl⟩
  obtain ⟨gq, f3⟩ : ∃ g, g = v2.heap.size := ⟨_, rfl⟩
  rw [← e3] at op oq hc r0 r1 r2 r3 q0 q1 q2 q3 ⊢
  rw [← f3] at oq ⊢
  clear e3 f3
  have j0 : v3.cell? ⟨gq, 0, none⟩ = some (.slice B0 key.length d0) := OwnF.cell oq (k := 0) (by decide)
  have j1 : v3.cell? ⟨gq, 1, none⟩ = some (.slice B1 nonce.length d1) := OwnF.cell oq (k := 1) (by decide)
  have j2 : v3.cell? ⟨gq, 2, none⟩ = some (.slice B2 other.length d2) := OwnF.cell oq (k := 2) (by decide)
  have j3 : v3.cell? ⟨gq, 3, none⟩ = some (.slice B3 b.length d3) := OwnF.cell oq (k := 3) (by decide)
  go_wp2_with fail
  go_at_call 9
  refine (KF.out _ _ _ _ _ _ _ _ v3 (kG.out _ _ hG hc) q0 q1 q2 q3).mono ?_
  rintro e v4 ⟨A4, c4, rfl, r4, h0⟩
  clear j0 j1 j2 j3
  replace op := OwnF.keep op h0
  replace oq := OwnF.keep oq h0
  replace r0 := (r0.keep h0).mono h0.size
  replace r1 := (r1.keep h0).mono h0.size
  replace r2 := (r2.keep h0).mono h0.size
  replace r3 := (r3.keep h0).mono h0.size
  replace q0 := (q0.keep h0).mono h0.size
  replace q1 := (q1.keep h0).mono h0.size
  replace q2 := (q2.keep h0).mono h0.size
  replace q3 := (q3.keep h0).mono h0.size
  replace hc := hc.trans (h0.mono hc.size)
  clear h0
  have j0 : v4.cell? ⟨gq, 0, none⟩ = some (.slice B0 key.length d0) := OwnF.cell oq (k := 0) (by decide)
  have j1 : v4.cell? ⟨gq, 1, none⟩ = some (.slice B1 nonce.length d1) := OwnF.cell oq (k := 1) (by decide)
  have j2 : v4.cell? ⟨gq, 2, none⟩ = some (.slice B2 other.length d2) := OwnF.cell oq (k := 2) (by decide)
  have j3 : v4.cell? ⟨gq, 3, none⟩ = some (.slice B3 b.length d3) := OwnF.cell oq (k := 3) (by decide)
  go_wp2_with fail
  go_at_call 12
  refine (KR.out _ _ _ _ _ _ _ _ v4 (kG.out _ _ hG hc) q0 q1 q2 r4).mono ?_
  rintro e v5 ⟨A6, c6, rfl, r6, h0⟩
  clear j0 j1 j2 j3 r4 q0 q1 q2 q3 oq
  replace op := OwnF.keep op h0
  replace r3 := (r3.keep h0).mono h0.size
  replace hc := hc.trans (h0.mono hc.size)
  clear h0
  have k0 : v5.cell? ⟨gp, 0, none⟩ = some (.slice A0 key.length c0) := OwnF.cell op (k := 0) (by decide)
  have k1 : v5.cell? ⟨gp, 1, none⟩ = some (.slice A1 nonce.length c1) := OwnF.cell op (k := 1) (by decide)
  have k2 : v5.cell? ⟨gp, 2, none⟩ = some (.slice A2 other.length c2) := OwnF.cell op (k := 2) (by decide)
  have k3 : v5.cell? ⟨gp, 3, none⟩ = some (.slice A3 b.length c3) := OwnF.cell op (k := 3) (by decide)
  have hv6 := run_str (P := Tryd.prog) v5 22 5 Tryd.underlying22 Tryd.underlying5 (dst := 9) Tryd.underlying9 r6
  have hv3 := run_str (P := Tryd.prog) v5 22 5 Tryd.underlying22 Tryd.underlying5 (dst := 9) Tryd.underlying9 r3
  go_wp2_with fail
  go_at_call 7
  refine (KA.out _ (kG.out _ _ hG hc)).mono ?_
  rintro e v9 ⟨rfl, h0⟩
  have hfin := hc.trans (h0.mono hc.size)
  go_wp2_with fail
  go_ret
  exact ⟨rfl, hfin⟩
end
end Go.Proofs.YtmhfkabpfkoocaaDoor
