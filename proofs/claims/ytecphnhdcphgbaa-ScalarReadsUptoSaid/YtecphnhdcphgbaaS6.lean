import Derived.Test.YtecphnhdcphgbaaS5
namespace Go.Proofs.Ytecphnhdcphgbaa
open Go Go.RowKit
theorem eqS_self (x : Nat) (w : World) : (Op.equalIn 10000 25 (nv x) (nv x)).run Try.prog w = .ok true w := by
  rw [← nv_mod]
  have h := eq4S (x % W4) (x % W4) (Nat.mod_lt _ W4_pos) (Nat.mod_lt _ W4_pos) w
  rw [decide_eq_true rfl] at h
  exact h
attribute [local irreducible] wd by8
set_option maxRecDepth 20000
set_option maxHeartbeats 800000 in
theorem awake_any (w : World) : Calls Try.prog 15 #[] w fun e w' => e = .returned (.bool true) ∧ Below w.heap.size w w' := by
  have k3 : ∀ w : World, Calls Try.prog 32 #[.slice (some ⟨w.heap.size, 0, none⟩) 3 3, .bool true] (w.alloc (.cells #[.int .u64 2, .int .u64 0, .int .u64 0, .int .u64 0, .int .u64 3, .int .u64 0, .int .u64 0, .int .u64 0, .int .u64 4, .int .u64 0, .int .u64 0, .int .u64 0] 25)) fun e w' => e = .returned (nv 24) ∧ Below w.heap.size w w' := fun w => by
    have h := tfold_mul (c := 3) (w.alloc (.cells #[.int .u64 2, .int .u64 0, .int .u64 0, .int .u64 0, .int .u64 3, .int .u64 0, .int .u64 0, .int .u64 0, .int .u64 4, .int .u64 0, .int .u64 0, .int .u64 0] 25)) rd_three (by simp) (by decide) (fun k hk => Nat.lt_trans (show k + 2 < 100 by omega) (by decide +kernel))
    rw [fw24] at h
    refine h.mono fun e w' ⟨he, hb⟩ => ⟨he, ((Below.refl _ w).alloc (Nat.le_refl _) _).trans (hb.mono (by simp))⟩
  have q2 := eqS_self 24
  rw [nv_small (x := 24) (by decide)] at q2 k3
  have kd : ∀ (w : World) (A : Option Addr) (c : Nat), Rd w w.heap.size A c (gen (bf LL) 32) → Calls Try.prog 12 #[.slice A 32 c] w fun e w' => e = .returned (.tuple #[lit4 0 0 0 0, .int .i64 6]) ∧ Below w.heap.size w w' := fun w A c hr => by
    have h := tdec_gen LL_W4 w hr (Nat.le_refl _)
    rw [if_neg (Nat.lt_irrefl _), if_neg (Nat.lt_irrefl _), nv_z] at h
    exact h
  have ko := rorder_any
  obtain ⟨P, hP⟩ : ∃ P, P = LL := ⟨_, rfl⟩
  rw [← hP] at kd ko
  clear hP
  have Q2 := Lib.hid q2
  have K3 := Lib.hid k3
  have KD := Lib.hid kd
  have KO := Lib.hid ko
  clear q2 k3 kd ko
  go_enter Try.func15, Try.ntmps15
  go_wp2_with fail
  go_at_call 24
  refine (KO.out _).mono ?_
  rintro e v1 ⟨A1, c1, rfl, d1, h0⟩
  go_wp2_with fail
  have KT := Lib.hid (told_any v1 d1.dig (Nat.le_refl _))
  clear d1 KO
  go_at_call 22
  refine KT.out.mono ?_
  rintro e v2 ⟨A2, c2, rfl, o2, h1⟩
  have hc := h0.trans (h1.mono h0.size)
  clear h0 h1 KT
  go_wp2_with fail
  go_at_call 12
  refine (KD.out _ _ _ o2.rd).mono ?_
  rintro e v3 ⟨rfl, h1⟩
  replace hc := (hc.trans (h1.mono hc.size)).alloc (Nat.le_trans hc.size h1.size) (ZE 25)
  clear h1 o2 KD
  go_upto_region 2 with fail
  obtain ⟨v4, e4⟩ : ∃ v, v = v3.alloc (ZE 25) := ⟨_, rfl⟩
  rw [← e4] at hc ⊢
  clear e4
  go_wp2_with fail
  go_at_call 32
  refine (K3.out _).mono ?_
  rintro e v5 ⟨rfl, h1⟩
  replace hc := hc.trans (h1.mono hc.size)
  clear h1 K3
  go_wp2_with (first | ((with_reducible refine gate_list .eql 25 ?_); refine wpList_eqlA 25 _ _ _ rfl rfl rfl rfl (guardS _ _ _ _ _) (Q2.out _) ?_) | ((with_reducible refine gate_listG .eql 25 ?_); refine wpList_eqlG 25 _ _ _ rfl rfl rfl rfl (guardS _ _ _ _ _) (Q2.out _) ?_) | ((with_reducible refine gate_wp .eql 25 ?_); refine wp_eqlA 25 _ _ _ rfl rfl rfl (guardS _ _ _ _ _) (Q2.out _) ?_))
  go_ret
  exact ⟨rfl, hc⟩
end Go.Proofs.Ytecphnhdcphgbaa
