import Derived.Test.YtifcjfeepgfmfaaDoorR10
namespace Go.Proofs.YtifcjfeepgfmfaaDoor
open Go Go.RowKit
theorem lit_dig {w : World} {n : Nat} (hn : n < 256) : Dig (w.alloc (.cells #[.int .i64 (n : Int)] 3)) (w.alloc (.cells #[.int .i64 (n : Int)] 3)).heap.size (some ⟨w.heap.size, 0, none⟩) 1 1 n :=
  ⟨(OwnF.lit (w := w) (B := w.heap.size) 3 (Nat.le_refl _) #[.int .i64 (n : Int)] 1 (dg8 n) (by decide) (by
    have : by8 n 0 = n := by unfold by8 dgt; rw [Nat.pow_zero, Nat.div_one, Nat.mod_eq_of_lt hn]
    simp [dg8, this])).rd, by rwa [Nat.pow_one]⟩
theorem div_step {M s b : Nat} (hb : 0 < b) : hd M s / b = (by8 M s + 256 * (hd M (s + 1) % b)) / b + 256 * (hd M (s + 1) / b) := by
  rw [hd_step]
  have h := Nat.mod_add_div (hd M (s + 1)) b
  generalize hd M (s + 1) = q at *
  have e : 256 * q + by8 M s = by8 M s + 256 * (q % b) + b * (256 * (q / b)) := by
    conv => lhs; rw [← h]
    rw [Nat.mul_add, Nat.mul_left_comm]; omega
  rw [e, Nat.add_mul_div_left _ _ hb]
set_option maxRecDepth 20000
attribute [local irreducible] wd by8 d16 hd
set_option maxHeartbeats 1600000 in
theorem rless_any {n b : Nat} (hn : n < 256) (hb0 : 0 < b) (hb1 : b < 256) (w : World) :
    Calls Tryd.prog 59 #[.int .i64 (n : Int), .int .i64 (b : Int)] w fun e w' => ∃ A c m, e = .returned (.slice A m c) ∧ DOwn w' w.heap.size A c m ((P25 - n) / b) ∧ Below w.heap.size w w' := by
  obtain ⟨i0, hi, hz0, hz1, hz2⟩ := info_parts infoInt
  have hPn : n ≤ P25 := Nat.le_trans (Nat.le_of_lt hn) (by decide +kernel)
  have hPl : P25 - n < 256 ^ 32 := Nat.lt_of_le_of_lt (Nat.sub_le _ _) P_lt
  have kp := rprime_any
  obtain ⟨P, hPe⟩ : ∃ P, P = P25 := ⟨_, rfl⟩
  rw [← hPe] at kp hPn hPl ⊢
  obtain ⟨M, hM⟩ : ∃ M, M = P - n := ⟨_, rfl⟩
  have km := @minus_any
  rw [← hM] at hPl ⊢
  have HM := Lib.hid hM
  have HP := Lib.hid hPl
  have KP := Lib.hid kp
  have hbz : ((b : Int) == 0) = false := by simp; omega
  clear hPe hM kp hPl km
  go_enter Tryd.func59, Tryd.ntmps59
  go_wp2_with fail
  go_at_call 42
  refine (KP.out _).mono ?_
  rintro e v1 ⟨A1, c1, rfl, d1, h0⟩
  have p1 := d1.dig.next ((Below.refl _ v1).alloc (Nat.le_refl _) (.cells #[.int .i64 (n : Int)] 3))
  have hc := h0.alloc h0.size (.cells #[.int .i64 (n : Int)] 3)
  have pl := lit_dig (w := v1) hn
  clear d1 h0
  go_wp2_with fail
  go_at_call 50
  refine (minus_any _ p1 pl (Nat.le_refl _) (by omega) hPn).mono ?_
  rintro e v2 ⟨A2, c2, m, rfl, d2, h0⟩
  rw [← HM.out] at d2
  replace hc := hc.trans (h0.mono hc.size)
  have hm32 := d2.can 32 HP.out
  have p2 := d2.dig
  have hlt2 := d2.lt
  have HL2 := Lib.hid hlt2
  clear h0 p1 pl d2 hlt2
  have hl1 : IntKind.i64.wrap ((m : Int) - 1) = (m : Int) - 1 := by rw [IntKind.wrap_i64]; omega
  have hs2 := hc.size
  go_wp2_with fail
  go_loopw [6, 7, 8] (fun v rest i wr => ∃ r : Nat, r ≤ m ∧ i = .int .i64 ((r : Int) - 1) ∧ rest = .int .i64 ((hd M r % b : Nat) : Int) ∧ (∃ A c, v = .slice A (m - r) c ∧ OwnF wr v2.heap.size 3 A c (m - r) (dg8 (hd M r / b))) ∧ Below v2.heap.size v2 wr)
    (fun _ _ i _ => (intOf i + 1).toNat)
  case atStart => exact ⟨m, Nat.le_refl _, rfl, by rw [show hd M m = 0 by unfold hd; exact Nat.div_eq_of_lt HL2.out, Nat.zero_mod]; rfl, ⟨none, 0, by rw [Nat.sub_self], by rw [Nat.sub_self]; exact OwnF.nothing _ _ _ _⟩, Below.refl _ _⟩
  case round =>
    obtain ⟨r, hr, rfl, rfl, ⟨Ao, co, rfl, od⟩, hb⟩ := hrel
    by_cases h0 : r = 0
    · subst h0
      rw [show hd M 0 = M by unfold hd; rw [Nat.pow_zero, Nat.div_one], Nat.sub_zero] at od
      have hMb : M / b < 256 ^ m := Nat.lt_of_le_of_lt (Nat.div_le_self _ _) HL2.out
      rw [Nat.sub_zero]
      go_wp2_with fail
      go_at_call 58
      refine (trim_any (x := M / b) _ ⟨od.rd, hMb⟩ (by omega)).mono ?_
      rintro e w3 ⟨n2, hn2, rfl, hx2, hc2, rfl⟩
      go_wp2_with fail
      go_ret
      exact ⟨Ao, co, n2, rfl, DOwn.trim od hs2 hn2 hx2 hc2, hc.trans (hb.mono hs2)⟩
    · obtain ⟨s, rfl⟩ : ∃ s, r = s + 1 := ⟨r - 1, by omega⟩
      have gs : ((s + 1 : Nat) : Int) - 1 = (s : Int) := by omega
      rw [gs]
      have g0 : (0 : Int) ≤ (s : Int) := by omega
      have gn : (s : Int) < (m : Int) := by omega
      have gw : IntKind.i64.wrap ((s : Int) - 1) = (s : Int) - 1 := by rw [IntKind.wrap_i64]; omega
      have hdl := by8_lt M s
      obtain ⟨b1, o1, rfl, hb1', c1⟩ := (p2.keep hb).rd.at_ (k := s) (by omega)
      unfold dg8 at c1
      have gcap := p2.rd.cap
      have hrb : hd M (s + 1) % b < b := Nat.mod_lt _ hb0
      have hds := div_step (M := M) (s := s) hb0
      have hms : hd M s % b = (by8 M s + 256 * (hd M (s + 1) % b)) % b := (hd_mod M b s).symm
      generalize hd M (s + 1) % b = q at *
      generalize hd M (s + 1) / b = D at *
      obtain ⟨T, hT⟩ : ∃ T, T = by8 M s + 256 * q := ⟨_, rfl⟩
      rw [← hT] at hds hms
      have hTb : T / b < 256 := Nat.div_lt_of_lt_mul (by rw [hT]; have := Nat.mul_le_mul_left 256 (Nat.succ_le_of_lt hrb); rw [Nat.mul_comm b]; omega)
      have hTl : T < 70000 := by rw [hT]; omega
      have a1 : IntKind.i64.wrap ((q : Int) * 256) = (q : Int) * 256 := by rw [IntKind.wrap_i64]; omega
      have a2 : IntKind.i64.wrap ((q : Int) * 256 + (by8 M s : Int)) = (T : Int) := by rw [hT, IntKind.wrap_i64]; omega
      have a3 : (T : Int).tdiv (b : Int) = ((T / b : Nat) : Int) := by rw [Int.tdiv_eq_ediv_of_nonneg (by omega)]; rfl
      have a4 := (fun (z : Nat) (hz : z < 256) => (by rw [IntKind.wrap_i64]; omega : IntKind.i64.wrap (z : Int) = (z : Int))) (T / b) hTb
      have a5 : (T : Int).tmod (b : Int) = ((T % b : Nat) : Int) := by rw [Int.tmod_eq_emod_of_nonneg (by omega)]; rfl
      have a3' : (T : Int) / (b : Int) = ((T / b : Nat) : Int) := rfl
      have a5' : (T : Int) % (b : Int) = ((T % b : Nat) : Int) := rfl
      rw [← hms] at a5 a5'
      obtain ⟨y, hy⟩ : ∃ y, y = T / b := ⟨_, rfl⟩
      rw [← hy] at a3 a4 a3' hds hTb
      have HDS := Lib.hid hds
      have bl : Below wr.heap.size wr (wr.alloc (.cells #[.int .i64 (y : Int)] 3)) := (Below.refl _ wr).alloc (Nat.le_refl _) _
      have ol : OwnF (wr.alloc (.cells #[.int .i64 (y : Int)] 3)) v2.heap.size 3 (some ⟨wr.heap.size, 0, none⟩) 1 1 (fun _ => .int .i64 (y : Int)) := OwnF.lit _ hb.size _ 1 _ (by decide) rfl
      have rl := od.rd.keep bl
      have hsz : v2.heap.size ≤ (wr.alloc (.cells #[.int .i64 (y : Int)] 3)).heap.size := Nat.le_trans hb.size bl.size
      have HTB := Lib.hid hTb
      clear hds hms hT hTl hrb hy hTb hdl
      go_wp2_with (at_builtin; refine wpList_appF _ rfl (.tmp 31) (.tmp 32) _ rfl v2.heap.size 3 i0 _ Tryd.underlying37 hi hz0 hz1 hz2 (by decide) rfl rfl ol rfl rl (fun _ _ => rfl) (by omega) (by omega) hsz ?_; intro A2 c2 w2 ho2 hb2)
      go_roundw
      case rel =>
        refine ⟨s, by omega, by go_num, rfl, ⟨A2, c2, by rw [show m - s = 1 + (m - (s + 1)) by omega], ?_⟩, (hb.alloc hb.size _).trans hb2⟩
        rw [show m - s = 1 + (m - (s + 1)) by omega]
        refine ho2.congr fun k hk => ?_
        unfold dg8
        rw [HDS.out]
        by_cases h1 : k < 1
        · obtain rfl : k = 0 := by omega
          rw [if_pos h1, by8_cons0 HTB.out]
        · obtain ⟨j, rfl⟩ : ∃ j, k = j + 1 := ⟨k - 1, by omega⟩
          rw [if_neg h1, by8_cons HTB.out, Nat.add_sub_cancel]
      case measure => simp [intOf]
end Go.Proofs.YtifcjfeepgfmfaaDoor
