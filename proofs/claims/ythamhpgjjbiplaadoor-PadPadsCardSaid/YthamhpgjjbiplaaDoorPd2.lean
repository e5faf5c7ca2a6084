/-
  The document's Pad, Unpad (layer 14). By an AI agent.
-/
import Derived.Test.YthamhpgjjbiplaaDoorPd1
namespace Go.Proofs.YthamhpgjjbiplaaDoor
open Go Go.RowKit
set_option maxRecDepth 20000
set_option maxHeartbeats 800000 in
theorem rpad_any {A : Option Addr} {B c : Nat} {b : List UInt8} (w : World) (hr : Rd w B A c b) (hB : B ≤ w.heap.size) :
    Calls Tryd.prog 13 #[.slice A b.length c] w fun e w' => ∃ A' c', e = .returned (.tuple #[.slice A' (padA b).length c', .int .i64 (padE b : Int)]) ∧ Own w' w.heap.size 5 A' c' (padA b) ∧ Below w.heap.size w w' := by
  have KB := Lib.hid (rbkt_any (b.length : Int) w)
  by_cases h : b.length ≤ 4095
  case neg =>
    have e1 : bktA (b.length : Int) = 0 := by unfold bktA; rw [if_neg (by omega), if_pos (by omega)]
    have e2 : bktE (b.length : Int) = 2 := by unfold bktE; rw [if_neg (by omega), if_pos (by omega)]
    have e3 : padA b = [] := by unfold padA; rw [if_neg h]
    have e4 : padE b = 2 := by unfold padE; rw [if_neg h]
    rw [e1, e2] at KB
    rw [e3, e4]
    clear e1 e2 e3 e4 h hr hB
    go_enter Tryd.func13, Tryd.ntmps13
    go_wp2_with fail
    go_at_call 9
    refine KB.out.mono ?_
    rintro z v1 ⟨rfl, hc⟩
    go_wp2_with fail
    go_returns
    exact ⟨none, 0, rfl, World.ownsRow_nil _ _ _ _, hc⟩
  obtain ⟨i0, hi, hz0, hz1, hz2⟩ := info_parts infoU8
  have e1 : bktA (b.length : Int) = bkt b.length := by unfold bktA; rw [if_neg (by omega), if_neg (by omega), Int.toNat_natCast]
  have e2 : bktE (b.length : Int) = 0 := by unfold bktE; rw [if_neg (by omega), if_neg (by omega)]
  have e3 : padA b = padL b := by unfold padA; rw [if_pos h]
  have e4 : padE b = 0 := by unfold padE; rw [if_pos h]
  have hpl := padL_len h
  have hbk := bkt_gt h
  have hpd : padL b = b ++ (128 :: List.replicate (bkt b.length - (b.length + 1)) 0) := rfl
  rw [e1, e2] at KB
  rw [e3, e4, hpl]
  obtain ⟨n, en⟩ : ∃ n, n = b.length := ⟨_, rfl⟩
  rw [← en] at KB hbk hpd ⊢
  obtain ⟨s, es⟩ : ∃ s, s = bkt n := ⟨_, rfl⟩
  rw [← es] at KB hbk hpd ⊢
  have HN := Lib.hid en.symm
  have HS := Lib.hid (And.intro hbk (show n ≤ 4095 by omega))
  have HP := Lib.hid hpd
  have HL1 := Lib.hid (show (b ++ [(128 : UInt8)]).length = n + 1 by rw [List.length_append, ← en]; rfl)
  have HB := Lib.hid hB
  clear e1 e2 e3 e4 hpl hbk hpd es h hB en
  go_enter Tryd.func13, Tryd.ntmps13
  go_wp2_with fail
  go_at_call 9
  refine KB.out.mono ?_
  rintro z v1 ⟨rfl, hc⟩
  replace hr := hr.keep (hc.mono HB.out)
  have h2 : Rd (v1.alloc (.cells #[] 5)) B A c b := hr.keep ((Below.refl B v1).alloc (Nat.le_trans HB.out hc.size) _)
  have h3 : Own (v1.alloc (.cells #[] 5)) v1.heap.size 5 (some ⟨v1.heap.size, 0, none⟩) 0 [] := World.ownsRow_made v1 #[] 0 (Nat.le_refl _) (by decide) (by decide)
  have h4 : Below v1.heap.size v1 (v1.alloc (.cells #[] 5)) := (Below.refl _ v1).alloc (Nat.le_refl _) _
  have HL0 := Lib.hid (show 0 + n = n ∧ n ≤ 140737488355328 by have := HS.out; omega)
  clear hr KB
  have HL2 := Lib.hid (show n + 1 ≤ 140737488355328 by have := HS.out; omega)
  go_wp2_with (first | (at_builtin; refine wpList_app1 _ rfl (.tmp 18) (.tmp 19) _ rfl v1.heap.size 5 i0 _ Tryd.underlying27 hi hz0 hz1 hz2 rfl rfl HN.out.symm ho rfl 128 rfl HL2.out hb.size ?_; intro A2 c2 v3 ho2 hb2) | ((with_reducible refine app_arm hi hz0 hz1 hz2 rfl h3 HN.out h2 HL0.out.1 HL0.out.2 (by simp) ?_ ?_ ?_); rfl; rfl; intro A1 c1 v2 ho hb; replace ho : Own v2 v1.heap.size 5 A1 c1 b := ho; replace hb := h4.trans hb))
  have hc2 := hc.trans ((hb.trans hb2).mono hc.size)
  have hb12 := hb.trans hb2
  have HO := Lib.hid (And.intro ho2 hb12)
  have hv1 := Lib.hid hc.size
  have HC := Lib.hid hc
  clear ho ho2 hb hb2 hc2 hb12 h2 h3 h4 hc
  go_loopw [6] (fun v wr => ∃ k : Nat, k ≤ s - (n + 1) ∧ (∃ A c, v = .slice A (n + 1 + k) c ∧ Own wr v1.heap.size 5 A c (b ++ 128 :: List.replicate k 0)) ∧ Below v1.heap.size v1 wr)
    (fun v _ => s - (match v with | .slice _ m _ => m | _ => 0))
  case atStart => exact ⟨0, Nat.zero_le _, ⟨A2, c2, rfl, HO.out.1⟩, HO.out.2⟩
  case round =>
    obtain ⟨k, hk, ⟨Av, cv, rfl, ow⟩, hc⟩ := hrel
    clear HO
    have hss := HS.out
    obtain ⟨m, em⟩ : ∃ m, m = n + 1 + k := ⟨_, rfl⟩
    rw [← em]
    by_cases hlt : m < s
    · have g1 : (m : Int) < (s : Int) := by omega
      have hlen : m = (b ++ 128 :: List.replicate k (0 : UInt8)).length := by rw [List.length_append, List.length_cons, List.length_replicate, HN.out]; omega
      have HM := Lib.hid (And.intro hlen (And.intro (show m + 1 ≤ 140737488355328 by omega) (And.intro em hlt)))
      have hB1 := Lib.hid hc.size
      clear hlen em hlt hk hss
      go_wp2_with (at_builtin; refine wpList_app1 _ rfl (.tmp 25) (.tmp 26) _ rfl v1.heap.size 5 i0 _ Tryd.underlying27 hi hz0 hz1 hz2 rfl rfl HM.out.1 ow rfl 0 rfl HM.out.2.1 hB1.out ?_; intro A' c' w' ho' hb')
      go_roundw
      case rel => exact ⟨k + 1, by have := HM.out.2.2; have := HS.out; omega, ⟨A', c', by rw [HM.out.2.2.1]; rfl, by rw [List.replicate_succ', ← List.cons_append, ← List.append_assoc]; exact ho'⟩, hc.trans hb'⟩
      case measure => have := HM.out.2.2; simp; omega
    · obtain rfl : k = s - (n + 1) := by omega
      have g1 : ¬ (m : Int) < (s : Int) := by omega
      have HM := Lib.hid (show m = s by omega)
      clear em hlt hk hss
      go_wp2_with fail
      go_returns
      exact ⟨Av, cv, by rw [HM.out]; rfl, by rw [HP.out]; exact ow.mono hv1.out, HC.out.trans (hc.mono hv1.out)⟩
end Go.Proofs.YthamhpgjjbiplaaDoor
