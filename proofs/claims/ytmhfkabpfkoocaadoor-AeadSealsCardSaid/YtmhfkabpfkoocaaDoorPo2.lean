/-
  The document's prime and Told, and slices of bytes by new names (layer 11). By an AI agent.
-/
import Derived.Test.YtmhfkabpfkoocaaDoorMD
import Derived.Test.YtmhfkabpfkoocaaDoorTS
namespace Go.Proofs.YtmhfkabpfkoocaaDoor
open Go Go.RowKit
set_option maxRecDepth 20000
/-- 2^130 - 5. -/
def P130 : Nat := 1361129467683753853853498429727072845819
theorem p130_dig : ∀ k, k < 17 → by8 P130 k = if k = 0 then 251 else if k < 16 then 255 else 3 := by decide +kernel
theorem p130_lt : P130 < 256 ^ 17 := by decide +kernel
theorem p130_ge : 256 ^ 16 ≤ P130 := by decide +kernel
theorem p130_pos : 0 < P130 := by decide +kernel
set_option maxHeartbeats 800000 in
theorem prime_any11 (w : World) : Calls Tryd.prog 39 #[] w fun e w' => ∃ A c, e = .returned (.slice A 17 c) ∧ DOwn w' w.heap.size A c 17 P130 ∧ Below w.heap.size w w' := by
  obtain ⟨i0, hi, hz0, hz1, hz2⟩ := info_parts infoInt
  have d0 : Value.int .i64 251 = dg8 P130 0 := by unfold dg8; rw [p130_dig 0 (by decide)]; rfl
  have D1 := Lib.hid (fun (k : Nat) (h1 : 1 ≤ k) (h2 : k < 16) => show Value.int .i64 255 = dg8 P130 k by unfold dg8; rw [p130_dig k (by omega), if_neg (by omega), if_pos h2]; rfl)
  have D2 : Hid (Value.int .i64 3 = dg8 P130 16) := Lib.hid (by unfold dg8; rw [p130_dig 16 (by decide)]; rfl)
  have o0 := OwnF.lit (w := w) (B := w.heap.size) 3 (Nat.le_refl _) #[.int .i64 251] 1 (dg8 P130) (by decide) (by rw [d0]; rfl)
  have b0 : Below w.heap.size w (w.alloc (.cells #[.int .i64 251] 3)) := (Below.refl _ w).alloc (Nat.le_refl _) _
  clear d0
  have GN := Lib.hid p130_lt
  have GP := Lib.hid p130_ge
  obtain ⟨p, ep⟩ : ∃ p, p = P130 := ⟨_, rfl⟩
  rw [← ep] at D1 D2 o0 GN GP ⊢
  clear ep
  go_enter Tryd.func39, Tryd.ntmps39
  go_wp2_with fail
  go_loopw [1] (fun v wr => ∃ k : Nat, 1 ≤ k ∧ k ≤ 16 ∧ (∃ A c, v = .slice A k c ∧ OwnF wr w.heap.size 3 A c k (dg8 p)) ∧ Below w.heap.size w wr)
    (fun v _ => 20 - lenOf v)
  case atStart => exact ⟨1, by omega, by omega, ⟨_, _, rfl, o0⟩, b0⟩
  case round =>
    clear o0 b0
    obtain ⟨k, h1, h2, ⟨Av, cv, rfl, ow⟩, hb⟩ := hrel
    by_cases hlt : k < 16
    · have g1 : (k : Int) < 16 := by omega
      go_wp2_with (at_builtin; refine wpList_appF1 _ rfl (.tmp 6) (.tmp 7) _ rfl w.heap.size 3 i0 _ Tryd.underlying53 hi hz0 hz1 hz2 (by decide) rfl rfl ow (D1.out k h1 hlt) rfl rfl (by omega) (by omega) hb.size ?_; intro A' c' w' ho' hb')
      go_roundw
      case rel => exact ⟨k + 1, by omega, by omega, ⟨A', c', rfl, ho'⟩, hb.trans hb'⟩
      case measure => simp [lenOf]; omega
    · obtain rfl : k = 16 := by omega
      go_wp2_with (at_builtin; refine wpList_appF1 _ rfl (.tmp 9) (.tmp 10) _ rfl w.heap.size 3 i0 _ Tryd.underlying53 hi hz0 hz1 hz2 (by decide) rfl rfl ow D2.out rfl rfl (by omega) (by omega) hb.size ?_; intro A' c' w' ho' hb')
      go_ret
      refine ⟨A', c', rfl, ⟨ho', GN.out, fun k hk => ?_⟩, hb.trans hb'⟩
      refine Nat.lt_of_not_le fun h => ?_
      have h3 : 256 ^ k ≤ 256 ^ 16 := Nat.pow_le_pow_right (by decide) h
      have := GP.out
      omega
theorem toldm_any {A : Option Addr} {B c n x m : Nat} (w : World) (h : Dig w B A c n x) (hB : B ≤ w.heap.size) (hm : m ≤ 100000) :
    Calls Tryd.prog 40 #[.slice A n c, .int .i64 (m : Int)] w fun e w' => ∃ A c, e = .returned (.slice A m c) ∧ Own w' w.heap.size 5 A c (gen (bf x) m) ∧ Below w.heap.size w w' := by
  obtain ⟨i0, hi, hz0, hz1, hz2⟩ := info_parts infoByte
  go_enter Tryd.func40, Tryd.ntmps40
  go_wp2_with fail
  go_loopw [5, 6] (fun v i wr => ∃ k : Nat, k ≤ m ∧ i = .int .i64 k ∧ (∃ A c, v = .slice A k c ∧ Own wr w.heap.size 5 A c (gen (bf x) k)) ∧ Below w.heap.size w wr)
    (fun _ i _ => m - (intOf i).toNat)
  case atStart => exact ⟨0, by omega, rfl, ⟨none, 0, rfl, World.ownsRow_nil _ _ _ _⟩, Below.refl _ _⟩
  case round =>
    obtain ⟨k, hk, rfl, ⟨Av, cv, rfl, ow⟩, hb⟩ := hrel
    by_cases hlt : k < m
    · have g1 : (k : Int) < (m : Int) := by omega
      have ha := h.keep (hb.mono hB)
      have e1 : IntKind.u8.wrap (by8 x k : Int) = ((bf x k).toNat : Int) := by have := by8_lt x k; rw [bf_nat, IntKind.wrap_u8]; omega
      have HA := Lib.hid ha
      clear ha
      go_wp2_with (first | (go_at_call 53; refine (at_any _ HA.out k).mono ?_; rintro e w' ⟨rfl, rfl⟩) | (at_builtin; refine wpList_app1 _ rfl (.tmp 12) (.tmp 17) _ rfl w.heap.size 5 i0 _ Tryd.underlying22 hi hz0 hz1 hz2 rfl rfl (gen_length _ _).symm ow rfl (bf x k) rfl (by omega) hb.size ?_; intro A' c' w' ho' hb'))
      refine ⟨⟨k + 1, by omega, by go_num, ⟨A', c', rfl, by rw [gen_succ]; exact ho'⟩, hb.trans hb'⟩, by simp [intOf]; omega⟩
    · have hk' : k = m := by omega
      subst hk'
      go_wp2_with fail
      go_ret
      exact ⟨Av, cv, rfl, ow, hb⟩
theorem told16_any {A : Option Addr} {B c n x : Nat} (w : World) (h : Dig w B A c n x) (hB : B ≤ w.heap.size) :
    Calls Tryd.prog 40 #[.slice A n c, .int .i64 16] w fun e w' => ∃ A c, e = .returned (.slice A 16 c) ∧ Own w' w.heap.size 5 A c (gen (bf x) 16) ∧ Below w.heap.size w w' := toldm_any (m := 16) w h hB (by decide)
/-- A slice of bytes of which nothing is kept but what it reads as: x[l:], x[:h], x[l:h]. -/
theorem arm_lo {ops : Array Oper} {rest : List Oper} {a : Act} {w : World} {Q : Exit → Act → World → Prop} {dst : Option Nat} {tp : TypeId} {ps : String} {af : Array Edge} {x lo : Operand} {A : Option Addr} {n c B : Nat} {bs : List UInt8} (hr : Rd w B A c bs) (l m : Nat) (hn : n = bs.length) (hm : l + m = n) (e1 : a.eval x = .slice A n c) (e2 : a.eval lo = .int .i64 (l : Int))
    (h : ∀ A' c', Rd w B A' c' (bs.drop l) → wpList Tryd.prog ops Q rest (a.put dst (.slice A' m c')) w) : wpList Tryd.prog ops Q (⟨dst, .slice 22 x (some lo) none none, tp, ps, af, none⟩ :: rest) a w := by
  refine slice_arm_lo l (by omega) e1 e2 ?_
  rw [show n - l = m by omega]
  exact h _ _ (hr.drop_ (by omega))
theorem arm_hi {ops : Array Oper} {rest : List Oper} {a : Act} {w : World} {Q : Exit → Act → World → Prop} {dst : Option Nat} {tp : TypeId} {ps : String} {af : Array Edge} {x hi : Operand} {A : Option Addr} {n c B : Nat} {bs : List UInt8} (hr : Rd w B A c bs) (m : Nat) (hm : m ≤ bs.length) (e1 : a.eval x = .slice A n c) (e2 : a.eval hi = .int .i64 (m : Int))
    (h : ∀ A' c', Rd w B A' c' (bs.take m) → wpList Tryd.prog ops Q rest (a.put dst (.slice A' m c')) w) : wpList Tryd.prog ops Q (⟨dst, .slice 22 x none (some hi) none, tp, ps, af, none⟩ :: rest) a w := by
  have hc := hr.cap
  refine slice_arm_hi m (by omega) e1 e2 ?_
  have h2 := hr.sub_ (l := 0) (n := m) (by omega)
  rw [List.drop_zero, Nat.sub_zero] at h2
  exact h _ _ h2
theorem p_slice_op_hi {o : Oper} {a : Act} {w : World} {x hi : Operand} {A : Option Addr} {n c h : Nat} (ho : o.op = .slice 22 x none (some hi) none) (e1 : a.eval x = .slice A n c) (e2 : a.eval hi = .int .i64 (h : Int)) (h1 : h ≤ c) :
    (execOp a.eval o).run Tryd.prog w = .ok (.value (.slice (subA A c 0) h c)) w := by
  unfold execOp
  simp only [ho, e1, e2, Option.map_some, Option.map_none, Instr.sliceAt, Sem.run_bind, run_underlying Tryd.underlying22 w, slice_run_hi w h1, Result.andThen_ok, Sem.run_pure]
theorem slice_arm {ops : Array Oper} {rest : List Oper} {a : Act} {w : World} {Q : Exit → Act → World → Prop} {dst : Option Nat} {tp : TypeId} {ps : String} {af : Array Edge} {x lo hi : Operand} {A : Option Addr} {n c : Nat} (l h : Nat) (h1 : l ≤ h) (h2 : h ≤ c) (e1 : a.eval x = .slice A n c) (e2 : a.eval lo = .int .i64 (l : Int)) (e3 : a.eval hi = .int .i64 (h : Int))
    (hh : wpList Tryd.prog ops Q rest (a.put dst (.slice (subA A c l) (h - l) (c - l))) w) : wpList Tryd.prog ops Q (⟨dst, .slice 22 x (some lo) (some hi) none, tp, ps, af, none⟩ :: rest) a w :=
  wpList_plain rfl fun _ hK => by
    unfold Oper.wp execOp
    simp only [e1, e2, e3, Option.map_some, Option.map_none, Instr.sliceAt, Sem.run_bind, run_underlying Tryd.underlying22 w, slice_run w h1 h2, Result.andThen_ok, Sem.run_pure]
    exact hK _ _ hh
theorem arm_lohi {ops : Array Oper} {rest : List Oper} {a : Act} {w : World} {Q : Exit → Act → World → Prop} {dst : Option Nat} {tp : TypeId} {ps : String} {af : Array Edge} {x lo hi : Operand} {A : Option Addr} {n c B : Nat} {bs : List UInt8} (hr : Rd w B A c bs) (l h : Nat) (bl : List UInt8) (hbl : bl = (bs.drop l).take (h - l)) (hl : l ≤ h) (hh : h ≤ bs.length) (e1 : a.eval x = .slice A n c) (e2 : a.eval lo = .int .i64 (l : Int)) (e3 : a.eval hi = .int .i64 (h : Int))
    (hx : ∀ A' c', Rd w B A' c' bl → wpList Tryd.prog ops Q rest (a.put dst (.slice A' bl.length c')) w) : wpList Tryd.prog ops Q (⟨dst, .slice 22 x (some lo) (some hi) none, tp, ps, af, none⟩ :: rest) a w := by
  have hc := hr.cap
  refine slice_arm l h hl (by omega) e1 e2 e3 ?_
  have h2 := hr.sub_ (l := l) (n := h - l) (by omega)
  rw [← hbl] at h2
  have h3 : bl.length = h - l := by rw [hbl, List.length_take, List.length_drop]; omega
  rw [← h3]
  exact hx _ _ h2
end Go.Proofs.YtmhfkabpfkoocaaDoor
