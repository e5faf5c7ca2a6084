import Derived.Test.YtifcjfeepgfmfaaDoorF16
import Derived.Test.YtifcjfeepgfmfaaDoorRead
namespace Go.Proofs.YtifcjfeepgfmfaaDoor
open Go Go.RowKit
section
variable {P : Program}
/-- append of two values. -/
theorem wpList_appF2 (w0 : World) {ops : Array Oper} {rest : List Oper} {o : Oper} {a : Act} {Q : Exit → Act → World → Prop} (hgd : o.guard = none) (s x : Operand) (t : TypeId)
    (ho : o.op = .call { callee := .builtin .append, args := #[s, x], argTypes := #[t, t] })
    (base : Nat) (e : TypeId) (i : TypeInfo) (z : Value) (ht : P.underlying t = some (.slice e)) (hi : P.info? e = some i) (hz : i.zero = some z)
    (hsize : i.size = 1) {by_ : Nat} (hby : i.bytes = by_) (hby0 : 0 < by_) (hzs : z.cells.size = 1) {As : Option Addr} {cs n : Nat} {f : Nat → Value} (hs : a.eval s = .slice As n cs) (hown : OwnF w0 base e As cs n f)
    {v0 v1 : Value} (hv0 : v0 = f n) (hv1 : v1 = f (n + 1)) (hx : a.eval x = .slice (some ⟨w0.heap.size, 0, none⟩) 2 2) (hone : ∀ k, (f k).oneCell' = true) (hlen : n + 2 ≤ 140737488355328) (hbytes : (n + 2) * by_ ≤ 140737488355328) (hbase : base ≤ w0.heap.size)
    (h : ∀ A' c' w', OwnF w' base e A' c' (n + 2) f → Below base w0 w' → wpList P ops Q rest (a.put o.dst (.slice A' (n + 2) c')) w') : wpList P ops Q (o :: rest) a (w0.alloc (.cells #[v0, v1] e)) := by
  subst hv0 hv1
  refine wpList_plain hgd fun _ hK => ?_
  have hb := (Below.refl w0.heap.size w0).alloc (Nat.le_refl _) (.cells #[f n, f (n + 1)] e)
  have hl := (OwnF.lit (w := w0) e (Nat.le_refl _) #[f n, f (n + 1)] 2 (fun k => f (n + k)) (by simp [maxLen]) rfl).rd
  refine wp_appF _ s x t ho base e i z ht hi hz hsize hby hby0 hzs hs (hown.keep hb) hx hl (fun _ _ => hone _) hlen hbytes (by simp; omega) ?_
  intro A' c' w' h1 h2
  refine hK _ _ (h A' c' w' (h1.congr fun k hk => ?_) ((hb.mono hbase).trans h2))
  by_cases hk' : k < n
  · rw [if_pos hk']
  · rw [if_neg hk']
    congr 1
    omega
end
def slen : Value → Nat
  | .slice _ n _ => n
  | _ => 0
theorem P_dig : by8 P25 0 = 237 ∧ (∀ k, k < 30 → by8 P25 (k + 1) = 255) ∧ by8 P25 31 = 127 := by
  unfold by8
  exact ⟨by decide +kernel, by decide +kernel, by decide +kernel⟩
theorem P_can : Can 32 P25 := can_of (n := 31) (by rw [P_dig.2.2]; decide)
theorem P_lt : P25 < 256 ^ 32 := by decide +kernel
set_option maxRecDepth 20000
theorem rprime_any (w : World) : Calls Tryd.prog 42 #[] w fun e w' => ∃ A c, e = .returned (.slice A 32 c) ∧ DOwn w' w.heap.size A c 32 P25 ∧ Below w.heap.size w w' := by
  obtain ⟨i0, hi, hz0, hz1, hz2⟩ := info_parts infoInt
  have o1 := OwnF.lit (w := w) (B := w.heap.size) 3 (Nat.le_refl _) #[.int .i64 237] 1 (dg8 P25) (by decide) (by unfold dg8; simp [P_dig.1])
  have hc := (Below.refl w.heap.size w).alloc (Nat.le_refl _) (.cells #[.int .i64 237] 3)
  go_enter Tryd.func42, Tryd.ntmps42
  go_wp2_with fail
  go_loopw [1] (fun v wr => ∃ k : Nat, k ≤ 30 ∧ (∃ A c, v = .slice A (k + 1) c ∧ OwnF wr w.heap.size 3 A c (k + 1) (dg8 P25)) ∧ Below w.heap.size w wr)
    (fun v _ => 31 - slen v)
  case atStart => exact ⟨0, by omega, ⟨_, _, rfl, o1⟩, hc⟩
  case round =>
    clear o1 hc
    obtain ⟨k, hk, ⟨A, c, rfl, ow⟩, hb⟩ := hrel
    by_cases hlt : k < 30
    · have g1 : (k : Int) + 1 < 31 := by omega
      have HV : Hid (Value.int .i64 255 = dg8 P25 (k + 1)) := Lib.hid (by unfold dg8; rw [P_dig.2.1 k hlt]; rfl)
      go_wp2_with (at_builtin; refine wpList_appF1 _ rfl (.tmp 6) (.tmp 7) _ rfl w.heap.size 3 i0 _ Tryd.underlying37 hi hz0 hz1 hz2 (by decide) rfl rfl ow HV.out rfl rfl (by omega) (by omega) hb.size ?_; intro A' c' w' ho' hb')
      refine ⟨⟨k + 1, by omega, ⟨A', c', rfl, ho'⟩, hb.trans hb'⟩, by simp [slen]; omega⟩
    · obtain rfl : k = 30 := by omega
      have HV : Hid (Value.int .i64 127 = dg8 P25 31) := Lib.hid (by unfold dg8; rw [P_dig.2.2]; rfl)
      go_wp2_with (at_builtin; refine wpList_appF1 _ rfl (.tmp 9) (.tmp 10) _ rfl w.heap.size 3 i0 _ Tryd.underlying37 hi hz0 hz1 hz2 (by decide) rfl rfl ow HV.out rfl rfl (by omega) (by omega) hb.size ?_; intro A' c' w' ho' hb')
      go_ret
      exact ⟨A', c', rfl, ⟨ho', P_lt, P_can⟩, hb.trans hb'⟩
theorem rPrime_any (w : World) : Calls Tryd.prog 15 #[] w fun e w' => e = .returned (nv P25) ∧ Below w.heap.size w w' := by
  obtain ⟨P, hP⟩ : ∃ P, P = P25 := ⟨_, rfl⟩
  have kp := rprime_any
  rw [← hP] at kp ⊢
  have hPl : P < 256 ^ 32 := by rw [hP]; exact P_lt
  clear hP
  have KP := Lib.hid kp
  clear kp
  unfold nv
  go_enter Tryd.func15, Tryd.ntmps15
  go_wp2_with fail
  go_at_call 42
  refine (KP.out _).mono ?_
  rintro e v1 ⟨A, c, rfl, dp, h0⟩
  obtain ⟨oz, hc⟩ := zres1 h0
  clear h0
  go_wp2_with fail
  go_at_call 43
  refine (of_any _ dp.dig (Nat.le_refl _)).mono ?_
  rintro e v2 ⟨rfl, h0⟩
  replace oz := oz.keep h0
  replace hc := hc.trans (h0.mono hc.size)
  clear h0 dp
  obtain ⟨z0, z1, z2, z3⟩ := oz.c4
  obtain ⟨f0, f1, f2, f3⟩ := oz.f4
  obtain ⟨wz, ez, or, hb, _⟩ := oz.out P
  obtain ⟨r0, r1, r2, r3⟩ := or.c4
  go_wp2_with fail
  rw [← ez]
  refine bodyPost_ret (v := nv P) (by simp [results, Tryd.results15, go_sem, r0, r1, r2, r3]) rfl ⟨rfl, hc.trans hb⟩
end Go.Proofs.YtifcjfeepgfmfaaDoor
