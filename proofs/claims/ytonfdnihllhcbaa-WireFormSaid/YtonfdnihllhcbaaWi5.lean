/-
  The document's reader: Text, Fixed, Flag, End (layer 13). By an AI agent.
-/
import Derived.Test.YtonfdnihllhcbaaWi4
namespace Go.Proofs.Ytonfdnihllhcbaa
open Go Go.RowKit
set_option maxRecDepth 20000
/-- What a reader tells that is asked for a text, for so many bytes, for a flag, for its end. -/
def textR (bs : List UInt8) (e most : Int) : List UInt8 × Int × List UInt8 :=
  if (numR bs e 0 Far).2.1 ≠ 0 then ((numR bs e 0 Far).1, (numR bs e 0 Far).2.1, [])
  else if max most 0 < ((numR bs e 0 Far).2.2 : Int) then (bs, 2, [])
  else if (numR bs e 0 Far).1.length < (numR bs e 0 Far).2.2 then (bs, 3, [])
  else ((numR bs e 0 Far).1.drop (numR bs e 0 Far).2.2, 0, (numR bs e 0 Far).1.take (numR bs e 0 Far).2.2)
def fixR (bs : List UInt8) (e n : Int) : List UInt8 × Int × List UInt8 :=
  if e ≠ 0 ∨ n < 1 then (bs, e, []) else if (bs.length : Int) < n then (bs, 3, []) else (bs.drop n.toNat, 0, bs.take n.toNat)
def flagR (bs : List UInt8) (e : Int) : List UInt8 × Int × Bool := ((numR bs e 0 1).1, (numR bs e 0 1).2.1, (numR bs e 0 1).2.2 == 1)
def endR (bs : List UInt8) (e : Int) : Int := if e = 0 ∧ 0 < bs.length then 4 else e
theorem rend_any (A : Option Addr) (c : Nat) (bs : List UInt8) (e : Int) (w : World) :
    Calls Try.prog 23 #[atV A bs.length c e] w fun x w' => x = .returned (.int .i64 (endR bs e)) ∧ Below w.heap.size w w' := by
  have hb : Below w.heap.size w (w.alloc (.cells (atC A bs.length c e) 34)) := (Below.refl _ _).alloc (Nat.le_refl _) _
  have HB := Lib.hid hb
  clear hb
  by_cases h : e = 0
  · by_cases h2 : 0 < bs.length
    · have HR := Lib.hid (show endR bs e = 4 by unfold endR; rw [if_pos ⟨h, h2⟩])
      have g2 : (0 : Int) < (bs.length : Int) := by omega
      subst h
      clear h2
      go_enter Try.func23, Try.ntmps23
      go_wp2_with fail
      go_ret
      rw [HR.out]
      exact ⟨rfl, HB.out⟩
    · have HR := Lib.hid (show endR bs e = 0 by unfold endR; rw [if_neg (by omega), h])
      have g2 : ¬ (0 : Int) < (bs.length : Int) := by omega
      subst h
      clear h2
      go_enter Try.func23, Try.ntmps23
      go_wp2_with fail
      go_ret
      rw [HR.out]
      exact ⟨rfl, HB.out⟩
  · have HR := Lib.hid (show endR bs e = e by unfold endR; rw [if_neg (fun h2 => h h2.1)])
    have g1 : (e == 0) = false := by simp [h]
    clear h
    go_enter Try.func23, Try.ntmps23
    go_wp2_with fail
    go_ret
    rw [HR.out]
    exact ⟨rfl, HB.out⟩
set_option maxHeartbeats 1600000 in
theorem rflagA_any {A : Option Addr} {B c : Nat} {bs : List UInt8} (e : Int) (w : World) (hr : Rd w B A c bs) (hB : B ≤ w.heap.size) :
    Calls Try.prog 35 #[atV A bs.length c e] w fun x w' => ∃ A' c', x = .returned (.tuple #[atV A' (flagR bs e).1.length c' (flagR bs e).2.1, .bool (flagR bs e).2.2]) ∧ Rd w' B A' c' (flagR bs e).1 ∧ Below w.heap.size w w' := by
  obtain ⟨v1, g, gz, e1, eg, ez, o1, oz, hgz, hc⟩ := at_both w A none bs.length c 0 0 e 0
  have hr1 := hr.keep (hc.mono hB)
  have KN := Lib.hid (rnumA_any e 0 1 v1 hr1 (Nat.le_trans hB hc.size))
  unfold flagR
  generalize numR bs e 0 1 = N at *
  obtain ⟨rs, e2, x⟩ := N
  simp only at KN ⊢
  have k0 := o1.c0
  have k1 := o1.c1
  have HB := Lib.hid hB
  clear hr hr1 hB
  go_enter Try.func35, Try.ntmps35
  go_wp2_with fail
  rw [← e1, ← ez, ← eg]
  clear e1 ez eg k0 k1
  go_at_call 32
  refine KN.out.mono ?_
  rintro z v2 ⟨A2, c2, rfl, r2, h0⟩
  replace oz := oz.keep h0
  replace hc := hc.trans (h0.mono hc.size)
  clear h0 o1 KN
  have hx : ((x : Int) == 1) = (x == 1) := by
    by_cases h : x = 1
    · subst h; rfl
    · rw [beq_eq_false_iff_ne.2 h, beq_eq_false_iff_ne]; omega
  have h3 : Below v2.heap.size v2 (v2.alloc (.cells (atC A2 rs.length c2 e2) 34)) := (Below.refl _ _).alloc (Nat.le_refl _) _
  have o3 := OAt.newz (w := v2) (B := v2.heap.size) (Nat.le_refl _) A2 rs.length c2 e2
  obtain ⟨v3, e3⟩ : ∃ v, v = v2.alloc (.cells (atC A2 rs.length c2 e2) 34) := ⟨_, rfl⟩
  obtain ⟨g3, eg3⟩ : ∃ g, g = v2.heap.size := ⟨_, rfl⟩
  rw [← e3] at h3 o3
  replace oz := oz.keep h3
  replace r2 := r2.keep (h3.mono (Nat.le_trans HB.out hc.size))
  have hc3 := hc.trans (h3.mono hc.size)
  have o3' : OAt v3 v2.heap.size g3 A2 rs.length c2 e2 := by rw [eg3]; exact o3
  have HX := Lib.hid hx
  have HO3 := Lib.hid (And.intro o3' (And.intro oz (And.intro hc3 r2)))
  clear hc h3 o3 o3' oz hc3 r2 hx
  go_upto_region 2 with fail
  rw [← e3, ← eg3]
  clear e3 eg3
  obtain ⟨o3, oz, hc, r2⟩ := HO3.out
  have k0 := o3.c0
  have k1 := o3.c1
  have z0 := oz.c0
  have z1 := oz.c1
  have f0 := oz.f0
  have f1 := oz.f1
  have o2 := oz.set_ A2 rs.length c2 e2
  have hb2 := oz.below A2 rs.length c2 e2
  have HO := Lib.hid (And.intro o2 (And.intro (hc.trans hb2) (r2.keep (hb2.mono HB.out))))
  clear o3 oz hc r2 o2 hb2 HO3
  go_wp2_with fail
  refine bodyPost_ret (at_results2 Try.results35 _ HO.out.1 rfl rfl) rfl ?_
  exact ⟨A2, c2, by rw [← HX.out]; rfl, HO.out.2.2, HO.out.2.1⟩
end Go.Proofs.Ytonfdnihllhcbaa
