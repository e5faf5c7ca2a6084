/-
  Layer 10's code: mix. Written by tools/gen_y8.py. By an AI agent.
-/
import Derived.Test.YtmhfkabpfkoocaaDoorY4
import Derived.Test.YtmhfkabpfkoocaaDoorY7
import Derived.Test.YtmhfkabpfkoocaaDoorAv
namespace Go.Proofs.YtmhfkabpfkoocaaDoor
open Go Go.RowKit
set_option maxRecDepth 20000
theorem ty16s : ATy 43 16 := ⟨⟨_, Tryd.underlying43, rfl⟩, by kernel_rfl⟩
theorem wvf_one (f : Nat → Nat) (k : Nat) : (wvf f k).oneCell' = true := rfl
/-- A state in a box. -/
abbrev OSt (w : World) (B g : Nat) (f : Nat → Nat) : Prop := OwnF w B 43 (some ⟨g, 0, none⟩) 16 16 (wvf f)
theorem OSt.ups {w : World} {B g : Nat} {f : Nat → Nat} (h : OSt w B g f) (k x : Nat) : OSt (w.setCell ⟨g, k, none⟩ (.int .u32 (x : Int))) B g (up1 f k x) :=
  OwnF.congr (OwnF.set_ h k (.int .u32 (x : Int))) fun j _ => by
    unfold wvf up1
    by_cases e : j = k
    · rw [if_pos e, if_pos e]
    · rw [if_neg e, if_neg e]
abbrev ZC16 : Array Value := #[.int .u32 0, .int .u32 0, .int .u32 0, .int .u32 0, .int .u32 0, .int .u32 0, .int .u32 0, .int .u32 0, .int .u32 0, .int .u32 0, .int .u32 0, .int .u32 0, .int .u32 0, .int .u32 0, .int .u32 0, .int .u32 0]

theorem rndK_zero (f : Nat → Nat) : rndK f 0 = f := rfl
theorem q4of_0 (f : Nat → Nat) : q4of f 0 = ⟨f 0, f 4, f 8, f 12⟩ := rfl
theorem qrK_0 (f : Nat → Nat) : qrK f 0 4 = up1 (up1 (up1 (up1 f 0 (q4of f 0).quarter.a) 4 (q4of f 0).quarter.b) 8 (q4of f 0).quarter.c) 12 (q4of f 0).quarter.d := rfl
theorem q4of_1 (f : Nat → Nat) : q4of f 1 = ⟨f 1, f 5, f 9, f 13⟩ := rfl
theorem qrK_1 (f : Nat → Nat) : qrK f 1 4 = up1 (up1 (up1 (up1 f 1 (q4of f 1).quarter.a) 5 (q4of f 1).quarter.b) 9 (q4of f 1).quarter.c) 13 (q4of f 1).quarter.d := rfl
theorem q4of_2 (f : Nat → Nat) : q4of f 2 = ⟨f 2, f 6, f 10, f 14⟩ := rfl
theorem qrK_2 (f : Nat → Nat) : qrK f 2 4 = up1 (up1 (up1 (up1 f 2 (q4of f 2).quarter.a) 6 (q4of f 2).quarter.b) 10 (q4of f 2).quarter.c) 14 (q4of f 2).quarter.d := rfl
theorem q4of_3 (f : Nat → Nat) : q4of f 3 = ⟨f 3, f 7, f 11, f 15⟩ := rfl
theorem qrK_3 (f : Nat → Nat) : qrK f 3 4 = up1 (up1 (up1 (up1 f 3 (q4of f 3).quarter.a) 7 (q4of f 3).quarter.b) 11 (q4of f 3).quarter.c) 15 (q4of f 3).quarter.d := rfl
theorem q4of_4 (f : Nat → Nat) : q4of f 4 = ⟨f 0, f 5, f 10, f 15⟩ := rfl
theorem qrK_4 (f : Nat → Nat) : qrK f 4 4 = up1 (up1 (up1 (up1 f 0 (q4of f 4).quarter.a) 5 (q4of f 4).quarter.b) 10 (q4of f 4).quarter.c) 15 (q4of f 4).quarter.d := rfl
theorem q4of_5 (f : Nat → Nat) : q4of f 5 = ⟨f 1, f 6, f 11, f 12⟩ := rfl
theorem qrK_5 (f : Nat → Nat) : qrK f 5 4 = up1 (up1 (up1 (up1 f 1 (q4of f 5).quarter.a) 6 (q4of f 5).quarter.b) 11 (q4of f 5).quarter.c) 12 (q4of f 5).quarter.d := rfl
theorem q4of_6 (f : Nat → Nat) : q4of f 6 = ⟨f 2, f 7, f 8, f 13⟩ := rfl
theorem qrK_6 (f : Nat → Nat) : qrK f 6 4 = up1 (up1 (up1 (up1 f 2 (q4of f 6).quarter.a) 7 (q4of f 6).quarter.b) 8 (q4of f 6).quarter.c) 13 (q4of f 6).quarter.d := rfl
theorem q4of_7 (f : Nat → Nat) : q4of f 7 = ⟨f 3, f 4, f 9, f 14⟩ := rfl
theorem qrK_7 (f : Nat → Nat) : qrK f 7 4 = up1 (up1 (up1 (up1 f 3 (q4of f 7).quarter.a) 4 (q4of f 7).quarter.b) 9 (q4of f 7).quarter.c) 14 (q4of f 7).quarter.d := rfl
section
attribute [local irreducible] wle stN rndK qrK ad32 dvd8 lfN xl32 rl setA Q4.quarter up1
set_option maxHeartbeats 6400000 in
theorem mix_any {f : Nat → Nat} (hf : ∀ k, f k < 4294967296) (w : World) : Calls Tryd.prog 42 #[av 16 (wvf f)] w fun e w' => e = .returned (av 16 (wvf (rndK f 10))) ∧ Below w.heap.size w w' := by
  have oa := OwnF.lit (w := w) (B := w.heap.size) 43 (Nat.le_refl _) (rl 16 (wvf f)).toArray 16 (wvf f) (by decide) (by unfold rl; simp)
  have hc := (Below.refl w.heap.size w).alloc (Nat.le_refl _) (.cells (rl 16 (wvf f)).toArray 43)
  generalize he1 : (w.alloc (.cells (rl 16 (wvf f)).toArray 43)) = v1 at oa hc
  have hs1 : v1.heap.size = w.heap.size + 1 := by rw [← he1]; simp
  have oz := OwnF.lit (w := v1) (B := w.heap.size) 43 hc.size ZC16 16 (fun _ => .int .u32 0) (by decide) (by kernel_rfl)
  have h2 := (Below.refl v1.heap.size v1).alloc (Nat.le_refl _) (.cells ZC16 43)
  replace hc := hc.trans (h2.mono hc.size)
  replace oa := OwnF.keep oa h2
  generalize he2 : (v1.alloc (.cells ZC16 43)) = v2 at oa oz hc h2
  clear h2
  obtain ⟨gA, hgA⟩ : ∃ g, g = w.heap.size := ⟨_, rfl⟩
  obtain ⟨gR, hgR⟩ : ∃ g, g = w.heap.size + 1 := ⟨_, rfl⟩
  replace oa : OSt v2 w.heap.size gA f := by rw [hgA]; exact oa
  rw [hs1, ← hgR] at oz
  have hne := Lib.hid (show gA ≠ gR by omega)
  have hgB := Lib.hid (show w.heap.size ≤ gA by omega)
  have E1 := Lib.hid he1
  have E2 := Lib.hid he2
  have HGA := Lib.hid hgA
  have HGR := Lib.hid hgR
  have HLT := Lib.hid (fun n => rndK_lt hf n)
  clear he1 he2 hgA hgR hs1 hf
  go_enter Tryd.func42, Tryd.ntmps42
  go_wp2_with fail
  rw [E1.out, E2.out]
  rw [show (Value.pointer (some ⟨w.heap.size, 0, none⟩)) = .pointer (some ⟨gA, 0, none⟩) by rw [HGA.out], show (Value.pointer (some ⟨w.heap.size + 1, 0, none⟩)) = .pointer (some ⟨gR, 0, none⟩) by rw [HGR.out]]
  clear E1 E2 HGA HGR
  go_loopw [3] (fun i wr => ∃ n : Nat, n ≤ 10 ∧ i = .int .i64 (n : Int) ∧ OSt wr w.heap.size gA (rndK f n) ∧ OwnF wr w.heap.size 43 (some ⟨gR, 0, none⟩) 16 16 (fun _ => .int .u32 0) ∧ Below w.heap.size w wr)
    (fun i _ => 10 - (intOf i).toNat)
  case atStart => exact ⟨0, by omega, rfl, by rw [rndK_zero]; exact oa, oz, hc⟩
  case round =>
    clear oa oz hc
    obtain ⟨n, hn, rfl, oa, oz, hc⟩ := hrel
    by_cases hlt : n < 10
    · have g1 : (n : Int) < 10 := by omega
      have hl0 := HLT.out n
      have HN := Lib.hid (rndK_succ f n)
      obtain ⟨r0, er⟩ : ∃ r, r = rndK f n := ⟨_, rfl⟩
      rw [← er] at oa hl0 HN
      clear er
      have h0 := rowK_zero r0
      obtain ⟨s0, es0⟩ : ∃ s, s = rowK r0 0 := ⟨_, rfl⟩
      rw [h0] at es0
      replace oa : OSt wr w.heap.size gA s0 := by rw [es0]; exact oa
      have HS0 := Lib.hid (show s0 = rowK r0 0 by rw [h0, es0])
      have HL0 := Lib.hid (show ∀ k, s0 k < 4294967296 by rw [es0]; exact hl0)
      clear h0 es0 hl0

      obtain ⟨x0, ex0⟩ : ∃ x, x = s0 0 := ⟨_, rfl⟩
      obtain ⟨x1, ex1⟩ : ∃ x, x = s0 4 := ⟨_, rfl⟩
      obtain ⟨x2, ex2⟩ : ∃ x, x = s0 8 := ⟨_, rfl⟩
      obtain ⟨x3, ex3⟩ : ∃ x, x = s0 12 := ⟨_, rfl⟩
      have c0 : wr.cell? ⟨gA, 0, none⟩ = some (.int .u32 (x0 : Int)) := by rw [ex0]; exact OwnF.cell oa (k := 0) (by decide)
      have c1 : wr.cell? ⟨gA, 4, none⟩ = some (.int .u32 (x1 : Int)) := by rw [ex1]; exact OwnF.cell oa (k := 4) (by decide)
      have c2 : wr.cell? ⟨gA, 8, none⟩ = some (.int .u32 (x2 : Int)) := by rw [ex2]; exact OwnF.cell oa (k := 8) (by decide)
      have c3 : wr.cell? ⟨gA, 12, none⟩ = some (.int .u32 (x3 : Int)) := by rw [ex3]; exact OwnF.cell oa (k := 12) (by decide)
      have f0 := OwnF.free oa 0
      have f1 := OwnF.free oa 4
      have f2 := OwnF.free oa 8
      have f3 := OwnF.free oa 12
      have K := Lib.hid (fun v => cquarter_any (q4of_ok HL0.out 0) v)
      rw [q4of_0, ← ex0, ← ex1, ← ex2, ← ex3] at K
      obtain ⟨q, eq⟩ : ∃ q, q = (q4of s0 0).quarter := ⟨_, rfl⟩
      have hq := eq
      rw [q4of_0, ← ex0, ← ex1, ← ex2, ← ex3] at hq
      rw [← hq] at K
      have HL1 := Lib.hid (qrK_lt HL0.out 0 4)
      obtain ⟨s1, es⟩ : ∃ s, s = qrK s0 0 4 := ⟨_, rfl⟩
      rw [← es] at HL1
      have HS1 := Lib.hid (show s1 = rowK r0 1 by rw [es, HS0.out, rowK_succ])
      have ep := qrK_0 s0
      rw [← eq, ← es] at ep
      have oa2 := (((oa.ups 0 q.a).ups 4 q.b).ups 8 q.c).ups 12 q.d
      rw [← ep] at oa2
      have on := ((((Only.refl gA wr).trans (Only.setCell wr ⟨gA, 0, none⟩ (.int .u32 (q.a : Int)))).trans (Only.setCell _ ⟨gA, 4, none⟩ (.int .u32 (q.b : Int)))).trans (Only.setCell _ ⟨gA, 8, none⟩ (.int .u32 (q.c : Int)))).trans (Only.setCell _ ⟨gA, 12, none⟩ (.int .u32 (q.d : Int)))
      have HO := Lib.hid (And.intro oa2 on)
      obtain ⟨a, b, c, d⟩ := q
      clear ex0 ex1 ex2 ex3 eq es hq ep oa2 on HS0 HL0
      go_wp2_with fail
      go_at_call 56
      refine (K.out _).mono ?_
      rintro e v ⟨rfl, e7⟩
      rw [e7]
      clear e7 v
      unfold q4t
      go_upto_region 4 with fail
      obtain ⟨oa2, on⟩ := HO.out
      clear HO K c0 c1 c2 c3 f0 f1 f2 f3 oa
      try dsimp only at oa2 on
      obtain ⟨y1, ev⟩ : ∃ v, v = (((wr.setCell ⟨gA, 0, none⟩ (.int .u32 (a : Int))).setCell ⟨gA, 4, none⟩ (.int .u32 (b : Int))).setCell ⟨gA, 8, none⟩ (.int .u32 (c : Int))).setCell ⟨gA, 12, none⟩ (.int .u32 (d : Int)) := ⟨_, rfl⟩
      rw [← ev] at oa2 on ⊢
      clear ev
      have oa := oa2
      replace oz := OwnF.only oz on hne.out
      replace hc := hc.trans (on.below hgB.out)
      clear oa2 on
      obtain ⟨x0, ex0⟩ : ∃ x, x = s1 1 := ⟨_, rfl⟩
      obtain ⟨x1, ex1⟩ : ∃ x, x = s1 5 := ⟨_, rfl⟩
      obtain ⟨x2, ex2⟩ : ∃ x, x = s1 9 := ⟨_, rfl⟩
      obtain ⟨x3, ex3⟩ : ∃ x, x = s1 13 := ⟨_, rfl⟩
      have c0 : y1.cell? ⟨gA, 1, none⟩ = some (.int .u32 (x0 : Int)) := by rw [ex0]; exact OwnF.cell oa (k := 1) (by decide)
      have c1 : y1.cell? ⟨gA, 5, none⟩ = some (.int .u32 (x1 : Int)) := by rw [ex1]; exact OwnF.cell oa (k := 5) (by decide)
      have c2 : y1.cell? ⟨gA, 9, none⟩ = some (.int .u32 (x2 : Int)) := by rw [ex2]; exact OwnF.cell oa (k := 9) (by decide)
      have c3 : y1.cell? ⟨gA, 13, none⟩ = some (.int .u32 (x3 : Int)) := by rw [ex3]; exact OwnF.cell oa (k := 13) (by decide)
      have f0 := OwnF.free oa 1
      have f1 := OwnF.free oa 5
      have f2 := OwnF.free oa 9
      have f3 := OwnF.free oa 13
      have K := Lib.hid (fun v => cquarter_any (q4of_ok HL1.out 1) v)
      rw [q4of_1, ← ex0, ← ex1, ← ex2, ← ex3] at K
      obtain ⟨q, eq⟩ : ∃ q, q = (q4of s1 1).quarter := ⟨_, rfl⟩
      have hq := eq
      rw [q4of_1, ← ex0, ← ex1, ← ex2, ← ex3] at hq
      rw [← hq] at K
      have HL2 := Lib.hid (qrK_lt HL1.out 1 4)
      obtain ⟨s2, es⟩ : ∃ s, s = qrK s1 1 4 := ⟨_, rfl⟩
      rw [← es] at HL2
      have HS2 := Lib.hid (show s2 = rowK r0 2 by rw [es, HS1.out, rowK_succ])
      have ep := qrK_1 s1
      rw [← eq, ← es] at ep
      have oa2 := (((oa.ups 1 q.a).ups 5 q.b).ups 9 q.c).ups 13 q.d
      rw [← ep] at oa2
      have on := ((((Only.refl gA y1).trans (Only.setCell y1 ⟨gA, 1, none⟩ (.int .u32 (q.a : Int)))).trans (Only.setCell _ ⟨gA, 5, none⟩ (.int .u32 (q.b : Int)))).trans (Only.setCell _ ⟨gA, 9, none⟩ (.int .u32 (q.c : Int)))).trans (Only.setCell _ ⟨gA, 13, none⟩ (.int .u32 (q.d : Int)))
      have HO := Lib.hid (And.intro oa2 on)
      obtain ⟨a, b, c, d⟩ := q
      clear ex0 ex1 ex2 ex3 eq es hq ep oa2 on HS1 HL1
      go_wp2_with fail
      go_at_call 56
      refine (K.out _).mono ?_
      rintro e v ⟨rfl, e7⟩
      rw [e7]
      clear e7 v
      unfold q4t
      go_upto_region 5 with fail
      obtain ⟨oa2, on⟩ := HO.out
      clear HO K c0 c1 c2 c3 f0 f1 f2 f3 oa
      try dsimp only at oa2 on
      obtain ⟨y2, ev⟩ : ∃ v, v = (((y1.setCell ⟨gA, 1, none⟩ (.int .u32 (a : Int))).setCell ⟨gA, 5, none⟩ (.int .u32 (b : Int))).setCell ⟨gA, 9, none⟩ (.int .u32 (c : Int))).setCell ⟨gA, 13, none⟩ (.int .u32 (d : Int)) := ⟨_, rfl⟩
      rw [← ev] at oa2 on ⊢
      clear ev
      have oa := oa2
      replace oz := OwnF.only oz on hne.out
      replace hc := hc.trans (on.below hgB.out)
      clear oa2 on
      obtain ⟨x0, ex0⟩ : ∃ x, x = s2 2 := ⟨_, rfl⟩
      obtain ⟨x1, ex1⟩ : ∃ x, x = s2 6 := ⟨_, rfl⟩
      obtain ⟨x2, ex2⟩ : ∃ x, x = s2 10 := ⟨_, rfl⟩
      obtain ⟨x3, ex3⟩ : ∃ x, x = s2 14 := ⟨_, rfl⟩
      have c0 : y2.cell? ⟨gA, 2, none⟩ = some (.int .u32 (x0 : Int)) := by rw [ex0]; exact OwnF.cell oa (k := 2) (by decide)
      have c1 : y2.cell? ⟨gA, 6, none⟩ = some (.int .u32 (x1 : Int)) := by rw [ex1]; exact OwnF.cell oa (k := 6) (by decide)
      have c2 : y2.cell? ⟨gA, 10, none⟩ = some (.int .u32 (x2 : Int)) := by rw [ex2]; exact OwnF.cell oa (k := 10) (by decide)
      have c3 : y2.cell? ⟨gA, 14, none⟩ = some (.int .u32 (x3 : Int)) := by rw [ex3]; exact OwnF.cell oa (k := 14) (by decide)
      have f0 := OwnF.free oa 2
      have f1 := OwnF.free oa 6
      have f2 := OwnF.free oa 10
      have f3 := OwnF.free oa 14
      have K := Lib.hid (fun v => cquarter_any (q4of_ok HL2.out 2) v)
      rw [q4of_2, ← ex0, ← ex1, ← ex2, ← ex3] at K
      obtain ⟨q, eq⟩ : ∃ q, q = (q4of s2 2).quarter := ⟨_, rfl⟩
      have hq := eq
      rw [q4of_2, ← ex0, ← ex1, ← ex2, ← ex3] at hq
      rw [← hq] at K
      have HL3 := Lib.hid (qrK_lt HL2.out 2 4)
      obtain ⟨s3, es⟩ : ∃ s, s = qrK s2 2 4 := ⟨_, rfl⟩
      rw [← es] at HL3
      have HS3 := Lib.hid (show s3 = rowK r0 3 by rw [es, HS2.out, rowK_succ])
      have ep := qrK_2 s2
      rw [← eq, ← es] at ep
      have oa2 := (((oa.ups 2 q.a).ups 6 q.b).ups 10 q.c).ups 14 q.d
      rw [← ep] at oa2
      have on := ((((Only.refl gA y2).trans (Only.setCell y2 ⟨gA, 2, none⟩ (.int .u32 (q.a : Int)))).trans (Only.setCell _ ⟨gA, 6, none⟩ (.int .u32 (q.b : Int)))).trans (Only.setCell _ ⟨gA, 10, none⟩ (.int .u32 (q.c : Int)))).trans (Only.setCell _ ⟨gA, 14, none⟩ (.int .u32 (q.d : Int)))
      have HO := Lib.hid (And.intro oa2 on)
      obtain ⟨a, b, c, d⟩ := q
      clear ex0 ex1 ex2 ex3 eq es hq ep oa2 on HS2 HL2
      go_wp2_with fail
      go_at_call 56
      refine (K.out _).mono ?_
      rintro e v ⟨rfl, e7⟩
      rw [e7]
      clear e7 v
      unfold q4t
      go_upto_region 6 with fail
      obtain ⟨oa2, on⟩ := HO.out
      clear HO K c0 c1 c2 c3 f0 f1 f2 f3 oa
      try dsimp only at oa2 on
      obtain ⟨y3, ev⟩ : ∃ v, v = (((y2.setCell ⟨gA, 2, none⟩ (.int .u32 (a : Int))).setCell ⟨gA, 6, none⟩ (.int .u32 (b : Int))).setCell ⟨gA, 10, none⟩ (.int .u32 (c : Int))).setCell ⟨gA, 14, none⟩ (.int .u32 (d : Int)) := ⟨_, rfl⟩
      rw [← ev] at oa2 on ⊢
      clear ev
      have oa := oa2
      replace oz := OwnF.only oz on hne.out
      replace hc := hc.trans (on.below hgB.out)
      clear oa2 on
      obtain ⟨x0, ex0⟩ : ∃ x, x = s3 3 := ⟨_, rfl⟩
      obtain ⟨x1, ex1⟩ : ∃ x, x = s3 7 := ⟨_, rfl⟩
      obtain ⟨x2, ex2⟩ : ∃ x, x = s3 11 := ⟨_, rfl⟩
      obtain ⟨x3, ex3⟩ : ∃ x, x = s3 15 := ⟨_, rfl⟩
      have c0 : y3.cell? ⟨gA, 3, none⟩ = some (.int .u32 (x0 : Int)) := by rw [ex0]; exact OwnF.cell oa (k := 3) (by decide)
      have c1 : y3.cell? ⟨gA, 7, none⟩ = some (.int .u32 (x1 : Int)) := by rw [ex1]; exact OwnF.cell oa (k := 7) (by decide)
      have c2 : y3.cell? ⟨gA, 11, none⟩ = some (.int .u32 (x2 : Int)) := by rw [ex2]; exact OwnF.cell oa (k := 11) (by decide)
      have c3 : y3.cell? ⟨gA, 15, none⟩ = some (.int .u32 (x3 : Int)) := by rw [ex3]; exact OwnF.cell oa (k := 15) (by decide)
      have f0 := OwnF.free oa 3
      have f1 := OwnF.free oa 7
      have f2 := OwnF.free oa 11
      have f3 := OwnF.free oa 15
      have K := Lib.hid (fun v => cquarter_any (q4of_ok HL3.out 3) v)
      rw [q4of_3, ← ex0, ← ex1, ← ex2, ← ex3] at K
      obtain ⟨q, eq⟩ : ∃ q, q = (q4of s3 3).quarter := ⟨_, rfl⟩
      have hq := eq
      rw [q4of_3, ← ex0, ← ex1, ← ex2, ← ex3] at hq
      rw [← hq] at K
      have HL4 := Lib.hid (qrK_lt HL3.out 3 4)
      obtain ⟨s4, es⟩ : ∃ s, s = qrK s3 3 4 := ⟨_, rfl⟩
      rw [← es] at HL4
      have HS4 := Lib.hid (show s4 = rowK r0 4 by rw [es, HS3.out, rowK_succ])
      have ep := qrK_3 s3
      rw [← eq, ← es] at ep
      have oa2 := (((oa.ups 3 q.a).ups 7 q.b).ups 11 q.c).ups 15 q.d
      rw [← ep] at oa2
      have on := ((((Only.refl gA y3).trans (Only.setCell y3 ⟨gA, 3, none⟩ (.int .u32 (q.a : Int)))).trans (Only.setCell _ ⟨gA, 7, none⟩ (.int .u32 (q.b : Int)))).trans (Only.setCell _ ⟨gA, 11, none⟩ (.int .u32 (q.c : Int)))).trans (Only.setCell _ ⟨gA, 15, none⟩ (.int .u32 (q.d : Int)))
      have HO := Lib.hid (And.intro oa2 on)
      obtain ⟨a, b, c, d⟩ := q
      clear ex0 ex1 ex2 ex3 eq es hq ep oa2 on HS3 HL3
      go_wp2_with fail
      go_at_call 56
      refine (K.out _).mono ?_
      rintro e v ⟨rfl, e7⟩
      rw [e7]
      clear e7 v
      unfold q4t
      go_upto_region 7 with fail
      obtain ⟨oa2, on⟩ := HO.out
      clear HO K c0 c1 c2 c3 f0 f1 f2 f3 oa
      try dsimp only at oa2 on
      obtain ⟨y4, ev⟩ : ∃ v, v = (((y3.setCell ⟨gA, 3, none⟩ (.int .u32 (a : Int))).setCell ⟨gA, 7, none⟩ (.int .u32 (b : Int))).setCell ⟨gA, 11, none⟩ (.int .u32 (c : Int))).setCell ⟨gA, 15, none⟩ (.int .u32 (d : Int)) := ⟨_, rfl⟩
      rw [← ev] at oa2 on ⊢
      clear ev
      have oa := oa2
      replace oz := OwnF.only oz on hne.out
      replace hc := hc.trans (on.below hgB.out)
      clear oa2 on
      obtain ⟨x0, ex0⟩ : ∃ x, x = s4 0 := ⟨_, rfl⟩
      obtain ⟨x1, ex1⟩ : ∃ x, x = s4 5 := ⟨_, rfl⟩
      obtain ⟨x2, ex2⟩ : ∃ x, x = s4 10 := ⟨_, rfl⟩
      obtain ⟨x3, ex3⟩ : ∃ x, x = s4 15 := ⟨_, rfl⟩
      have c0 : y4.cell? ⟨gA, 0, none⟩ = some (.int .u32 (x0 : Int)) := by rw [ex0]; exact OwnF.cell oa (k := 0) (by decide)
      have c1 : y4.cell? ⟨gA, 5, none⟩ = some (.int .u32 (x1 : Int)) := by rw [ex1]; exact OwnF.cell oa (k := 5) (by decide)
      have c2 : y4.cell? ⟨gA, 10, none⟩ = some (.int .u32 (x2 : Int)) := by rw [ex2]; exact OwnF.cell oa (k := 10) (by decide)
      have c3 : y4.cell? ⟨gA, 15, none⟩ = some (.int .u32 (x3 : Int)) := by rw [ex3]; exact OwnF.cell oa (k := 15) (by decide)
      have f0 := OwnF.free oa 0
      have f1 := OwnF.free oa 5
      have f2 := OwnF.free oa 10
      have f3 := OwnF.free oa 15
      have K := Lib.hid (fun v => cquarter_any (q4of_ok HL4.out 4) v)
      rw [q4of_4, ← ex0, ← ex1, ← ex2, ← ex3] at K
      obtain ⟨q, eq⟩ : ∃ q, q = (q4of s4 4).quarter := ⟨_, rfl⟩
      have hq := eq
      rw [q4of_4, ← ex0, ← ex1, ← ex2, ← ex3] at hq
      rw [← hq] at K
      have HL5 := Lib.hid (qrK_lt HL4.out 4 4)
      obtain ⟨s5, es⟩ : ∃ s, s = qrK s4 4 4 := ⟨_, rfl⟩
      rw [← es] at HL5
      have HS5 := Lib.hid (show s5 = rowK r0 5 by rw [es, HS4.out, rowK_succ])
      have ep := qrK_4 s4
      rw [← eq, ← es] at ep
      have oa2 := (((oa.ups 0 q.a).ups 5 q.b).ups 10 q.c).ups 15 q.d
      rw [← ep] at oa2
      have on := ((((Only.refl gA y4).trans (Only.setCell y4 ⟨gA, 0, none⟩ (.int .u32 (q.a : Int)))).trans (Only.setCell _ ⟨gA, 5, none⟩ (.int .u32 (q.b : Int)))).trans (Only.setCell _ ⟨gA, 10, none⟩ (.int .u32 (q.c : Int)))).trans (Only.setCell _ ⟨gA, 15, none⟩ (.int .u32 (q.d : Int)))
      have HO := Lib.hid (And.intro oa2 on)
      obtain ⟨a, b, c, d⟩ := q
      clear ex0 ex1 ex2 ex3 eq es hq ep oa2 on HS4 HL4
      go_wp2_with fail
      go_at_call 56
      refine (K.out _).mono ?_
      rintro e v ⟨rfl, e7⟩
      rw [e7]
      clear e7 v
      unfold q4t
      go_upto_region 8 with fail
      obtain ⟨oa2, on⟩ := HO.out
      clear HO K c0 c1 c2 c3 f0 f1 f2 f3 oa
      try dsimp only at oa2 on
      obtain ⟨y5, ev⟩ : ∃ v, v = (((y4.setCell ⟨gA, 0, none⟩ (.int .u32 (a : Int))).setCell ⟨gA, 5, none⟩ (.int .u32 (b : Int))).setCell ⟨gA, 10, none⟩ (.int .u32 (c : Int))).setCell ⟨gA, 15, none⟩ (.int .u32 (d : Int)) := ⟨_, rfl⟩
      rw [← ev] at oa2 on ⊢
      clear ev
      have oa := oa2
      replace oz := OwnF.only oz on hne.out
      replace hc := hc.trans (on.below hgB.out)
      clear oa2 on
      obtain ⟨x0, ex0⟩ : ∃ x, x = s5 1 := ⟨_, rfl⟩
      obtain ⟨x1, ex1⟩ : ∃ x, x = s5 6 := ⟨_, rfl⟩
      obtain ⟨x2, ex2⟩ : ∃ x, x = s5 11 := ⟨_, rfl⟩
      obtain ⟨x3, ex3⟩ : ∃ x, x = s5 12 := ⟨_, rfl⟩
      have c0 : y5.cell? ⟨gA, 1, none⟩ = some (.int .u32 (x0 : Int)) := by rw [ex0]; exact OwnF.cell oa (k := 1) (by decide)
      have c1 : y5.cell? ⟨gA, 6, none⟩ = some (.int .u32 (x1 : Int)) := by rw [ex1]; exact OwnF.cell oa (k := 6) (by decide)
      have c2 : y5.cell? ⟨gA, 11, none⟩ = some (.int .u32 (x2 : Int)) := by rw [ex2]; exact OwnF.cell oa (k := 11) (by decide)
      have c3 : y5.cell? ⟨gA, 12, none⟩ = some (.int .u32 (x3 : Int)) := by rw [ex3]; exact OwnF.cell oa (k := 12) (by decide)
      have f0 := OwnF.free oa 1
      have f1 := OwnF.free oa 6
      have f2 := OwnF.free oa 11
      have f3 := OwnF.free oa 12
      have K := Lib.hid (fun v => cquarter_any (q4of_ok HL5.out 5) v)
      rw [q4of_5, ← ex0, ← ex1, ← ex2, ← ex3] at K
      obtain ⟨q, eq⟩ : ∃ q, q = (q4of s5 5).quarter := ⟨_, rfl⟩
      have hq := eq
      rw [q4of_5, ← ex0, ← ex1, ← ex2, ← ex3] at hq
      rw [← hq] at K
      have HL6 := Lib.hid (qrK_lt HL5.out 5 4)
      obtain ⟨s6, es⟩ : ∃ s, s = qrK s5 5 4 := ⟨_, rfl⟩
      rw [← es] at HL6
      have HS6 := Lib.hid (show s6 = rowK r0 6 by rw [es, HS5.out, rowK_succ])
      have ep := qrK_5 s5
      rw [← eq, ← es] at ep
      have oa2 := (((oa.ups 1 q.a).ups 6 q.b).ups 11 q.c).ups 12 q.d
      rw [← ep] at oa2
      have on := ((((Only.refl gA y5).trans (Only.setCell y5 ⟨gA, 1, none⟩ (.int .u32 (q.a : Int)))).trans (Only.setCell _ ⟨gA, 6, none⟩ (.int .u32 (q.b : Int)))).trans (Only.setCell _ ⟨gA, 11, none⟩ (.int .u32 (q.c : Int)))).trans (Only.setCell _ ⟨gA, 12, none⟩ (.int .u32 (q.d : Int)))
      have HO := Lib.hid (And.intro oa2 on)
      obtain ⟨a, b, c, d⟩ := q
      clear ex0 ex1 ex2 ex3 eq es hq ep oa2 on HS5 HL5
      go_wp2_with fail
      go_at_call 56
      refine (K.out _).mono ?_
      rintro e v ⟨rfl, e7⟩
      rw [e7]
      clear e7 v
      unfold q4t
      go_upto_region 9 with fail
      obtain ⟨oa2, on⟩ := HO.out
      clear HO K c0 c1 c2 c3 f0 f1 f2 f3 oa
      try dsimp only at oa2 on
      obtain ⟨y6, ev⟩ : ∃ v, v = (((y5.setCell ⟨gA, 1, none⟩ (.int .u32 (a : Int))).setCell ⟨gA, 6, none⟩ (.int .u32 (b : Int))).setCell ⟨gA, 11, none⟩ (.int .u32 (c : Int))).setCell ⟨gA, 12, none⟩ (.int .u32 (d : Int)) := ⟨_, rfl⟩
      rw [← ev] at oa2 on ⊢
      clear ev
      have oa := oa2
      replace oz := OwnF.only oz on hne.out
      replace hc := hc.trans (on.below hgB.out)
      clear oa2 on
      obtain ⟨x0, ex0⟩ : ∃ x, x = s6 2 := ⟨_, rfl⟩
      obtain ⟨x1, ex1⟩ : ∃ x, x = s6 7 := ⟨_, rfl⟩
      obtain ⟨x2, ex2⟩ : ∃ x, x = s6 8 := ⟨_, rfl⟩
      obtain ⟨x3, ex3⟩ : ∃ x, x = s6 13 := ⟨_, rfl⟩
      have c0 : y6.cell? ⟨gA, 2, none⟩ = some (.int .u32 (x0 : Int)) := by rw [ex0]; exact OwnF.cell oa (k := 2) (by decide)
      have c1 : y6.cell? ⟨gA, 7, none⟩ = some (.int .u32 (x1 : Int)) := by rw [ex1]; exact OwnF.cell oa (k := 7) (by decide)
      have c2 : y6.cell? ⟨gA, 8, none⟩ = some (.int .u32 (x2 : Int)) := by rw [ex2]; exact OwnF.cell oa (k := 8) (by decide)
      have c3 : y6.cell? ⟨gA, 13, none⟩ = some (.int .u32 (x3 : Int)) := by rw [ex3]; exact OwnF.cell oa (k := 13) (by decide)
      have f0 := OwnF.free oa 2
      have f1 := OwnF.free oa 7
      have f2 := OwnF.free oa 8
      have f3 := OwnF.free oa 13
      have K := Lib.hid (fun v => cquarter_any (q4of_ok HL6.out 6) v)
      rw [q4of_6, ← ex0, ← ex1, ← ex2, ← ex3] at K
      obtain ⟨q, eq⟩ : ∃ q, q = (q4of s6 6).quarter := ⟨_, rfl⟩
      have hq := eq
      rw [q4of_6, ← ex0, ← ex1, ← ex2, ← ex3] at hq
      rw [← hq] at K
      have HL7 := Lib.hid (qrK_lt HL6.out 6 4)
      obtain ⟨s7, es⟩ : ∃ s, s = qrK s6 6 4 := ⟨_, rfl⟩
      rw [← es] at HL7
      have HS7 := Lib.hid (show s7 = rowK r0 7 by rw [es, HS6.out, rowK_succ])
      have ep := qrK_6 s6
      rw [← eq, ← es] at ep
      have oa2 := (((oa.ups 2 q.a).ups 7 q.b).ups 8 q.c).ups 13 q.d
      rw [← ep] at oa2
      have on := ((((Only.refl gA y6).trans (Only.setCell y6 ⟨gA, 2, none⟩ (.int .u32 (q.a : Int)))).trans (Only.setCell _ ⟨gA, 7, none⟩ (.int .u32 (q.b : Int)))).trans (Only.setCell _ ⟨gA, 8, none⟩ (.int .u32 (q.c : Int)))).trans (Only.setCell _ ⟨gA, 13, none⟩ (.int .u32 (q.d : Int)))
      have HO := Lib.hid (And.intro oa2 on)
      obtain ⟨a, b, c, d⟩ := q
      clear ex0 ex1 ex2 ex3 eq es hq ep oa2 on HS6 HL6
      go_wp2_with fail
      go_at_call 56
      refine (K.out _).mono ?_
      rintro e v ⟨rfl, e7⟩
      rw [e7]
      clear e7 v
      unfold q4t
      go_upto_region 10 with fail
      obtain ⟨oa2, on⟩ := HO.out
      clear HO K c0 c1 c2 c3 f0 f1 f2 f3 oa
      try dsimp only at oa2 on
      obtain ⟨y7, ev⟩ : ∃ v, v = (((y6.setCell ⟨gA, 2, none⟩ (.int .u32 (a : Int))).setCell ⟨gA, 7, none⟩ (.int .u32 (b : Int))).setCell ⟨gA, 8, none⟩ (.int .u32 (c : Int))).setCell ⟨gA, 13, none⟩ (.int .u32 (d : Int)) := ⟨_, rfl⟩
      rw [← ev] at oa2 on ⊢
      clear ev
      have oa := oa2
      replace oz := OwnF.only oz on hne.out
      replace hc := hc.trans (on.below hgB.out)
      clear oa2 on
      obtain ⟨x0, ex0⟩ : ∃ x, x = s7 3 := ⟨_, rfl⟩
      obtain ⟨x1, ex1⟩ : ∃ x, x = s7 4 := ⟨_, rfl⟩
      obtain ⟨x2, ex2⟩ : ∃ x, x = s7 9 := ⟨_, rfl⟩
      obtain ⟨x3, ex3⟩ : ∃ x, x = s7 14 := ⟨_, rfl⟩
      have c0 : y7.cell? ⟨gA, 3, none⟩ = some (.int .u32 (x0 : Int)) := by rw [ex0]; exact OwnF.cell oa (k := 3) (by decide)
      have c1 : y7.cell? ⟨gA, 4, none⟩ = some (.int .u32 (x1 : Int)) := by rw [ex1]; exact OwnF.cell oa (k := 4) (by decide)
      have c2 : y7.cell? ⟨gA, 9, none⟩ = some (.int .u32 (x2 : Int)) := by rw [ex2]; exact OwnF.cell oa (k := 9) (by decide)
      have c3 : y7.cell? ⟨gA, 14, none⟩ = some (.int .u32 (x3 : Int)) := by rw [ex3]; exact OwnF.cell oa (k := 14) (by decide)
      have f0 := OwnF.free oa 3
      have f1 := OwnF.free oa 4
      have f2 := OwnF.free oa 9
      have f3 := OwnF.free oa 14
      have K := Lib.hid (fun v => cquarter_any (q4of_ok HL7.out 7) v)
      rw [q4of_7, ← ex0, ← ex1, ← ex2, ← ex3] at K
      obtain ⟨q, eq⟩ : ∃ q, q = (q4of s7 7).quarter := ⟨_, rfl⟩
      have hq := eq
      rw [q4of_7, ← ex0, ← ex1, ← ex2, ← ex3] at hq
      rw [← hq] at K
      have HL8 := Lib.hid (qrK_lt HL7.out 7 4)
      obtain ⟨s8, es⟩ : ∃ s, s = qrK s7 7 4 := ⟨_, rfl⟩
      rw [← es] at HL8
      have HS8 := Lib.hid (show s8 = rowK r0 8 by rw [es, HS7.out, rowK_succ])
      have ep := qrK_7 s7
      rw [← eq, ← es] at ep
      have oa2 := (((oa.ups 3 q.a).ups 4 q.b).ups 9 q.c).ups 14 q.d
      rw [← ep] at oa2
      have on := ((((Only.refl gA y7).trans (Only.setCell y7 ⟨gA, 3, none⟩ (.int .u32 (q.a : Int)))).trans (Only.setCell _ ⟨gA, 4, none⟩ (.int .u32 (q.b : Int)))).trans (Only.setCell _ ⟨gA, 9, none⟩ (.int .u32 (q.c : Int)))).trans (Only.setCell _ ⟨gA, 14, none⟩ (.int .u32 (q.d : Int)))
      have HO := Lib.hid (And.intro oa2 on)
      obtain ⟨a, b, c, d⟩ := q
      clear ex0 ex1 ex2 ex3 eq es hq ep oa2 on HS7 HL7
      go_wp2_with fail
      go_at_call 56
      refine (K.out _).mono ?_
      rintro e v ⟨rfl, e7⟩
      rw [e7]
      clear e7 v
      unfold q4t
      go_upto_region 11 with fail
      obtain ⟨oa2, on⟩ := HO.out
      clear HO K c0 c1 c2 c3 f0 f1 f2 f3 oa
      try dsimp only at oa2 on
      obtain ⟨y8, ev⟩ : ∃ v, v = (((y7.setCell ⟨gA, 3, none⟩ (.int .u32 (a : Int))).setCell ⟨gA, 4, none⟩ (.int .u32 (b : Int))).setCell ⟨gA, 9, none⟩ (.int .u32 (c : Int))).setCell ⟨gA, 14, none⟩ (.int .u32 (d : Int)) := ⟨_, rfl⟩
      rw [← ev] at oa2 on ⊢
      clear ev
      have oa := oa2
      replace oz := OwnF.only oz on hne.out
      replace hc := hc.trans (on.below hgB.out)
      clear oa2 on
      go_wp2_with fail
      refine ⟨⟨n + 1, hlt, by rw [show ((n + 1 : Nat) : Int) = (n : Int) + 1 by omega], ?_, oz, hc⟩, ?_⟩
      · rw [← HN.out, ← HS8.out]; exact oa
      · simp only [intOf]; omega
    · obtain rfl : n = 10 := by omega
      have g1 : ¬ (10 : Int) < 10 := by omega
      have hcl := Lib.hid (OwnF.cl oa (off := 0) (n := 16) (f' := wvf (rndK f 10)) (by decide) fun k _ => by rw [Nat.zero_add])
      have hb := (av_only wr gR 0 16 (wvf (rndK f 10))).below (OwnF.ge oz)
      have HB := Lib.hid (hc.trans hb)
      have HR := Lib.hid (OwnF.cl (av_all oz (wvf (rndK f 10))) (off := 0) (n := 16) (f' := wvf (rndK f 10)) (by decide) fun k _ => by rw [Nat.zero_add])
      clear oa hb
      simp only [Int.cast_ofNat_Int]
      go_wp2_with (first | ((with_reducible refine av_load hcl.out ty16s ?_ ?_); rfl) | ((with_reducible refine av_store (off := 0) oz ty16s (by decide) (wvf (rndK f 10)) (fun k _ => wvf_one _ k) ?_ ?_ ?_); rfl; rfl))
      exact bodyPost_ret (av_res Tryd.results42 _ HR.out ty16s rfl) rfl ⟨rfl, HB.out⟩
end
end Go.Proofs.YtmhfkabpfkoocaaDoor
