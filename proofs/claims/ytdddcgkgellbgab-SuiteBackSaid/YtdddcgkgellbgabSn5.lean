/-
  SuiteBack: the law, over its inner part. By an AI agent.
-/
import Derived.Test.YtdddcgkgellbgabSn4
namespace Go.Proofs.Ytdddcgkgellbgab
open Go Go.RowKit
set_option maxRecDepth 20000
set_option maxHeartbeats 12800000 in
theorem back_at {R : IdlP} (K : IdlC R) (N : NewC R) (C1 : DrawC R) (CP : PubC R) (CH : ShaC R) (CD : DerC R) (CS : SealC R) (CG : SgnC R) (CV : SgrC R) (CO : OpnC R) (CR : VerC R)
    (aw : ∀ w, Calls Try.prog 8 #[] w fun e w' => e = .returned (.bool true) ∧ Below w.heap.size w w')
    {Aa Ab Ac : Option Addr} {na ca nb cb nc cc : Nat} {o x : List UInt8} {n : Int} (hn : n < 9223372036854775808) (hn2 : -9223372036854775808 ≤ n) (eb : nb = o.length) (ec : nc = x.length)
    (w : World) (r1 : Rd w w.heap.size Ab cb o) (r2 : Rd w w.heap.size Ac cc x) :
    Calls Try.prog 5 #[.agg #[.slice Aa na ca, .slice Ab nb cb, .slice Ac nc cc, .int .i64 n]] w fun e w' => e = .returned (.bool true) ∧ Below w.heap.size w w' := by
  obtain ⟨w1, ew⟩ : ∃ v, v = w.alloc (.cells #[.slice Aa na ca, .slice Ab nb cb, .slice Ac nc cc, .int .i64 n] 49) := ⟨_, rfl⟩
  obtain ⟨g, eg⟩ : ∃ g, g = w.heap.size := ⟨_, rfl⟩
  have hb1 : Below w.heap.size w w1 := by rw [ew]; exact (Below.refl _ _).alloc (Nat.le_refl _) _
  have hp : w1.heap[g]? = some (.cells #[.slice Aa na ca, .slice Ab nb cb, .slice Ac nc cc, .int .i64 n] 49) := by rw [ew, eg]; exact (MapKept.heap_alloc w _).1
  have q1 : w1.cell? ⟨g, 1, none⟩ = some (.slice Ab nb cb) := by simp [World.cell?, hp]
  have q2 : w1.cell? ⟨g, 2, none⟩ = some (.slice Ac nc cc) := by simp [World.cell?, hp]
  have HR := Lib.hid (show ∀ y ∈ [(Ab, cb, o), (Ac, cc, x)], Rd w1 w1.heap.size y.1 y.2.1 y.2.2 from fun y hy => by
    simp only [List.mem_cons, List.not_mem_nil, or_false] at hy
    rcases hy with rfl | rfl
    · exact (r1.keep hb1).mono hb1.size
    · exact (r2.keep hb1).mono hb1.size)
  have HE := Lib.hid (And.intro ew eg)
  have HB := Lib.hid hb1
  have HP := Lib.hid hp
  have HN := Lib.hid (And.intro eb (And.intro ec (And.intro hn hn2)))
  clear ew eg hb1 hp r1 r2 eb ec hn hn2
  go_enter Try.func5, Try.ntmps5
  go_upto_region 1 with fail
  rw [← HE.out.1, ← HE.out.2]
  by_cases hbig : nb ≤ 4000 ∧ nc ≤ 4000
  case neg =>
    by_cases h4 : 4000 < nb
    · have hd : decide ((4000 : Int) < (nb : Int)) = true := decide_eq_true (by omega)
      clear hbig h4
      go_wp2_with fail
      go_at_call 8
      refine (aw _).mono ?_
      rintro e w2 ⟨rfl, hb⟩
      have HB2 := Lib.hid (HB.out.trans (hb.mono HB.out.size))
      clear hb
      go_wp2_with fail
      go_ret
      exact ⟨rfl, HB2.out⟩
    · have hd : decide ((4000 : Int) < (nb : Int)) = false := decide_eq_false (by omega)
      have hd2 : decide ((4000 : Int) < (nc : Int)) = true := decide_eq_true (by omega)
      clear hbig h4
      go_wp2_with fail
      go_at_call 8
      refine (aw _).mono ?_
      rintro e w2 ⟨rfl, hb⟩
      have HB2 := Lib.hid (HB.out.trans (hb.mono HB.out.size))
      clear hb
      go_wp2_with fail
      go_ret
      exact ⟨rfl, HB2.out⟩
  have HG := Lib.hid hbig
  have hd : decide ((4000 : Int) < (nb : Int)) = false := decide_eq_false (by omega)
  have hd2 : decide ((4000 : Int) < (nc : Int)) = false := decide_eq_false (by omega)
  clear hbig
  go_wp2_with fail
  go_at_call 9
  refine (sit_new N w1 _ HR.out).mono ?_
  rintro e w2 ⟨p, rfl, hs⟩
  obtain ⟨gp, rfl⟩ := sit_use hs fun F S hR => K.ptr hR
  have HS := Lib.hid hs
  have hp2 : w2.cell? ⟨g, 0, none⟩ = some (.slice Aa na ca) ∧ w2.cell? ⟨g, 1, none⟩ = some (.slice Ab nb cb) ∧ w2.cell? ⟨g, 2, none⟩ = some (.slice Ac nc cc) ∧ w2.cell? ⟨g, 3, none⟩ = some (.int .i64 n) := by
    have hh := (hs.below.block g (Array.getElem?_eq_some_iff.1 HP.out).1).trans HP.out
    simp [World.cell?, hh]
  obtain ⟨p0, p1, p2, p3⟩ := hp2
  clear hs
  go_wp2_with fail
  refine (agrees_at K C1 CP CH CD CS CG CV CO CR HN.out.2.2.1 HN.out.2.2.2 HN.out.1 HN.out.2.1 HG.out.1 HG.out.2 HS.out).mono ?_
  rintro e w3 ⟨rfl, hb⟩
  have HB3 := Lib.hid (HB.out.trans (hb.mono HB.out.size))
  clear hb p0 p1 p2 p3
  go_wp2_with fail
  go_at_call 8
  refine (aw _).mono ?_
  rintro e w4 ⟨rfl, hb⟩
  have HB4 := Lib.hid (HB3.out.trans (hb.mono HB3.out.size))
  clear hb
  go_wp2_with fail
  go_ret
  exact ⟨rfl, HB4.out⟩
end Go.Proofs.Ytdddcgkgellbgab
