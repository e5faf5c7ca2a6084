/-
  Layer 17: awake; CaretWidths. By an AI agent.
-/
import Derived.Test.YtejfdheiopejeaaCl1
namespace Go.Proofs.Ytejfdheiopejeaa
open Go Go.RowKit
set_option maxRecDepth 20000
attribute [local go_sem] run_store_float17 run_store_complex17
abbrev abcB : ByteArray := ⟨#[97, 98, 99]⟩
theorem abcB_spots : spotsR 2 (runesFrom abcB 0) (0, 0) = [(0, 0), (1, 0), (0, 1), (1, 1)] := by decide +kernel
theorem abc_places (w : World) : Calls Try.prog 8 #[.string abcB, .int .i64 2] w fun e w' => ∃ b c, e = .returned (.tuple #[.slice (some ⟨b, 0, none⟩) 4 c, .int .i64 0]) ∧ b < w'.heap.size ∧ (w'.cell? ⟨b, 2, none⟩ = some (.complex .f64 0 4607182418800017408) ∧ w'.cell? ⟨b, 3, none⟩ = some (.complex .f64 4607182418800017408 4607182418800017408)) ∧ Below w.heap.size w w' := by
  refine (places_any (s := abcB) (k := 2) ⟨by decide, by decide⟩ (by decide) w).mono ?_
  rintro e w' ⟨A, c, rfl, hown, hb⟩
  rw [abcB_spots] at hown ⊢
  have hA : ∃ b, A = some ⟨b, 0, none⟩ := by
    obtain ⟨_, h2⟩ := hown
    rcases h2 with ⟨_, h0⟩ | ⟨g, cap, cur, hv, _⟩
    · cases h0
    · simp only [Value.slice.injEq] at hv
      exact ⟨g, hv.1⟩
  obtain ⟨b, rfl⟩ := hA
  have h2 := hown.rd.at_ (k := 2) (x := (0, 1)) rfl
  have h3 := hown.rd.at_ (k := 3) (x := (1, 1)) rfl
  obtain ⟨b2, o2, e2, hlt, c2⟩ := h2
  obtain ⟨b3, o3, e3, _, c3⟩ := h3
  simp only [Option.some.injEq, Addr.mk.injEq] at e2 e3
  obtain ⟨rfl, rfl, -⟩ := e2
  obtain ⟨rfl, rfl, -⟩ := e3
  have k2 := c2 0 _ rfl
  have k3 := c3 0 _ rfl
  unfold cpV at k2 k3
  rw [show fi ((0, 1) : IDt).1 = 0 from fi_zero, show fi ((0, 1) : IDt).2 = 4607182418800017408 from fi_one] at k2
  rw [show fi ((1, 1) : IDt).1 = 4607182418800017408 from fi_one] at k3
  exact ⟨b, c, rfl, hlt, ⟨k2, k3⟩, hb⟩
theorem abc_at (w : World) : Calls Try.prog 16 #[.string abcB, .int .i64 2, .complex .f64 4621256167635550208 0] w fun e w' => e = .returned (.tuple #[.int .i64 1, .int .i64 0]) ∧ Below w.heap.size w w' := by
  have h := at_any (s := abcB) (k := 2) (x := 9) (y := 0) ⟨by decide, by decide⟩ (by decide) (by decide) (by decide) w
  unfold cpV at h
  rw [show fi ((((9 : Nat) : Int), ((0 : Nat) : Int)) : IDt).1 = 4621256167635550208 from fi_nine, show fi ((((9 : Nat) : Int), ((0 : Nat) : Int)) : IDt).2 = 0 from fi_zero, abcB_spots] at h
  exact h
theorem awake17 (w : World) : Calls Try.prog 11 #[] w fun e w' => e = .returned (.bool true) ∧ Below w.heap.size w w' := by
  have h0 : (FloatKind.f64.format.order 0 0 == some .eq) = true := by decide +kernel
  have h1 : (FloatKind.f64.format.order 4607182418800017408 4607182418800017408 == some .eq) = true := by decide +kernel
  go_enter Try.func11, Try.ntmps11
  go_upto_region 2 with (go_at_call 8; refine (abc_places w).mono ?_; rintro z w1 ⟨b, c9, rfl, hbl, ⟨c2, c3⟩, hb1⟩; have H1 := Lib.hid (And.intro hbl (And.intro c2 (And.intro c3 hb1))); clear hbl c2 c3 hb1)
  go_upto_region 3 with (go_at_call 16; refine (abc_at w1).mono ?_; rintro z w2 ⟨rfl, hb2⟩; have H2 := Lib.hid hb2; clear hb2)
  have c2 := (H2.out.cell (p := ⟨b, 2, none⟩) H1.out.1).trans H1.out.2.1
  have c3 := (H2.out.cell (p := ⟨b, 3, none⟩) H1.out.1).trans H1.out.2.2.1
  go_wp2_with (go_at_call 12; refine (width_any 4352 w2).mono ?_; rintro z wz ⟨rfl, hwz⟩; rw [hwz, show wdR 4352 = 2 from rfl]; clear hwz wz)
  go_ret
  exact ⟨by first | rfl | simp, H1.out.2.2.2.trans (H2.out.mono H1.out.2.2.2.size)⟩
theorem caretwidths_law (c : Int) (w : World) : Calls Try.prog 4 #[.int .i32 c] w fun e w' => e = .returned (.bool true) ∧ Below w.heap.size w w' := by
  obtain ⟨q, eq⟩ : ∃ q, q = wdR c := ⟨_, rfl⟩
  have h1 := fun w => width_any c w
  have h2 := fun w => rwidth_any c w
  rw [← eq] at h1 h2
  have H := Lib.hid (And.intro h1 h2)
  clear h1 h2 eq
  go_enter Try.func4, Try.ntmps4
  go_wp2_with (first | (go_at_call 12; with_reducible refine (H.out.1 _).mono ?_; rintro z wz ⟨rfl, hwz⟩; rw [hwz]; clear hwz wz) | (go_at_call 13; with_reducible refine (H.out.2 _).mono ?_; rintro z wz ⟨rfl, hwz⟩; rw [hwz]; clear hwz wz) | (go_at_call 11; with_reducible refine (awake17 _).mono ?_; rintro z wz ⟨rfl, hwz⟩; have HW := Lib.hid hwz; clear hwz))
  go_ret
  exact ⟨by first | rfl | simp, HW.out⟩
end Go.Proofs.Ytejfdheiopejeaa
