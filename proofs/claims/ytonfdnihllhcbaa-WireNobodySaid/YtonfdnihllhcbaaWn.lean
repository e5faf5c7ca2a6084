/-
  WireNobody: a reader that is not there, or that nobody made. By an AI agent.
-/
import Derived.Test.YtonfdnihllhcbaaWk
namespace Go.Proofs.Ytonfdnihllhcbaa
open Go Go.RowKit
set_option maxRecDepth 20000
def zeroR (k : Nat) : Value := if k = 0 then .slice none 0 0 else if k = 1 then .int .i64 0 else if k = 2 then .bool false else .int .i64 0
/-- A reader that is not there, or that nobody made. -/
def Nob (w : World) (p : Value) : Prop := p = .pointer none ∨ ∃ g B, p = .pointer (some ⟨g, 0, none⟩) ∧ OwnF w B 52 (some ⟨g, 0, none⟩) 4 4 zeroR
theorem Nob.keep {w w' : World} {p : Value} (h : Nob w p) (hb : Below w.heap.size w w') : Nob w' p := by
  rcases h with h | ⟨g, B, h, o⟩
  · exact .inl h
  · exact .inr ⟨g, B, h, OwnF.keep o hb⟩
section
variable {w : World} {p : Value} (h : Nob w p)
include h
theorem nerr : Calls Try.prog 20 #[p] w fun x w' => x = .returned (.int .i64 5) ∧ Below w.heap.size w w' := by
  rcases h with rfl | ⟨g, B, rfl, o⟩
  · go_enter Try.func20, Try.ntmps20
    go_wp2_with fail
    go_ret
    exact ⟨rfl, Below.refl _ _⟩
  · have c2 : w.cell? ⟨g, 2, none⟩ = some (.bool false) := OwnF.cell o (k := 2) (by decide)
    clear o
    go_enter Try.func20, Try.ntmps20
    go_wp2_with fail
    go_ret
    exact ⟨rfl, Below.refl _ _⟩
theorem nleft : Calls Try.prog 21 #[p] w fun x w' => x = .returned (.int .i64 0) ∧ Below w.heap.size w w' := by
  rcases h with rfl | ⟨g, B, rfl, o⟩
  · go_enter Try.func21, Try.ntmps21
    go_wp2_with fail
    go_ret
    exact ⟨rfl, Below.refl _ _⟩
  · have c0 : w.cell? ⟨g, 0, none⟩ = some (.slice none 0 0) := OwnF.cell o (k := 0) (by decide)
    have c1 : w.cell? ⟨g, 1, none⟩ = some (.int .i64 0) := OwnF.cell o (k := 1) (by decide)
    have KL : Calls Try.prog 36 #[.pointer (some ⟨g, 0, none⟩)] w fun x w' => x = .returned (.int .i64 0) ∧ Below w.heap.size w w' := by
      go_enter Try.func36, Try.ntmps36
      go_upto_region 1 with fail
      go_quiet (fail)
      all_goals
        go_wp2_with fail
        go_ret
        exact ⟨rfl, below_drewN _ _⟩
    have KL := Lib.hid KL
    clear o
    go_enter Try.func21, Try.ntmps21
    go_wp2_with fail
    go_at_call 36
    refine KL.out.mono ?_
    rintro x v1 ⟨rfl, h1⟩
    go_wp2_with fail
    go_ret
    exact ⟨rfl, h1⟩
theorem nend : Calls Try.prog 22 #[p] w fun x w' => x = .returned (.int .i64 5) ∧ Below w.heap.size w w' := by
  have KE := Lib.hid (nerr h)
  clear h
  go_enter Try.func22, Try.ntmps22
  go_wp2_with fail
  go_at_call 20
  refine KE.out.mono ?_
  rintro x v1 ⟨rfl, h1⟩
  go_wp2_with fail
  go_ret
  exact ⟨rfl, h1⟩
theorem nfail (e : Int) : Calls Try.prog 27 #[p, .int .i64 e] w fun x w' => (∃ v, x = .returned v) ∧ Below w.heap.size w w' := by
  have KE := Lib.hid (nerr h)
  clear h
  go_enter Try.func27, Try.ntmps27
  go_wp2_with fail
  go_at_call 20
  refine KE.out.mono ?_
  rintro x v1 ⟨rfl, h1⟩
  go_wp2_with fail
  go_returns
  exact ⟨⟨_, rfl⟩, h1⟩
theorem nnumber (a b : Int) : Calls Try.prog 24 #[p, .int .i64 a, .int .i64 b] w fun x w' => x = .returned (.int .i64 0) ∧ Below w.heap.size w w' := by
  have KE := Lib.hid (nerr h)
  clear h
  go_enter Try.func24, Try.ntmps24
  go_wp2_with fail
  go_at_call 20
  refine KE.out.mono ?_
  rintro x v1 ⟨rfl, h1⟩
  go_wp2_with fail
  go_ret
  exact ⟨rfl, h1⟩
theorem nflag : Calls Try.prog 26 #[p] w fun x w' => x = .returned (.bool false) ∧ Below w.heap.size w w' := by
  have KE := Lib.hid (nnumber h 0 1)
  clear h
  go_enter Try.func26, Try.ntmps26
  go_wp2_with fail
  go_at_call 24
  refine KE.out.mono ?_
  rintro x v1 ⟨rfl, h1⟩
  go_wp2_with fail
  go_ret
  exact ⟨rfl, h1⟩
theorem ntext (a : Int) : Calls Try.prog 25 #[p, .int .i64 a] w fun x w' => x = .returned (.slice none 0 0) ∧ Below w.heap.size w w' := by
  have KE := Lib.hid (nerr h)
  clear h
  go_enter Try.func25, Try.ntmps25
  go_wp2_with fail
  go_at_call 20
  refine KE.out.mono ?_
  rintro x v1 ⟨rfl, h1⟩
  go_wp2_with fail
  go_ret
  exact ⟨rfl, h1⟩
theorem nfixed (a : Int) : Calls Try.prog 28 #[p, .int .i64 a] w fun x w' => x = .returned (.slice none 0 0) ∧ Below w.heap.size w w' := by
  have KE := Lib.hid (nerr h)
  clear h
  go_enter Try.func28, Try.ntmps28
  go_wp2_with fail
  go_at_call 20
  refine KE.out.mono ?_
  rintro x v1 ⟨rfl, h1⟩
  go_wp2_with fail
  go_ret
  exact ⟨rfl, h1⟩
end
/-- The question's box. -/
abbrev OAskN (w : World) (g : Nat) (k a b : Int) : Prop := w.cell? ⟨g, 0, none⟩ = some (.int .i64 k) ∧ w.cell? ⟨g, 1, none⟩ = some (.int .i64 a) ∧ w.cell? ⟨g, 2, none⟩ = some (.int .i64 b) ∧ g < w.heap.size
theorem askN_keep {w w' : World} {g : Nat} {k a b : Int} (h : OAskN w g k a b) (hb : Below w.heap.size w w') : OAskN w' g k a b :=
  ⟨(hb.cell (p := ⟨g, 0, none⟩) h.2.2.2).trans h.1, (hb.cell (p := ⟨g, 1, none⟩) h.2.2.2).trans h.2.1, (hb.cell (p := ⟨g, 2, none⟩) h.2.2.2).trans h.2.2.1, Nat.lt_of_lt_of_le h.2.2.2 hb.size⟩
set_option maxHeartbeats 3200000 in
theorem wirenobody_law (w : World) (k a b : Int) (y : Bool) :
    Calls Try.prog 8 #[.agg #[.int .i64 k, .int .i64 a, .int .i64 b], .bool y] w fun e w' => e = .returned (.bool true) ∧ Below w.heap.size w w' := by
  have HA := Lib.hid (fun v => awake13 (K := landed) v)
  obtain ⟨v1, ev⟩ : ∃ v, v = w.alloc (.cells #[.int .i64 k, .int .i64 a, .int .i64 b] 37) := ⟨_, rfl⟩
  obtain ⟨g, eg⟩ : ∃ g, g = w.heap.size := ⟨_, rfl⟩
  have hc : Below w.heap.size w v1 := by rw [ev]; exact (Below.refl _ w).alloc (Nat.le_refl _) _
  have hq : OAskN v1 g k a b := by rw [ev, eg]; simp [OAskN]
  have HV := Lib.hid (And.intro ev eg)
  clear ev eg
  cases y
  · have HS := Lib.hid (And.intro (show Nob v1 (.pointer none) from .inl rfl) (And.intro hq hc))
    clear hq hc
    go_enter Try.func8, Try.ntmps8
    go_upto_region 4 with fail
    rw [← HV.out.1, ← HV.out.2]
    clear HV
    obtain ⟨x0, x1, x2, _⟩ := HS.out.2.1
    go_wp2_with fail
    clear x0 x1 x2
    go_at_call 27
    refine (nfail HS.out.1 a).mono ?_
    rintro x w3 ⟨⟨_, rfl⟩, h1⟩
    replace HS := Lib.hid (And.intro (HS.out.1.keep h1) (And.intro (askN_keep HS.out.2.1 h1) (HS.out.2.2.trans (h1.mono HS.out.2.2.size))))
    clear h1
    obtain ⟨x0, x1, x2, _⟩ := HS.out.2.1
    go_wp2_with fail
    clear x0 x1 x2
    go_at_call 24
    refine (nnumber HS.out.1 a b).mono ?_
    rintro x w4 ⟨rfl, h1⟩
    replace HS := Lib.hid (And.intro (HS.out.1.keep h1) (And.intro (askN_keep HS.out.2.1 h1) (HS.out.2.2.trans (h1.mono HS.out.2.2.size))))
    clear h1
    obtain ⟨x0, x1, x2, _⟩ := HS.out.2.1
    go_wp2_with fail
    clear x0 x1 x2
    go_at_call 25
    refine (ntext HS.out.1 a).mono ?_
    rintro x w5 ⟨rfl, h1⟩
    replace HS := Lib.hid (And.intro (HS.out.1.keep h1) (And.intro (askN_keep HS.out.2.1 h1) (HS.out.2.2.trans (h1.mono HS.out.2.2.size))))
    clear h1
    obtain ⟨x0, x1, x2, _⟩ := HS.out.2.1
    go_wp2_with fail
    clear x0 x1 x2
    go_at_call 28
    refine (nfixed HS.out.1 a).mono ?_
    rintro x w6 ⟨rfl, h1⟩
    replace HS := Lib.hid (And.intro (HS.out.1.keep h1) (And.intro (askN_keep HS.out.2.1 h1) (HS.out.2.2.trans (h1.mono HS.out.2.2.size))))
    clear h1
    obtain ⟨x0, x1, x2, _⟩ := HS.out.2.1
    go_wp2_with fail
    clear x0 x1 x2
    go_at_call 26
    refine (nflag HS.out.1).mono ?_
    rintro x w7 ⟨rfl, h1⟩
    replace HS := Lib.hid (And.intro (HS.out.1.keep h1) (And.intro (askN_keep HS.out.2.1 h1) (HS.out.2.2.trans (h1.mono HS.out.2.2.size))))
    clear h1
    obtain ⟨x0, x1, x2, _⟩ := HS.out.2.1
    go_wp2_with fail
    clear x0 x1 x2
    go_at_call 21
    refine (nleft HS.out.1).mono ?_
    rintro x w8 ⟨rfl, h1⟩
    replace HS := Lib.hid (And.intro (HS.out.1.keep h1) (And.intro (askN_keep HS.out.2.1 h1) (HS.out.2.2.trans (h1.mono HS.out.2.2.size))))
    clear h1
    obtain ⟨x0, x1, x2, _⟩ := HS.out.2.1
    go_wp2_with fail
    clear x0 x1 x2
    go_at_call 20
    refine (nerr HS.out.1).mono ?_
    rintro x w9 ⟨rfl, h1⟩
    replace HS := Lib.hid (And.intro (HS.out.1.keep h1) (And.intro (askN_keep HS.out.2.1 h1) (HS.out.2.2.trans (h1.mono HS.out.2.2.size))))
    clear h1
    obtain ⟨x0, x1, x2, _⟩ := HS.out.2.1
    go_wp2_with fail
    clear x0 x1 x2
    go_at_call 22
    refine (nend HS.out.1).mono ?_
    rintro x w10 ⟨rfl, h1⟩
    replace HS := Lib.hid (And.intro (HS.out.1.keep h1) (And.intro (askN_keep HS.out.2.1 h1) (HS.out.2.2.trans (h1.mono HS.out.2.2.size))))
    clear h1
    go_wp2_with fail
    go_at_call 16
    refine (HA.out _).mono ?_
    rintro x w20 ⟨rfl, h1⟩
    have HC := Lib.hid (HS.out.2.2.trans (h1.mono HS.out.2.2.size))
    clear h1 HS
    go_wp2_with fail
    go_ret
    exact ⟨rfl, HC.out⟩
  · have oz : OwnF (v1.alloc (.cells #[.slice none 0 0, .int .i64 0, .bool false, .int .i64 0] 52)) 0 52 (some ⟨v1.heap.size, 0, none⟩) 4 4 zeroR := OwnF.lit _ (Nat.zero_le _) #[.slice none 0 0, .int .i64 0, .bool false, .int .i64 0] 4 zeroR (by decide) rfl
    have hb := (Below.refl v1.heap.size v1).alloc (Nat.le_refl _) (.cells #[.slice none 0 0, .int .i64 0, .bool false, .int .i64 0] 52)
    have hq2 := askN_keep hq hb
    have hc2 := hc.trans (hb.mono hc.size)
    obtain ⟨v2, e2⟩ : ∃ v, v = v1.alloc (.cells #[.slice none 0 0, .int .i64 0, .bool false, .int .i64 0] 52) := ⟨_, rfl⟩
    obtain ⟨h, eh⟩ : ∃ h, h = v1.heap.size := ⟨_, rfl⟩
    rw [← e2, ← eh] at oz
    rw [← e2] at hq2 hc2
    have HV2 := Lib.hid (And.intro e2 eh)
    have HS := Lib.hid (And.intro (show Nob v2 (.pointer (some ⟨h, 0, none⟩)) from .inr ⟨h, 0, rfl, oz⟩) (And.intro hq2 hc2))
    clear hq hc hq2 hc2 hb oz e2 eh
    go_enter Try.func8, Try.ntmps8
    go_upto_region 3 with fail
    rw [← HV.out.1, ← HV.out.2]
    go_upto_region 4 with fail
    rw [← HV2.out.1, ← HV2.out.2]
    clear HV HV2
    obtain ⟨x0, x1, x2, _⟩ := HS.out.2.1
    go_wp2_with fail
    clear x0 x1 x2
    go_at_call 27
    refine (nfail HS.out.1 a).mono ?_
    rintro x w3 ⟨⟨_, rfl⟩, h1⟩
    replace HS := Lib.hid (And.intro (HS.out.1.keep h1) (And.intro (askN_keep HS.out.2.1 h1) (HS.out.2.2.trans (h1.mono HS.out.2.2.size))))
    clear h1
    obtain ⟨x0, x1, x2, _⟩ := HS.out.2.1
    go_wp2_with fail
    clear x0 x1 x2
    go_at_call 24
    refine (nnumber HS.out.1 a b).mono ?_
    rintro x w4 ⟨rfl, h1⟩
    replace HS := Lib.hid (And.intro (HS.out.1.keep h1) (And.intro (askN_keep HS.out.2.1 h1) (HS.out.2.2.trans (h1.mono HS.out.2.2.size))))
    clear h1
    obtain ⟨x0, x1, x2, _⟩ := HS.out.2.1
    go_wp2_with fail
    clear x0 x1 x2
    go_at_call 25
    refine (ntext HS.out.1 a).mono ?_
    rintro x w5 ⟨rfl, h1⟩
    replace HS := Lib.hid (And.intro (HS.out.1.keep h1) (And.intro (askN_keep HS.out.2.1 h1) (HS.out.2.2.trans (h1.mono HS.out.2.2.size))))
    clear h1
    obtain ⟨x0, x1, x2, _⟩ := HS.out.2.1
    go_wp2_with fail
    clear x0 x1 x2
    go_at_call 28
    refine (nfixed HS.out.1 a).mono ?_
    rintro x w6 ⟨rfl, h1⟩
    replace HS := Lib.hid (And.intro (HS.out.1.keep h1) (And.intro (askN_keep HS.out.2.1 h1) (HS.out.2.2.trans (h1.mono HS.out.2.2.size))))
    clear h1
    obtain ⟨x0, x1, x2, _⟩ := HS.out.2.1
    go_wp2_with fail
    clear x0 x1 x2
    go_at_call 26
    refine (nflag HS.out.1).mono ?_
    rintro x w7 ⟨rfl, h1⟩
    replace HS := Lib.hid (And.intro (HS.out.1.keep h1) (And.intro (askN_keep HS.out.2.1 h1) (HS.out.2.2.trans (h1.mono HS.out.2.2.size))))
    clear h1
    obtain ⟨x0, x1, x2, _⟩ := HS.out.2.1
    go_wp2_with fail
    clear x0 x1 x2
    go_at_call 21
    refine (nleft HS.out.1).mono ?_
    rintro x w8 ⟨rfl, h1⟩
    replace HS := Lib.hid (And.intro (HS.out.1.keep h1) (And.intro (askN_keep HS.out.2.1 h1) (HS.out.2.2.trans (h1.mono HS.out.2.2.size))))
    clear h1
    obtain ⟨x0, x1, x2, _⟩ := HS.out.2.1
    go_wp2_with fail
    clear x0 x1 x2
    go_at_call 20
    refine (nerr HS.out.1).mono ?_
    rintro x w9 ⟨rfl, h1⟩
    replace HS := Lib.hid (And.intro (HS.out.1.keep h1) (And.intro (askN_keep HS.out.2.1 h1) (HS.out.2.2.trans (h1.mono HS.out.2.2.size))))
    clear h1
    obtain ⟨x0, x1, x2, _⟩ := HS.out.2.1
    go_wp2_with fail
    clear x0 x1 x2
    go_at_call 22
    refine (nend HS.out.1).mono ?_
    rintro x w10 ⟨rfl, h1⟩
    replace HS := Lib.hid (And.intro (HS.out.1.keep h1) (And.intro (askN_keep HS.out.2.1 h1) (HS.out.2.2.trans (h1.mono HS.out.2.2.size))))
    clear h1
    go_wp2_with fail
    go_at_call 16
    refine (HA.out _).mono ?_
    rintro x w20 ⟨rfl, h1⟩
    have HC := Lib.hid (HS.out.2.2.trans (h1.mono HS.out.2.2.size))
    clear h1 HS
    go_wp2_with fail
    go_ret
    exact ⟨rfl, HC.out⟩
end Go.Proofs.Ytonfdnihllhcbaa
