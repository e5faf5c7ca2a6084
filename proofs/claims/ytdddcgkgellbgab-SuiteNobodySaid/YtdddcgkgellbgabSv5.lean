/-
  Layer 19, the landed code: an ideal suite that is not there, or that nobody made. By an AI agent.
-/
import Derived.Test.YtdddcgkgellbgabSv2
namespace Go.Proofs.Ytdddcgkgellbgab
open Go Go.RowKit
set_option maxRecDepth 20000
attribute [local irreducible] e8
def NobI (w : World) (p : Value) : Prop := p = .pointer none ∨ ∃ I, p = ptB I ∧ w.heap[I]? = some (.cells #[.pointer none] 54)
theorem NobI.next {w w' : World} {p : Value} (h : NobI w p) (hb : Below w.heap.size w w') : NobI w' p := h.imp id fun ⟨I, e, hI⟩ => ⟨I, e, (hb.block I (w_lt hI)).trans hI⟩
theorem made_none {w : World} {p : Value} (h : NobI w p) : Calls Try.prog 37 #[p] w fun e w' => e = .returned (.bool false) ∧ Below w.heap.size w w' := by
  rcases h with rfl | ⟨I, rfl, hI⟩
  · go_enter Try.func37, Try.ntmps37
    go_wp2_with fail
    go_ret
    exact ⟨rfl, Below.refl _ _⟩
  · have c0 : w.cell? ⟨I, 0, none⟩ = some (.pointer none) := by simp [World.cell?, hI]
    go_enter Try.func37, Try.ntmps37
    go_wp2_with fail
    go_ret
    exact ⟨rfl, Below.refl _ _⟩
theorem none_keyed {w : World} {p : Value} {A : Option Addr} {n c : Nat} {k : Int} (h : NobI w p) : Calls Try.prog 41 #[p, .int .u8 k, .slice A n c] w fun e w' => e = .returned (.slice none 0 0) ∧ Below w.heap.size w w' := by
  have HM := Lib.hid (made_none h)
  clear h
  go_enter Try.func41, Try.ntmps41
  go_wp2_with fail
  go_at_call 37
  refine HM.out.mono ?_
  rintro e v ⟨rfl, hv⟩
  have HV := Lib.hid hv
  clear hv HM
  go_wp2_with fail
  go_ret
  exact ⟨rfl, HV.out⟩
theorem none_draw {w : World} {p : Value} (h : NobI w p) : Calls Try.prog 22 #[p] w fun e w' => e = .returned (.slice none 0 0) ∧ Below w.heap.size w w' := by
  have HM := Lib.hid (made_none h)
  clear h
  go_enter Try.func22, Try.ntmps22
  go_wp2_with fail
  go_at_call 37
  refine HM.out.mono ?_
  rintro e v ⟨rfl, hv⟩
  have HV := Lib.hid hv
  clear hv HM
  go_wp2_with fail
  go_ret
  exact ⟨rfl, HV.out⟩
theorem none_hash {w : World} {p : Value} {A : Option Addr} {n c : Nat} (h : NobI w p) : Calls Try.prog 13 #[p, .slice A n c] w fun e w' => e = .returned (.slice none 0 0) ∧ Below w.heap.size w w' := by
  have HM := Lib.hid (made_none h)
  clear h
  go_enter Try.func13, Try.ntmps13
  go_wp2_with fail
  go_at_call 37
  refine HM.out.mono ?_
  rintro e v ⟨rfl, hv⟩
  have HV := Lib.hid hv
  clear hv HM
  go_wp2_with fail
  go_ret
  exact ⟨rfl, HV.out⟩
theorem none_shared {w : World} {p : Value} {A A2 : Option Addr} {n c n2 c2 : Nat} (h : NobI w p) : Calls Try.prog 21 #[p, .slice A n c, .slice A2 n2 c2] w fun e w' => e = .returned (.tuple #[.slice none 0 0, .int .i64 1]) ∧ Below w.heap.size w w' := by
  have HM := Lib.hid (made_none h)
  clear h
  go_enter Try.func21, Try.ntmps21
  go_wp2_with fail
  go_at_call 37
  refine HM.out.mono ?_
  rintro e v ⟨rfl, hv⟩
  have HV := Lib.hid hv
  clear hv HM
  go_wp2_with fail
  go_ret2
  exact ⟨rfl, HV.out⟩
theorem none_verify {w : World} {p : Value} {A A2 A3 : Option Addr} {n c n2 c2 n3 c3 : Nat} (h : NobI w p) : Calls Try.prog 19 #[p, .slice A n c, .slice A2 n2 c2, .slice A3 n3 c3] w fun e w' => e = .returned (.bool false) ∧ Below w.heap.size w w' := by
  have HM := Lib.hid (made_none h)
  clear h
  go_enter Try.func19, Try.ntmps19
  go_wp2_with fail
  go_at_call 37
  refine HM.out.mono ?_
  rintro e v ⟨rfl, hv⟩
  have HV := Lib.hid hv
  clear hv HM
  go_wp2_with fail
  go_ret
  exact ⟨rfl, HV.out⟩
theorem none_open {w : World} {p : Value} {A A2 A3 : Option Addr} {n c n2 c2 n3 c3 : Nat} {k : Int} (h : NobI w p) : Calls Try.prog 18 #[p, .slice A n c, .int .i64 k, .slice A2 n2 c2, .slice A3 n3 c3] w fun e w' => e = .returned (.tuple #[.slice none 0 0, .int .i64 1]) ∧ Below w.heap.size w w' := by
  have HM := Lib.hid (made_none h)
  clear h
  go_enter Try.func18, Try.ntmps18
  go_wp2_with fail
  go_at_call 37
  refine HM.out.mono ?_
  rintro e v ⟨rfl, hv⟩
  have HV := Lib.hid hv
  clear hv HM
  go_wp2_with fail
  go_ret2
  exact ⟨rfl, HV.out⟩
theorem none_len {w : World} {p : Value} (h : NobI w p) : Calls Try.prog 12 #[p] w fun e w' => e = .returned (.int .i64 0) ∧ Below w.heap.size w w' := by
  have HM := Lib.hid (made_none h)
  clear h
  go_enter Try.func12, Try.ntmps12
  go_wp2_with fail
  go_at_call 37
  refine HM.out.mono ?_
  rintro e v ⟨rfl, hv⟩
  have HV := Lib.hid hv
  clear hv HM
  go_wp2_with fail
  go_ret
  exact ⟨rfl, HV.out⟩
theorem none_terms {w : World} {p : Value} (h : NobI w p) : Calls Try.prog 25 #[p] w fun e w' => e = .returned (.slice none 0 0) ∧ Below w.heap.size w w' := by
  have HM := Lib.hid (made_none h)
  clear h
  go_enter Try.func25, Try.ntmps25
  go_wp2_with fail
  go_at_call 37
  refine HM.out.mono ?_
  rintro e v ⟨rfl, hv⟩
  have HV := Lib.hid hv
  clear hv HM
  go_wp2_with fail
  go_ret
  exact ⟨rfl, HV.out⟩
theorem none_clone {w : World} {p : Value} (h : NobI w p) : Calls Try.prog 11 #[p] w fun e w' => e = .returned (.pointer none) ∧ Below w.heap.size w w' := by
  have HM := Lib.hid (made_none h)
  clear h
  go_enter Try.func11, Try.ntmps11
  go_wp2_with fail
  go_at_call 37
  refine HM.out.mono ?_
  rintro e v ⟨rfl, hv⟩
  have HV := Lib.hid hv
  clear hv HM
  go_wp2_with fail
  go_ret
  exact ⟨rfl, HV.out⟩
theorem none_public {w : World} {p : Value} {A : Option Addr} {n c : Nat} (h : NobI w p) : Calls Try.prog 23 #[p, .slice A n c] w fun e w' => e = .returned (.slice none 0 0) ∧ Below w.heap.size w w' := by
  have HN := Lib.hid h
  clear h
  go_enter Try.func23, Try.ntmps23
  go_wp2_with fail
  obtain ⟨v1, ev⟩ : ∃ q, q = w.alloc (.cells #[.slice A n c] 31) := ⟨_, rfl⟩
  have hb1 : Below w.heap.size w v1 := by rw [ev]; exact (Below.refl _ _).alloc (Nat.le_refl _) _
  rw [← ev]
  clear ev
  have HBX := Lib.hid (show Below w.heap.size w v1 from hb1)
  have HNX := HN
  clear hb1
  refine (none_keyed (HNX.out.next HBX.out)).mono ?_
  rintro e v2 ⟨rfl, hv⟩
  have HV := Lib.hid (HBX.out.trans (hv.mono HBX.out.size))
  clear hv
  go_wp2_with fail
  go_ret
  exact ⟨rfl, HV.out⟩
theorem none_signer {w : World} {p : Value} {A : Option Addr} {n c : Nat} (h : NobI w p) : Calls Try.prog 17 #[p, .slice A n c] w fun e w' => e = .returned (.slice none 0 0) ∧ Below w.heap.size w w' := by
  have HN := Lib.hid h
  clear h
  go_enter Try.func17, Try.ntmps17
  go_wp2_with fail
  obtain ⟨v1, ev⟩ : ∃ q, q = w.alloc (.cells #[.slice A n c] 31) := ⟨_, rfl⟩
  have hb1 : Below w.heap.size w v1 := by rw [ev]; exact (Below.refl _ _).alloc (Nat.le_refl _) _
  rw [← ev]
  clear ev
  have HBX := Lib.hid (show Below w.heap.size w v1 from hb1)
  have HNX := HN
  clear hb1
  refine (none_keyed (HNX.out.next HBX.out)).mono ?_
  rintro e v2 ⟨rfl, hv⟩
  have HV := Lib.hid (HBX.out.trans (hv.mono HBX.out.size))
  clear hv
  go_wp2_with fail
  go_ret
  exact ⟨rfl, HV.out⟩
theorem none_derive {w : World} {p : Value} {A A2 : Option Addr} {n c n2 c2 : Nat} (h : NobI w p) : Calls Try.prog 24 #[p, .slice A n c, .slice A2 n2 c2] w fun e w' => e = .returned (.slice none 0 0) ∧ Below w.heap.size w w' := by
  have HN := Lib.hid h
  clear h
  go_enter Try.func24, Try.ntmps24
  go_wp2_with fail
  obtain ⟨v1, ev⟩ : ∃ q, q = w.alloc (.cells #[.slice A n c, .slice A2 n2 c2] 31) := ⟨_, rfl⟩
  have hb1 : Below w.heap.size w v1 := by rw [ev]; exact (Below.refl _ _).alloc (Nat.le_refl _) _
  rw [← ev]
  clear ev
  have HBX := Lib.hid (show Below w.heap.size w v1 from hb1)
  have HNX := HN
  clear hb1
  refine (none_keyed (HNX.out.next HBX.out)).mono ?_
  rintro e v2 ⟨rfl, hv⟩
  have HV := Lib.hid (HBX.out.trans (hv.mono HBX.out.size))
  clear hv
  go_wp2_with fail
  go_ret
  exact ⟨rfl, HV.out⟩
theorem none_sign {w : World} {p : Value} {A A2 : Option Addr} {n c n2 c2 : Nat} (h : NobI w p) : Calls Try.prog 16 #[p, .slice A n c, .slice A2 n2 c2] w fun e w' => e = .returned (.slice none 0 0) ∧ Below w.heap.size w w' := by
  have HN := Lib.hid h
  clear h
  go_enter Try.func16, Try.ntmps16
  go_wp2_with fail
  obtain ⟨v1, ev⟩ : ∃ q, q = w.alloc (.cells #[.slice A n c, .slice A2 n2 c2] 31) := ⟨_, rfl⟩
  have hb1 : Below w.heap.size w v1 := by rw [ev]; exact (Below.refl _ _).alloc (Nat.le_refl _) _
  rw [← ev]
  clear ev
  have HBX := Lib.hid (show Below w.heap.size w v1 from hb1)
  have HNX := HN
  clear hb1
  refine (none_keyed (HNX.out.next HBX.out)).mono ?_
  rintro e v2 ⟨rfl, hv⟩
  have HV := Lib.hid (HBX.out.trans (hv.mono HBX.out.size))
  clear hv
  go_wp2_with fail
  go_ret
  exact ⟨rfl, HV.out⟩
theorem none_seal {w : World} {p : Value} {A A2 A3 : Option Addr} {n c n2 c2 n3 c3 : Nat} {k : Int} (hk : k < 9223372036854775808) (h : NobI w p) : Calls Try.prog 15 #[p, .slice A n c, .int .i64 k, .slice A2 n2 c2, .slice A3 n3 c3] w fun e w' => e = .returned (.slice none 0 0) ∧ Below w.heap.size w w' := by
  have HN := Lib.hid h
  by_cases h0 : k < 0
  · clear h
    go_enter Try.func15, Try.ntmps15
    go_wp2_with fail
    go_ret
    exact ⟨rfl, Below.refl _ _⟩
  obtain ⟨m, em⟩ : ∃ m : Nat, k = (m : Int) := ⟨k.toNat, by omega⟩
  subst em
  clear h
  go_enter Try.func15, Try.ntmps15
  go_wp2_with fail
  go_at_call 42
  refine (eight_any (by omega) w).mono ?_
  rintro e v ⟨Ae, ce, he, _, hv⟩
  obtain ⟨n8, en8⟩ : ∃ n : Nat, n = 8 := ⟨_, rfl⟩
  rw [← en8] at he
  subst he
  clear en8
  have HV := Lib.hid hv
  clear hv
  go_wp2_with fail
  obtain ⟨v1, ev⟩ : ∃ q, q = v.alloc (.cells #[.slice A n c, .slice Ae n8 ce, .slice A2 n2 c2, .slice A3 n3 c3] 31) := ⟨_, rfl⟩
  have hb1 : Below v.heap.size v v1 := by rw [ev]; exact (Below.refl _ _).alloc (Nat.le_refl _) _
  rw [← ev]
  clear ev
  have HBX := Lib.hid (show Below w.heap.size w v1 from HV.out.trans (hb1.mono HV.out.size))
  have HNX := HN
  clear hb1
  refine (none_keyed (HNX.out.next HBX.out)).mono ?_
  rintro e v2 ⟨rfl, hv⟩
  have HV := Lib.hid (HBX.out.trans (hv.mono HBX.out.size))
  clear hv
  go_wp2_with fail
  go_ret
  exact ⟨rfl, HV.out⟩
end Go.Proofs.Ytdddcgkgellbgab
