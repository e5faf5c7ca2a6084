/-
  Layer 13's law WireCut over contracts. By an AI agent.
-/
import Derived.Test.YtonfdnihllhcbaaWc1
import Derived.Test.YtonfdnihllhcbaaWi9
namespace Go.Proofs.Ytonfdnihllhcbaa
open Go Go.RowKit
set_option maxRecDepth 20000
section
variable {R : RdrP} (K : WireC R)
include K
theorem R_other {w w' : World} {B C B2 C2 : Nat} {p : Value} {bs : List UInt8} {e : Int} (h : R w B2 C2 p bs e) (ho : OutB B C w w') (hd : C ≤ B2 ∨ C2 ≤ B) : R w' B2 C2 p bs e :=
  K.keep h (fun k h1 h2 => ho.block k (Nat.lt_of_lt_of_le h2 (K.le h).2) (by omega)) ho.size
set_option maxHeartbeats 6400000 in
theorem wirecut_law {A1 : Option Addr} {c1 at_ : Nat} {n : Int} {s : List UInt8} (hat : at_ < 65536) (hl : s.length ≤ 140737488351232) (w : World) (r1 : Rd w w.heap.size A1 c1 s) :
    Calls Try.prog 7 #[.int .i64 n, .slice A1 s.length c1, .int .u16 (at_ : Int)] w fun e w' => e = .returned (.bool true) ∧ Below w.heap.size w w' := by
  obtain ⟨k, ek⟩ : ∃ k, k = s.length := ⟨_, rfl⟩
  obtain ⟨a, ea⟩ : ∃ a, a = (numL [] n).length := ⟨_, rfl⟩
  obtain ⟨b, eb⟩ : ∃ b, b = (textL [] s).length := ⟨_, rfl⟩
  have hdn := digs_len n
  have hds := digs_len (s.length : Int)
  have ha : 1 ≤ a ∧ a ≤ 6 := by rw [ea]; unfold numL; rw [List.nil_append]; exact hdn
  have hb : 1 ≤ b ∧ b ≤ k + 6 := by rw [eb, ek]; unfold textL numL; rw [List.nil_append, List.length_append]; omega
  obtain ⟨i, ei⟩ : ∃ i, i = at_ % a := ⟨_, rfl⟩
  obtain ⟨j, ej⟩ : ∃ j, j = at_ % b := ⟨_, rfl⟩
  have hi : i < a := by rw [ei]; exact Nat.mod_lt _ (by omega)
  have hj : j < b := by rw [ej]; exact Nat.mod_lt _ (by omega)
  have hjf : j < Far := by
    have : j ≤ at_ := by rw [ej]; exact Nat.mod_le _ _
    unfold Far; omega
  have t1 : (at_ : Int).tmod (a : Int) = (i : Int) := by rw [Int.tmod_eq_emod_of_nonneg (by omega), ei]; rfl
  have t2 : (at_ : Int).tmod (b : Int) = (j : Int) := by rw [Int.tmod_eq_emod_of_nonneg (by omega), ej]; rfl
  have w0 : IntKind.i64.wrap (at_ : Int) = (at_ : Int) := by rw [IntKind.wrap_i64]; omega
  have w1 : IntKind.i64.wrap (i : Int) = (i : Int) := by rw [IntKind.wrap_i64]; omega
  have w2 : IntKind.i64.wrap (j : Int) = (j : Int) := by rw [IntKind.wrap_i64]; omega
  have c1' := numR_cut n (j := i) (by have : (digs n).length = a := by rw [ea]; unfold numL; rw [List.nil_append]
                                      omega)
  have c2' := textR_cut s (j := j) (by rw [← eb]; exact hj) hjf (k : Int) (by rw [ek]; exact Int.le_refl _)
  have HI := Lib.hid (show ((digs n).take i).length = i by rw [List.length_take]; have : (digs n).length = a := by rw [ea]; unfold numL; rw [List.nil_append]
                                                           omega)
  have HJ := Lib.hid (show ((textL [] s).take j).length = j by rw [List.length_take, ← eb]; omega)
  have HC1 := Lib.hid c1'
  have HC2 := Lib.hid c2'
  have HEA := Lib.hid ea.symm
  have HEB := Lib.hid eb.symm
  have HEK := Lib.hid ek.symm
  have HL := Lib.hid (And.intro (show k ≤ 140737488351232 by omega) (And.intro hi (And.intro hj (And.intro ha hb))))
  have hc := Below.refl w.heap.size w
  have g1 : ¬ (a : Int) < 1 := by omega
  have g2 : ¬ (b : Int) < 1 := by omega
  have g3 : ((a : Int) == 0) = false := by simp; omega
  have g4 : ((b : Int) == 0) = false := by simp; omega
  rw [← ek]
  clear ei ej c1' c2' ea eb ek hdn hds hjf hi hj hl ha hb hat
  go_enter Try.func7, Try.ntmps7
  go_wp2_with fail
  go_at_call 10
  refine (wc_putI K rfl HEA.out w).mono ?_
  rintro z v1 ⟨Aa, ca, rfl, ra, h0⟩
  replace r1 := r1.keep h0
  replace hc := hc.trans (h0.mono hc.size)
  clear h0
  go_wp2_with fail
  go_at_call 9
  refine (own13_len HEK.out v1 r1 hc.size (by have := HL.out.1; omega)).mono ?_
  rintro z v2 ⟨As, cs, rfl, os, h0⟩
  replace ra := (ra.keep h0).mono h0.size
  replace r1 := r1.keep (h0.mono hc.size)
  replace hc := hc.trans (h0.mono hc.size)
  have rs := os.rd
  clear h0 os
  go_wp2_with fail
  go_at_call 12
  refine (wc_text K rfl HEB.out HEK.out (by have := HL.out.1; omega) v2 rs).mono ?_
  rintro z v3 ⟨Ab, cb, rfl, rb, h0⟩
  replace ra := (ra.keep h0).mono h0.size
  replace r1 := r1.keep (h0.mono hc.size)
  replace hc := hc.trans (h0.mono hc.size)
  clear h0 rs
  have q1 : i ≤ ca := by have h1 := ra.cap; have h2 := HL.out.2.1; rw [HEA.out] at h1; omega
  have q2 : j ≤ cb := by have h1 := rb.cap; have h2 := HL.out.2.2.1; rw [HEB.out] at h1; omega
  have ra2 := ra.pre0 (n := i) (by rw [HEA.out]; exact Nat.le_of_lt HL.out.2.1)
  have rb2 := rb.pre0 (n := j) (by rw [HEB.out]; exact Nat.le_of_lt HL.out.2.2.1)
  rw [show numL [] n = digs n from rfl] at ra2
  clear ra rb
  go_wp2_with fail
  go_at_call 17
  refine (wc_read K HI.out v3 ra2 (by have := HL.out; omega)).mono ?_
  rintro z v4 ⟨p, rfl, q4, h0⟩
  replace rb2 := (rb2.keep h0).mono h0.size
  have hB3 := hc.size
  replace r1 := r1.keep (h0.mono hc.size)
  replace hc := hc.trans (h0.mono hc.size)
  clear h0 ra2 g1 g3
  go_wp2_with fail
  go_at_call 17
  refine (wc_read K HJ.out v4 rb2 (by have := HL.out; omega)).mono ?_
  rintro z v5 ⟨p2, rfl, q5, h0⟩
  replace q4 := K.next q4 h0
  have hB4 := hc.size
  replace r1 := r1.keep (h0.mono hc.size)
  replace hc := hc.trans (h0.mono hc.size)
  clear h0 rb2 g2 g4 q1 q2 t1 t2 w0 w1 w2
  have HB := Lib.hid (And.intro hB3 (And.intro hB4 (And.intro (K.le q4).1 (K.le q5).1)))
  have HK := Lib.hid (K.number 0 1099511627776 v5 q4)
  rw [HC1.out] at HK
  have HQ5 := Lib.hid q5
  have HQ4 := Lib.hid q4
  clear q5 q4 hB3 hB4
  go_wp2_with fail
  go_at_call 24
  refine HK.out.mono ?_
  rintro z v6 ⟨rfl, q4, h0⟩
  have q5 := R_other K HQ5.out h0 (.inl (Nat.le_refl _))
  have hb0 := h0.low (Nat.le_trans (K.le HQ4.out).1 (K.le HQ4.out).2) HB.out.1
  have HQ6 := Lib.hid (And.intro q4 (And.intro q5 (hc.trans hb0)))
  clear HK q4 q5 h0 hb0 hc HQ5 HQ4 r1
  go_wp2_with fail
  go_at_call 20
  refine (wc_err K v6 HQ6.out.1).mono ?_
  rintro z v7 ⟨rfl, h0⟩
  have q5 := K.next HQ6.out.2.1 h0
  have hc := HQ6.out.2.2.trans (h0.mono HQ6.out.2.2.size)
  have HK := Lib.hid (K.text (k : Int) v7 q5)
  rw [HC2.out] at HK
  have HQ5 := Lib.hid (And.intro q5 hc)
  clear HQ6 q5 h0 hc
  go_wp2_with fail
  go_at_call 25
  refine HK.out.mono ?_
  rintro z v8 ⟨Ax, cx, rfl, rx, _, q5, h0⟩
  have hb0 := h0.low (Nat.le_trans (K.le HQ5.out.1).1 (K.le HQ5.out.1).2) HB.out.2.1
  have HQ6 := Lib.hid (And.intro q5 (HQ5.out.2.trans hb0))
  clear HK q5 h0 hb0 HQ5 rx
  go_wp2_with fail
  go_at_call 20
  refine (wc_err K v8 HQ6.out.1).mono ?_
  rintro z v9 ⟨rfl, h0⟩
  have HC := Lib.hid (HQ6.out.2.trans (h0.mono HQ6.out.2.size))
  clear h0 HQ6
  go_wp2_with fail
  go_at_call 16
  refine (awake13 K v9).mono ?_
  rintro z v10 ⟨rfl, h0⟩
  have HF := Lib.hid (HC.out.trans (h0.mono HC.out.size))
  clear h0 HC
  go_wp2_with fail
  go_ret
  exact ⟨rfl, HF.out⟩
end
end Go.Proofs.Ytonfdnihllhcbaa
