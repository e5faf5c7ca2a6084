import Derived.Test.YtojggpiolgcjeaaClose
import Derived.Test.YtojggpiolgcjeaaMA
import Derived.Laws.IdiomArrays
namespace Go.Proofs.Ytojggpiolgcjeaa
open Go Go.RowKit Go.ChangeShapes Go.WideShapes Go.ChangeAt
theorem wd_cons0 {d z : Nat} (hd : d < 18446744073709551616) : wd (d + 18446744073709551616 * z) 0 = d := by unfold wd dgt; simp; omega
theorem wd_cons {d z : Nat} (hd : d < 18446744073709551616) (k : Nat) : wd (d + 18446744073709551616 * z) (k + 1) = wd z k := by
  unfold wd dgt
  rw [Nat.pow_succ, Nat.mul_comm (18446744073709551616 ^ k), ← Nat.div_div_eq_div_mul, show (d + 18446744073709551616 * z) / 18446744073709551616 = z by omega]
section
variable {H : Type} {enc : TypeId × Value → H} {P : Program}
theorem trod_words8 {w : World} {base : Nat} {spare : Nat → Bool} {held : Bool} {t e : TypeId} {fuel : Nat} {c0 c1 c2 c3 c4 c5 c6 c7 : Value} {x : DataW H × List MemPlace} (ht : P.underlying t = some (.array 8 e)) (hce : P.cellsOf e = 1)
    (h : DataW.trod enc P w base spare held fuel t [c0, c1, c2, c3, c4, c5, c6, c7] = some x) :
    ∃ y0 y1 y2 y3 y4 y5 y6 y7 n, x = (.agg [y0.1, y1.1, y2.1, y3.1, y4.1, y5.1, y6.1, y7.1], y0.2 ++ (y1.2 ++ (y2.2 ++ (y3.2 ++ (y4.2 ++ (y5.2 ++ (y6.2 ++ y7.2))))))) ∧
      DataW.trod enc P w base spare held n e [c0] = some y0 ∧ DataW.trod enc P w base spare held n e [c1] = some y1 ∧ DataW.trod enc P w base spare held n e [c2] = some y2 ∧ DataW.trod enc P w base spare held n e [c3] = some y3 ∧ DataW.trod enc P w base spare held n e [c4] = some y4 ∧ DataW.trod enc P w base spare held n e [c5] = some y5 ∧ DataW.trod enc P w base spare held n e [c6] = some y6 ∧ DataW.trod enc P w base spare held n e [c7] = some y7 := by
  cases fuel with
  | zero => simp [DataW.trod] at h
  | succ n =>
    unfold DataW.trod at h
    rw [ht] at h
    have r8 : List.range 8 = [0, 1, 2, 3, 4, 5, 6, 7] := rfl
    simp [r8, hce] at h
    obtain ⟨_, h⟩ := h
    cases h0 : DataW.trod enc P w base spare held n e [c0] with
    | none => simp [h0] at h
    | some y0 =>
      cases h1 : DataW.trod enc P w base spare held n e [c1] with
      | none => simp [h0, h1] at h
      | some y1 =>
        cases h2 : DataW.trod enc P w base spare held n e [c2] with
        | none => simp [h0, h1, h2] at h
        | some y2 =>
          cases h3 : DataW.trod enc P w base spare held n e [c3] with
          | none => simp [h0, h1, h2, h3] at h
          | some y3 =>
            cases h4 : DataW.trod enc P w base spare held n e [c4] with
            | none => simp [h0, h1, h2, h3, h4] at h
            | some y4 =>
              cases h5 : DataW.trod enc P w base spare held n e [c5] with
              | none => simp [h0, h1, h2, h3, h4, h5] at h
              | some y5 =>
                cases h6 : DataW.trod enc P w base spare held n e [c6] with
                | none => simp [h0, h1, h2, h3, h4, h5, h6] at h
                | some y6 =>
                  cases h7 : DataW.trod enc P w base spare held n e [c7] with
                  | none => simp [h0, h1, h2, h3, h4, h5, h6, h7] at h
                  | some y7 =>
                    simp [h0, h1, h2, h3, h4, h5, h6, h7] at h
                    exact ⟨y0, y1, y2, y3, y4, y5, y6, y7, n, h.symm, h0, h1, h2, h3, h4, h5, h6, h7⟩
theorem word_of {x : Int} (w : (Lit.int .u64 x).wf = true) : ∃ z : Nat, x = (z : Int) ∧ z < 18446744073709551616 := by
  have h : 0 ≤ x ∧ x ≤ 18446744073709551615 := by simpa [Lit.wf, IntKind.min, IntKind.max, IntKind.signed, IntKind.bits] using w
  exact ⟨x.toNat, by omega, by omega⟩
theorem cons_lt {d z n : Nat} (hd : d < 18446744073709551616) (hz : z < 18446744073709551616 ^ n) : d + 18446744073709551616 * z < 18446744073709551616 ^ (n + 1) := by
  rw [Nat.pow_succ]
  omega
theorem list4_ {α : Type} (l : List α) (h : l.length = 4) : ∃ c0 c1 c2 c3, l = [c0, c1, c2, c3] := by
  match l, h with
  | [c0, c1, c2, c3], _ => exact ⟨c0, c1, c2, c3, rfl⟩
theorem open_num {t e : TypeId} (ht : P.underlying t = some (.array 4 e)) (he : P.underlying e = some (.int .u64)) (hc : P.cellsOf e = 1) (hct : P.cellsOf t = 4) {W : World} {r : Reach} {b0 : Nat} {v : Value} {d : DataW H} {ps : List MemPlace}
    (hval : Value.okWide P W r b0 t v) (h : DataW.Trod enc P W 0 (fun _ => true) true t v d ps) : ∃ x, x < W4 ∧ v = nv x := by
  obtain ⟨cs, rfl, hsz, _⟩ : ∃ cs, v = .agg cs ∧ cs.size = P.cellsOf t ∧ Row.okWide P W r b0 t cs := by
    simpa [Value.okWide, ht] using hval
  rw [hct] at hsz
  obtain ⟨l⟩ := cs
  obtain ⟨c0, c1, c2, c3, rfl⟩ := list4_ l hsz
  obtain ⟨fuel, hf⟩ := h
  obtain ⟨y0, y1, y2, y3, m, hx, hy0, hy1, hy2, hy3⟩ := trod_array4 ht hc hf
  obtain ⟨x0, e0, rfl, w0⟩ := DataW.trod_int he hy0
  obtain ⟨x1, e1, rfl, w1⟩ := DataW.trod_int he hy1
  obtain ⟨x2, e2, rfl, w2⟩ := DataW.trod_int he hy2
  obtain ⟨x3, e3, rfl, w3⟩ := DataW.trod_int he hy3
  simp at e0 e1 e2 e3
  subst e0 e1 e2 e3
  obtain ⟨z0, rfl, l0⟩ := word_of w0
  obtain ⟨z1, rfl, l1⟩ := word_of w1
  obtain ⟨z2, rfl, l2⟩ := word_of w2
  obtain ⟨z3, rfl, l3⟩ := word_of w3
  refine ⟨(z0 + 18446744073709551616 * (z1 + 18446744073709551616 * (z2 + 18446744073709551616 * (z3 + 18446744073709551616 * 0)))), ?_, ?_⟩
  · rw [W4_eq]; omega
  · unfold nv
    rw [wd_cons0 l0]
    rw [wd_cons l0, wd_cons0 l1]
    rw [wd_cons l0, wd_cons l1, wd_cons0 l2]
    rw [wd_cons l0, wd_cons l1, wd_cons l2, wd_cons0 l3]
theorem list8_ {α : Type} (l : List α) (h : l.length = 8) : ∃ c0 c1 c2 c3 c4 c5 c6 c7, l = [c0, c1, c2, c3, c4, c5, c6, c7] := by
  match l, h with
  | [c0, c1, c2, c3, c4, c5, c6, c7], _ => exact ⟨c0, c1, c2, c3, c4, c5, c6, c7, rfl⟩
set_option maxHeartbeats 1000000 in
theorem open_dbl {t e : TypeId} (ht : P.underlying t = some (.array 8 e)) (he : P.underlying e = some (.int .u64)) (hc : P.cellsOf e = 1) (hct : P.cellsOf t = 8) {W : World} {r : Reach} {b0 : Nat} {v : Value} {d : DataW H} {ps : List MemPlace}
    (hval : Value.okWide P W r b0 t v) (h : DataW.Trod enc P W 0 (fun _ => true) true t v d ps) : ∃ x, x < W8 ∧ v = dv x := by
  obtain ⟨cs, rfl, hsz, _⟩ : ∃ cs, v = .agg cs ∧ cs.size = P.cellsOf t ∧ Row.okWide P W r b0 t cs := by
    simpa [Value.okWide, ht] using hval
  rw [hct] at hsz
  obtain ⟨l⟩ := cs
  obtain ⟨c0, c1, c2, c3, c4, c5, c6, c7, rfl⟩ := list8_ l hsz
  obtain ⟨fuel, hf⟩ := h
  obtain ⟨y0, y1, y2, y3, y4, y5, y6, y7, m, hx, hy0, hy1, hy2, hy3, hy4, hy5, hy6, hy7⟩ := trod_words8 ht hc hf
  obtain ⟨x0, e0, rfl, w0⟩ := DataW.trod_int he hy0
  obtain ⟨x1, e1, rfl, w1⟩ := DataW.trod_int he hy1
  obtain ⟨x2, e2, rfl, w2⟩ := DataW.trod_int he hy2
  obtain ⟨x3, e3, rfl, w3⟩ := DataW.trod_int he hy3
  obtain ⟨x4, e4, rfl, w4⟩ := DataW.trod_int he hy4
  obtain ⟨x5, e5, rfl, w5⟩ := DataW.trod_int he hy5
  obtain ⟨x6, e6, rfl, w6⟩ := DataW.trod_int he hy6
  obtain ⟨x7, e7, rfl, w7⟩ := DataW.trod_int he hy7
  simp at e0 e1 e2 e3 e4 e5 e6 e7
  subst e0 e1 e2 e3 e4 e5 e6 e7
  obtain ⟨z0, rfl, l0⟩ := word_of w0
  obtain ⟨z1, rfl, l1⟩ := word_of w1
  obtain ⟨z2, rfl, l2⟩ := word_of w2
  obtain ⟨z3, rfl, l3⟩ := word_of w3
  obtain ⟨z4, rfl, l4⟩ := word_of w4
  obtain ⟨z5, rfl, l5⟩ := word_of w5
  obtain ⟨z6, rfl, l6⟩ := word_of w6
  obtain ⟨z7, rfl, l7⟩ := word_of w7
  refine ⟨(z0 + 18446744073709551616 * (z1 + 18446744073709551616 * (z2 + 18446744073709551616 * (z3 + 18446744073709551616 * (z4 + 18446744073709551616 * (z5 + 18446744073709551616 * (z6 + 18446744073709551616 * (z7 + 18446744073709551616 * 0)))))))), ?_, ?_⟩
  · exact (cons_lt l0 (cons_lt l1 (cons_lt l2 (cons_lt l3 (cons_lt l4 (cons_lt l5 (cons_lt l6 (cons_lt l7 (n := 0) (by decide)))))))))
  · unfold dv
    rw [wd_cons0 l0]
    rw [wd_cons l0, wd_cons0 l1]
    rw [wd_cons l0, wd_cons l1, wd_cons0 l2]
    rw [wd_cons l0, wd_cons l1, wd_cons l2, wd_cons0 l3]
    rw [wd_cons l0, wd_cons l1, wd_cons l2, wd_cons l3, wd_cons0 l4]
    rw [wd_cons l0, wd_cons l1, wd_cons l2, wd_cons l3, wd_cons l4, wd_cons0 l5]
    rw [wd_cons l0, wd_cons l1, wd_cons l2, wd_cons l3, wd_cons l4, wd_cons l5, wd_cons0 l6]
    rw [wd_cons l0, wd_cons l1, wd_cons l2, wd_cons l3, wd_cons l4, wd_cons l5, wd_cons l6, wd_cons0 l7]
end
end Go.Proofs.Ytojggpiolgcjeaa
