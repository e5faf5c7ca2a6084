/-
  Layer 19: where a law stands: an ideal suite, and rows of bytes beside it; regions that draw, with such steps in them. By an AI agent.
-/
import Derived.Test.YtdddcgkgellbgabSl1
import Derived.Test.YtdddcgkgellbgabPar
namespace Go.Proofs.Ytdddcgkgellbgab
open Go Go.RowKit
set_option maxRecDepth 20000
theorem run_convW {P : Program} {o : Oper} {a : Act} {w w' : World} {src dst : TypeId} {s : Operand} {v r : Value} (ho : o.op = .convert src dst s) (h1 : a.eval s = v) (hc : (convert src dst v).run P w = .ok r w') : (execOp a.eval o).run P w = .ok (.value r) w' := by
  unfold execOp
  simp only [ho, h1, Sem.run_bind, hc, Result.andThen_ok, Sem.run_pure]
abbrev RowA := Option Addr × Nat × List UInt8
/-- From w0 on: an ideal suite at p with its terms, and rows that read as they are listed, outside what it writes. -/
def Sit (R : IdlP) (w0 w : World) (p : Value) (L : List Trm) (D : Nat) (l : List RowA) : Prop :=
  ∃ F S, R w F S p L D ∧ (∀ k, F k → w0.heap.size ≤ k) ∧ Below w0.heap.size w0 w ∧ ∀ x ∈ l, Rd w w.heap.size x.1 x.2.1 x.2.2 ∧ (x.2.2 ≠ [] → ∀ ad, x.1 = some ad → ¬ F ad.block)
theorem Own.ge_ {w : World} {B c : Nat} {e : TypeId} {A : Option Addr} {bs : List UInt8} (h : Own w B e A c bs) : ∀ ad, A = some ad → B ≤ ad.block := by
  intro ad ea
  obtain ⟨_, h2⟩ := h
  rcases h2 with ⟨hv, _⟩ | ⟨g, cap, cur, hv, hB, _⟩
  · simp only [Value.slice.injEq] at hv
    rw [hv.1] at ea; cases ea
  · simp only [Value.slice.injEq] at hv
    rw [hv.1, Option.some.injEq] at ea
    subst ea
    exact hB
theorem Rd.outF {w w' : World} {F : Nat → Prop} {A : Option Addr} {c : Nat} {bs : List UInt8} (h : Rd w w.heap.size A c bs) (ho : OutF F w w') (hn : bs ≠ [] → ∀ ad, A = some ad → ¬ F ad.block) : Rd w' w'.heap.size A c bs :=
  ⟨h.cap, h.nil, fun hb => by
    obtain ⟨b, o, e, hlt, hc⟩ := h.some_ hb
    refine ⟨b, o, e, Nat.lt_of_lt_of_le hlt ho.size, fun k hk => ?_⟩
    rw [← hc k hk]
    unfold World.cell?
    rw [ho.block b hlt (hn hb _ e)]⟩
section
variable {R : IdlP} {w0 w w' : World} {p : Value} {L L' : List Trm} {D D' : Nat} {l : List RowA}
theorem Sit.below (h : Sit R w0 w p L D l) : Below w0.heap.size w0 w := by obtain ⟨F, S, _, _, hb, _⟩ := h; exact hb
theorem Sit.row (h : Sit R w0 w p L D l) {A : Option Addr} {c : Nat} {bs : List UInt8} (hm : (A, c, bs) ∈ l) : Rd w w.heap.size A c bs := by obtain ⟨F, S, _, _, _, hr⟩ := h; exact (hr _ hm).1
theorem Sit.next (K : IdlC R) (h : Sit R w0 w p L D l) (hb : Below w.heap.size w w') : Sit R w0 w' p L D l := by
  obtain ⟨F, S, hR, hF, hb0, hr⟩ := h
  exact ⟨F, S, K.keep hR fun k hk => hb.block k (K.lt hR k hk), hF, hb0.trans (hb.mono hb0.size), fun x hx => ⟨((hr x hx).1.keep hb).mono hb.size, (hr x hx).2⟩⟩
theorem Sit.put (K : IdlC R) (h : Sit R w0 w p L D l) (hb : Below w.heap.size w w') {A : Option Addr} {c : Nat} {bs : List UInt8} (ho : Rd w' w'.heap.size A c bs) (hg : ∀ ad, A = some ad → w.heap.size ≤ ad.block) : Sit R w0 w' p L D ((A, c, bs) :: l) := by
  obtain ⟨F, S, hR, hF, hb0, hr⟩ := h
  refine ⟨F, S, K.keep hR fun k hk => hb.block k (K.lt hR k hk), hF, hb0.trans (hb.mono hb0.size), fun x hx => ?_⟩
  rcases List.mem_cons.1 hx with rfl | hx
  · exact ⟨ho, fun _ ad ea hf => by have := K.lt hR _ (.inl hf); have := hg ad ea; omega⟩
  · exact ⟨((hr x hx).1.keep hb).mono hb.size, (hr x hx).2⟩
theorem Sit.add (K : IdlC R) (h : Sit R w0 w p L D l) (hb : Below w.heap.size w w') {A : Option Addr} {c : Nat} {bs : List UInt8} {e : TypeId} (ho : Own w' w.heap.size e A c bs) : Sit R w0 w' p L D ((A, c, bs) :: l) := by
  obtain ⟨F, S, hR, hF, hb0, hr⟩ := h
  refine ⟨F, S, K.keep hR fun k hk => hb.block k (K.lt hR k hk), hF, hb0.trans (hb.mono hb0.size), fun x hx => ?_⟩
  rcases List.mem_cons.1 hx with rfl | hx
  · exact ⟨ho.rd, fun _ ad ea hf => by have := K.lt hR _ (.inl hf); have := ho.ge_ ad ea; omega⟩
  · exact ⟨((hr x hx).1.keep hb).mono hb.size, (hr x hx).2⟩
/-- A row from elsewhere: from w0 it was there. -/
theorem Sit.old (h : Sit R w0 w p L D l) {A : Option Addr} {c : Nat} {bs : List UInt8} (hr0 : Rd w0 w0.heap.size A c bs) : Sit R w0 w p L D ((A, c, bs) :: l) := by
  obtain ⟨F, S, hR, hF, hb0, hr⟩ := h
  refine ⟨F, S, hR, hF, hb0, fun x hx => ?_⟩
  rcases List.mem_cons.1 hx with rfl | hx
  · refine ⟨(hr0.keep hb0).mono hb0.size, fun hb ad ea hf => ?_⟩
    obtain ⟨b, o, e, hlt, _⟩ := hr0.some_ hb
    have h1 := hF _ hf
    have e' : some ad = some ⟨b, o, none⟩ := ea.symm.trans e
    cases e'
    exact absurd hlt (Nat.not_lt.2 h1)
  · exact hr x hx
/-- Behind a question. -/
theorem Sit.told {w' : World} {A : Option Addr} {c : Nat} {ans : List UInt8} {F S : Nat → Prop} (hF : ∀ k, F k → w0.heap.size ≤ k) (hb0 : Below w0.heap.size w0 w)
    (hr : ∀ x ∈ l, Rd w w.heap.size x.1 x.2.1 x.2.2 ∧ (x.2.2 ≠ [] → ∀ ad, x.1 = some ad → ¬ F ad.block)) (ht : Told R w F S p L' D' A c ans w') : Sit R w0 w' p L' D' ((A, c, ans) :: l) := by
  obtain ⟨own, ho, F5, S5, hR, h1, h2, h3⟩ := ht
  refine ⟨F5, S5, hR, fun k hk => ?_, hb0.trans (ho.below hF hb0.size), fun x hx => ?_⟩
  · rcases h1 k hk with h | h
    · exact hF k h
    · exact Nat.le_trans hb0.size h
  · rcases List.mem_cons.1 hx with rfl | hx
    · exact ⟨own.rd, fun _ ad ea => (h3 ad ea).1⟩
    · refine ⟨(hr x hx).1.outF ho (hr x hx).2, fun hb ad ea hf => ?_⟩
      rcases h1 _ hf with h | h
      · exact (hr x hx).2 hb ad ea h
      · obtain ⟨b, o, e, hlt, _⟩ := (hr x hx).1.some_ hb
        rw [e] at ea
        cases ea
        exact absurd hlt (Nat.not_lt.2 h)
theorem sit_ask {f : FuncId} {args : Array Value} {ans : List UInt8} (h : Sit R w0 w p L D l) (hc : ∀ F S, R w F S p L D → AskQ R f args w F S p L' D' ans) :
    Calls Try.prog f args w fun x w' => ∃ A c, x = .returned (.slice A ans.length c) ∧ Sit R w0 w' p L' D' ((A, c, ans) :: l) := by
  obtain ⟨F, S, hR, hF, hb0, hr⟩ := h
  refine (hc F S hR).mono ?_
  rintro x w' ⟨A, c, rfl, ht⟩
  exact ⟨A, c, rfl, Sit.told hF hb0 hr ht⟩
/-- What only reads. -/
theorem sit_use {P : Prop} (h : Sit R w0 w p L D l) (hc : ∀ F S, R w F S p L D → P) : P := by
  obtain ⟨F, S, hR, _⟩ := h
  exact hc F S hR
theorem sit_new (N : NewC R) (w : World) (r0 : List RowA) (hr : ∀ x ∈ r0, Rd w w.heap.size x.1 x.2.1 x.2.2) : Calls Try.prog 9 #[] w fun x w' => ∃ p, x = .returned p ∧ Sit R w w' p [] 0 r0 := by
  refine (N w).mono ?_
  rintro x w' ⟨p, F, S, rfl, hR, hF, hb⟩
  have h0 : Sit R w w' p [] 0 [] := ⟨F, S, hR, fun k hk => hF k (.inl hk), hb, fun x hx => (nomatch hx)⟩
  refine ⟨p, rfl, ?_⟩
  induction r0 with
  | nil => exact h0
  | cons x r ih => exact (ih fun y hy => hr y (by simp [hy])).old (A := x.1) (c := x.2.1) (bs := x.2.2) (hr x (by simp))
end
/-- The state behind those that have been, which stand in a chain. -/
def stOf (Lb : Nat → Bool) : List Trm × Nat → List (Nat × (List Trm × Nat)) → List Trm × Nat
  | s, [] => s
  | s, (i, t) :: r => if Lb i then stOf Lb t r else s
theorem stOf_go {Lb : Nat → Bool} {s t : List Trm × Nat} {i : Nat} {r : List (Nat × (List Trm × Nat))} (h : Lb i = true) : stOf Lb s ((i, t) :: r) = stOf Lb t r := if_pos h
theorem stOf_stop {Lb : Nat → Bool} {s t : List Trm × Nat} {i : Nat} {r : List (Nat × (List Trm × Nat))} (h : Lb i = false) : stOf Lb s ((i, t) :: r) = s := if_neg (by rw [h]; decide)
theorem stOf_nil {Lb : Nat → Bool} {s : List Trm × Nat} : stOf Lb s [] = s := rfl
theorem lset_same {Lb : Nat → Bool} {i : Nat} : lset Lb i i = true := if_pos rfl
theorem lset_off {Lb : Nat → Bool} {i j : Nat} {b : Bool} (h : Lb j = b) (hn : j ≠ i) : lset Lb i j = b := (if_neg hn).trans h
theorem stOf_off {Lb : Nat → Bool} {i : Nat} : ∀ {sts : List (Nat × (List Trm × Nat))} {s : List Trm × Nat}, (∀ x ∈ sts, x.1 ≠ i) → stOf (lset Lb i) s sts = stOf Lb s sts
  | [], _, _ => rfl
  | (j, t) :: r, s, h => by
    have h1 := h (j, t) (by simp)
    have h2 := stOf_off (Lb := Lb) (s := t) (fun x hx => h x (List.mem_cons_of_mem _ hx) : ∀ x ∈ r, x.1 ≠ i)
    have e : lset Lb i j = Lb j := if_neg h1
    unfold stOf
    rw [e, h2]
/-- In a region that draws. -/
def SitT (R : IdlP) (w0 : World) (p : Value) (l0 : List RowA) (s0 : List Trm × Nat) (sts : List (Nat × (List Trm × Nat))) (rows : List (Nat × List UInt8)) (Lb : Nat → Bool) (Vb : Nat → Value) (wz : World) : Prop :=
  ∃ l, Sit R w0 wz p (stOf Lb s0 sts).1 (stOf Lb s0 sts).2 l ∧ (∀ x ∈ l0, x ∈ l) ∧ ∀ y ∈ rows, Lb y.1 = true → ∃ A c, Vb y.1 = .slice A y.2.length c ∧ (A, c, y.2) ∈ l
section
variable {R : IdlP} {w0 wz wz' : World} {p : Value} {l0 : List RowA} {s0 : List Trm × Nat} {sts : List (Nat × (List Trm × Nat))} {rows : List (Nat × List UInt8)} {Lb : Nat → Bool} {Vb : Nat → Value}
theorem SitT.start {w : World} (h : Sit R w0 w p s0.1 s0.2 l0) (hst : stOf Lb s0 sts = s0) (hr : ∀ y ∈ rows, Lb y.1 = false) : SitT R w0 p l0 s0 sts rows Lb Vb w :=
  ⟨l0, by rw [hst]; exact h, fun _ h => h, fun y hy hl => by rw [hr y hy] at hl; cases hl⟩
theorem SitT.keep (h : SitT R w0 p l0 s0 sts rows Lb Vb wz) {i : Nat} {v : Value} (hst : stOf (lset Lb i) s0 sts = stOf Lb s0 sts) (hr : ∀ y ∈ rows, y.1 ≠ i) : SitT R w0 p l0 s0 sts rows (lset Lb i) (vset Vb i v) wz := by
  obtain ⟨l, h1, h2, h3⟩ := h
  refine ⟨l, by rw [hst]; exact h1, h2, fun y hy hl => ?_⟩
  have hn := hr y hy
  have e1 : lset Lb i y.1 = Lb y.1 := by unfold lset; rw [if_neg hn]
  have e2 : vset Vb i v y.1 = Vb y.1 := by unfold vset; rw [if_neg hn]
  rw [e1] at hl
  rw [e2]
  exact h3 y hy hl
/-- A row of the region's own, in a world ahead. -/
theorem SitT.put (K : IdlC R) (h : SitT R w0 p l0 s0 sts rows Lb Vb wz) {i : Nat} {A : Option Addr} {c : Nat} {bs : List UInt8} (hst : stOf (lset Lb i) s0 sts = stOf Lb s0 sts) (hi : ∀ y ∈ rows, y.1 = i → y.2 = bs)
    (ho : Rd wz' wz'.heap.size A c bs) (hg : ∀ ad, A = some ad → wz.heap.size ≤ ad.block) (hb : Below wz.heap.size wz wz') : SitT R w0 p l0 s0 sts rows (lset Lb i) (vset Vb i (.slice A bs.length c)) wz' := by
  obtain ⟨l, h1, h2, h3⟩ := h
  refine ⟨(A, c, bs) :: l, by rw [hst]; exact h1.put K hb ho hg, fun x hx => by simp [h2 x hx], fun y hy hl => ?_⟩
  by_cases hn : y.1 = i
  · rw [hn, hi y hy hn]
    exact ⟨A, c, by unfold vset; rw [if_pos rfl], by simp⟩
  · have e1 : lset Lb i y.1 = Lb y.1 := by unfold lset; rw [if_neg hn]
    have e2 : vset Vb i (.slice A bs.length c) y.1 = Vb y.1 := by unfold vset; rw [if_neg hn]
    rw [e1] at hl
    rw [e2]
    obtain ⟨A', c', q1, q2⟩ := h3 y hy hl
    exact ⟨A', c', q1, by simp [q2]⟩
/-- A row of the region's own. -/
theorem SitT.own (K : IdlC R) (h : SitT R w0 p l0 s0 sts rows Lb Vb wz) {i : Nat} {A : Option Addr} {c : Nat} {bs : List UInt8} {e : TypeId} (hst : stOf (lset Lb i) s0 sts = stOf Lb s0 sts) (hi : ∀ y ∈ rows, y.1 = i → y.2 = bs)
    (ho : Own wz' wz.heap.size e A c bs) (hb : Below wz.heap.size wz wz') : SitT R w0 p l0 s0 sts rows (lset Lb i) (vset Vb i (.slice A bs.length c)) wz' := by
  obtain ⟨l, h1, h2, h3⟩ := h
  refine ⟨(A, c, bs) :: l, by rw [hst]; exact h1.add K hb ho, fun x hx => by simp [h2 x hx], fun y hy hl => ?_⟩
  by_cases hn : y.1 = i
  · rw [hn, hi y hy hn]
    exact ⟨A, c, by unfold vset; rw [if_pos rfl], by simp⟩
  · have e1 : lset Lb i y.1 = Lb y.1 := by unfold lset; rw [if_neg hn]
    have e2 : vset Vb i (.slice A bs.length c) y.1 = Vb y.1 := by unfold vset; rw [if_neg hn]
    rw [e1] at hl
    rw [e2]
    obtain ⟨A', c', q1, q2⟩ := h3 y hy hl
    exact ⟨A', c', q1, by simp [q2]⟩
/-- The world moves on, nothing is listed. -/
theorem SitT.next (K : IdlC R) (h : SitT R w0 p l0 s0 sts rows Lb Vb wz) {i : Nat} {v : Value} (hst : stOf (lset Lb i) s0 sts = stOf Lb s0 sts) (hr : ∀ y ∈ rows, y.1 ≠ i) (hb : Below wz.heap.size wz wz') : SitT R w0 p l0 s0 sts rows (lset Lb i) (vset Vb i v) wz' := by
  obtain ⟨l, h1, h2, h3⟩ := h
  exact SitT.keep ⟨l, h1.next K hb, h2, h3⟩ hst hr
/-- A question, answered by bytes. -/
theorem sitT_ask {f : FuncId} {args : Array Value} {ans : List UInt8} {L L' : List Trm} {D D' i : Nat} (h : SitT R w0 p l0 s0 sts rows Lb Vb wz) (h0 : stOf Lb s0 sts = (L, D)) (h1 : stOf (lset Lb i) s0 sts = (L', D')) (hi : ∀ y ∈ rows, y.1 = i → y.2 = ans)
    (hc : ∀ F S, R wz F S p L D → AskQ R f args wz F S p L' D' ans) :
    Calls Try.prog f args wz fun x w' => ∃ v, x = .returned v ∧ SitT R w0 p l0 s0 sts rows (lset Lb i) (vset Vb i v) w' := by
  obtain ⟨l, hs, h2, h3⟩ := h
  rw [h0] at hs
  refine (sit_ask hs hc).mono ?_
  rintro x w' ⟨A, c, rfl, hs'⟩
  refine ⟨_, rfl, (A, c, ans) :: l, by rw [h1]; exact hs', fun x hx => by simp [h2 x hx], fun y hy hl => ?_⟩
  by_cases hn : y.1 = i
  · rw [hn, hi y hy hn]
    exact ⟨A, c, by unfold vset; rw [if_pos rfl], by simp⟩
  · have e1 : lset Lb i y.1 = Lb y.1 := by unfold lset; rw [if_neg hn]
    have e2 : vset Vb i (.slice A ans.length c) y.1 = Vb y.1 := by unfold vset; rw [if_neg hn]
    rw [e1] at hl
    rw [e2]
    obtain ⟨A', c', q1, q2⟩ := h3 y hy hl
    exact ⟨A', c', q1, by simp [q2]⟩
/-- A row that is listed. -/
theorem SitT.row (h : SitT R w0 p l0 s0 sts rows Lb Vb wz) {i : Nat} {bs : List UInt8} (hm : (i, bs) ∈ rows) (hl : Lb i = true) : ∃ A c, Vb i = .slice A bs.length c ∧ Rd wz wz.heap.size A c bs := by
  obtain ⟨l, hs, _, h3⟩ := h
  obtain ⟨A, c, q1, q2⟩ := h3 _ hm hl
  exact ⟨A, c, q1, hs.row q2⟩
theorem SitT.base (h : SitT R w0 p l0 s0 sts rows Lb Vb wz) {A : Option Addr} {c : Nat} {bs : List UInt8} (hm : (A, c, bs) ∈ l0) : Rd wz wz.heap.size A c bs := by
  obtain ⟨l, hs, h2, _⟩ := h
  exact hs.row (h2 _ hm)
theorem SitT.below (h : SitT R w0 p l0 s0 sts rows Lb Vb wz) : Below w0.heap.size w0 wz := by
  obtain ⟨l, hs, _, _⟩ := h
  exact hs.below
theorem SitT.use {P : Prop} {L : List Trm} {D : Nat} (h : SitT R w0 p l0 s0 sts rows Lb Vb wz) (h0 : stOf Lb s0 sts = (L, D)) (hc : ∀ F S, R wz F S p L D → P) : P := by
  obtain ⟨l, hs, _, _⟩ := h
  rw [h0] at hs
  exact sit_use hs hc
end
end Go.Proofs.Ytdddcgkgellbgab
