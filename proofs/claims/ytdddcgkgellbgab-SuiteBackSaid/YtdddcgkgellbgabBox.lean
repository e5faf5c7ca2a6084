/-
  A region that draws its order and lays its results into boxes of its own (allocations and stores at whatever place in the order): each operation is asked once. Of no program. By an AI agent.
-/
import Derived.Test.YtdddcgkgellbgabInv
namespace Go.Proofs.Ytdddcgkgellbgab
open Go Go.RowKit
section
variable {P : Program} {ops : Array Oper} {S : World → Prop}
/-- Another world, in which the block g alone is another one. -/
structure Only (g : Nat) (w w' : World) : Prop where
  os : w'.os = w.os
  tape : w'.tape = w.tape
  output : w'.output = w.output
  size : w'.heap.size = w.heap.size
  block : ∀ k, k ≠ g → w'.heap[k]? = w.heap[k]?
theorem Only.refl (g : Nat) (w : World) : Only g w w := ⟨rfl, rfl, rfl, rfl, fun _ _ => rfl⟩
theorem Only.trans {g : Nat} {a b c : World} (h : Only g a b) (k : Only g b c) : Only g a c := ⟨k.os.trans h.os, k.tape.trans h.tape, k.output.trans h.output, k.size.trans h.size, fun i hi => (k.block i hi).trans (h.block i hi)⟩
theorem Only.below {g B : Nat} {w w' : World} (h : Only g w w') (hB : B ≤ g) : Below B w w' := ⟨h.os, h.tape, h.output, Nat.le_of_eq h.size.symm, fun k hk => h.block k (by omega)⟩
theorem Only.setCell (w : World) (p : Addr) (v : Value) : Only p.block w (w.setCell p v) := by
  have hb := (Below.refl p.block w).setCell (Nat.le_refl _) v
  exact ⟨hb.os, hb.tape, hb.output, by simp, fun k hk => Below.heap_setCell w p v k (Ne.symm hk |>.symm)⟩
theorem OwnF.only {w w' : World} {B c n g g' : Nat} {e : TypeId} {f : Nat → Value} (h : OwnF w B e (some ⟨g, 0, none⟩) c n f) (ho : Only g' w w') (hg : g' ≠ g) : OwnF w' B e (some ⟨g, 0, none⟩) c n f := by
  obtain ⟨hl, h2⟩ := h
  refine ⟨hl, ?_⟩
  rcases h2 with h | ⟨g1, cap, cur, hv, hB, hh, r⟩
  · exact .inl h
  · have e1 : g = g1 := by simp only [Value.slice.injEq, Option.some.injEq, Addr.mk.injEq] at hv; exact hv.1.1
    subst e1
    exact .inr ⟨g, cap, cur, hv, hB, (ho.block g (Ne.symm hg)).trans hh, r⟩
/-- What is known of an operation's result: a value; a box of the region's own (an allocation); the box of operation i holds these cells (a store into it). -/
inductive Fact where
  | val (v : Value)
  | box (e : TypeId) (n : Nat)
  | holds (i : Nat) (e : TypeId) (n : Nat) (f : Nat → Value)
  | dig (x k : Nat)
def Fact.till : Fact → Option Nat
  | .dig _ k => some k
  | _ => none
def Fact.isBox : Fact → Bool
  | .box _ _ => true
  | _ => false
def Fact.at_ : Fact → Option Nat
  | .holds i _ _ _ => some i
  | _ => none
def slotOf (dsts : List (Option Nat)) (j : Nat) : Nat := (dsts.getD j none).getD 0
def Fact.ok (B : Nat) (dsts : List (Option Nat)) (j : Nat) (u : Nat → Value) (w : World) (L : Nat → Bool) : Fact → Prop
  | .val c => u (slotOf dsts j) = c
  | .box e n => ∃ g f, u (slotOf dsts j) = .pointer (some ⟨g, 0, none⟩) ∧ OwnF w B e (some ⟨g, 0, none⟩) n n f
  | .holds i e n f => ∃ g, u (slotOf dsts i) = .pointer (some ⟨g, 0, none⟩) ∧ OwnF w B e (some ⟨g, 0, none⟩) n n f
  | .dig x k => L k = true ∨ ∃ A c n, u (slotOf dsts j) = .slice A n c ∧ Dig w w.heap.size A c n x ∧ Can n x
variable {B : Nat} {dsts : List (Option Nat)} {u : Nat → Value} {w w' : World} {L : Nat → Bool}
theorem Fact.keep {j : Nat} {F : Fact} (h : F.ok B dsts j u w L) (hb : Below w.heap.size w w') : F.ok B dsts j u w' L := by
  cases F with
  | val c => exact h
  | box e n => obtain ⟨g, f, h1, h2⟩ := h; exact ⟨g, f, h1, OwnF.keep h2 hb⟩
  | holds i e n f => obtain ⟨g, h1, h2⟩ := h; exact ⟨g, h1, OwnF.keep h2 hb⟩
  | dig x k =>
    rcases h with h | ⟨A, c, n, h1, h2, h3⟩
    · exact .inl h
    · exact .inr ⟨A, c, n, h1, h2.next hb, h3⟩
theorem Fact.mono {j : Nat} {F : Fact} {L' : Nat → Bool} (h : F.ok B dsts j u w L) (hL : ∀ k, L k = true → L' k = true) : F.ok B dsts j u w L' := by
  cases F with
  | val c => exact h
  | box e n => exact h
  | holds i e n f => exact h
  | dig x k => exact h.imp (hL k) id
theorem Fact.upd {j d : Nat} {v : Value} {F : Fact} (h : F.ok B dsts j u w L) (h1 : slotOf dsts j ≠ d ∨ F.at_ ≠ none) (h2 : ∀ i, F.at_ = some i → slotOf dsts i ≠ d) : F.ok B dsts j (upd u d v) w L := by
  cases F with
  | val c => have : slotOf dsts j ≠ d := h1.resolve_right (by simp [Fact.at_]); show Go.Proofs.Ytdddcgkgellbgab.upd u d v _ = c; unfold Go.Proofs.Ytdddcgkgellbgab.upd; rw [if_neg this]; exact h
  | box e n =>
    have : slotOf dsts j ≠ d := h1.resolve_right (by simp [Fact.at_])
    obtain ⟨g, f, e1, e2⟩ := h
    exact ⟨g, f, by unfold Go.Proofs.Ytdddcgkgellbgab.upd; rw [if_neg this]; exact e1, e2⟩
  | holds i e n f =>
    obtain ⟨g, e1, e2⟩ := h
    exact ⟨g, by unfold Go.Proofs.Ytdddcgkgellbgab.upd; rw [if_neg (h2 i rfl)]; exact e1, e2⟩
  | dig x k =>
    have : slotOf dsts j ≠ d := h1.resolve_right (by simp [Fact.at_])
    rcases h with h | ⟨A, c, n, e1, e2, e3⟩
    · exact .inl h
    · exact .inr ⟨A, c, n, by unfold Go.Proofs.Ytdddcgkgellbgab.upd; rw [if_neg this]; exact e1, e2, e3⟩
/-- What an operation must do. -/
def GB (P : Program) (ops : Array Oper) (B : Nat) (dsts : List (Option Nat)) (Fs : List Fact) (k : Nat) (o : Oper) (a : Act) (u : Nat → Value) (w : World) (L : Nat → Bool) : Prop :=
  match o.dst with
  | some d => (Region.wanted o (yielded ops a.tmps) = true ∧
      ((∃ v w', (execOp a.eval o).run P w = .ok (.value v) w' ∧ (Fs.getD k (.val undef)).ok B dsts k (upd u d v) w' L ∧ Below w.heap.size w w' ∧ ((Fs.getD k (.val undef)).isBox = true → v = .pointer (some ⟨w.heap.size, 0, none⟩))) ∨
       (∃ f args, (execOp a.eval o).run P w = .ok (.enter f args) w ∧ (Fs.getD k (.val undef)).isBox = false ∧ Calls P f args w fun e w' => ∃ v, e = .returned v ∧ (Fs.getD k (.val undef)).ok B dsts k (upd u d v) w' L ∧ Below w.heap.size w w'))) ∨
      (Region.wanted o (yielded ops a.tmps) = false ∧ (Fs.getD k (.val undef)).isBox = false ∧ (Fs.getD k (.val undef)).ok B dsts k (upd u d undef) w L)
  | none => Region.wanted o (yielded ops a.tmps) = true ∧ ∃ i g w', (Fs.getD k (.val undef)).at_ = some i ∧ u (slotOf dsts i) = .pointer (some ⟨g, 0, none⟩) ∧ (execOp a.eval o).run P w = .ok .skip w' ∧ Only g w w' ∧ B ≤ g ∧
      (Fs.getD k (.val undef)).ok B dsts k u w' L ∧ (Fs.getD i (.val undef)).ok B dsts i u w' L
def ObsB (P : Program) (ops : Array Oper) (S : World → Prop) (B : Nat) (dsts : List (Option Nat)) (Fs : List Fact) (mk : (Nat → Value) → Act) : Nat → List Oper → Prop
  | _, [] => True
  | k, o :: r => (∀ u w L, L k = false → S w → B ≤ w.heap.size → (∀ e ∈ o.after, Region.binds .any e = true → (Fs.getD e.on (.val undef)).ok B dsts e.on u w L) → GB P ops B dsts Fs k o (mk u) u w L) ∧ ObsB P ops S B dsts Fs mk (k + 1) r
theorem ObsB.cons {Fs : List Fact} {mk : (Nat → Value) → Act} {k : Nat} {o : Oper} {r : List Oper}
    (h : ∀ u w L, L k = false → S w → B ≤ w.heap.size → (∀ e ∈ o.after, Region.binds .any e = true → (Fs.getD e.on (.val undef)).ok B dsts e.on u w L) → GB P ops B dsts Fs k o (mk u) u w L) (h' : ObsB P ops S B dsts Fs mk (k + 1) r) : ObsB P ops S B dsts Fs mk k (o :: r) := ⟨h, h'⟩
theorem ObsB.nil {Fs : List Fact} {mk : (Nat → Value) → Act} {k : Nat} : ObsB P ops S B dsts Fs mk k [] := trivial
theorem ObsB.at_ {Fs : List Fact} {mk : (Nat → Value) → Act} : ∀ (l : List Oper) (k : Nat), ObsB P ops S B dsts Fs mk k l → ∀ i o, l[i]? = some o →
    ∀ u w L, L (k + i) = false → S w → B ≤ w.heap.size → (∀ e ∈ o.after, Region.binds .any e = true → (Fs.getD e.on (.val undef)).ok B dsts e.on u w L) → GB P ops B dsts Fs (k + i) o (mk u) u w L
  | [], _, _, i, o, h => by simp at h
  | o' :: r, k, hO, 0, o, h => by
    simp at h; subst h
    exact hO.1
  | o' :: r, k, hO, i + 1, o, h => by
    have := ObsB.at_ r (k + 1) hO.2 i o (by simpa using h)
    rwa [show k + 1 + i = k + (i + 1) by omega] at this
theorem GB.run {Fs : List Fact} {k : Nat} {o : Oper} {a : Act} (d : Nat) (hdst : o.dst = some d) (v : Value) (hg : Region.wanted o (yielded ops a.tmps) = true) (hv : (execOp a.eval o).run P w = .ok (.value v) w) (hb : (Fs.getD k (.val undef)).isBox = false)
    (hE : (Fs.getD k (.val undef)).ok B dsts k (upd u d v) w L) : GB P ops B dsts Fs k o a u w L := by
  unfold GB; rw [hdst]
  exact .inl ⟨hg, .inl ⟨v, w, hv, hE, Below.refl _ _, fun h => by rw [hb] at h; cases h⟩⟩
theorem GB.call {Fs : List Fact} {k : Nat} {o : Oper} {a : Act} (d : Nat) (hdst : o.dst = some d) (f : FuncId) (args : Array Value) (hg : Region.wanted o (yielded ops a.tmps) = true) (hv : (execOp a.eval o).run P w = .ok (.enter f args) w) (hb : (Fs.getD k (.val undef)).isBox = false)
    (hc : Calls P f args w fun e w' => ∃ v, e = .returned v ∧ (Fs.getD k (.val undef)).ok B dsts k (upd u d v) w' L ∧ Below w.heap.size w w') : GB P ops B dsts Fs k o a u w L := by
  unfold GB; rw [hdst]
  exact .inl ⟨hg, .inr ⟨f, args, hv, hb, hc⟩⟩
theorem GB.alloc {Fs : List Fact} {k : Nat} {o : Oper} {a : Act} (d : Nat) (hdst : o.dst = some d) (hsl : slotOf dsts k = d) (cs : Array Value) (e : TypeId) (n : Nat) (f : Nat → Value) (hF : Fs.getD k (.val undef) = .box e n) (hg : Region.wanted o (yielded ops a.tmps) = true)
    (hv : (execOp a.eval o).run P w = .ok (.value (.pointer (some ⟨w.heap.size, 0, none⟩))) (w.alloc (.cells cs e))) (hB : B ≤ w.heap.size) (hn : n ≤ maxLen) (hcs : cs.toList = (List.range n).map f) : GB P ops B dsts Fs k o a u w L := by
  unfold GB; rw [hdst, hF]
  refine .inl ⟨hg, .inl ⟨_, _, hv, ⟨w.heap.size, f, by rw [hsl]; simp [upd], OwnF.lit e hB cs n f hn hcs⟩, (Below.refl _ w).alloc (Nat.le_refl _) _, fun _ => rfl⟩⟩
theorem GB.store {Fs : List Fact} {k : Nat} {o : Oper} {a : Act} (hdst : o.dst = none) (i g : Nat) (e : TypeId) (n : Nat) (f : Nat → Value) (hF : Fs.getD k (.val undef) = .holds i e n f) (hI : Fs.getD i (.val undef) = .box e n) (hg : Region.wanted o (yielded ops a.tmps) = true)
    (hp : u (slotOf dsts i) = .pointer (some ⟨g, 0, none⟩)) {w' : World} (hv : (execOp a.eval o).run P w = .ok .skip w') (ho : Only g w w') (hO : OwnF w' B e (some ⟨g, 0, none⟩) n n f) : GB P ops B dsts Fs k o a u w L := by
  unfold GB; rw [hdst]
  refine ⟨hg, i, g, w', by rw [hF]; rfl, hp, hv, ho, OwnF.ge hO, by rw [hF]; exact ⟨g, hp, hO⟩, by rw [hI]; exact ⟨g, f, hp, hO⟩⟩
theorem depB {Fs : List Fact} {o : Oper} (hd : ∀ e ∈ o.after, Region.binds .any e = true → (Fs.getD e.on (.val undef)).ok B dsts e.on u w L) (k : Nat)
    (hk : (o.after.toList.any fun e => e.on == k && Region.binds .any e) = true) : (Fs.getD k (.val undef)).ok B dsts k u w L := by
  obtain ⟨e, he, h⟩ := List.any_eq_true.1 hk
  simp only [Bool.and_eq_true, beq_iff_eq] at h
  have := hd e (Array.mem_toList_iff.1 he) h.2
  rwa [h.1] at this
/-- What may be asked of the facts by their look alone. -/
def boxB (l : List Oper) (n : Nat) (dsts : List (Option Nat)) (Fs : List Fact) : Bool :=
  (List.range n).all fun j => match (Fs.getD j (.val undef)).at_ with
    | none => (dsts.getD j none).isSome
    | some i => decide (i < n) && (dsts.getD j none).isNone && (dsts.getD i none).isSome && (Fs.getD i (.val undef)).isBox && ((l[j]?).map fun o => o.after.toList.any fun e => e.on == i && Region.binds .any e).getD false &&
      ((List.range n).all fun k => decide (k = j) || match (Fs.getD k (.val undef)).at_ with | none => true | some i' => decide (i' ≠ i))
def reachB (ops : Array Oper) : Nat → Nat → Nat → Bool
  | 0, _, _ => false
  | f + 1, i, k => match ops[i]? with
    | some o => o.after.toList.any fun e => Region.binds .any e && (e.on == k || reachB ops f e.on k)
    | none => false
theorem reach_listed {listed : Array Bool} (hcl : ∀ j oj, ops[j]? = some oj → listed.getD j false = true → ∀ e ∈ oj.after, Region.binds .any e = true → listed.getD e.on false = true) {k : Nat} : ∀ (f i : Nat) (o : Oper), ops[i]? = some o →
    (∀ e ∈ o.after, Region.binds .any e = true → listed.getD e.on false = true) → reachB ops f i k = true → listed.getD k false = true
  | 0, i, o, _, _, h => by simp [reachB] at h
  | f + 1, i, o, ho, hall, h => by
    unfold reachB at h
    rw [ho] at h
    obtain ⟨e, he, h1⟩ := List.any_eq_true.1 h
    simp only [Bool.and_eq_true, Bool.or_eq_true, beq_iff_eq] at h1
    have hle := hall e (Array.mem_toList_iff.1 he) h1.1
    rcases h1.2 with h2 | h2
    · rwa [h2] at hle
    · cases ho2 : ops[e.on]? with
      | none =>
        cases f with
        | zero => simp [reachB] at h2
        | succ f => unfold reachB at h2; rw [ho2] at h2; cases h2
      | some o2 => exact reach_listed hcl f e.on o2 ho2 (fun e' he' hb' => hcl e.on o2 ho2 hle e' he' hb') h2
def digB (l : List Oper) (n : Nat) (dsts : List (Option Nat)) (Fs : List Fact) : Bool :=
  (List.range n).all fun j => match (Fs.getD j (.val undef)).till with
    | none => true
    | some k => (List.range n).all fun i => (dsts.getD i none).isSome || reachB l.toArray n i k
theorem dig_spec {l : List Oper} {n : Nat} {dsts : List (Option Nat)} {Fs : List Fact} (h : digB l n dsts Fs = true) {i j k : Nat} (hj : j < n) (hi : i < n) (hk : (Fs.getD j (.val undef)).till = some k) (hd : dsts.getD i none = none) : reachB l.toArray n i k = true := by
  have h1 := List.all_eq_true.1 h j (List.mem_range.2 hj)
  rw [hk] at h1
  have h2 := List.all_eq_true.1 h1 i (List.mem_range.2 hi)
  rw [hd] at h2
  simpa using h2
def invB2 (l : List Oper) (n : Nat) (dsts : List (Option Nat)) (Fs : List Fact) : Bool :=
  decide (n ≤ l.length) && (decide (n = l.length) || (Region.sinkB .any l.toArray n && Region.chainB .any l.toArray n)) && backB l.toArray n && decide ((l.take n).map (·.dst) = dsts) && decide ((dsts.filterMap id).Nodup) &&
  Region.seqB .any l.toArray (l.length - n) n (Array.replicate n true ++ Array.replicate (l.length - n) false) && boxB l n dsts Fs && digB l n dsts Fs
theorem slot_ne {dsts : List (Option Nat)} (hnd : (dsts.filterMap id).Nodup) {i j : Nat} (hi : (dsts.getD i none).isSome = true) (hj : (dsts.getD j none).isSome = true) (h : i ≠ j) : slotOf dsts i ≠ slotOf dsts j := by
  induction dsts generalizing i j with
  | nil => simp at hi
  | cons x r ih =>
    cases x with
    | none =>
      have hnd' : (r.filterMap id).Nodup := by simpa using hnd
      cases i with
      | zero => simp at hi
      | succ i =>
        cases j with
        | zero => simp at hj
        | succ j =>
          have := ih hnd' (i := i) (j := j) (by simpa using hi) (by simpa using hj) (by omega)
          simpa [slotOf] using this
    | some d =>
      have hnd' : d ∉ r.filterMap id ∧ (r.filterMap id).Nodup := by simpa using hnd
      have mem : ∀ k, (r.getD k none).isSome = true → slotOf r k ∈ r.filterMap id := fun k hk => by
        cases hr : r[k]? with
        | none => simp [List.getD, hr] at hk
        | some y =>
          cases y with
          | none => simp [List.getD, hr] at hk
          | some z =>
            simp only [slotOf, List.getD, hr, Option.getD_some]
            exact List.mem_filterMap.2 ⟨some z, List.mem_of_getElem? hr, rfl⟩
      cases i with
      | zero =>
        cases j with
        | zero => exact absurd rfl h
        | succ j =>
          intro e
          have := mem j (by simpa using hj)
          have e' : d = slotOf r j := by simpa [slotOf] using e
          exact hnd'.1 (e' ▸ this)
      | succ i =>
        cases j with
        | zero =>
          intro e
          have := mem i (by simpa using hi)
          have e' : slotOf r i = d := by simpa [slotOf] using e
          exact hnd'.1 (e' ▸ this)
        | succ j =>
          have := ih hnd'.2 (i := i) (j := j) (by simpa using hi) (by simpa using hj) (by omega)
          simpa [slotOf] using this
theorem box_spec {l : List Oper} {n : Nat} {dsts : List (Option Nat)} {Fs : List Fact} (h : boxB l n dsts Fs = true) {j : Nat} (hj : j < n) :
    ((Fs.getD j (.val undef)).at_ = none → (dsts.getD j none).isSome = true) ∧
    (∀ i, (Fs.getD j (.val undef)).at_ = some i → i < n ∧ (dsts.getD j none).isNone = true ∧ (dsts.getD i none).isSome = true ∧ (Fs.getD i (.val undef)).isBox = true ∧
      (∃ o e, l[j]? = some o ∧ e ∈ o.after ∧ e.on = i ∧ Region.binds .any e = true) ∧ ∀ k, k < n → k ≠ j → (Fs.getD k (.val undef)).at_ ≠ some i) := by
  have h1 := List.all_eq_true.1 h j (List.mem_range.2 hj)
  cases ha : (Fs.getD j (.val undef)).at_ with
  | none => rw [ha] at h1; exact ⟨fun _ => h1, fun i hi => (nomatch hi)⟩
  | some i =>
    rw [ha] at h1
    simp only [Bool.and_eq_true, decide_eq_true_eq] at h1
    obtain ⟨⟨⟨⟨⟨h2, h3⟩, h4⟩, h5⟩, h6⟩, h7⟩ := h1
    refine ⟨fun h => (nomatch h), fun i' hi' => ?_⟩
    obtain rfl : i = i' := Option.some.inj hi'
    refine ⟨h2, h3, h4, h5, ?_, fun k hk hkj => ?_⟩
    · cases ho : l[j]? with
      | none => rw [ho] at h6; simp at h6
      | some o =>
        rw [ho] at h6
        simp only [Option.map_some, Option.getD_some] at h6
        obtain ⟨e, he, hb⟩ := List.any_eq_true.1 h6
        simp only [Bool.and_eq_true, beq_iff_eq] at hb
        exact ⟨o, e, rfl, Array.mem_toList_iff.1 he, hb.1, hb.2⟩
    · have h8 := List.all_eq_true.1 h7 k (List.mem_range.2 hk)
      simp only [Bool.or_eq_true, decide_eq_true_eq] at h8
      rcases h8 with h8 | h8
      · exact absurd h8 hkj
      · intro e
        rw [e] at h8
        simp at h8
theorem box_at {F : Fact} (h : F.isBox = true) : F.at_ = none := by cases F <;> simp_all [Fact.isBox, Fact.at_]
theorem box_ok {F : Fact} {B : Nat} {dsts : List (Option Nat)} {j : Nat} {u : Nat → Value} {w : World} {L : Nat → Bool} (h : F.isBox = true) (hk : F.ok B dsts j u w L) : ∃ g e n f, F = .box e n ∧ u (slotOf dsts j) = .pointer (some ⟨g, 0, none⟩) ∧ OwnF w B e (some ⟨g, 0, none⟩) n n f := by
  cases F with
  | val c => cases h
  | box e n => obtain ⟨g, f, h1, h2⟩ := hk; exact ⟨g, e, n, f, rfl, h1, h2⟩
  | holds i e n f => cases h
  | dig x k => cases h
theorem wpAny_box {Q : Exit → Act → World → Prop} {l : List Oper} {n : Nat} {dsts : List (Option Nat)} {Fs : List Fact} {mk : (Nat → Value) → Act} {a0 : Act} {B : Nat} {S : World → Prop}
    (hn : n ≤ l.length) (htl : n = l.length ∨ (Region.sinkB .any l.toArray n = true ∧ Region.chainB .any l.toArray n = true)) (hbk : backB l.toArray n = true) (hsl : (l.take n).map (·.dst) = dsts) (hnd : (dsts.filterMap id).Nodup)
    (hq : Region.seqB .any l.toArray (l.length - n) n (Array.replicate n true ++ Array.replicate (l.length - n) false) = true) (hbx : boxB l n dsts Fs = true) (hdg : digB l n dsts Fs = true)
    (hSt : ∀ w w', S w → B ≤ w.heap.size → Below B w w' → S w') (hmk : ∀ u, puts a0 (dsts.filterMap id) u = mk u) (hO : ObsB P l.toArray S B dsts Fs mk 0 (l.take n))
    (ht : ∀ u w, S w → (∀ j, j < n → (Fs.getD j (.val undef)).ok B dsts j u w fun _ => true) → (∀ i j, i < n → j < n → i ≠ j → (Fs.getD i (.val undef)).isBox = true → (Fs.getD j (.val undef)).isBox = true → u (slotOf dsts i) ≠ u (slotOf dsts j)) → wpList P l.toArray Q (l.drop n) (mk u) w) :
    ∀ (f : Nat) (listed : Array Bool) (u : Nat → Value) (w : World), HeadInv .any l.toArray n listed → toCome listed n = f → S w → B ≤ w.heap.size → (∀ j, j < n → listed.getD j false = true → (Fs.getD j (.val undef)).ok B dsts j u w fun k => listed.getD k false) →
      (∀ i j, i < n → j < n → i ≠ j → listed.getD i false = true → listed.getD j false = true → (Fs.getD i (.val undef)).isBox = true → (Fs.getD j (.val undef)).isBox = true → u (slotOf dsts i) ≠ u (slotOf dsts j)) →
      wpAny P .any l.toArray Q (f + (l.length - n)) listed (mk u) w := by
  have hlen : dsts.length = n := by
    have := congrArg List.length hsl
    simp at this
    omega
  intro f
  induction f with
  | zero =>
    intro listed u w inv h0 hS hBw hD hdist
    have hall := toCome_zero n h0
    have he : listed = Array.replicate n true ++ Array.replicate (l.length - n) false := by
      have hsz := inv.size
      simp only [List.size_toArray] at hsz
      refine Array.ext (by simp; omega) fun i h1 h2 => ?_
      by_cases hi : i < n
      · have := hall i hi
        simp [h1] at this
        rw [this, Array.getElem_append_left (by simpa using hi)]
        simp
      · have := inv.tail i (by omega) (by simp; omega)
        simp [h1] at this
        rw [this, Array.getElem_append_right (by simp; omega)]
        simp
    rw [he, Nat.zero_add]
    have h := wpAny_of_seq (P := P) (md := .any) (ops := l.toArray) (Q' := Q) (l.drop n) n (Array.replicate n true ++ Array.replicate (l.length - n) false) (mk u) w (fun j => by simp) (by rw [List.length_drop]; exact hq)
      (ht u w hS (fun j hj => Fact.mono (hD j hj (hall j hj)) fun _ _ => rfl) fun i j hi hj hne b1 b2 => hdist i j hi hj hne (hall i hi) (hall j hj) b1 b2)
    rw [List.length_drop] at h
    exact h
  | succ f ih =>
    intro listed u w inv h0 hS hBw hD hdist
    obtain ⟨j0, hj0, hun0, hbef⟩ := toCome_pos n (by rw [h0]; omega)
    have hsz := inv.size
    simp only [List.size_toArray] at hsz
    have hun0' := getD_in (listed := listed) (i := j0) (by omega) hun0
    rw [show f + 1 + (l.length - n) = (f + (l.length - n)) + 1 by omega]
    refine ⟨fun hr => ?_, fun i hi => ?_⟩
    · obtain ⟨o0, ho0⟩ : ∃ o, l.toArray[j0]? = some o := ⟨l[j0], by simp⟩
      have : j0 ∈ Region.ready .any l.toArray listed := mem_ready.2 ⟨hun0', o0, ho0, fun e he hb => hbef _ (backB_spec hbk hj0 ho0 e he hb)⟩
      rw [hr] at this
      cases this
    · obtain ⟨hunl, o, ho, hall⟩ := mem_ready.1 hi
      have hin : i < n := by
        rcases htl with h | ⟨hs, hc⟩
        · have := (Array.getElem?_eq_some_iff.1 ho).1
          simp at this
          omega
        · exact Nat.lt_of_not_le fun h => by
            have hil := (Array.getElem?_eq_some_iff.1 ho).1
            simp at hil
            exact tail_waits hs hc (by simp; omega) inv _ j0 rfl hj0 hun0' i h hi
      have ho' : (l.take n)[i]? = some o := by rw [List.getElem?_take, if_pos hin]; simpa using ho
      have hdst : dsts.getD i none = o.dst := by
        have h1 : ((l.take n).map (·.dst))[i]? = dsts[i]? := by rw [hsl]
        rw [List.getElem?_map, ho'] at h1
        simp only [Option.map_some] at h1
        simp [List.getD, ← h1]
      have hdeps : ∀ e ∈ o.after, Region.binds .any e = true → e.on < n ∧ listed.getD e.on false = true := fun e he hb => ⟨Nat.lt_trans (backB_spec hbk hin ho e he hb) hin, hall e he hb⟩
      have hG := ObsB.at_ (l.take n) 0 hO i o ho' u w (fun k => listed.getD k false) (by rw [Nat.zero_add]; exact getD_both hunl) hS hBw (fun e he hb => hD e.on (hdeps e he hb).1 (hdeps e he hb).2)
      rw [Nat.zero_add] at hG
      have hcnt : toCome (listed.setIfInBounds i true) n = f := by
        have := toCome_set (by omega) (getD_both hunl) n hin
        omega
      have hLm : ∀ k, listed.getD k false = true → (listed.setIfInBounds i true).getD k false = true := fun k hk => getD_set_true hk
      have hother : ∀ j, j < n → listed.getD j false = true → (∀ d, o.dst = some d → (slotOf dsts j ≠ d ∨ (Fs.getD j (.val undef)).at_ ≠ none) ∧ ∀ i', (Fs.getD j (.val undef)).at_ = some i' → slotOf dsts i' ≠ d) := fun j hj hl d hd => by
        have hij : j ≠ i := fun e => by subst e; rw [getD_both hunl] at hl; cases hl
        have hsi : (dsts.getD i none).isSome = true := by rw [hdst, hd]; rfl
        have hsd : slotOf dsts i = d := by unfold slotOf; rw [hdst, hd]; rfl
        obtain ⟨b1, b2⟩ := box_spec hbx hj
        cases ha : (Fs.getD j (.val undef)).at_ with
        | none => exact ⟨.inl (hsd ▸ slot_ne hnd (b1 ha) hsi hij), fun i' h => (nomatch h)⟩
        | some i' =>
          obtain ⟨c1, c2, c3, c4, ⟨o', e', ho'', he', hon, hb'⟩, c6⟩ := b2 i' ha
          refine ⟨.inr (by simp), fun i'' h => ?_⟩
          obtain rfl : i' = i'' := Option.some.inj h
          have hl' : listed.getD i' false = true := by
            have := inv.closed j o' (by simpa using ho'') hl e' he' hb'
            rwa [hon] at this
          have hne : i' ≠ i := fun e => by subst e; rw [getD_both hunl] at hl'; cases hl'
          exact hsd ▸ slot_ne hnd c3 hsi hne
      have hK : ∀ d v w', o.dst = some d → ((Fs.getD i (.val undef)).ok B dsts i (upd u d v) w' fun k => listed.getD k false) → Below w.heap.size w w' → ((Fs.getD i (.val undef)).isBox = true → v = .pointer (some ⟨w.heap.size, 0, none⟩)) →
          wpAny P .any l.toArray Q (f + (l.length - n)) (listed.setIfInBounds i true) ((mk u).put o.dst v) w' := fun d v w' hd hv hb hp => by
        have hput : (mk u).put o.dst v = mk (upd u d v) := by
          rw [hd, ← hmk, ← hmk]
          refine puts_upd _ hnd u d v ?_ a0
          refine List.mem_filterMap.2 ⟨some d, ?_, rfl⟩
          have : dsts[i]? = some (some d) := by
            have h1 : i < dsts.length := by omega
            rw [List.getElem?_eq_getElem h1]
            rw [hd] at hdst
            simp [List.getD, List.getElem?_eq_getElem h1] at hdst
            rw [hdst]
          exact List.mem_of_getElem? this
        have hsd : slotOf dsts i = d := by unfold slotOf; rw [hdst, hd]; rfl
        rw [hput]
        refine ih _ _ _ (inv.set hi hin) hcnt (hSt _ _ hS hBw (hb.mono hBw)) (Nat.le_trans hBw hb.size) ?_ ?_
        · intro j hj hl
          by_cases e : i = j
          · subst e; exact Fact.mono hv hLm
          · rw [getD_set_ne false e] at hl
            exact Fact.mono (Fact.upd (Fact.keep (hD j hj hl) hb) (hother j hj hl d hd).1 (hother j hj hl d hd).2) hLm
        · intro i1 j1 h1 h2 hne l1 l2 b1 b2
          have hsome : ∀ k, k < n → (Fs.getD k (.val undef)).isBox = true → (dsts.getD k none).isSome = true := fun k hk hb => (box_spec hbx hk).1 (box_at hb)
          have hisom : (dsts.getD i none).isSome = true := by rw [hdst, hd]; rfl
          have old : ∀ k, k < n → i ≠ k → (Fs.getD k (.val undef)).isBox = true → upd u d v (slotOf dsts k) = u (slotOf dsts k) := fun k hk hne hb => by
            unfold upd
            rw [if_neg (hsd ▸ slot_ne hnd (hsome k hk hb) hisom (Ne.symm hne))]
          have new : upd u d v (slotOf dsts i) = v := by rw [hsd]; simp [upd]
          by_cases e1 : i = i1
          · subst e1
            have e2 : i ≠ j1 := hne
            rw [getD_set_ne false e2] at l2
            rw [new, old j1 h2 e2 b2, hp b1]
            obtain ⟨g, e', n', f', _, hg, hO⟩ := box_ok b2 (hD j1 h2 l2)
            rw [hg]
            intro h
            have := OwnF.lt hO
            simp at h <;> omega
          · rw [getD_set_ne false e1] at l1
            by_cases e2 : i = j1
            · subst e2
              rw [new, old i1 h1 e1 b1, hp b2]
              obtain ⟨g, e', n', f', _, hg, hO⟩ := box_ok b1 (hD i1 h1 l1)
              rw [hg]
              intro h
              have := OwnF.lt hO
              simp at h <;> omega
            · rw [getD_set_ne false e2] at l2
              rw [old i1 h1 e1 b1, old j1 h2 e2 b2]
              exact hdist i1 j1 h1 h2 hne l1 l2 b1 b2
      unfold wpOp
      simp only [ho]
      cases hd : o.dst with
      | some d =>
        unfold GB at hG
        rw [hd] at hG
        rcases hG with ⟨hw, hv⟩ | ⟨hw, hbx', hv⟩
        · rw [if_pos hw]
          refine .inl ?_
          unfold Oper.wp
          rcases hv with ⟨v, w', hv, hE, hb, hp⟩ | ⟨g, args, hv, hbx', hcl⟩
          · rw [hv]; exact hK d v w' hd hE hb hp
          · rw [hv]
            refine hcl.mono ?_
            rintro e w' ⟨v, rfl, hE, hb⟩
            exact hK d v w' hd hE hb (fun h => by rw [hbx'] at h; cases h)
        · rw [hw]
          have := hK d undef w hd hv (Below.refl _ _) (fun h => by rw [hbx'] at h; cases h)
          rw [hd] at this
          exact this
      | none =>
        unfold GB at hG
        rw [hd] at hG
        obtain ⟨hw, i', g, w', hat, hp, hv, ho1, hBg, hE, hI⟩ := hG
        rw [if_pos hw]
        refine .inl ?_
        unfold Oper.wp
        rw [hv]
        show wpAny P .any l.toArray Q (f + (l.length - n)) (listed.setIfInBounds i true) ((mk u).put o.dst undef) w'
        rw [hd]
        show wpAny P .any l.toArray Q (f + (l.length - n)) (listed.setIfInBounds i true) (mk u) w'
        obtain ⟨c1, c2, c3, c4, ⟨o', e', ho'', he', hon, hb'⟩, c6⟩ := (box_spec hbx hin).2 i' hat
        obtain rfl : o' = o := Option.some.inj (ho''.symm.trans (by simpa using ho))
        have hli : listed.getD i' false = true := by have := hall e' he' hb'; rwa [hon] at this
        refine ih _ _ _ (inv.set hi hin) hcnt (hSt _ _ hS hBw (ho1.below hBg)) (by rw [ho1.size]; exact hBw) ?_ ?_
        · intro j hj hl
          by_cases e : i = j
          · subst e; exact Fact.mono hE hLm
          · rw [getD_set_ne false e] at hl
            by_cases e2 : j = i'
            · subst e2; exact Fact.mono hI hLm
            · have hk := hD j hj hl
              generalize hF : Fs.getD j (.val undef) = F at hk
              cases F with
              | val c => exact hk
              | box te n' =>
                obtain ⟨g1, f1, h1, h2⟩ := hk
                have hne := hdist j i' hj c1 e2 hl hli (by rw [hF]; rfl) c4
                rw [h1, hp] at hne
                exact ⟨g1, f1, h1, OwnF.only h2 ho1 (fun h => hne (by rw [h]))⟩
              | holds k te n' f1 =>
                obtain ⟨g1, h1, h2⟩ := hk
                obtain ⟨d1, d2, d3, d4, ⟨o2, e3, ho2, he3, hon3, hb3⟩, d6⟩ := (box_spec hbx hj).2 k (by rw [hF]; rfl)
                have hlk : listed.getD k false = true := by have := inv.closed j o2 (by simpa using ho2) hl e3 he3 hb3; rwa [hon3] at this
                have hki : k ≠ i' := fun h => by subst h; exact d6 i hin e hat
                have hne := hdist k i' d1 c1 hki hlk hli d4 c4
                rw [h1, hp] at hne
                exact ⟨g1, h1, OwnF.only h2 ho1 (fun h => hne (by rw [h]))⟩
              | dig x k =>
                have hr := dig_spec hdg hj hin (by rw [hF]; rfl) (by rw [hdst, hd])
                exact .inl (hLm k (reach_listed (ops := l.toArray) inv.closed n i o' (by simpa using ho'') (fun e he hb => (hdeps e he hb).2) hr))
        · intro i1 j1 h1 h2 hne l1 l2 b1 b2
          have e1 : i ≠ i1 := fun h => by subst h; rw [box_at b1] at hat; cases hat
          have e2 : i ≠ j1 := fun h => by subst h; rw [box_at b2] at hat; cases hat
          rw [getD_set_ne false e1] at l1
          rw [getD_set_ne false e2] at l2
          exact hdist i1 j1 h1 h2 hne l1 l2 b1 b2
/-- The same, behind which it is known, too, that no two boxes are one. -/
theorem wp_region_box2 {ri : Nat} {Q : Exit → Act → World → Prop} {l : List Oper} {a0 : Act} {w0 : World} (n : Nat) (dsts : List (Option Nat)) (Fs : List Fact) (B : Nat) (S : World → Prop) {mk : (Nat → Value) → Act}
    (hm : P.follows .mixedOrders = true) (hB : invB2 l n dsts Fs = true) (hSt : ∀ w w', S w → B ≤ w.heap.size → Below B w w' → S w') (hS : S w0.drew) (hBw : B ≤ w0.heap.size) (hmk : ∀ u, puts a0 (dsts.filterMap id) u = mk u)
    (hO : ObsB P l.toArray S B dsts Fs mk 0 (l.take n)) (ht : ∀ u w, S w → (∀ j, j < n → (Fs.getD j (.val undef)).ok B dsts j u w fun _ => true) → (∀ i j, i < n → j < n → i ≠ j → (Fs.getD i (.val undef)).isBox = true → (Fs.getD j (.val undef)).isBox = true → u (slotOf dsts i) ≠ u (slotOf dsts j)) → wpList P l.toArray Q (l.drop n) (mk u) w) :
    (Code.region ri l.toArray true).wp P Q a0 w0 := by
  simp only [invB2, Bool.and_eq_true, Bool.or_eq_true, decide_eq_true_eq] at hB
  obtain ⟨⟨⟨⟨⟨⟨⟨hn, htl⟩, hbk⟩, hsl⟩, hnd⟩, hq⟩, hbx⟩, hdg⟩ := hB
  refine wp_region_any hm ?_
  have inv0 : HeadInv .any l.toArray n (Array.replicate l.toArray.size false) :=
    ⟨by simp, fun j oj _ hl => (by rw [getD_replicate_false] at hl; cases hl), fun t _ ht => getD_in (by simpa using ht) (getD_replicate_false _ _)⟩
  have h := wpAny_box (Q := Q) hn htl hbk hsl hnd hq hbx hdg hSt hmk hO ht n _ (fun s => a0.tmps.getD s undef) w0.drew inv0 (toCome_all n) hS hBw (fun j _ hl => by rw [getD_replicate_false] at hl; cases hl) (fun i j _ _ _ hl => by rw [getD_replicate_false] at hl; cases hl)
  rw [← hmk, puts_self _ a0 _ (fun _ => rfl), show n + (l.length - n) = l.toArray.size by simp; omega] at h
  exact h
theorem wp_region_box {ri : Nat} {Q : Exit → Act → World → Prop} {l : List Oper} {a0 : Act} {w0 : World} (n : Nat) (dsts : List (Option Nat)) (Fs : List Fact) (B : Nat) (S : World → Prop) {mk : (Nat → Value) → Act}
    (hm : P.follows .mixedOrders = true) (hB : invB2 l n dsts Fs = true) (hSt : ∀ w w', S w → B ≤ w.heap.size → Below B w w' → S w') (hS : S w0.drew) (hBw : B ≤ w0.heap.size) (hmk : ∀ u, puts a0 (dsts.filterMap id) u = mk u)
    (hO : ObsB P l.toArray S B dsts Fs mk 0 (l.take n)) (ht : ∀ u w, S w → (∀ j, j < n → (Fs.getD j (.val undef)).ok B dsts j u w fun _ => true) → wpList P l.toArray Q (l.drop n) (mk u) w) :
    (Code.region ri l.toArray true).wp P Q a0 w0 :=
  wp_region_box2 n dsts Fs B S hm hB hSt hS hBw hmk hO fun u w h1 h2 _ => ht u w h1 h2
end
end Go.Proofs.Ytdddcgkgellbgab
