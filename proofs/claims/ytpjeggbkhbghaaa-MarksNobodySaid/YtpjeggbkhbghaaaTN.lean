/-
  Layer 16: runs and styles in memory; '==' over styles. By an AI agent. Layer 16: one cell of a row of the call's own is written; runs as lists. By an AI agent.
-/
import Derived.Test.YtpjeggbkhbghaaaTL
import Derived.Laws.StructEq
import Derived.Test.YtpjeggbkhbghaaaTA
namespace Go.Proofs.Ytpjeggbkhbghaaa
open Go Go.RowKit
set_option maxRecDepth 20000
/-- A run. -/
structure Rn where
  text : ByteArray
  sty : Sty
theorem Rn.ext' {x y : Rn} (h0 : x.text = y.text) (h1 : x.sty.a0 = y.sty.a0) (h2 : x.sty.a1 = y.sty.a1) (h3 : x.sty.a2 = y.sty.a2) (h4 : x.sty.a3 = y.sty.a3) (h5 : x.sty.a4 = y.sty.a4) : x = y := by
  obtain ⟨a, b, c, d, e, f⟩ := x
  obtain ⟨a', b', c', d', e', f'⟩ := y
  simp only at h0 h1 h2 h3 h4 h5
  subst h0 h1 h2 h3 h4 h5
  rfl
def runE : Enc Rn := ⟨fun x => [.string x.text, .int .i64 x.sty.a0, .int .i64 x.sty.a1, .int .i64 x.sty.a2, .int .i64 x.sty.a3, .int .i64 x.sty.a4], 6, fun _ => rfl, fun x v h => by simp at h; rcases h with rfl | rfl | rfl | rfl | rfl | rfl <;> rfl, by decide⟩
abbrev runV (x : Rn) : Value := .agg #[.string x.text, .int .i64 x.sty.a0, .int .i64 x.sty.a1, .int .i64 x.sty.a2, .int .i64 x.sty.a3, .int .i64 x.sty.a4]
def styE : Enc Sty := ⟨fun x => [.int .i64 x.a0, .int .i64 x.a1, .int .i64 x.a2, .int .i64 x.a3, .int .i64 x.a4], 5, fun _ => rfl, fun x v h => by simp at h; rcases h with rfl | rfl | rfl | rfl | rfl <;> rfl, by decide⟩
abbrev styV (x : Sty) : Value := .agg #[.int .i64 x.a0, .int .i64 x.a1, .int .i64 x.a2, .int .i64 x.a3, .int .i64 x.a4]
theorem run_at {w : World} {B c : Nat} {A : Option Addr} {L : List Rn} (h : RdR runE w B A c L) {k : Nat} {x : Rn} (hk : L[k]? = some x) : ∃ b o, A = some ⟨b, o, none⟩ ∧ b < B ∧ w.cell? ⟨b, o + k * 6, none⟩ = some (.string x.text) ∧ w.cell? ⟨b, o + k * 6 + 1, none⟩ = some (.int .i64 x.sty.a0) ∧ w.cell? ⟨b, o + k * 6 + 2, none⟩ = some (.int .i64 x.sty.a1) ∧ w.cell? ⟨b, o + k * 6 + 3, none⟩ = some (.int .i64 x.sty.a2) ∧ w.cell? ⟨b, o + k * 6 + 4, none⟩ = some (.int .i64 x.sty.a3) ∧ w.cell? ⟨b, o + k * 6 + 5, none⟩ = some (.int .i64 x.sty.a4) := by
  obtain ⟨b, o, e, hlt, hc⟩ := h.at_ hk
  exact ⟨b, o, e, hlt, hc 0 _ rfl, hc 1 _ rfl, hc 2 _ rfl, hc 3 _ rfl, hc 4 _ rfl, hc 5 _ rfl⟩
theorem sty_at {w : World} {B c : Nat} {A : Option Addr} {L : List Sty} (h : RdR styE w B A c L) {k : Nat} {x : Sty} (hk : L[k]? = some x) : ∃ b o, A = some ⟨b, o, none⟩ ∧ b < B ∧ w.cell? ⟨b, o + k * 5, none⟩ = some (.int .i64 x.a0) ∧ w.cell? ⟨b, o + k * 5 + 1, none⟩ = some (.int .i64 x.a1) ∧ w.cell? ⟨b, o + k * 5 + 2, none⟩ = some (.int .i64 x.a2) ∧ w.cell? ⟨b, o + k * 5 + 3, none⟩ = some (.int .i64 x.a3) ∧ w.cell? ⟨b, o + k * 5 + 4, none⟩ = some (.int .i64 x.a4) := by
  obtain ⟨b, o, e, hlt, hc⟩ := h.at_ hk
  exact ⟨b, o, e, hlt, hc 0 _ rfl, hc 1 _ rfl, hc 2 _ rfl, hc 3 _ rfl, hc 4 _ rfl⟩

theorem part_i64 (xs : Array Value) (i : Nat) (v : Value) (h : xs[i]? = some v) (w : World) : (part 3 xs (i * Try.prog.cellsOf 3)).run Try.prog w = .ok v w := by
  have e : Try.prog.cellsOf 3 = 1 := by kernel_rfl
  rw [e, Nat.mul_one]
  simp [part, go_sem, h]
theorem items_sty9998 (xs ys : Array Value) (a b : Nat → Int) (w : World) : ∀ is : List Nat, (∀ i ∈ is, xs[i]? = some (.int .i64 (a i)) ∧ ys[i]? = some (.int .i64 (b i))) →
    (Op.eqItems 9998 3 (Try.prog.cellsOf 3) xs ys is).run Try.prog w = .ok (is.all fun i => a i == b i) w
  | [], _ => rfl
  | i :: is, h => by
    have h0 := h i (by simp)
    have ih := items_sty9998 xs ys a b w is (fun j hj => h j (by simp [hj]))
    simp only [Op.eqItems, Sem.run_bind, part_i64 _ _ _ h0.1, part_i64 _ _ _ h0.2, Result.andThen_ok, run_equalIn_int w 9997 3 .i64 .i64 (a i) (b i) Try.underlying3, List.all_cons]
    cases he : (a i == b i)
    · simp
    · simpa using ih
theorem eqSty9999 (x y : Sty) (w : World) : (Op.equalIn 9999 55 (styV x) (styV y)).run Try.prog w = .ok (decide (x = y)) w := by
  obtain ⟨i0, hi, _⟩ := info_parts infoInt
  rw [run_equalIn_array (P := Try.prog) (w := w) 9998 _ _ Try.underlying55 hi, items_sty9998 _ _ (fun i => x.get i) (fun i => y.get i) w (List.range 5)]
  · congr 1
    rw [Bool.eq_iff_iff, decide_eq_true_eq, List.all_eq_true]
    constructor
    · intro h
      exact Sty.ext_get fun k hk => by simpa using h k (by simpa using hk)
    · rintro rfl
      simp
  · intro i hi
    have : i = 0 ∨ i = 1 ∨ i = 2 ∨ i = 3 ∨ i = 4 := by have hi' : i < 5 := (by simpa using hi); omega
    rcases this with rfl | rfl | rfl | rfl | rfl <;> exact ⟨rfl, rfl⟩
theorem items_sty9999 (xs ys : Array Value) (a b : Nat → Int) (w : World) : ∀ is : List Nat, (∀ i ∈ is, xs[i]? = some (.int .i64 (a i)) ∧ ys[i]? = some (.int .i64 (b i))) →
    (Op.eqItems 9999 3 (Try.prog.cellsOf 3) xs ys is).run Try.prog w = .ok (is.all fun i => a i == b i) w
  | [], _ => rfl
  | i :: is, h => by
    have h0 := h i (by simp)
    have ih := items_sty9999 xs ys a b w is (fun j hj => h j (by simp [hj]))
    simp only [Op.eqItems, Sem.run_bind, part_i64 _ _ _ h0.1, part_i64 _ _ _ h0.2, Result.andThen_ok, run_equalIn_int w 9998 3 .i64 .i64 (a i) (b i) Try.underlying3, List.all_cons]
    cases he : (a i == b i)
    · simp
    · simpa using ih
theorem eqSty10000 (x y : Sty) (w : World) : (Op.equalIn 10000 55 (styV x) (styV y)).run Try.prog w = .ok (decide (x = y)) w := by
  obtain ⟨i0, hi, _⟩ := info_parts infoInt
  rw [run_equalIn_array (P := Try.prog) (w := w) 9999 _ _ Try.underlying55 hi, items_sty9999 _ _ (fun i => x.get i) (fun i => y.get i) w (List.range 5)]
  · congr 1
    rw [Bool.eq_iff_iff, decide_eq_true_eq, List.all_eq_true]
    constructor
    · intro h
      exact Sty.ext_get fun k hk => by simpa using h k (by simpa using hk)
    · rintro rfl
      simp
  · intro i hi
    have : i = 0 ∨ i = 1 ∨ i = 2 ∨ i = 3 ∨ i = 4 := by have hi' : i < 5 := (by simpa using hi); omega
    rcases this with rfl | rfl | rfl | rfl | rfl <;> exact ⟨rfl, rfl⟩
end Go.Proofs.Ytpjeggbkhbghaaa
namespace Go.Proofs.Ytpjeggbkhbghaaa
open Go Go.RowKit
theorem all_set {α : Type} (E : Enc α) {x x' : α} {j : Nat} {v : Value} (hx : E.enc x' = (E.enc x).set j v) (hj : j < E.size) : ∀ (L : List α) (p : Nat), L[p]? = some x → (E.all L).set (p * E.size + j) v = E.all (L.set p x')
  | [], p, h => by simp at h
  | y :: r, 0, h => by
    simp at h
    subst h
    unfold Enc.all
    rw [List.flatMap_cons, Nat.zero_mul, Nat.zero_add, List.set_append_left _ _ (by rw [E.len]; exact hj), ← hx]
    rfl
  | y :: r, p + 1, h => by
    have h2 := all_set E hx hj r p (by simpa using h)
    unfold Enc.all at *
    rw [List.flatMap_cons, List.set_append_right _ _ (by rw [E.len, Nat.succ_mul]; omega), List.set_cons_succ, List.flatMap_cons, ← h2, E.len, show (p + 1) * E.size + j - E.size = p * E.size + j by rw [Nat.succ_mul]; omega]
theorem OwnR.cellset {α : Type} {E : Enc α} {w : World} {B c g : Nat} {e : TypeId} {L : List α} (h : OwnR E w B e (some ⟨g, 0, none⟩) c L) {p j : Nat} {x x' : α} {v : Value} (hp : L[p]? = some x) (hj : j < E.size) (hx : E.enc x' = (E.enc x).set j v) :
    OwnR E (w.setCell ⟨g, p * E.size + j, none⟩ v) B e (some ⟨g, 0, none⟩) c (L.set p x') ∧ Below B w (w.setCell ⟨g, p * E.size + j, none⟩ v) := by
  have h1 := (World.ownsRow.stored h (p * E.size + j) v).1
  rw [all_set E hx hj L p hp] at h1
  refine ⟨?_, (Below.refl _ _).setCell (p := ⟨g, p * E.size + j, none⟩) (OwnR.blk h _ rfl).1 v⟩
  unfold OwnR
  rw [List.length_set]
  exact h1
theorem OwnR.ptr16 {α : Type} {E : Enc α} {w : World} {B c : Nat} {e : TypeId} {A : Option Addr} {L : List α} (h : OwnR E w B e A c L) (hn : L ≠ []) : ∃ g, A = some ⟨g, 0, none⟩ := by
  obtain ⟨_, h2⟩ := h
  rcases h2 with ⟨_, h0⟩ | ⟨g, cap, cur, hv, _⟩
  · exact absurd (List.eq_nil_of_length_eq_zero h0) hn
  · simp only [Value.slice.injEq] at hv
    exact ⟨g, hv.1⟩
/-- One more that is there: its rune, its style. -/
def runS (o : List Rn) (x : Int × Sty) : List Rn := match o.getLast? with
  | some l => if l.sty = x.2 then o.dropLast ++ [⟨l.text ++ Utf8.encode x.1, x.2⟩] else o ++ [⟨Utf8.encode x.1, x.2⟩]
  | none => [⟨Utf8.encode x.1, x.2⟩]
def runsV (V : List (Int × Sty)) : List Rn := V.foldl runS []
theorem runsV_snoc (V : List (Int × Sty)) (x : Int × Sty) : runsV (V ++ [x]) = runS (runsV V) x := by unfold runsV; rw [List.foldl_append]; rfl
theorem runS_nil (x : Int × Sty) : runS [] x = [⟨Utf8.encode x.1, x.2⟩] := rfl
theorem runS_same (o : List Rn) (T : ByteArray) (x : Int × Sty) : runS (o ++ [⟨T, x.2⟩]) x = o ++ [⟨T ++ Utf8.encode x.1, x.2⟩] := by
  unfold runS
  rw [List.getLast?_concat]
  show (if x.2 = x.2 then _ else _) = _
  rw [if_pos rfl, List.dropLast_concat]
theorem runS_other (o : List Rn) (l : Rn) (x : Int × Sty) (h : l.sty ≠ x.2) : runS (o ++ [l]) x = o ++ [l] ++ [⟨Utf8.encode x.1, x.2⟩] := by
  unfold runS
  rw [List.getLast?_concat]
  show (if l.sty = x.2 then _ else _) = _
  rw [if_neg h]
theorem runS_len (o : List Rn) (x : Int × Sty) : (runS o x).length ≤ o.length + 1 := by
  rcases snoc_cases o with rfl | ⟨p, l, rfl⟩
  · exact Nat.le_refl _
  · by_cases h : l.sty = x.2
    · obtain ⟨T, s⟩ := l
      simp only at h
      subst h
      rw [runS_same]
      simp
    · rw [runS_other _ _ _ h]
      simp
/-- Those that are there, with their styles. -/
def visL (N : List Nod) (S : List Sty) : List (Int × Sty) := (N.zip S).filterMap fun p => if p.1.gone = true then none else some (p.1.rune, p.2)
theorem visL_succ {N : List Nod} {S : List Sty} {k : Nat} {y : Nod} {s : Sty} (hy : N[k]? = some y) (hs : S[k]? = some s) : visL (N.take (k + 1)) (S.take (k + 1)) = visL (N.take k) (S.take k) ++ (if y.gone = true then [] else [(y.rune, s)]) := by
  have h1 := (List.getElem?_eq_some_iff.1 hy).1
  have h2 := (List.getElem?_eq_some_iff.1 hs).1
  unfold visL
  rw [take_snoc hy, take_snoc hs, List.zip_append (by rw [List.length_take, List.length_take]; omega), List.filterMap_append]
  congr 1
  show List.filterMap _ [(y, s)] = _
  cases hg : y.gone <;> simp [hg]
theorem visL_len (N : List Nod) (S : List Sty) : (visL N S).length ≤ N.length := by
  unfold visL
  refine Nat.le_trans (List.length_filterMap_le _ _) ?_
  rw [List.length_zip]
  exact Nat.min_le_left _ _
/-- The runs of elements by marks. -/
def runsR (N : List Nod) (L : List Mrk) : List Rn := runsV (visL N (styL N L))
theorem runsV_len : ∀ n (V : List (Int × Sty)), V.length = n → (runsV V).length ≤ n
  | 0, V, h => by rw [List.length_eq_zero_iff.1 h]; exact Nat.le_refl _
  | n + 1, V, h => by
    rcases snoc_cases V with rfl | ⟨o, x, rfl⟩
    · simp at h
    · have := runsV_len n o (by simpa using h)
      rw [runsV_snoc]
      have := runS_len (runsV o) x
      omega
/-- A run's text is short. -/
def Short (m : Nat) (o : List Rn) : Prop := ∀ r ∈ o, r.text.size ≤ 4 * m
theorem short_step {m : Nat} {o : List Rn} (h : Short m o) (x : Int × Sty) : Short (m + 1) (runS o x) := by
  have he := enc_size x.1
  rcases snoc_cases o with rfl | ⟨p, l, rfl⟩
  · intro r hr
    rw [runS_nil, List.mem_singleton] at hr
    subst hr
    show (Utf8.encode x.1).size ≤ _
    omega
  · have hl := h l (by simp)
    have hp : ∀ r ∈ p, r.text.size ≤ 4 * (m + 1) := fun r hr => by have := h r (List.mem_append.2 (.inl hr)); omega
    by_cases e : l.sty = x.2
    · obtain ⟨T, s⟩ := l
      simp only at e
      subst e
      rw [runS_same]
      intro r hr
      rcases List.mem_append.1 hr with hr | hr
      · exact hp r hr
      · rw [List.mem_singleton] at hr
        subst hr
        show (T ++ Utf8.encode x.1).size ≤ _
        have : T.size ≤ 4 * m := hl
        rw [ByteArray.size_append]
        omega
    · rw [runS_other _ _ _ e]
      intro r hr
      rcases List.mem_append.1 hr with hr | hr
      · rcases List.mem_append.1 hr with hr | hr
        · exact hp r hr
        · rw [List.mem_singleton] at hr
          subst hr
          omega
      · rw [List.mem_singleton] at hr
        subst hr
        show (Utf8.encode x.1).size ≤ _
        omega
theorem runs_short : ∀ n (V : List (Int × Sty)), V.length = n → Short n (runsV V)
  | 0, V, h => by rw [List.length_eq_zero_iff.1 h]; intro r hr; cases hr
  | n + 1, V, h => by
    rcases snoc_cases V with rfl | ⟨o, x, rfl⟩
    · simp at h
    · rw [runsV_snoc]
      exact short_step (runs_short n o (by simpa using h)) x
end Go.Proofs.Ytpjeggbkhbghaaa
