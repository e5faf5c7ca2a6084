/-
  An argument of type [][]byte, opened; what the bulk of a reading bounds. By an AI agent.
-/
import Derived.Test.YtebhefgfebghkaaDoorRows
import Derived.Test.YtebhefgfebghkaaDoorClose
import Derived.Test.YtebhefgfebghkaaDoorJ1
import Derived.Deep.Matrix
namespace Go.Proofs.YtebhefgfebghkaaDoor
open Go Go.RowKit Go.ChangeShapes Go.WideShapes Go.ChangeAt Go.Deep

/-- How the reading of a slice of bytes is spelled. -/
def SpB {H : Type} (d : DataW H) (bs : List UInt8) : Prop := (d = .nil ∧ bs = []) ∨ ∃ sp, d = .slice (bs.map fun b => .lit (.int .u8 (b.toNat : Int))) sp
def SpL {H : Type} (d : DataW H) (L : List (List UInt8)) : Prop := (d = .nil ∧ L = []) ∨ ∃ elems sp, d = .slice elems sp ∧ elems.length = L.length ∧ ∀ k, k < L.length → ∃ e, elems[k]? = some e ∧ SpB e (row L k)

section
variable {H : Type} {enc : TypeId × Value → H} {P : Program}
/-- One row: its bytes, in memory and in the reading. -/
theorem open_row {W : World} {A : Option Addr} {l c : Nat} {Z : List Int} (hl : l ≤ c) (hz : Z.length = c) (hw : ∀ n ∈ Z, (Lit.int .u8 n).wf = true) (hn : A = none → c = 0)
    (hc : ∀ a', A = some a' → ∀ j, j < c → W.cell? (a'.add j) = some (.int .u8 (Z.getD j 0))) :
    ∃ bs : List UInt8, bs.length = l ∧ Rd W W.heap.size A c bs ∧ SpB (intRow (H := H) .u8 A l Z) bs := by
  have hb : ∀ z ∈ Z, 0 ≤ z ∧ z ≤ 255 := fun z hzm => by simpa [Lit.wf, IntKind.min, IntKind.max, IntKind.signed, IntKind.bits] using hw z hzm
  have hlen : ((Z.take l).map fun z => UInt8.ofNat z.toNat).length = l := by simp; omega
  have hnth : ∀ k, k < l → (nth ((Z.take l).map fun z => UInt8.ofNat z.toNat) k : Int) = Z.getD k 0 := fun k hk => by
    rw [nth_get (by omega)]
    have hk' : k < Z.length := by omega
    have := hb Z[k] (List.getElem_mem hk')
    simp [List.getD, hk']
    omega
  refine ⟨(Z.take l).map fun z => UInt8.ofNat z.toNat, hlen, ⟨by omega, fun h => ?_, fun hne => ?_⟩, ?_⟩
  · have := hn h
    have h0 : l = 0 := by omega
    exact ⟨by subst h0; simp, this⟩
  · have h0 : 0 < l := by
      rcases Nat.eq_zero_or_pos l with h | h
      · subst h; simp at hne
      · exact h
    cases hA : A with
    | none => have := hn hA; omega
    | some a =>
      have c0 := hc a hA 0 (by omega)
      have hsp : a.spot = none := by
        have : a.add 0 = a := by simp [Addr.add]
        rw [this] at c0
        unfold World.cell? at c0
        cases hs : a.spot with
        | none => rfl
        | some s => rw [hs] at c0; revert c0; split <;> simp
      obtain ⟨b, o, sp⟩ := a
      simp only at hsp
      subst hsp
      refine ⟨b, o, rfl, World.block_lt_of_cell? W _ c0, fun k hk => ?_⟩
      rw [hnth k (by omega), ← hc _ hA k (by omega), Addr.add_lit]
  · cases A with
    | none =>
      have := hn rfl
      have h0 : l = 0 := by omega
      subst h0
      exact .inl ⟨rfl, by simp⟩
    | some a =>
      refine .inr ⟨lits .u8 (Z.drop l), congrArg (fun x => DataW.slice x _) ?_⟩
      have hw2 : ∀ z ∈ Z.take l, 0 ≤ z ∧ z ≤ 255 := fun z hzm => hb z (List.mem_of_mem_take hzm)
      simp only [lits, List.map_map]
      refine List.map_congr_left fun z hzm => ?_
      have := hw2 z hzm
      simp
      omega

theorem choose_rows {n : Nat} {p : Nat → List UInt8 → Prop} (h : ∀ k, k < n → ∃ x, p k x) : ∃ L : List (List UInt8), L.length = n ∧ ∀ k, k < n → p k (row L k) := by
  induction n with
  | zero => exact ⟨[], rfl, fun k hk => absurd hk (by omega)⟩
  | succ n ih =>
    obtain ⟨L, hl, hp⟩ := ih fun k hk => h k (by omega)
    obtain ⟨x, hx⟩ := h n (by omega)
    refine ⟨L ++ [x], by simp [hl], fun k hk => ?_⟩
    by_cases e : k = n
    · subst e
      simpa [row, List.getElem?_append_right (Nat.le_of_eq hl), hl] using hx
    · have : row (L ++ [x]) k = row L k := by simp [row, List.getElem?_append_left (show k < L.length by omega)]
      rw [this]
      exact hp k (by omega)

theorem open_rows {t e q : TypeId} (ht : P.underlying t = some (.slice e)) (he : P.underlying e = some (.slice q)) (hq : P.underlying q = some (.int .u8)) (ce : P.cellsOf e = 1) (cq : P.cellsOf q = 1) {W : World} {r : Reach} {b0 : Nat} {v : Value} {d : DataW H} {ps : List MemPlace}
    (hval : Value.okWide P W r b0 t v) (h : DataW.Trod enc P W 0 (fun _ => true) true t v d ps) : ∃ A c L, v = .slice A L.length c ∧ Rds W W.heap.size A c L ∧ SpL d L := by
  obtain ⟨a0, len, cap, rfl⟩ := okWide_slice ht hval
  obtain ⟨fuel, hf⟩ := h
  rcases open_int_rows ht he hq ce cq hf with ⟨hcs, hx⟩ | ⟨a, len', cap', A, Ln, C, Z, hcs, _, hl, hm, hx, hrow⟩
  · simp [Value.cells] at hcs
    obtain ⟨rfl, rfl, rfl⟩ := hcs
    simp only [Prod.mk.injEq] at hx
    obtain ⟨rfl, rfl⟩ := hx
    exact ⟨none, 0, [], rfl, ⟨by simp, fun _ => ⟨rfl, rfl⟩, fun h => absurd rfl h⟩, .inl ⟨rfl, rfl⟩⟩
  · simp [Value.cells] at hcs
    obtain ⟨rfl, rfl, rfl⟩ := hcs
    simp only [Prod.mk.injEq] at hx
    obtain ⟨rfl, rfl⟩ := hx
    have each : ∀ k, k < len → ∃ bs : List UInt8, W.cell? (a.add k) = some (.slice (A k) bs.length (C k)) ∧ Rd W W.heap.size (A k) (C k) bs ∧ SpB (intRow (H := H) .u8 (A k) (Ln k) (Z k)) bs := fun k hk => by
      obtain ⟨h1, h2, h3, h4, h5, h6, h7⟩ := hrow k (by omega)
      obtain ⟨bs, e1, e2, e3⟩ := open_row (H := H) h2 h4 h5 h6 (fun a' ha j hj => (h7 a' ha).2 j hj)
      exact ⟨bs, by rw [e1]; exact h1, e2, e3⟩
    obtain ⟨L, hL, hp⟩ := choose_rows each
    subst hL
    refine ⟨some a, cap, L, rfl, ⟨hl, (fun h => nomatch h), fun hne => ?_⟩, .inr ⟨_, _, rfl, by simp, fun k hk => ⟨_, ?_, (hp k hk).2.2⟩⟩⟩
    · have h0 : 0 < L.length := List.length_pos_iff.2 hne
      have c0 := (hp 0 h0).1
      have hsp : a.spot = none := by
        have : a.add 0 = a := by simp [Addr.add]
        rw [this] at c0
        unfold World.cell? at c0
        cases hs : a.spot with
        | none => rfl
        | some s => rw [hs] at c0; revert c0; split <;> simp
      obtain ⟨b, o, sp⟩ := a
      simp only at hsp
      subst hsp
      refine ⟨b, o, rfl, World.block_lt_of_cell? W _ c0, fun k hk => ⟨A k, C k, ?_, (hp k hk).2.1⟩⟩
      rw [← (hp k hk).1, Addr.add_lit]
    · simp [hk]

theorem one_le (d : DataW H) : 1 ≤ Rows.uptoBulk d := by
  cases d with
  | lit l => cases l <;> simp [Rows.uptoBulk]
  | nil => simp [Rows.uptoBulk]
  | ptr d => simp [Rows.uptoBulk]
  | slice elems spare => simp [Rows.uptoBulk]
  | agg parts => simp [Rows.uptoBulk]
  | iface t d => simp [Rows.uptoBulk]
  | map entries => simp [Rows.uptoBulk]
  | held h => simp [Rows.uptoBulk]
theorem bulk_len : ∀ (l : List (DataW H)), l.length ≤ Rows.uptoBulkAll l
  | [] => by simp [Rows.uptoBulkAll]
  | x :: r => by have := one_le x; have := bulk_len r; simp only [Rows.uptoBulkAll, List.length_cons]; omega
theorem bulk_mem {d : DataW H} : ∀ {l : List (DataW H)}, d ∈ l → Rows.uptoBulk d ≤ Rows.uptoBulkAll l
  | x :: r, h => by
    simp only [Rows.uptoBulkAll]
    rcases List.mem_cons.1 h with rfl | h
    · omega
    · have := bulk_mem h; omega
theorem bulk_bytes {d : DataW H} {bs : List UInt8} (h : SpB d bs) : bs.length + 1 ≤ Rows.uptoBulk d := by
  rcases h with ⟨rfl, rfl⟩ | ⟨sp, rfl⟩
  · simp [Rows.uptoBulk]
  · have := bulk_len (H := H) (bs.map fun b => .lit (.int .u8 (b.toNat : Int)))
    simp only [Rows.uptoBulk, List.length_map] at this ⊢
    omega
theorem bulk_rows' : ∀ (L : List (List UInt8)) (elems : List (DataW H)), elems.length = L.length → (∀ k, k < L.length → ∃ e, elems[k]? = some e ∧ SpB e (row L k)) → (joinL L).length + L.length ≤ Rows.uptoBulkAll elems
  | [], [], _, _ => by simp [joinL, Rows.uptoBulkAll]
  | x :: L, e :: elems, hl, h => by
    have ih := bulk_rows' L elems (by simpa using hl) fun k hk => by
      obtain ⟨e', h1, h2⟩ := h (k + 1) (by simpa using hk)
      exact ⟨e', by simpa using h1, by simpa [row] using h2⟩
    obtain ⟨e', h1, h2⟩ := h 0 (by simp)
    simp only [List.getElem?_cons_zero, Option.some.injEq] at h1
    subst h1
    have hb := bulk_bytes h2
    have e0 : row (x :: L) 0 = x := by simp [row]
    rw [e0] at hb
    simp only [Rows.uptoBulkAll, joinL, List.flatten_cons, List.length_append, List.length_cons] at ih ⊢
    omega
theorem bulk_rows {d : DataW H} {L : List (List UInt8)} (h : SpL d L) : (joinL L).length + L.length ≤ Rows.uptoBulk d := by
  rcases h with ⟨rfl, rfl⟩ | ⟨elems, sp, rfl, hl, h⟩
  · simp [joinL, Rows.uptoBulk]
  · have := bulk_rows' L elems hl h
    simp only [Rows.uptoBulk]
    omega
theorem bulk_small {ds gs : List (DataW H)} (hk : Rows.uptoSmall H (ds ++ gs) = true) {d : DataW H} (hd : d ∈ ds) : Rows.uptoBulk d ≤ 1048576 :=
  Nat.le_trans (bulk_mem (List.mem_append_left gs hd)) (of_decide_eq_true hk)
end
end Go.Proofs.YtebhefgfebghkaaDoor
