/-
  A list of lists of bytes in memory; an argument of type [][]byte, opened (of layer 1). Of no program. By an AI agent.
-/
import Derived.Test.YtbikldocjmelcaaDoorClose
import Derived.Deep.Matrix
namespace Go.Proofs.YtbikldocjmelcaaDoor
open Go Go.RowKit Go.ChangeShapes Go.WideShapes Go.ChangeAt Go.Deep
def row (L : List (List UInt8)) (k : Nat) : List UInt8 := L[k]?.getD []
theorem row_get {L : List (List UInt8)} {k : Nat} (h : k < L.length) : row L k = L[k] := by simp [row, h]
/-- All lists, one behind the other. -/
def joinL (L : List (List UInt8)) : List UInt8 := L.flatten
/-- The first k lists, one behind the other. -/
def joinK (L : List (List UInt8)) (k : Nat) : List UInt8 := (L.take k).flatten
theorem joinK_zero (L : List (List UInt8)) : joinK L 0 = [] := by simp [joinK]
theorem joinK_succ {L : List (List UInt8)} {k : Nat} (h : k < L.length) : joinK L (k + 1) = joinK L k ++ row L k := by
  simp only [joinK, List.take_succ_eq_append_getElem h, List.flatten_append, row_get h]; simp
theorem joinK_full (L : List (List UInt8)) : joinK L L.length = joinL L := by simp [joinK, joinL]
theorem joinK_le (L : List (List UInt8)) (k : Nat) : (joinK L k).length ≤ (joinL L).length := by
  unfold joinL
  have : L.flatten = joinK L k ++ (L.drop k).flatten := by rw [joinK, ← List.flatten_append, List.take_append_drop]
  rw [this, List.length_append]; omega
theorem row_le {L : List (List UInt8)} {k : Nat} (h : k < L.length) : (joinK L k).length + (row L k).length ≤ (joinL L).length := by
  have := joinK_le L (k + 1)
  rw [joinK_succ h, List.length_append] at this
  exact this

/-- The slice at 'A' reads as the lists of bytes L, all below block B. -/
structure Rds (w : World) (B : Nat) (A : Option Addr) (c : Nat) (L : List (List UInt8)) : Prop where
  cap : L.length ≤ c
  nil : A = none → L = [] ∧ c = 0
  some_ : L ≠ [] → ∃ b o, A = some ⟨b, o, none⟩ ∧ b < B ∧ ∀ k, k < L.length → ∃ Ak ck, w.cell? ⟨b, o + k, none⟩ = some (.slice Ak (row L k).length ck) ∧ Rd w B Ak ck (row L k)
section
variable {w w' : World} {B B' c : Nat} {A : Option Addr} {L : List (List UInt8)}
theorem Rds.keep (h : Rds w B A c L) (hb : Below B w w') : Rds w' B A c L :=
  ⟨h.cap, h.nil, fun hn => by
    obtain ⟨b, o, e, hlt, hc⟩ := h.some_ hn
    refine ⟨b, o, e, hlt, fun k hk => ?_⟩
    obtain ⟨Ak, ck, h1, h2⟩ := hc k hk
    exact ⟨Ak, ck, (hb.cell (p := ⟨b, o + k, none⟩) hlt).trans h1, h2.keep hb⟩⟩
theorem Rds.mono (h : Rds w B A c L) (hb : B ≤ B') : Rds w B' A c L :=
  ⟨h.cap, h.nil, fun hn => by
    obtain ⟨b, o, e, hlt, hc⟩ := h.some_ hn
    refine ⟨b, o, e, by omega, fun k hk => ?_⟩
    obtain ⟨Ak, ck, h1, h2⟩ := hc k hk
    exact ⟨Ak, ck, h1, h2.mono hb⟩⟩
theorem Rds.next (h : Rds w w.heap.size A c L) (hb : Below w.heap.size w w') : Rds w' w'.heap.size A c L := (h.keep hb).mono hb.size
theorem Rds.at_ {k : Nat} (h : Rds w B A c L) (hk : k < L.length) : ∃ b o, A = some ⟨b, o, none⟩ ∧ b < B ∧ ∃ Ak ck, w.cell? ⟨b, o + k, none⟩ = some (.slice Ak (row L k).length ck) ∧ Rd w B Ak ck (row L k) := by
  obtain ⟨b, o, e, hlt, hc⟩ := h.some_ (by rintro rfl; simp at hk)
  exact ⟨b, o, e, hlt, hc k hk⟩
end
/-- How the reading of a slice of bytes is spelled. -/
def SpB {H : Type} (d : DataW H) (bs : List UInt8) : Prop := (d = .nil ∧ bs = []) ∨ ∃ sp, d = .slice (bs.map fun b => .lit (.int .u8 (b.toNat : Int))) sp
def SpL {H : Type} (d : DataW H) (L : List (List UInt8)) : Prop := (d = .nil ∧ L = []) ∨ ∃ elems sp, d = .slice elems sp ∧ elems.length = L.length ∧ ∀ k, k < L.length → ∃ e, elems[k]? = some e ∧ SpB e (row L k)

section
variable {H : Type} {enc : TypeId × Value → H} {P : Program}
/-- One row: its bytes, in memory and in the reading. -/
theorem open_row {W : World} {A : Option Addr} {l c : Nat} {Z : List Int} (hl : l ≤ c) (hz : Z.length = c) (hw : ∀ n ∈ Z, (Lit.int .u8 n).wf = true) (hn : A = none → c = 0)
    (hc : ∀ a', A = some a' → ∀ j, j < c → W.cell? (a'.add j) = some (.int .u8 (Z.getD j 0))) :
    ∃ bs : List UInt8, bs.length = l ∧ Rd W W.heap.size A c bs ∧ SpB (intRow (H := H) .u8 A l Z) bs := by
  have hb : ∀ z ∈ Z, 0 ≤ z ∧ z ≤ 255 := fun z hzm => by simpa [Lit.wf, IntKind.min, IntKind.max, IntKind.signed, IntKind.bits] using hw z hzm
  have hlen : ((Z.take l).map fun z => UInt8.ofNat z.toNat).length = l := by simp; omega
  have hnth : ∀ k, k < l → (nth ((Z.take l).map fun z => UInt8.ofNat z.toNat) k : Int) = Z.getD k 0 := fun k hk => by
    rw [nth_get (by omega)]
    have hk' : k < Z.length := by omega
    have := hb Z[k] (List.getElem_mem hk')
    simp [List.getD, hk']
    omega
  refine ⟨(Z.take l).map fun z => UInt8.ofNat z.toNat, hlen, ⟨by omega, fun h => ?_, fun hne => ?_⟩, ?_⟩
  · have := hn h
    have h0 : l = 0 := by omega
    exact ⟨by subst h0; simp, this⟩
  · have h0 : 0 < l := by
      rcases Nat.eq_zero_or_pos l with h | h
      · subst h; simp at hne
      · exact h
    cases hA : A with
    | none => have := hn hA; omega
    | some a =>
      have c0 := hc a hA 0 (by omega)
      have hsp : a.spot = none := by
        have : a.add 0 = a := by simp [Addr.add]
        rw [this] at c0
        unfold World.cell? at c0
        cases hs : a.spot with
        | none => rfl
        | some s => rw [hs] at c0; revert c0; split <;> simp
      obtain ⟨b, o, sp⟩ := a
      simp only at hsp
      subst hsp
      refine ⟨b, o, rfl, World.block_lt_of_cell? W _ c0, fun k hk => ?_⟩
      rw [hnth k (by omega), ← hc _ hA k (by omega), Addr.add_lit]
  · cases A with
    | none =>
      have := hn rfl
      have h0 : l = 0 := by omega
      subst h0
      exact .inl ⟨rfl, by simp⟩
    | some a =>
      refine .inr ⟨lits .u8 (Z.drop l), congrArg (fun x => DataW.slice x _) ?_⟩
      have hw2 : ∀ z ∈ Z.take l, 0 ≤ z ∧ z ≤ 255 := fun z hzm => hb z (List.mem_of_mem_take hzm)
      simp only [lits, List.map_map]
      refine List.map_congr_left fun z hzm => ?_
      have := hw2 z hzm
      simp
      omega

theorem choose_rows {n : Nat} {p : Nat → List UInt8 → Prop} (h : ∀ k, k < n → ∃ x, p k x) : ∃ L : List (List UInt8), L.length = n ∧ ∀ k, k < n → p k (row L k) := by
  induction n with
  | zero => exact ⟨[], rfl, fun k hk => absurd hk (by omega)⟩
  | succ n ih =>
    obtain ⟨L, hl, hp⟩ := ih fun k hk => h k (by omega)
    obtain ⟨x, hx⟩ := h n (by omega)
    refine ⟨L ++ [x], by simp [hl], fun k hk => ?_⟩
    by_cases e : k = n
    · subst e
      simpa [row, List.getElem?_append_right (Nat.le_of_eq hl), hl] using hx
    · have : row (L ++ [x]) k = row L k := by simp [row, List.getElem?_append_left (show k < L.length by omega)]
      rw [this]
      exact hp k (by omega)

theorem open_rows6 {t e q : TypeId} (ht : P.underlying t = some (.slice e)) (he : P.underlying e = some (.slice q)) (hq : P.underlying q = some (.int .u8)) (ce : P.cellsOf e = 1) (cq : P.cellsOf q = 1) {W : World} {r : Reach} {b0 : Nat} {v : Value} {d : DataW H} {ps : List MemPlace}
    (hval : Value.okWide P W r b0 t v) (h : DataW.Trod enc P W 0 (fun _ => true) true t v d ps) : ∃ A c L, v = .slice A L.length c ∧ Rds W W.heap.size A c L ∧ SpL d L := by
  obtain ⟨a0, len, cap, rfl⟩ := okWide_slice ht hval
  obtain ⟨fuel, hf⟩ := h
  rcases open_int_rows ht he hq ce cq hf with ⟨hcs, hx⟩ | ⟨a, len', cap', A, Ln, C, Z, hcs, _, hl, hm, hx, hrow⟩
  · simp [Value.cells] at hcs
    obtain ⟨rfl, rfl, rfl⟩ := hcs
    simp only [Prod.mk.injEq] at hx
    obtain ⟨rfl, rfl⟩ := hx
    exact ⟨none, 0, [], rfl, ⟨by simp, fun _ => ⟨rfl, rfl⟩, fun h => absurd rfl h⟩, .inl ⟨rfl, rfl⟩⟩
  · simp [Value.cells] at hcs
    obtain ⟨rfl, rfl, rfl⟩ := hcs
    simp only [Prod.mk.injEq] at hx
    obtain ⟨rfl, rfl⟩ := hx
    have each : ∀ k, k < len → ∃ bs : List UInt8, W.cell? (a.add k) = some (.slice (A k) bs.length (C k)) ∧ Rd W W.heap.size (A k) (C k) bs ∧ SpB (intRow (H := H) .u8 (A k) (Ln k) (Z k)) bs := fun k hk => by
      obtain ⟨h1, h2, h3, h4, h5, h6, h7⟩ := hrow k (by omega)
      obtain ⟨bs, e1, e2, e3⟩ := open_row (H := H) h2 h4 h5 h6 (fun a' ha j hj => (h7 a' ha).2 j hj)
      exact ⟨bs, by rw [e1]; exact h1, e2, e3⟩
    obtain ⟨L, hL, hp⟩ := choose_rows each
    subst hL
    refine ⟨some a, cap, L, rfl, ⟨hl, (fun h => nomatch h), fun hne => ?_⟩, .inr ⟨_, _, rfl, by simp, fun k hk => ⟨_, ?_, (hp k hk).2.2⟩⟩⟩
    · have h0 : 0 < L.length := List.length_pos_iff.2 hne
      have c0 := (hp 0 h0).1
      have hsp : a.spot = none := by
        have : a.add 0 = a := by simp [Addr.add]
        rw [this] at c0
        unfold World.cell? at c0
        cases hs : a.spot with
        | none => rfl
        | some s => rw [hs] at c0; revert c0; split <;> simp
      obtain ⟨b, o, sp⟩ := a
      simp only at hsp
      subst hsp
      refine ⟨b, o, rfl, World.block_lt_of_cell? W _ c0, fun k hk => ⟨A k, C k, ?_, (hp k hk).2.1⟩⟩
      rw [← (hp k hk).1, Addr.add_lit]
    · simp [hk]

end
end Go.Proofs.YtbikldocjmelcaaDoor
