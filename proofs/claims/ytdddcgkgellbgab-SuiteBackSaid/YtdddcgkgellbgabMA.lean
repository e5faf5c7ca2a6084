import Derived.WalkKit
import Derived.Below
import Derived.Laws.OwnMore
import Derived.Laws.AppendOwnNone
import Derived.Laws.BytesArg
import Derived.Deep.AppendLies
import Derived.Deep.Draws
import Derived.Deep.QuietTactic
import Derived.BigQuiet
import Derived.Lib.Hide
import Derived.Handy
import Derived.Test.YtdddcgkgellbgabChecked
import Derived.Ground.NamesProg
import Derived.Shelf.Spec.BitsCarry
import Derived.Shelf.Bits.Mul64
/-
  Words for slices of bytes in memory: of no program. By an AI agent.
-/
namespace Go.Proofs.Ytdddcgkgellbgab
open Go Go.RowKit

/-- A byte as a value. -/
abbrev bv (c : UInt8) : Value := .int .u8 (c.toNat : Int)
/-- The k-th byte as a number. -/
def nth (bs : List UInt8) (k : Nat) : Nat := (bs[k]?.getD 0).toNat
theorem nth_lt (bs : List UInt8) (k : Nat) : nth bs k < 256 := UInt8.toNat_lt _
theorem nth_le (bs : List UInt8) (k : Nat) : (nth bs k : Int) ≤ 255 := by have := nth_lt bs k; omega
theorem nth_get {bs : List UInt8} {k : Nat} (h : k < bs.length) : nth bs k = bs[k].toNat := by simp [nth, h]
theorem map_bv_get {bs : List UInt8} {k : Nat} (h : k < bs.length) : (bs.map bv)[k]? = some (.int .u8 (nth bs k : Int)) := by
  simp [nth, h]

theorem ret_b {p q : Bool} (h : p = q) : Ending.returned (.bool p) = .returned (.bool q) := by rw [h]
theorem ret_i {k : IntKind} {a b : Int} (h : a = b) : Ending.returned (.int k a) = .returned (.int k b) := by rw [h]
theorem ret_ib {k : IntKind} {a b : Int} {p q : Bool} (h : a = b) (h' : p = q) : Ending.returned (.tuple #[.int k a, .bool p]) = .returned (.tuple #[.int k b, .bool q]) := by rw [h, h']

/-- The slice at 'A', of 'bs.length' elements, reads as the bytes 'bs', in a block below 'B'. -/
structure Rd (w : World) (B : Nat) (A : Option Addr) (c : Nat) (bs : List UInt8) : Prop where
  cap : bs.length ≤ c
  nil : A = none → bs = [] ∧ c = 0
  some_ : bs ≠ [] → ∃ b o, A = some ⟨b, o, none⟩ ∧ b < B ∧ ∀ k, k < bs.length → w.cell? ⟨b, o + k, none⟩ = some (.int .u8 (nth bs k : Int))

section
variable {w w' : World} {B B' c : Nat} {A : Option Addr} {bs : List UInt8}
theorem Rd.keep (h : Rd w B A c bs) (hb : Below B w w') : Rd w' B A c bs :=
  ⟨h.cap, h.nil, fun hn => by
    obtain ⟨b, o, e, hlt, hc⟩ := h.some_ hn
    exact ⟨b, o, e, hlt, fun k hk => (hb.cell (p := ⟨b, o + k, none⟩) hlt).trans (hc k hk)⟩⟩
theorem Rd.mono (h : Rd w B A c bs) (hb : B ≤ B') : Rd w B' A c bs :=
  ⟨h.cap, h.nil, fun hn => by
    obtain ⟨b, o, e, hlt, hc⟩ := h.some_ hn
    exact ⟨b, o, e, by omega, hc⟩⟩
theorem Rd.at_ {k : Nat} (h : Rd w B A c bs) (hk : k < bs.length) : ∃ b o, A = some ⟨b, o, none⟩ ∧ b < B ∧ w.cell? ⟨b, o + k, none⟩ = some (.int .u8 (nth bs k : Int)) := by
  obtain ⟨b, o, e, hlt, hc⟩ := h.some_ (by rintro rfl; simp at hk)
  exact ⟨b, o, e, hlt, hc k hk⟩
/-- All cells, at whatever address. -/
theorem Rd.cells (h : Rd w B A c bs) {ad : Addr} (hA : A = some ad) : ∀ j u, (bs.map bv)[j]? = some u → w.cell? (ad.add j) = some u := by
  intro j u hu
  have hj : j < bs.length := by simpa using (List.getElem?_eq_some_iff.1 hu).1
  obtain ⟨b, o, e, _, hc⟩ := h.at_ hj
  rw [hA] at e
  obtain rfl := Option.some.inj e
  rw [Addr.add_lit, hc, ← map_bv_get hj, hu]

theorem below_drewN {w : World} (B n : Nat) : Below B w (w.drewN n) := ⟨rfl, rfl, rfl, Nat.le_refl _, fun _ _ => rfl⟩

/-- The row is the call's own (a block from 'B' on), its first cells are 'bs'; 'e' is the byte's type. -/
def Own (w : World) (B : Nat) (e : TypeId) (A : Option Addr) (c : Nat) (bs : List UInt8) : Prop :=
  w.ownsRow B e 1 (.slice A bs.length c) bs.length (bs.map bv)
variable {e : TypeId}
theorem Own.rd (h : Own w B e A c bs) : Rd w w.heap.size A c bs := by
  obtain ⟨hl, h2⟩ := h
  rcases h2 with ⟨h, h0⟩ | ⟨g, cap, cur, hv, hB, hh, hn, hm, hs, ht⟩
  · have e0 : bs = [] := List.eq_nil_of_length_eq_zero h0
    subst e0
    simp only [Value.slice.injEq] at h
    obtain ⟨rfl, _, rfl⟩ := h
    exact ⟨by simp, fun _ => ⟨rfl, rfl⟩, fun h => absurd rfl h⟩
  · simp only [Value.slice.injEq, true_and] at hv
    obtain ⟨rfl, rfl⟩ := hv
    refine ⟨hn, (fun h => nomatch h), fun _ => ⟨g, 0, rfl, (Array.getElem?_eq_some_iff.1 hh).1, fun k hk => ?_⟩⟩
    rw [Nat.zero_add, cell_of_row w g k cur e (0, 0) hh, ← map_bv_get hk, ← ht, List.getElem?_take, if_pos (by omega)]
    simp
theorem Own.keep (h : Own w B e A c bs) (hb : Below w.heap.size w w') : Own w' B e A c bs := by
  obtain ⟨hl, h2⟩ := h
  refine ⟨hl, ?_⟩
  rcases h2 with h | ⟨g, cap, cur, hv, hB, hh, r⟩
  · exact .inl h
  · exact .inr ⟨g, cap, cur, hv, hB, (hb.block g (Array.getElem?_eq_some_iff.1 hh).1).trans hh, r⟩
theorem Own.mono (h : Own w B e A c bs) (hb : B' ≤ B) : Own w B' e A c bs := by
  obtain ⟨hl, h2⟩ := h
  refine ⟨hl, ?_⟩
  rcases h2 with h | ⟨g, cap, cur, hv, hB, r⟩
  · exact .inl h
  · exact .inr ⟨g, cap, cur, hv, by omega, r⟩
end


/-- The first k of n bytes are f's, the others 0. -/
def fill (f : Nat → UInt8) (n k : Nat) : List UInt8 := (List.range n).map fun j => if j < k then f j else 0
theorem fill_length (f : Nat → UInt8) (n k : Nat) : (fill f n k).length = n := by simp [fill]
def gen (f : Nat → UInt8) (n : Nat) : List UInt8 := (List.range n).map f
theorem gen_length (f : Nat → UInt8) (n : Nat) : (gen f n).length = n := by simp [gen]
theorem gen_succ (f : Nat → UInt8) (n : Nat) : gen f (n + 1) = gen f n ++ [f n] := by simp [gen, List.range_succ]
theorem nth_gen {f : Nat → UInt8} {n k : Nat} (h : k < n) : nth (gen f n) k = (f k).toNat := by simp [nth, gen, h]
theorem fill_zero (f : Nat → UInt8) (n : Nat) : fill f n 0 = List.replicate n 0 := by
  refine List.ext_getElem (by simp [fill]) fun i h1 h2 => ?_
  simp [fill]
theorem fill_full (f : Nat → UInt8) (n : Nat) : fill f n n = gen f n := by
  refine List.ext_getElem (by simp [fill, gen]) fun i h1 h2 => ?_
  simp only [fill, gen, List.getElem_map, List.getElem_range]
  rw [if_pos (by simpa [gen] using h2)]
theorem fill_set (f : Nat → UInt8) (n k : Nat) {x : UInt8} (hx : x = f k) : (fill f n k).set k x = fill f n (k + 1) := by
  subst hx
  refine List.ext_getElem (by simp [fill]) fun i h1 h2 => ?_
  rw [List.getElem_set]
  simp only [fill, List.getElem_map, List.getElem_range]
  by_cases hik : k = i
  · subst hik; simp
  · rw [if_neg hik]
    by_cases h : i < k
    · rw [if_pos h, if_pos (by omega)]
    · rw [if_neg h, if_neg (by omega)]
theorem nth_ext {xs ys : List UInt8} (hn : xs.length = ys.length) (h : ∀ k, k < xs.length → nth xs k = nth ys k) : xs = ys := by
  refine List.ext_getElem hn fun i h1 h2 => ?_
  have := h i h1
  rw [nth_get h1, nth_get h2] at this
  exact UInt8.toNat_inj.1 this

section
variable {w : World} {B g n : Nat} {e : TypeId} {bs : List UInt8}
theorem Own.made {w : World} {B : Nat} (e : TypeId) (hB : B ≤ w.heap.size) (hn : n ≤ maxLen) : Own (w.alloc (.cells (madeCells #[.int .u8 0] n) e)) B e (some ⟨w.heap.size, 0, none⟩) n (List.replicate n 0) := by
  have h : (madeCells #[.int .u8 0] n).toList = (List.replicate n 0).map bv := by
    refine List.ext_getElem (by simp [madeCells]) fun i h1 h2 => ?_
    simp [madeCells, Nat.mod_one]
  have := World.ownsRow_lit (e := e) (size := 1) w (madeCells #[.int .u8 0] n) n hB hn (by simp [madeCells])
  unfold Own
  rw [List.length_replicate, ← h]
  exact this
theorem Own.lit {w : World} {B : Nat} (e : TypeId) (hB : B ≤ w.heap.size) (cs : Array Value) (bs : List UInt8) (hm : bs.length ≤ maxLen) (h : cs.toList = bs.map bv) : Own (w.alloc (.cells cs e)) B e (some ⟨w.heap.size, 0, none⟩) bs.length bs := by
  have hs : cs.size = bs.length * 1 := by rw [← Array.length_toList, h]; simp
  have := World.ownsRow_lit (e := e) (size := 1) w cs bs.length hB hm hs
  unfold Own
  rw [← h]
  exact this
theorem Own.cell (h : Own w B e (some ⟨g, 0, none⟩) n bs) {k : Nat} (hk : k < bs.length) : w.cell? ⟨g, k, none⟩ = some (.int .u8 (nth bs k : Int)) := by
  rw [World.ownsRow.cellAt h k (by omega), map_bv_get hk]
theorem Own.set_ (h : Own w B e (some ⟨g, 0, none⟩) n bs) (k : Nat) (x : UInt8) : Own (w.setCell ⟨g, k, none⟩ (.int .u8 (x.toNat : Int))) B e (some ⟨g, 0, none⟩) n (bs.set k x) := by
  have := (World.ownsRow.stored h k (bv x)).1
  unfold Own
  rw [List.length_set, List.map_set]
  exact this
theorem Own.ge (h : Own w B e (some ⟨g, 0, none⟩) n bs) : B ≤ g := (World.ownsRow.lt h g rfl).1
theorem Own.free (h : Own w B e (some ⟨g, 0, none⟩) n bs) (k : Nat) : w.frozen? ⟨g, k, none⟩ = false := World.ownsRow.frozenAt h k
end

section
variable {P : Program}
theorem ones (bs : List UInt8) : ∀ u ∈ bs.map bv, u.oneCell' = true := by
  intro u hu
  obtain ⟨_, _, rfl⟩ := List.mem_map.1 hu
  rfl

/-- append of a slice that reads as bytes, nil or not, onto a row of the call's own. -/
theorem run_app (w : World) (base : Nat) (t ty e : TypeId) (i : TypeInfo) (z : Value) (ht : P.underlying t = some (.slice e)) (hi : P.info? e = some i) (hz : i.zero = some z)
    (hsize : i.size = 1) (hby : i.bytes = 1) (hzs : z.cells.size = 1) {v : Value} {n : Nat} {xs : List Value} (hown : w.ownsRow base e 1 v n xs)
    {B c : Nat} {A : Option Addr} {bs : List UInt8} (hr : Rd w B A c bs) (hbytes : n + bs.length ≤ 140737488355328) (hbase : base ≤ w.heap.size) :
    ∃ v' w', (Builtin.append_ #[t, t] ty #[v, .slice A bs.length c]).run P w = .ok v' w' ∧ w'.ownsRow base e 1 v' (n + bs.length) (xs ++ bs.map bv) ∧ w.grownBy w' v.ownBlock := by
  rcases A with _ | ad
  · obtain ⟨rfl, rfl⟩ := hr.nil rfl
    exact ⟨v, w, run_append_owned_none (P := P) w base t ty e i 1 ht hi v n xs hown, by simpa using hown, World.grownBy.refl w _⟩
  · obtain ⟨v', w', hrun, h2, h3, _⟩ := run_append_own (P := P) w base t ty e i z 1 1 ht hi hz hsize hby hzs (by decide) v n xs hown ad bs.length c (bs.map bv) (by simp)
      (hr.cells rfl) (ones bs) (by simp only [maxLen]; omega) (by omega) hbase
    exact ⟨v', w', hrun, h2, h3⟩
theorem owned_shape {w : World} {B : Nat} {e : TypeId} {v : Value} {bs : List UInt8} (h : w.ownsRow B e 1 v bs.length (bs.map bv)) : ∃ A c, v = .slice A bs.length c ∧ Own w B e A c bs := by
  rcases h.2 with ⟨rfl, h0⟩ | ⟨g, cap, cur, rfl, _⟩
  · exact ⟨none, 0, by rw [h0], by unfold Own; rw [h0] at h ⊢; exact h⟩
  · exact ⟨_, _, rfl, h⟩

theorem wp_app (w : World) {o : Oper} {a : Act} {K : Act → World → Prop} {Q : Exit → Act → World → Prop} (s x : Operand) (t : TypeId)
    (ho : o.op = .call { callee := .builtin .append, args := #[s, x], argTypes := #[t, t] })
    (base : Nat) (e : TypeId) (i : TypeInfo) (z : Value) (ht : P.underlying t = some (.slice e)) (hi : P.info? e = some i) (hz : i.zero = some z)
    (hsize : i.size = 1) (hby : i.bytes = 1) (hzs : z.cells.size = 1) {As : Option Addr} {cs : Nat} {xs : List UInt8} (hs : a.eval s = .slice As xs.length cs) (hown : Own w base e As cs xs)
    {B c : Nat} {A : Option Addr} {bs : List UInt8} (hx : a.eval x = .slice A bs.length c) (hr : Rd w B A c bs) (hbytes : xs.length + bs.length ≤ 140737488355328) (hbase : base ≤ w.heap.size)
    (h : ∀ A' c' w', Own w' base e A' c' (xs ++ bs) → Below base w w' → K (a.put o.dst (.slice A' (xs ++ bs).length c')) w') : o.wp P a w K Q := by
  obtain ⟨v', w', hrun, h2, h3⟩ := run_app (P := P) w base t o.type e i z ht hi hz hsize hby hzs hown hr hbytes hbase
  rw [← List.map_append, ← List.length_append] at h2
  obtain ⟨A', c', rfl, h4⟩ := owned_shape h2
  unfold Oper.wp execOp
  simp only [ho, resolve, invoke, builtin, Sem.run_bind, Sem.run_pure, Result.andThen_ok, List.map_toArray, List.map_cons, List.map_nil, hs, hx, hrun]
  refine h A' c' w' h4 ((Below.refl _ _).grown h3 hbase ?_)
  intro k hk
  exact (World.ownsRow.lt hown k hk).1
theorem wpList_app (w : World) {ops : Array Oper} {rest : List Oper} {o : Oper} {a : Act} {Q : Exit → Act → World → Prop} (hgd : o.guard = none) (s x : Operand) (t : TypeId)
    (ho : o.op = .call { callee := .builtin .append, args := #[s, x], argTypes := #[t, t] })
    (base : Nat) (e : TypeId) (i : TypeInfo) (z : Value) (ht : P.underlying t = some (.slice e)) (hi : P.info? e = some i) (hz : i.zero = some z)
    (hsize : i.size = 1) (hby : i.bytes = 1) (hzs : z.cells.size = 1) {As : Option Addr} {cs : Nat} {xs : List UInt8} (hs : a.eval s = .slice As xs.length cs) (hown : Own w base e As cs xs)
    {B c : Nat} {A : Option Addr} {bs : List UInt8} (hx : a.eval x = .slice A bs.length c) (hr : Rd w B A c bs) (hbytes : xs.length + bs.length ≤ 140737488355328) (hbase : base ≤ w.heap.size)
    (h : ∀ A' c' w', Own w' base e A' c' (xs ++ bs) → Below base w w' → wpList P ops Q rest (a.put o.dst (.slice A' (xs ++ bs).length c')) w') : wpList P ops Q (o :: rest) a w :=
  wpList_plain hgd fun _ hK => wp_app w s x t ho base e i z ht hi hz hsize hby hzs hs hown hx hr hbytes hbase fun A' c' w' h1 h2 => hK _ _ (h A' c' w' h1 h2)
/-- append of one byte. -/
theorem wp_app1 (w0 : World) {o : Oper} {a : Act} {K : Act → World → Prop} {Q : Exit → Act → World → Prop} (s x : Operand) (t : TypeId)
    (ho : o.op = .call { callee := .builtin .append, args := #[s, x], argTypes := #[t, t] })
    (base : Nat) (e : TypeId) (i : TypeInfo) (z : Value) (ht : P.underlying t = some (.slice e)) (hi : P.info? e = some i) (hz : i.zero = some z)
    (hsize : i.size = 1) (hby : i.bytes = 1) (hzs : z.cells.size = 1) {As : Option Addr} {cs n : Nat} {xs : List UInt8} (hs : a.eval s = .slice As n cs) (hn : n = xs.length) (hown : Own w0 base e As cs xs)
    {v : Int} (hx : a.eval x = .slice (some ⟨w0.heap.size, 0, none⟩) 1 1) (b : UInt8) (hv : v = (b.toNat : Int)) (hbytes : n + 1 ≤ 140737488355328) (hbase : base ≤ w0.heap.size)
    (h : ∀ A' c' w', Own w' base e A' c' (xs ++ [b]) → Below base w0 w' → K (a.put o.dst (.slice A' (n + 1) c')) w') : o.wp P a (w0.alloc (.cells #[.int .u8 v] e)) K Q := by
  subst hv
  subst hn
  have hb := (Below.refl w0.heap.size w0).alloc (Nat.le_refl _) (.cells #[.int .u8 (b.toNat : Int)] e)
  have hl := (Own.lit (w := w0) e (Nat.le_refl _) #[.int .u8 (b.toNat : Int)] [b] (by simp [maxLen]) rfl).rd
  refine wp_app _ s x t ho base e i z ht hi hz hsize hby hzs hs (hown.keep hb) (bs := [b]) hx hl (by simpa using hbytes) (by simp; omega) ?_
  intro A' c' w' h1 h2
  rw [show (xs ++ [b]).length = xs.length + 1 by simp]
  exact h A' c' w' h1 ((hb.mono hbase).trans h2)
theorem wpList_app1 (w0 : World) {ops : Array Oper} {rest : List Oper} {o : Oper} {a : Act} {Q : Exit → Act → World → Prop} (hgd : o.guard = none) (s x : Operand) (t : TypeId)
    (ho : o.op = .call { callee := .builtin .append, args := #[s, x], argTypes := #[t, t] })
    (base : Nat) (e : TypeId) (i : TypeInfo) (z : Value) (ht : P.underlying t = some (.slice e)) (hi : P.info? e = some i) (hz : i.zero = some z)
    (hsize : i.size = 1) (hby : i.bytes = 1) (hzs : z.cells.size = 1) {As : Option Addr} {cs n : Nat} {xs : List UInt8} (hs : a.eval s = .slice As n cs) (hn : n = xs.length) (hown : Own w0 base e As cs xs)
    {v : Int} (hx : a.eval x = .slice (some ⟨w0.heap.size, 0, none⟩) 1 1) (b : UInt8) (hv : v = (b.toNat : Int)) (hbytes : n + 1 ≤ 140737488355328) (hbase : base ≤ w0.heap.size)
    (h : ∀ A' c' w', Own w' base e A' c' (xs ++ [b]) → Below base w0 w' → wpList P ops Q rest (a.put o.dst (.slice A' (n + 1) c')) w') : wpList P ops Q (o :: rest) a (w0.alloc (.cells #[.int .u8 v] e)) :=
  wpList_plain hgd fun _ hK => wp_app1 w0 s x t ho base e i z ht hi hz hsize hby hzs hs hn hown hx b hv hbytes hbase fun A' c' w' h1 h2 => hK _ _ (h A' c' w' h1 h2)
theorem step_app1 (w0 : World) {ops : Array Oper} {o : Oper} {a : Act} {K : Act → World → Prop} {Q : Exit → Act → World → Prop} {E : Prop} (hgd : o.guard = none) (s x : Operand) (t : TypeId)
    (ho : o.op = .call { callee := .builtin .append, args := #[s, x], argTypes := #[t, t] })
    (base : Nat) (e : TypeId) (i : TypeInfo) (z : Value) (ht : P.underlying t = some (.slice e)) (hi : P.info? e = some i) (hz : i.zero = some z)
    (hsize : i.size = 1) (hby : i.bytes = 1) (hzs : z.cells.size = 1) {As : Option Addr} {cs n : Nat} {xs : List UInt8} (hs : a.eval s = .slice As n cs) (hn : n = xs.length) (hown : Own w0 base e As cs xs)
    {v : Int} (hx : a.eval x = .slice (some ⟨w0.heap.size, 0, none⟩) 1 1) (b : UInt8) (hv : v = (b.toNat : Int)) (hbytes : n + 1 ≤ 140737488355328) (hbase : base ≤ w0.heap.size)
    (h : ∀ A' c' w', Own w' base e A' c' (xs ++ [b]) → Below base w0 w' → K (a.put o.dst (.slice A' (n + 1) c')) w') :
    if Region.wanted o (yielded ops a.tmps) = true then Oper.wp P o a (w0.alloc (.cells #[.int .u8 v] e)) K Q else E := by
  have hw : Region.wanted o (yielded ops a.tmps) = true := by simp [Region.wanted, hgd]
  rw [if_pos hw]
  exact wp_app1 w0 s x t ho base e i z ht hi hz hsize hby hzs hs hn hown hx b hv hbytes hbase h

/-- append of bytes that are written out. -/
theorem wp_appL (w0 : World) {o : Oper} {a : Act} {K : Act → World → Prop} {Q : Exit → Act → World → Prop} (s x : Operand) (t : TypeId)
    (ho : o.op = .call { callee := .builtin .append, args := #[s, x], argTypes := #[t, t] })
    (base : Nat) (e : TypeId) (i : TypeInfo) (z : Value) (ht : P.underlying t = some (.slice e)) (hi : P.info? e = some i) (hz : i.zero = some z)
    (hsize : i.size = 1) (hby : i.bytes = 1) (hzs : z.cells.size = 1) {As : Option Addr} {cs n : Nat} {xs : List UInt8} (hs : a.eval s = .slice As n cs) (hn : n = xs.length) (hown : Own w0 base e As cs xs)
    {cells : Array Value} (bs : List UInt8) {m : Nat} (hm : m = bs.length) (hx : a.eval x = .slice (some ⟨w0.heap.size, 0, none⟩) m m) (hv : cells.toList = bs.map bv) (hbytes : n + m ≤ 140737488355328) (hbase : base ≤ w0.heap.size)
    (h : ∀ A' c' w', Own w' base e A' c' (xs ++ bs) → Below base w0 w' → K (a.put o.dst (.slice A' (n + m) c')) w') : o.wp P a (w0.alloc (.cells cells e)) K Q := by
  subst hm
  subst hn
  have hb := (Below.refl w0.heap.size w0).alloc (Nat.le_refl _) (.cells cells e)
  have hl := (Own.lit (w := w0) e (Nat.le_refl _) cells bs (by simp [maxLen]; omega) hv).rd
  refine wp_app _ s x t ho base e i z ht hi hz hsize hby hzs hs (hown.keep hb) (bs := bs) hx hl hbytes (by simp; omega) ?_
  intro A' c' w' h1 h2
  rw [List.length_append]
  exact h A' c' w' h1 ((hb.mono hbase).trans h2)
theorem step_appL (w0 : World) {ops : Array Oper} {o : Oper} {a : Act} {K : Act → World → Prop} {Q : Exit → Act → World → Prop} {E : Prop} (hgd : o.guard = none) (s x : Operand) (t : TypeId)
    (ho : o.op = .call { callee := .builtin .append, args := #[s, x], argTypes := #[t, t] })
    (base : Nat) (e : TypeId) (i : TypeInfo) (z : Value) (ht : P.underlying t = some (.slice e)) (hi : P.info? e = some i) (hz : i.zero = some z)
    (hsize : i.size = 1) (hby : i.bytes = 1) (hzs : z.cells.size = 1) {As : Option Addr} {cs n : Nat} {xs : List UInt8} (hs : a.eval s = .slice As n cs) (hn : n = xs.length) (hown : Own w0 base e As cs xs)
    {cells : Array Value} (bs : List UInt8) {m : Nat} (hm : m = bs.length) (hx : a.eval x = .slice (some ⟨w0.heap.size, 0, none⟩) m m) (hv : cells.toList = bs.map bv) (hbytes : n + m ≤ 140737488355328) (hbase : base ≤ w0.heap.size)
    (h : ∀ A' c' w', Own w' base e A' c' (xs ++ bs) → Below base w0 w' → K (a.put o.dst (.slice A' (n + m) c')) w') :
    if Region.wanted o (yielded ops a.tmps) = true then Oper.wp P o a (w0.alloc (.cells cells e)) K Q else E := by
  have hw : Region.wanted o (yielded ops a.tmps) = true := by simp [Region.wanted, hgd]
  rw [if_pos hw]
  exact wp_appL w0 s x t ho base e i z ht hi hz hsize hby hzs hs hn hown bs hm hx hv hbytes hbase h

/-- 'string(b)'. -/
theorem run_str (w : World) (src e : TypeId) (hs : P.underlying src = some (.slice e)) (he : P.underlying e = some (.int .u8)) {dst : TypeId} (hd : P.underlying dst = some .string)
    {B c : Nat} {A : Option Addr} {bs : List UInt8} (hr : Rd w B A c bs) : (convert src dst (.slice A bs.length c)).run P w = .ok (.string ⟨bs.toArray⟩) w := by
  rcases A with _ | ad
  · obtain ⟨rfl, rfl⟩ := hr.nil rfl
    exact run_convert_bytes_nil (P := P) w src e hs he _ _ dst hd
  · have hl : (loadCells ad bs.length).run P w = .ok ((bs.map (fun c => (c.toNat : Int))).map (Value.int .u8)).toArray w := by
      have := run_loadCells_list (P := P) w ad (bs.map bv) (fun j v hj => hr.cells rfl j v hj)
      simpa [Function.comp_def] using this
    rw [run_convert_bytes_string w src dst e _ _ c hs he hd, run_bytesToString w _ _ c _ hl, foldl_push_bytes]
    simp [ByteArray.empty, ByteArray.emptyWithCapacity, Function.comp_def]
    rfl

/-- 'make([]byte, n)'. -/
theorem run_mk (t e : TypeId) (i : TypeInfo) (ht : P.underlying t = some (.slice e)) (hi : P.info? e = some i) (hz : i.zero = some (.int .u8 0))
    (hsize : i.size = 1) (hby : i.bytes = 1) {l : Int} {n : Nat} (hl : l = (n : Int)) (hn : n ≤ 281474976710656) (w : World) :
    (Instr.makeSlice t (.int .i64 l) (.int .i64 l)).run P w = .ok (.slice (some ⟨w.heap.size, 0, none⟩) n n) (w.alloc (.cells (madeCells #[.int .u8 0] n) e)) := by
  subst hl
  have h := run_make (P := P) w t e i (.int .u8 0) ht hi hz .i64 .i64 n n (by omega) (Int.le_refl _) (by rw [hby]; omega) (by omega)
  simpa [hsize, Value.cells] using h
end

end Go.Proofs.Ytdddcgkgellbgab

/-
  Digits of numbers, to any base: of no program. By an AI agent.
-/
namespace Go.Proofs.Ytdddcgkgellbgab

/-- The i-th digit of x to the base b. -/
def dgt (b x i : Nat) : Nat := x / b ^ i % b
theorem dgt_lt {b : Nat} (hb : 0 < b) (x i : Nat) : dgt b x i < b := Nat.mod_lt _ hb
theorem dgt_le {b : Nat} (hb : 0 < b) (x i : Nat) : dgt b x i ≤ b - 1 := by have := dgt_lt hb x i; omega
theorem dgt_zero_of_lt {b x i : Nat} (h : x < b ^ i) : dgt b x i = 0 := by simp [dgt, Nat.div_eq_of_lt h]
theorem mod_pow_succ' (b x i : Nat) : x % b ^ (i + 1) = x % b ^ i + b ^ i * dgt b x i := by
  rw [Nat.pow_succ, Nat.mod_mul]; rfl
theorem mod_pow_full {b x n : Nat} (h : x < b ^ n) : x % b ^ n = x := Nat.mod_eq_of_lt h
theorem dgt_mod {b : Nat} (x : Nat) {i n : Nat} (h : i < n) : dgt b (x % b ^ n) i = dgt b x i := by
  unfold dgt
  have e : b ^ n = b ^ i * (b * b ^ (n - i - 1)) := by
    rw [← Nat.mul_assoc, ← Nat.pow_succ, ← Nat.pow_add]; congr 1; omega
  rw [e, Nat.mod_mul_right_div_self, Nat.mod_mul_right_mod]
theorem dgt_ext {b x y n : Nat} (hx : x < b ^ n) (hy : y < b ^ n) (h : ∀ i, i < n → dgt b x i = dgt b y i) : x = y := by
  have key : ∀ k, k ≤ n → x % b ^ k = y % b ^ k := by
    intro k
    induction k with
    | zero => intro _; simp [Nat.mod_one]
    | succ k ih => intro hk; rw [mod_pow_succ', mod_pow_succ', ih (by omega), h k (by omega)]
  have := key n (Nat.le_refl _)
  rwa [Nat.mod_eq_of_lt hx, Nat.mod_eq_of_lt hy] at this

/-- What is carried into digit i of a sum. -/
def cry (b x y i : Nat) : Nat := (x % b ^ i + y % b ^ i) / b ^ i
theorem cry_zero (b x y : Nat) : cry b x y 0 = 0 := by simp [cry, Nat.mod_one]
theorem cry_succ {b : Nat} (hb : 0 < b) (x y i : Nat) : cry b x y (i + 1) = (dgt b x i + dgt b y i + cry b x y i) / b := by
  unfold cry
  have hp : 0 < b ^ i := Nat.pow_pos hb
  rw [mod_pow_succ', mod_pow_succ', Nat.pow_succ, ← Nat.div_div_eq_div_mul]
  have e : x % b ^ i + b ^ i * dgt b x i + (y % b ^ i + b ^ i * dgt b y i) = (x % b ^ i + y % b ^ i) + b ^ i * (dgt b x i + dgt b y i) := by
    rw [Nat.mul_add]; omega
  rw [e, Nat.add_mul_div_left _ _ hp]
  congr 1; omega
theorem dgt_add {b : Nat} (hb : 0 < b) (x y i : Nat) : dgt b (x + y) i = (dgt b x i + dgt b y i + cry b x y i) % b := by
  unfold cry dgt
  have hp : 0 < b ^ i := Nat.pow_pos hb
  have e : x + y = (x % b ^ i + y % b ^ i) + b ^ i * (x / b ^ i + y / b ^ i) := by
    have h1 := Nat.mod_add_div x (b ^ i)
    have h2 := Nat.mod_add_div y (b ^ i)
    rw [Nat.mul_add]; omega
  conv => lhs; rw [e, Nat.add_mul_div_left _ _ hp]
  rw [Nat.add_comm, Nat.add_mod (x / b ^ i % b + y / b ^ i % b), Nat.add_mod (x / b ^ i % b), Nat.mod_mod, Nat.mod_mod, ← Nat.add_mod (x / b ^ i), ← Nat.add_mod]
theorem cry_le {b : Nat} (hb : 0 < b) (x y i : Nat) : cry b x y i ≤ 1 := by
  unfold cry
  have hp : 0 < b ^ i := Nat.pow_pos hb
  have h1 := Nat.mod_lt x hp
  have h2 := Nat.mod_lt y hp
  have : (x % b ^ i + y % b ^ i) / b ^ i < 2 := Nat.div_lt_of_lt_mul (by omega)
  omega
theorem cry_full {b x y n : Nat} (hx : x < b ^ n) (hy : y < b ^ n) : cry b x y n = (x + y) / b ^ n := by
  unfold cry; rw [Nat.mod_eq_of_lt hx, Nat.mod_eq_of_lt hy]

/-- What is borrowed off digit i of a difference. -/
def brw (b x y i : Nat) : Nat := if x % b ^ i < y % b ^ i then 1 else 0
theorem brw_zero (b x y : Nat) : brw b x y 0 = 0 := by simp [brw, Nat.mod_one]
theorem brw_le (b x y i : Nat) : brw b x y i ≤ 1 := by unfold brw; split <;> omega
theorem brw_succ {b : Nat} (hb : 0 < b) (x y i : Nat) : brw b x y (i + 1) = if dgt b x i < dgt b y i + brw b x y i then 1 else 0 := by
  unfold brw
  have hp : 0 < b ^ i := Nat.pow_pos hb
  rw [mod_pow_succ', mod_pow_succ']
  have h1 := Nat.mod_lt x hp
  have h2 := Nat.mod_lt y hp
  generalize x % b ^ i = r at *
  generalize y % b ^ i = s at *
  generalize dgt b x i = d at *
  generalize dgt b y i = e at *
  generalize b ^ i = p at *
  rcases Nat.lt_trichotomy d e with h | h | h
  · have : p * (d + 1) ≤ p * e := Nat.mul_le_mul_left _ h
    rw [Nat.mul_add] at this
    rw [if_pos (by omega), if_pos (by split <;> omega)]
  · subst h
    by_cases h3 : r < s
    · rw [if_pos (by omega), if_pos (by rw [if_pos h3]; omega)]
    · rw [if_neg (by omega), if_neg (by rw [if_neg h3]; omega)]
  · have : p * (e + 1) ≤ p * d := Nat.mul_le_mul_left _ h
    rw [Nat.mul_add] at this
    rw [if_neg (by omega), if_neg (by split <;> omega)]
theorem brw_full {b x y n : Nat} (hx : x < b ^ n) (hy : y < b ^ n) : brw b x y n = if x < y then 1 else 0 := by
  unfold brw; rw [Nat.mod_eq_of_lt hx, Nat.mod_eq_of_lt hy]
theorem dgt_sub {b : Nat} (hb : 0 < b) (x y : Nat) {i n : Nat} (hi : i < n) (hy : y < b ^ n) :
    (dgt b (x + b ^ n - y) i : Int) = ((dgt b x i : Int) - dgt b y i - brw b x y i) % (b : Int) := by
  unfold brw dgt
  have hp : 0 < b ^ i := Nat.pow_pos hb
  have e : b ^ n = b ^ i * (b * b ^ (n - i - 1)) := by
    rw [← Nat.mul_assoc, ← Nat.pow_succ, ← Nat.pow_add]; congr 1; omega
  rw [e] at hy ⊢
  generalize b ^ (n - i - 1) = q at *
  have h1 := Nat.mod_lt x hp
  have h2 := Nat.mod_lt y hp
  have d1 := Nat.mod_add_div x (b ^ i)
  have d2 := Nat.mod_add_div y (b ^ i)
  generalize x % b ^ i = r at *
  generalize y % b ^ i = s at *
  generalize x / b ^ i = X at *
  generalize y / b ^ i = Y at *
  generalize b ^ i = p at *
  subst d1 d2
  -- the quotient by p
  have key : ∀ br : Nat, (if r < s then (1 : Nat) else 0) = br → (((r + p * X + p * (b * q) - (s + p * Y)) / p : Nat) : Int) = (X : Int) + b * q - Y - br := by
    intro br hbr
    have hZ : ((r + p * X + p * (b * q) - (s + p * Y) : Nat) : Int) = (r + p * br - s : Int) + p * ((X : Int) + b * q - Y - br) := by
      have : s + p * Y ≤ r + p * X + p * (b * q) := by omega
      rw [Int.ofNat_sub this]
      simp only [Int.natCast_add, Int.natCast_mul, Int.mul_sub, Int.mul_add]
      omega
    rw [Int.natCast_ediv, hZ, Int.add_mul_ediv_left _ _ (by omega), Int.ediv_eq_zero_of_lt]
    · omega
    · subst hbr; split <;> simp <;> omega
    · subst hbr; split <;> simp <;> omega
  rw [Int.natCast_emod, key _ rfl]
  rw [Int.natCast_emod, Int.natCast_emod]
  rw [show (X : Int) + b * q - Y - ((if r < s then (1 : Nat) else 0 : Nat) : Int) = (X - Y - ((if r < s then (1 : Nat) else 0 : Nat) : Int)) + b * q by omega, Int.add_mul_emod_self_left]
  rw [Int.sub_emod ((X : Int) - Y), Int.sub_emod (X : Int) Y, Int.sub_emod ((X : Int) % b - Y % b), Int.sub_emod ((X : Int) % b) ((Y : Int) % b)]

theorem dgt_add_mul {b : Nat} (A z : Nat) {j n : Nat} (h : j < n) : dgt b (A + b ^ n * z) j = dgt b A j := by
  rw [← dgt_mod _ h, Nat.add_mul_mod_self_left, dgt_mod _ h]
theorem dgt_div (b x i : Nat) : x / b ^ (i + 1) = x / b ^ i / b := by rw [Nat.pow_succ, Nat.div_div_eq_div_mul]

/-- A product, digit by digit: what i digits of x give; what k digits of y have put on it; what is carried. -/
def mT (b x y i : Nat) : Nat := (x % b ^ i) * y
def mS (b x y i k : Nat) : Nat := mT b x y i % b ^ (i + k) + dgt b x i * (y % b ^ k) * b ^ i
def mO (b x y i k : Nat) : Nat := mS b x y i k / b ^ (i + k)
theorem mT_zero (b x y : Nat) : mT b x y 0 = 0 := by simp [mT, Nat.mod_one]
theorem mT_succ (b x y i : Nat) : mT b x y (i + 1) = mT b x y i + dgt b x i * y * b ^ i := by
  unfold mT
  rw [mod_pow_succ', Nat.add_mul]
  congr 1
  rw [Nat.mul_comm (b ^ i), Nat.mul_right_comm]
theorem mT_full {b x y n : Nat} (hx : x < b ^ n) : mT b x y n = x * y := by unfold mT; rw [Nat.mod_eq_of_lt hx]
theorem mT_lt {b x y i n : Nat} (hb : 0 < b) (hy : y < b ^ n) : mT b x y i < b ^ (i + n) := by
  unfold mT
  rw [Nat.pow_add]
  exact Nat.mul_lt_mul_of_lt_of_le (Nat.mod_lt _ (Nat.pow_pos hb)) (Nat.le_of_lt hy) (Nat.pow_pos hb)
theorem mS_zero {b x y i : Nat} : mS b x y i 0 = mT b x y i % b ^ i := by simp [mS, Nat.mod_one]
theorem mO_zero {b x y i : Nat} (hb : 0 < b) : mO b x y i 0 = 0 := by
  unfold mO; rw [mS_zero]; exact Nat.div_eq_of_lt (Nat.mod_lt _ (Nat.pow_pos hb))
theorem mS_succ (b x y i k : Nat) : mS b x y i (k + 1) = mS b x y i k + b ^ (i + k) * (dgt b x i * dgt b y k + dgt b (mT b x y i) (i + k)) := by
  unfold mS
  rw [← Nat.add_assoc, mod_pow_succ', mod_pow_succ']
  generalize mT b x y i % b ^ (i + k) = p
  generalize dgt b (mT b x y i) (i + k) = q
  generalize dgt b x i = r
  generalize dgt b y k = s
  generalize y % b ^ k = t
  rw [Nat.pow_add]
  simp only [Nat.mul_add, Nat.add_mul, Nat.mul_assoc, Nat.mul_comm, Nat.mul_left_comm, Nat.add_assoc, Nat.add_comm, Nat.add_left_comm]
theorem mS_div {b x y i k : Nat} (hb : 0 < b) : mS b x y i (k + 1) / b ^ (i + k) = dgt b x i * dgt b y k + dgt b (mT b x y i) (i + k) + mO b x y i k := by
  rw [mS_succ, Nat.add_mul_div_left _ _ (Nat.pow_pos hb)]
  unfold mO
  omega
theorem mO_succ {b x y i k : Nat} (hb : 0 < b) : mO b x y i (k + 1) = (dgt b x i * dgt b y k + dgt b (mT b x y i) (i + k) + mO b x y i k) / b := by
  rw [← mS_div hb]
  unfold mO
  rw [← Nat.add_assoc, dgt_div]
theorem mS_new {b x y i k : Nat} (hb : 0 < b) : dgt b (mS b x y i (k + 1)) (i + k) = (dgt b x i * dgt b y k + dgt b (mT b x y i) (i + k) + mO b x y i k) % b := by
  rw [← mS_div hb]; rfl
theorem mS_old {b x y i k j : Nat} (h : j < i + k) : dgt b (mS b x y i (k + 1)) j = dgt b (mS b x y i k) j := by
  rw [mS_succ, dgt_add_mul _ _ h]
theorem mS_lt {b x y i k : Nat} (hb : 0 < b) : mS b x y i k < b ^ (i + k + 1) := by
  unfold mS
  have h1 := Nat.mod_lt (mT b x y i) (Nat.pow_pos (n := i + k) hb)
  have h2 := dgt_le hb x i
  have h3 : dgt b x i * (y % b ^ k) * b ^ i ≤ (b - 1) * b ^ k * b ^ i :=
    Nat.mul_le_mul_right _ (Nat.mul_le_mul h2 (Nat.le_of_lt (Nat.mod_lt _ (Nat.pow_pos hb))))
  have e1 : (b - 1) * b ^ k * b ^ i = (b - 1) * b ^ (i + k) := by rw [Nat.mul_assoc, ← Nat.pow_add, Nat.add_comm]
  have e2 : b ^ (i + k + 1) = b ^ (i + k) + (b - 1) * b ^ (i + k) := by
    rw [Nat.pow_succ]
    obtain ⟨c, rfl⟩ : ∃ c, b = c + 1 := ⟨b - 1, by omega⟩
    rw [Nat.mul_add, Nat.add_sub_cancel, Nat.mul_comm _ c]; omega
  omega
theorem mO_lt {b x y i k : Nat} (hb : 0 < b) : mO b x y i k < b := by
  unfold mO
  refine Nat.div_lt_of_lt_mul ?_
  rw [← Nat.pow_succ]
  exact mS_lt hb
theorem mS_full {b x y i n : Nat} (hb : 0 < b) (hy : y < b ^ n) : mS b x y i n = mT b x y (i + 1) := by
  unfold mS
  rw [Nat.mod_eq_of_lt (mT_lt hb hy), Nat.mod_eq_of_lt hy, mT_succ]
end Go.Proofs.Ytdddcgkgellbgab

/-
  Rows of one-cell values in memory, of whatever type: of no program. By an AI agent.
-/
namespace Go.Proofs.Ytdddcgkgellbgab
open Go Go.RowKit

/-- The slice at 'A', of 'n' elements, reads as the values 'f 0', 'f 1' .., in a block below 'B'. -/
structure RdF (w : World) (B : Nat) (A : Option Addr) (c n : Nat) (f : Nat → Value) : Prop where
  cap : n ≤ c
  nil : A = none → n = 0 ∧ c = 0
  some_ : 0 < n → ∃ b o, A = some ⟨b, o, none⟩ ∧ b < B ∧ ∀ k, k < n → w.cell? ⟨b, o + k, none⟩ = some (f k)
section
variable {w w' : World} {B B' c n : Nat} {A : Option Addr} {f : Nat → Value}
theorem RdF.keep (h : RdF w B A c n f) (hb : Below B w w') : RdF w' B A c n f :=
  ⟨h.cap, h.nil, fun hn => by
    obtain ⟨b, o, e, hlt, hc⟩ := h.some_ hn
    exact ⟨b, o, e, hlt, fun k hk => (hb.cell (p := ⟨b, o + k, none⟩) hlt).trans (hc k hk)⟩⟩
theorem RdF.mono (h : RdF w B A c n f) (hb : B ≤ B') : RdF w B' A c n f :=
  ⟨h.cap, h.nil, fun hn => by
    obtain ⟨b, o, e, hlt, hc⟩ := h.some_ hn
    exact ⟨b, o, e, by omega, hc⟩⟩
theorem RdF.at_ {k : Nat} (h : RdF w B A c n f) (hk : k < n) : ∃ b o, A = some ⟨b, o, none⟩ ∧ b < B ∧ w.cell? ⟨b, o + k, none⟩ = some (f k) := by
  obtain ⟨b, o, e, hlt, hc⟩ := h.some_ (by omega)
  exact ⟨b, o, e, hlt, hc k hk⟩
theorem RdF.next (h : RdF w w.heap.size A c n f) (hb : Below w.heap.size w w') : RdF w' w'.heap.size A c n f := (h.keep hb).mono hb.size
/-- 'a[:m]'. -/
theorem RdF.take {m : Nat} (h : RdF w B A c n f) (hm : m ≤ n) : RdF w B A c m f :=
  ⟨Nat.le_trans hm h.cap, fun e => by have := h.nil e; omega, fun hn => by
    obtain ⟨b, o, e, hlt, hc⟩ := h.some_ (by omega)
    exact ⟨b, o, e, hlt, fun k hk => hc k (by omega)⟩⟩
theorem RdF.congr {g : Nat → Value} (h : RdF w B A c n f) (he : ∀ k, k < n → f k = g k) : RdF w B A c n g :=
  ⟨h.cap, h.nil, fun hn => by
    obtain ⟨b, o, e, hlt, hc⟩ := h.some_ hn
    exact ⟨b, o, e, hlt, fun k hk => by rw [← he k hk]; exact hc k hk⟩⟩
theorem RdF.cells (h : RdF w B A c n f) {ad : Addr} (hA : A = some ad) : ∀ j u, ((List.range n).map f)[j]? = some u → w.cell? (ad.add j) = some u := by
  intro j u hu
  have hj : j < n := by have := (List.getElem?_eq_some_iff.1 hu).1; simpa using this
  obtain ⟨b, o, e, _, hc⟩ := h.at_ hj
  rw [hA] at e
  obtain rfl := Option.some.inj e
  rw [Addr.add_lit, hc]
  simp [hj] at hu
  rw [hu]

/-- The row is the call's own (a block from 'B' on), its first 'n' cells are 'f 0', 'f 1' ..; 'e' is the elements' type. -/
def OwnF (w : World) (B : Nat) (e : TypeId) (A : Option Addr) (c n : Nat) (f : Nat → Value) : Prop :=
  w.ownsRow B e 1 (.slice A n c) n ((List.range n).map f)
variable {e : TypeId}
theorem range_map_get {k : Nat} (h : k < n) : ((List.range n).map f)[k]? = some (f k) := by simp [h]
theorem OwnF.congr {g : Nat → Value} (h : OwnF w B e A c n f) (he : ∀ k, k < n → f k = g k) : OwnF w B e A c n g := by
  unfold OwnF at h ⊢
  rw [show (List.range n).map g = (List.range n).map f from List.map_congr_left fun k hk => (he k (by simpa using hk)).symm]
  exact h
theorem OwnF.rd (h : OwnF w B e A c n f) : RdF w w.heap.size A c n f := by
  obtain ⟨hl, h2⟩ := h
  rcases h2 with ⟨h, h0⟩ | ⟨g, cap, cur, hv, hB, hh, hn, hm, hs, ht⟩
  · subst h0
    simp only [Value.slice.injEq] at h
    obtain ⟨rfl, _, rfl⟩ := h
    exact ⟨by simp, fun _ => ⟨rfl, rfl⟩, fun h => absurd h (by omega)⟩
  · simp only [Value.slice.injEq, true_and] at hv
    obtain ⟨rfl, rfl⟩ := hv
    refine ⟨hn, (fun h => nomatch h), fun _ => ⟨g, 0, rfl, (Array.getElem?_eq_some_iff.1 hh).1, fun k hk => ?_⟩⟩
    rw [Nat.zero_add, cell_of_row w g k cur e (0, 0) hh, ← range_map_get hk, ← ht, List.getElem?_take, if_pos (by omega)]
    simp
/-- The row reads whatever the bound: a block of the call's own. -/
theorem OwnF.rd' (h : OwnF w B e A c n f) (hb : w.heap.size ≤ B') : RdF w B' A c n f := h.rd.mono hb
theorem OwnF.keep (h : OwnF w B e A c n f) (hb : Below w.heap.size w w') : OwnF w' B e A c n f := by
  obtain ⟨hl, h2⟩ := h
  refine ⟨hl, ?_⟩
  rcases h2 with h | ⟨g, cap, cur, hv, hB, hh, r⟩
  · exact .inl h
  · exact .inr ⟨g, cap, cur, hv, hB, (hb.block g (Array.getElem?_eq_some_iff.1 hh).1).trans hh, r⟩
theorem OwnF.mono (h : OwnF w B e A c n f) (hb : B' ≤ B) : OwnF w B' e A c n f := by
  obtain ⟨hl, h2⟩ := h
  refine ⟨hl, ?_⟩
  rcases h2 with h | ⟨g, cap, cur, hv, hB, r⟩
  · exact .inl h
  · exact .inr ⟨g, cap, cur, hv, by omega, r⟩
theorem OwnF.nothing (w : World) (B : Nat) (e : TypeId) (f : Nat → Value) : OwnF w B e none 0 0 f := World.ownsRow_nil _ _ _ _
variable {g : Nat}
theorem OwnF.lit {w : World} {B : Nat} (e : TypeId) (hB : B ≤ w.heap.size) (cs : Array Value) (n : Nat) (f : Nat → Value) (hm : n ≤ maxLen) (h : cs.toList = (List.range n).map f) : OwnF (w.alloc (.cells cs e)) B e (some ⟨w.heap.size, 0, none⟩) n n f := by
  have hs : cs.size = n * 1 := by rw [← Array.length_toList, h]; simp
  have := World.ownsRow_lit (e := e) (size := 1) w cs n hB hm hs
  unfold OwnF
  rw [← h]
  exact this
theorem OwnF.cell (h : OwnF w B e (some ⟨g, 0, none⟩) c n f) {k : Nat} (hk : k < n) : w.cell? ⟨g, k, none⟩ = some (f k) := by
  rw [World.ownsRow.cellAt h k (by omega), range_map_get hk]
theorem OwnF.set_ (h : OwnF w B e (some ⟨g, 0, none⟩) c n f) (k : Nat) (x : Value) : OwnF (w.setCell ⟨g, k, none⟩ x) B e (some ⟨g, 0, none⟩) c n (fun j => if j = k then x else f j) := by
  have := (World.ownsRow.stored h k x).1
  unfold OwnF
  have e : ((List.range n).map f).set k x = (List.range n).map (fun j => if j = k then x else f j) := by
    refine List.ext_getElem (by simp) fun i h1 h2 => ?_
    rw [List.getElem_set]
    simp only [List.getElem_map, List.getElem_range]
    by_cases h : k = i
    · rw [if_pos h, if_pos h.symm]
    · rw [if_neg h, if_neg (Ne.symm h)]
  rw [← e]
  exact this
theorem RdF.cell0 (h : RdF w B (some ⟨g, 0, none⟩) c n f) {k : Nat} (hk : k < n) : w.cell? ⟨g, k, none⟩ = some (f k) := by
  obtain ⟨b, o, e, _, hc⟩ := h.at_ hk
  simp only [Option.some.injEq, Addr.mk.injEq] at e
  obtain ⟨rfl, rfl, _⟩ := e
  simpa using hc
theorem OwnF.keepAt (h : OwnF w B e (some ⟨g, 0, none⟩) c n f) (hb : Below (g + 1) w w') : OwnF w' B e (some ⟨g, 0, none⟩) c n f := by
  obtain ⟨hl, h2⟩ := h
  refine ⟨hl, ?_⟩
  rcases h2 with h | ⟨g', cap, cur, hv, hB, hh, r⟩
  · exact .inl h
  · have hg : g = g' := by simp only [Value.slice.injEq, Option.some.injEq, Addr.mk.injEq] at hv; exact hv.1.1
    subst hg
    exact .inr ⟨g, cap, cur, hv, hB, (hb.block g (by omega)).trans hh, r⟩
theorem OwnF.other (h : OwnF w B e (some ⟨g, 0, none⟩) c n f) {p : Addr} (hp : p.block ≠ g) (v : Value) : OwnF (w.setCell p v) B e (some ⟨g, 0, none⟩) c n f := by
  obtain ⟨hl, h2⟩ := h
  refine ⟨hl, ?_⟩
  rcases h2 with h | ⟨g', cap, cur, hv, hB, hh, r⟩
  · exact .inl h
  · have hg : g = g' := by simp only [Value.slice.injEq, Option.some.injEq, Addr.mk.injEq] at hv; exact hv.1.1
    subst hg
    exact .inr ⟨g, cap, cur, hv, hB, (Below.heap_setCell w p v g (Ne.symm hp)).trans hh, r⟩
theorem OwnF.ge (h : OwnF w B e (some ⟨g, 0, none⟩) c n f) : B ≤ g := (World.ownsRow.lt h g rfl).1
theorem OwnF.lt (h : OwnF w B e (some ⟨g, 0, none⟩) c n f) : g < w.heap.size := (World.ownsRow.lt h g rfl).2
theorem OwnF.free (h : OwnF w B e (some ⟨g, 0, none⟩) c n f) (k : Nat) : w.frozen? ⟨g, k, none⟩ = false := World.ownsRow.frozenAt h k
theorem OwnF.drew (h : OwnF w B e A c n f) : OwnF w.drew B e A c n f := h
theorem OwnF.drewN (h : OwnF w B e A c n f) (m : Nat) : OwnF (w.drewN m) B e A c n f := h
theorem RdF.drew (h : RdF w B A c n f) : RdF w.drew B A c n f := ⟨h.cap, h.nil, h.some_⟩
theorem RdF.drewN (h : RdF w B A c n f) (m : Nat) : RdF (w.drewN m) B A c n f := ⟨h.cap, h.nil, h.some_⟩
/-- How long. -/
theorem OwnF.bound (h : OwnF w B e A c n f) : n ≤ maxLen := by
  rcases h.2 with ⟨_, h0⟩ | ⟨g, cap, cur, hv, hB, hh, hn, hm, hs, ht⟩
  · omega
  · exact Nat.le_trans hn hm

theorem owned_shapeF {v : Value} {xs : List Value} {n : Nat} (h : w.ownsRow B e 1 v n xs) (hx : xs = (List.range n).map f) : ∃ A c, v = .slice A n c ∧ OwnF w B e A c n f := by
  subst hx
  rcases h.2 with ⟨rfl, h0⟩ | ⟨g, cap, cur, rfl, _⟩
  · exact ⟨Option.none, 0, by rw [h0], by unfold OwnF; rw [h0] at h ⊢; exact h⟩
  · exact ⟨_, _, rfl, h⟩
end

section
variable {P : Program}
/-- append of a slice that reads as one-cell values, nil or not, onto a row of the call's own. -/
theorem wp_appF (w : World) {o : Oper} {a : Act} {K : Act → World → Prop} {Q : Exit → Act → World → Prop} (s x : Operand) (t : TypeId)
    (ho : o.op = .call { callee := .builtin .append, args := #[s, x], argTypes := #[t, t] })
    (base : Nat) (e : TypeId) (i : TypeInfo) (z : Value) (ht : P.underlying t = some (.slice e)) (hi : P.info? e = some i) (hz : i.zero = some z)
    (hsize : i.size = 1) {by_ : Nat} (hby : i.bytes = by_) (_hby0 : 0 < by_) (hzs : z.cells.size = 1) {As : Option Addr} {cs n : Nat} {f : Nat → Value} (hs : a.eval s = .slice As n cs) (hown : OwnF w base e As cs n f)
    {B c m : Nat} {A : Option Addr} {g : Nat → Value} (hx : a.eval x = .slice A m c) (hr : RdF w B A c m g) (hg : ∀ k, k < m → (g k).oneCell' = true) (hlen : n + m ≤ 140737488355328) (hbytes : (n + m) * by_ ≤ 140737488355328) (hbase : base ≤ w.heap.size)
    (h : ∀ A' c' w', OwnF w' base e A' c' (n + m) (fun k => if k < n then f k else g (k - n)) → Below base w w' → K (a.put o.dst (.slice A' (n + m) c')) w') : o.wp P a w K Q := by
  have happ : (List.range n).map f ++ (List.range m).map g = (List.range (n + m)).map (fun k => if k < n then f k else g (k - n)) := by
    refine List.ext_getElem (by simp) fun i h1 h2 => ?_
    rw [List.getElem_append]
    simp only [List.length_map, List.length_range, List.getElem_map, List.getElem_range]
    by_cases hi : i < n
    · rw [dif_pos hi, if_pos hi]
    · rw [dif_neg hi, if_neg hi]
  have hrun : ∃ v' w', (Builtin.append_ #[t, t] o.type #[.slice As n cs, .slice A m c]).run P w = .ok v' w' ∧ w'.ownsRow base e 1 v' (n + m) ((List.range n).map f ++ (List.range m).map g) ∧ w.grownBy w' (Value.slice As n cs).ownBlock := by
    rcases A with _ | ad
    · obtain ⟨rfl, rfl⟩ := hr.nil rfl
      exact ⟨_, w, run_append_owned_none (P := P) w base t o.type e i 1 ht hi _ n _ hown, by simp only [Nat.add_zero, List.range_zero, List.map_nil, List.append_nil]; exact hown, World.grownBy.refl w _⟩
    · obtain ⟨v', w', hrun, h2, h3, _⟩ := run_append_own (P := P) w base t o.type e i z 1 by_ ht hi hz hsize hby hzs (by decide) _ n _ hown ad m c ((List.range m).map g) (by simp)
        (hr.cells rfl) (by intro u hu; obtain ⟨k, hk, rfl⟩ := List.mem_map.1 hu; exact hg k (by simpa using hk)) (by simp only [maxLen]; omega) (by omega) hbase
      exact ⟨v', w', hrun, h2, h3⟩
  obtain ⟨v', w', hrun, h2, h3⟩ := hrun
  obtain ⟨A', c', rfl, h4⟩ := owned_shapeF h2 happ
  unfold Oper.wp execOp
  simp only [ho, resolve, invoke, builtin, Sem.run_bind, Sem.run_pure, Result.andThen_ok, List.map_toArray, List.map_cons, List.map_nil, hs, hx, hrun]
  refine h A' c' w' h4 ((Below.refl _ _).grown h3 hbase ?_)
  intro k hk
  exact (World.ownsRow.lt hown k hk).1
/-- append of one value. -/
theorem wp_appF1 (w0 : World) {o : Oper} {a : Act} {K : Act → World → Prop} {Q : Exit → Act → World → Prop} (s x : Operand) (t : TypeId)
    (ho : o.op = .call { callee := .builtin .append, args := #[s, x], argTypes := #[t, t] })
    (base : Nat) (e : TypeId) (i : TypeInfo) (z : Value) (ht : P.underlying t = some (.slice e)) (hi : P.info? e = some i) (hz : i.zero = some z)
    (hsize : i.size = 1) {by_ : Nat} (hby : i.bytes = by_) (hby0 : 0 < by_) (hzs : z.cells.size = 1) {As : Option Addr} {cs n : Nat} {f : Nat → Value} (hs : a.eval s = .slice As n cs) (hown : OwnF w0 base e As cs n f)
    {v : Value} (hv : v = f n) (hx : a.eval x = .slice (some ⟨w0.heap.size, 0, none⟩) 1 1) (hone : (f n).oneCell' = true) (hlen : n + 1 ≤ 140737488355328) (hbytes : (n + 1) * by_ ≤ 140737488355328) (hbase : base ≤ w0.heap.size)
    (h : ∀ A' c' w', OwnF w' base e A' c' (n + 1) f → Below base w0 w' → K (a.put o.dst (.slice A' (n + 1) c')) w') : o.wp P a (w0.alloc (.cells #[v] e)) K Q := by
  subst hv
  have hb := (Below.refl w0.heap.size w0).alloc (Nat.le_refl _) (.cells #[f n] e)
  have hl := (OwnF.lit (w := w0) e (Nat.le_refl _) #[f n] 1 (fun _ => f n) (by simp [maxLen]) rfl).rd
  refine wp_appF _ s x t ho base e i z ht hi hz hsize hby hby0 hzs hs (hown.keep hb) hx hl (fun _ _ => hone) hlen hbytes (by simp; omega) ?_
  intro A' c' w' h1 h2
  refine h A' c' w' (h1.congr fun k hk => ?_) ((hb.mono hbase).trans h2)
  by_cases hk' : k < n
  · rw [if_pos hk']
  · rw [if_neg hk', show k = n by omega]
theorem wpList_appF1 (w0 : World) {ops : Array Oper} {rest : List Oper} {o : Oper} {a : Act} {Q : Exit → Act → World → Prop} (hgd : o.guard = none) (s x : Operand) (t : TypeId)
    (ho : o.op = .call { callee := .builtin .append, args := #[s, x], argTypes := #[t, t] })
    (base : Nat) (e : TypeId) (i : TypeInfo) (z : Value) (ht : P.underlying t = some (.slice e)) (hi : P.info? e = some i) (hz : i.zero = some z)
    (hsize : i.size = 1) {by_ : Nat} (hby : i.bytes = by_) (hby0 : 0 < by_) (hzs : z.cells.size = 1) {As : Option Addr} {cs n : Nat} {f : Nat → Value} (hs : a.eval s = .slice As n cs) (hown : OwnF w0 base e As cs n f)
    {v : Value} (hv : v = f n) (hx : a.eval x = .slice (some ⟨w0.heap.size, 0, none⟩) 1 1) (hone : (f n).oneCell' = true) (hlen : n + 1 ≤ 140737488355328) (hbytes : (n + 1) * by_ ≤ 140737488355328) (hbase : base ≤ w0.heap.size)
    (h : ∀ A' c' w', OwnF w' base e A' c' (n + 1) f → Below base w0 w' → wpList P ops Q rest (a.put o.dst (.slice A' (n + 1) c')) w') : wpList P ops Q (o :: rest) a (w0.alloc (.cells #[v] e)) :=
  wpList_plain hgd fun _ hK => wp_appF1 w0 s x t ho base e i z ht hi hz hsize hby hby0 hzs hs hown hv hx hone hlen hbytes hbase fun A' c' w' h1 h2 => hK _ _ (h A' c' w' h1 h2)
theorem step_appF1 (w0 : World) {ops : Array Oper} {o : Oper} {a : Act} {K : Act → World → Prop} {Q : Exit → Act → World → Prop} {E : Prop} (hgd : o.guard = none) (s x : Operand) (t : TypeId)
    (ho : o.op = .call { callee := .builtin .append, args := #[s, x], argTypes := #[t, t] })
    (base : Nat) (e : TypeId) (i : TypeInfo) (z : Value) (ht : P.underlying t = some (.slice e)) (hi : P.info? e = some i) (hz : i.zero = some z)
    (hsize : i.size = 1) {by_ : Nat} (hby : i.bytes = by_) (hby0 : 0 < by_) (hzs : z.cells.size = 1) {As : Option Addr} {cs n : Nat} {f : Nat → Value} (hs : a.eval s = .slice As n cs) (hown : OwnF w0 base e As cs n f)
    {v : Value} (hv : v = f n) (hx : a.eval x = .slice (some ⟨w0.heap.size, 0, none⟩) 1 1) (hone : (f n).oneCell' = true) (hlen : n + 1 ≤ 140737488355328) (hbytes : (n + 1) * by_ ≤ 140737488355328) (hbase : base ≤ w0.heap.size)
    (h : ∀ A' c' w', OwnF w' base e A' c' (n + 1) f → Below base w0 w' → K (a.put o.dst (.slice A' (n + 1) c')) w') :
    if Region.wanted o (yielded ops a.tmps) = true then Oper.wp P o a (w0.alloc (.cells #[v] e)) K Q else E := by
  have hw : Region.wanted o (yielded ops a.tmps) = true := by simp [Region.wanted, hgd]
  rw [if_pos hw]
  exact wp_appF1 w0 s x t ho base e i z ht hi hz hsize hby hby0 hzs hs hown hv hx hone hlen hbytes hbase h

/-- 'make([]T, n)', T of one cell, its zero 'z'. -/
theorem run_mkF (t e : TypeId) (i : TypeInfo) {z : Value} (ht : P.underlying t = some (.slice e)) (hi : P.info? e = some i) (hz : i.zero = some z) (hzc : z.cells = #[z])
    (hsize : i.size = 1) {by_ : Nat} (hby : i.bytes = by_) {l : Int} {n : Nat} (hl : l = (n : Int)) (hn : n * by_ ≤ 281474976710656) (hn' : n ≤ 281474976710656) (w : World) :
    (Instr.makeSlice t (.int .i64 l) (.int .i64 l)).run P w = .ok (.slice (some ⟨w.heap.size, 0, none⟩) n n) (w.alloc (.cells (madeCells #[z] n) e)) := by
  subst hl
  have h := run_make (P := P) w t e i z ht hi hz .i64 .i64 n n (by omega) (Int.le_refl _) (by rw [hby, ← Int.natCast_mul, Nat.mul_comm]; omega) (by omega)
  simpa [hsize, hzc] using h
theorem OwnF.made {w : World} {B : Nat} (e : TypeId) (z : Value) {n : Nat} (hB : B ≤ w.heap.size) (hn : n ≤ maxLen) : OwnF (w.alloc (.cells (madeCells #[z] n) e)) B e (some ⟨w.heap.size, 0, none⟩) n n (fun _ => z) := by
  refine OwnF.lit e hB _ n _ hn ?_
  refine List.ext_getElem (by simp [madeCells]) fun i h1 h2 => ?_
  simp [madeCells, Nat.mod_one]
end
end Go.Proofs.Ytdddcgkgellbgab

/-
  math/bits by contracts, words of numbers. By an AI agent.
-/
namespace Go.Proofs
open Go.Shelf
end Go.Proofs
namespace Go.Proofs.Ytdddcgkgellbgab
open Go Go.RowKit Go.Shelf
/-- The k-th word of a number, its k-th byte. -/
def wd (x k : Nat) : Nat := dgt 18446744073709551616 x k
def by8 (x k : Nat) : Nat := dgt 256 x k
theorem wd_lt (x k : Nat) : wd x k < 18446744073709551616 := dgt_lt (by decide) _ _
theorem by8_lt (x k : Nat) : by8 x k < 256 := dgt_lt (by decide) _ _
/-- 2^256, 2^512. -/
def W4 : Nat := 18446744073709551616 ^ 4
def W8 : Nat := 18446744073709551616 ^ 8
theorem W4_eq : W4 = 115792089237316195423570985008687907853269984665640564039457584007913129639936 := by decide
theorem W4_pos : 0 < W4 := by decide
theorem W8_eq : W8 = W4 * W4 := by decide
/-- A number of four words, of eight. -/
abbrev nv (x : Nat) : Value := .agg #[.int .u64 (wd x 0 : Int), .int .u64 (wd x 1 : Int), .int .u64 (wd x 2 : Int), .int .u64 (wd x 3 : Int)]
abbrev dv (x : Nat) : Value := .agg #[.int .u64 (wd x 0 : Int), .int .u64 (wd x 1 : Int), .int .u64 (wd x 2 : Int), .int .u64 (wd x 3 : Int), .int .u64 (wd x 4 : Int), .int .u64 (wd x 5 : Int), .int .u64 (wd x 6 : Int), .int .u64 (wd x 7 : Int)]
/-- What is carried into word k of a sum, borrowed off word k of a difference. -/
def cw (x y k : Nat) : Nat := cry 18446744073709551616 x y k
def bw (x y k : Nat) : Nat := brw 18446744073709551616 x y k
theorem cw_le (x y k : Nat) : cw x y k ≤ 1 := cry_le (by decide) _ _ _
theorem bw_le (x y k : Nat) : bw x y k ≤ 1 := brw_le _ _ _ _
theorem cw_zero (x y : Nat) : cw x y 0 = 0 := cry_zero _ _ _
theorem bw_zero (x y : Nat) : bw x y 0 = 0 := brw_zero _ _ _
theorem cw_four {x y : Nat} (hx : x < W4) (hy : y < W4) : cw x y 4 = (x + y) / W4 := cry_full hx hy
theorem bw_four {x y : Nat} (hx : x < W4) (hy : y < W4) : bw x y 4 = if x < y then 1 else 0 := brw_full hx hy
theorem wd_mod (x : Nat) {k : Nat} (hk : k < 4) : wd (x % W4) k = wd x k := dgt_mod x hk
theorem wd_mod8 (x : Nat) {k : Nat} (hk : k < 8) : wd (x % W8) k = wd x k := dgt_mod x hk
theorem wd_ext {x y : Nat} (hx : x < W4) (hy : y < W4) (h : ∀ k, k < 4 → wd x k = wd y k) : x = y := dgt_ext hx hy h
theorem wd_ext8 {x y : Nat} (hx : x < W8) (hy : y < W8) (h : ∀ k, k < 8 → wd x k = wd y k) : x = y := dgt_ext hx hy h

theorem wd_sub (x y : Nat) {k : Nat} (hk : k < 4) (hy : y < W4) : wd (x + W4 - y) k = (wd x k + 18446744073709551616 - wd y k - bw x y k) % 18446744073709551616 := by
  have h := dgt_sub (b := 18446744073709551616) (by decide) x y hk hy
  have h1 := wd_lt y k
  have h2 := bw_le x y k
  unfold wd W4 bw at *
  generalize dgt 18446744073709551616 x k = a at *
  generalize dgt 18446744073709551616 y k = b at *
  generalize brw 18446744073709551616 x y k = c at *
  omega
theorem infoU64 : (Try.prog.info? 98).map (fun i => (i.zero, i.size, i.bytes)) = some (some (.int .u64 0), 1, 8) := by kernel_rfl
theorem infoInt : (Try.prog.info? 3).map (fun i => (i.zero, i.size, i.bytes)) = some (some (.int .i64 0), 1, 8) := by kernel_rfl
/-! Shorthands. -/
theorem bnx {w w' w'' : World} (h : Below w.heap.size w w') (k : Below w'.heap.size w' w'') : Below w.heap.size w w'' := Below.trans h (k.mono h.size)
theorem bnw {v w : World} {o : Obj} (h : v = w.alloc o) : Below w.heap.size w v := by rw [h]; exact (Below.refl _ _).alloc (Nat.le_refl _) _
theorem bsz {v w : World} {o : Obj} (h : v = w.alloc o) : v.heap.size = w.heap.size + 1 := by rw [h]; simp
end Go.Proofs.Ytdddcgkgellbgab
