/-
  Words for slices of bytes in memory: of no program. By an AI agent.
-/
import Derived.WalkKit
import Derived.Below
import Derived.Laws.OwnMore
import Derived.Laws.AppendOwnNone
import Derived.Laws.BytesArg
import Derived.Deep.AppendLies
import Derived.Deep.Draws
import Derived.Deep.QuietTactic
import Derived.BigQuiet
import Derived.Lib.Hide
import Derived.Handy
namespace Go.Proofs.Ytecphnhdcphgbaa
open Go Go.RowKit

/-- A byte as a value. -/
abbrev bv (c : UInt8) : Value := .int .u8 (c.toNat : Int)
/-- The k-th byte as a number. -/
def nth (bs : List UInt8) (k : Nat) : Nat := (bs[k]?.getD 0).toNat
theorem nth_lt (bs : List UInt8) (k : Nat) : nth bs k < 256 := UInt8.toNat_lt _
theorem nth_le (bs : List UInt8) (k : Nat) : (nth bs k : Int) ≤ 255 := by have := nth_lt bs k; omega
theorem nth_get {bs : List UInt8} {k : Nat} (h : k < bs.length) : nth bs k = bs[k].toNat := by simp [nth, h]
theorem map_bv_get {bs : List UInt8} {k : Nat} (h : k < bs.length) : (bs.map bv)[k]? = some (.int .u8 (nth bs k : Int)) := by
  simp [nth, h]

theorem ret_b {p q : Bool} (h : p = q) : Ending.returned (.bool p) = .returned (.bool q) := by rw [h]
theorem ret_i {k : IntKind} {a b : Int} (h : a = b) : Ending.returned (.int k a) = .returned (.int k b) := by rw [h]
theorem ret_ib {k : IntKind} {a b : Int} {p q : Bool} (h : a = b) (h' : p = q) : Ending.returned (.tuple #[.int k a, .bool p]) = .returned (.tuple #[.int k b, .bool q]) := by rw [h, h']

/-- The slice at 'A', of 'bs.length' elements, reads as the bytes 'bs', in a block below 'B'. -/
structure Rd (w : World) (B : Nat) (A : Option Addr) (c : Nat) (bs : List UInt8) : Prop where
  cap : bs.length ≤ c
  nil : A = none → bs = [] ∧ c = 0
  some_ : bs ≠ [] → ∃ b o, A = some ⟨b, o, none⟩ ∧ b < B ∧ ∀ k, k < bs.length → w.cell? ⟨b, o + k, none⟩ = some (.int .u8 (nth bs k : Int))

section
variable {w w' : World} {B B' c : Nat} {A : Option Addr} {bs : List UInt8}
theorem Rd.keep (h : Rd w B A c bs) (hb : Below B w w') : Rd w' B A c bs :=
  ⟨h.cap, h.nil, fun hn => by
    obtain ⟨b, o, e, hlt, hc⟩ := h.some_ hn
    exact ⟨b, o, e, hlt, fun k hk => (hb.cell (p := ⟨b, o + k, none⟩) hlt).trans (hc k hk)⟩⟩
theorem Rd.mono (h : Rd w B A c bs) (hb : B ≤ B') : Rd w B' A c bs :=
  ⟨h.cap, h.nil, fun hn => by
    obtain ⟨b, o, e, hlt, hc⟩ := h.some_ hn
    exact ⟨b, o, e, by omega, hc⟩⟩
theorem Rd.at_ {k : Nat} (h : Rd w B A c bs) (hk : k < bs.length) : ∃ b o, A = some ⟨b, o, none⟩ ∧ b < B ∧ w.cell? ⟨b, o + k, none⟩ = some (.int .u8 (nth bs k : Int)) := by
  obtain ⟨b, o, e, hlt, hc⟩ := h.some_ (by rintro rfl; simp at hk)
  exact ⟨b, o, e, hlt, hc k hk⟩
/-- All cells, at whatever address. -/
theorem Rd.cells (h : Rd w B A c bs) {ad : Addr} (hA : A = some ad) : ∀ j u, (bs.map bv)[j]? = some u → w.cell? (ad.add j) = some u := by
  intro j u hu
  have hj : j < bs.length := by simpa using (List.getElem?_eq_some_iff.1 hu).1
  obtain ⟨b, o, e, _, hc⟩ := h.at_ hj
  rw [hA] at e
  obtain rfl := Option.some.inj e
  rw [Addr.add_lit, hc, ← map_bv_get hj, hu]

theorem below_drewN {w : World} (B n : Nat) : Below B w (w.drewN n) := ⟨rfl, rfl, rfl, Nat.le_refl _, fun _ _ => rfl⟩

/-- The row is the call's own (a block from 'B' on), its first cells are 'bs'; 'e' is the byte's type. -/
def Own (w : World) (B : Nat) (e : TypeId) (A : Option Addr) (c : Nat) (bs : List UInt8) : Prop :=
  w.ownsRow B e 1 (.slice A bs.length c) bs.length (bs.map bv)
variable {e : TypeId}
theorem Own.rd (h : Own w B e A c bs) : Rd w w.heap.size A c bs := by
  obtain ⟨hl, h2⟩ := h
  rcases h2 with ⟨h, h0⟩ | ⟨g, cap, cur, hv, hB, hh, hn, hm, hs, ht⟩
  · have e0 : bs = [] := List.eq_nil_of_length_eq_zero h0
    subst e0
    simp only [Value.slice.injEq] at h
    obtain ⟨rfl, _, rfl⟩ := h
    exact ⟨by simp, fun _ => ⟨rfl, rfl⟩, fun h => absurd rfl h⟩
  · simp only [Value.slice.injEq, true_and] at hv
    obtain ⟨rfl, rfl⟩ := hv
    refine ⟨hn, (fun h => nomatch h), fun _ => ⟨g, 0, rfl, (Array.getElem?_eq_some_iff.1 hh).1, fun k hk => ?_⟩⟩
    rw [Nat.zero_add, cell_of_row w g k cur e (0, 0) hh, ← map_bv_get hk, ← ht, List.getElem?_take, if_pos (by omega)]
    simp
theorem Own.keep (h : Own w B e A c bs) (hb : Below w.heap.size w w') : Own w' B e A c bs := by
  obtain ⟨hl, h2⟩ := h
  refine ⟨hl, ?_⟩
  rcases h2 with h | ⟨g, cap, cur, hv, hB, hh, r⟩
  · exact .inl h
  · exact .inr ⟨g, cap, cur, hv, hB, (hb.block g (Array.getElem?_eq_some_iff.1 hh).1).trans hh, r⟩
theorem Own.mono (h : Own w B e A c bs) (hb : B' ≤ B) : Own w B' e A c bs := by
  obtain ⟨hl, h2⟩ := h
  refine ⟨hl, ?_⟩
  rcases h2 with h | ⟨g, cap, cur, hv, hB, r⟩
  · exact .inl h
  · exact .inr ⟨g, cap, cur, hv, by omega, r⟩
end


/-- The first k of n bytes are f's, the others 0. -/
def fill (f : Nat → UInt8) (n k : Nat) : List UInt8 := (List.range n).map fun j => if j < k then f j else 0
theorem fill_length (f : Nat → UInt8) (n k : Nat) : (fill f n k).length = n := by simp [fill]
def gen (f : Nat → UInt8) (n : Nat) : List UInt8 := (List.range n).map f
theorem gen_length (f : Nat → UInt8) (n : Nat) : (gen f n).length = n := by simp [gen]
theorem gen_succ (f : Nat → UInt8) (n : Nat) : gen f (n + 1) = gen f n ++ [f n] := by simp [gen, List.range_succ]
theorem nth_gen {f : Nat → UInt8} {n k : Nat} (h : k < n) : nth (gen f n) k = (f k).toNat := by simp [nth, gen, h]
theorem fill_zero (f : Nat → UInt8) (n : Nat) : fill f n 0 = List.replicate n 0 := by
  refine List.ext_getElem (by simp [fill]) fun i h1 h2 => ?_
  simp [fill]
theorem fill_full (f : Nat → UInt8) (n : Nat) : fill f n n = gen f n := by
  refine List.ext_getElem (by simp [fill, gen]) fun i h1 h2 => ?_
  simp only [fill, gen, List.getElem_map, List.getElem_range]
  rw [if_pos (by simpa [gen] using h2)]
theorem fill_set (f : Nat → UInt8) (n k : Nat) {x : UInt8} (hx : x = f k) : (fill f n k).set k x = fill f n (k + 1) := by
  subst hx
  refine List.ext_getElem (by simp [fill]) fun i h1 h2 => ?_
  rw [List.getElem_set]
  simp only [fill, List.getElem_map, List.getElem_range]
  by_cases hik : k = i
  · subst hik; simp
  · rw [if_neg hik]
    by_cases h : i < k
    · rw [if_pos h, if_pos (by omega)]
    · rw [if_neg h, if_neg (by omega)]
theorem nth_ext {xs ys : List UInt8} (hn : xs.length = ys.length) (h : ∀ k, k < xs.length → nth xs k = nth ys k) : xs = ys := by
  refine List.ext_getElem hn fun i h1 h2 => ?_
  have := h i h1
  rw [nth_get h1, nth_get h2] at this
  exact UInt8.toNat_inj.1 this

section
variable {w : World} {B g n : Nat} {e : TypeId} {bs : List UInt8}
theorem Own.made {w : World} {B : Nat} (e : TypeId) (hB : B ≤ w.heap.size) (hn : n ≤ maxLen) : Own (w.alloc (.cells (madeCells #[.int .u8 0] n) e)) B e (some ⟨w.heap.size, 0, none⟩) n (List.replicate n 0) := by
  have h : (madeCells #[.int .u8 0] n).toList = (List.replicate n 0).map bv := by
    refine List.ext_getElem (by simp [madeCells]) fun i h1 h2 => ?_
    simp [madeCells, Nat.mod_one]
  have := World.ownsRow_lit (e := e) (size := 1) w (madeCells #[.int .u8 0] n) n hB hn (by simp [madeCells])
  unfold Own
  rw [List.length_replicate, ← h]
  exact this
theorem Own.lit {w : World} {B : Nat} (e : TypeId) (hB : B ≤ w.heap.size) (cs : Array Value) (bs : List UInt8) (hm : bs.length ≤ maxLen) (h : cs.toList = bs.map bv) : Own (w.alloc (.cells cs e)) B e (some ⟨w.heap.size, 0, none⟩) bs.length bs := by
  have hs : cs.size = bs.length * 1 := by rw [← Array.length_toList, h]; simp
  have := World.ownsRow_lit (e := e) (size := 1) w cs bs.length hB hm hs
  unfold Own
  rw [← h]
  exact this
theorem Own.cell (h : Own w B e (some ⟨g, 0, none⟩) n bs) {k : Nat} (hk : k < bs.length) : w.cell? ⟨g, k, none⟩ = some (.int .u8 (nth bs k : Int)) := by
  rw [World.ownsRow.cellAt h k (by omega), map_bv_get hk]
theorem Own.set_ (h : Own w B e (some ⟨g, 0, none⟩) n bs) (k : Nat) (x : UInt8) : Own (w.setCell ⟨g, k, none⟩ (.int .u8 (x.toNat : Int))) B e (some ⟨g, 0, none⟩) n (bs.set k x) := by
  have := (World.ownsRow.stored h k (bv x)).1
  unfold Own
  rw [List.length_set, List.map_set]
  exact this
theorem Own.ge (h : Own w B e (some ⟨g, 0, none⟩) n bs) : B ≤ g := (World.ownsRow.lt h g rfl).1
theorem Own.free (h : Own w B e (some ⟨g, 0, none⟩) n bs) (k : Nat) : w.frozen? ⟨g, k, none⟩ = false := World.ownsRow.frozenAt h k
end

section
variable {P : Program}
theorem ones (bs : List UInt8) : ∀ u ∈ bs.map bv, u.oneCell' = true := by
  intro u hu
  obtain ⟨_, _, rfl⟩ := List.mem_map.1 hu
  rfl

/-- append of a slice that reads as bytes, nil or not, onto a row of the call's own. -/
theorem run_app (w : World) (base : Nat) (t ty e : TypeId) (i : TypeInfo) (z : Value) (ht : P.underlying t = some (.slice e)) (hi : P.info? e = some i) (hz : i.zero = some z)
    (hsize : i.size = 1) (hby : i.bytes = 1) (hzs : z.cells.size = 1) {v : Value} {n : Nat} {xs : List Value} (hown : w.ownsRow base e 1 v n xs)
    {B c : Nat} {A : Option Addr} {bs : List UInt8} (hr : Rd w B A c bs) (hbytes : n + bs.length ≤ 140737488355328) (hbase : base ≤ w.heap.size) :
    ∃ v' w', (Builtin.append_ #[t, t] ty #[v, .slice A bs.length c]).run P w = .ok v' w' ∧ w'.ownsRow base e 1 v' (n + bs.length) (xs ++ bs.map bv) ∧ w.grownBy w' v.ownBlock := by
  rcases A with _ | ad
  · obtain ⟨rfl, rfl⟩ := hr.nil rfl
    exact ⟨v, w, run_append_owned_none (P := P) w base t ty e i 1 ht hi v n xs hown, by simpa using hown, World.grownBy.refl w _⟩
  · obtain ⟨v', w', hrun, h2, h3, _⟩ := run_append_own (P := P) w base t ty e i z 1 1 ht hi hz hsize hby hzs (by decide) v n xs hown ad bs.length c (bs.map bv) (by simp)
      (hr.cells rfl) (ones bs) (by simp only [maxLen]; omega) (by omega) hbase
    exact ⟨v', w', hrun, h2, h3⟩
theorem owned_shape {w : World} {B : Nat} {e : TypeId} {v : Value} {bs : List UInt8} (h : w.ownsRow B e 1 v bs.length (bs.map bv)) : ∃ A c, v = .slice A bs.length c ∧ Own w B e A c bs := by
  rcases h.2 with ⟨rfl, h0⟩ | ⟨g, cap, cur, rfl, _⟩
  · exact ⟨none, 0, by rw [h0], by unfold Own; rw [h0] at h ⊢; exact h⟩
  · exact ⟨_, _, rfl, h⟩

theorem wp_app (w : World) {o : Oper} {a : Act} {K : Act → World → Prop} {Q : Exit → Act → World → Prop} (s x : Operand) (t : TypeId)
    (ho : o.op = .call { callee := .builtin .append, args := #[s, x], argTypes := #[t, t] })
    (base : Nat) (e : TypeId) (i : TypeInfo) (z : Value) (ht : P.underlying t = some (.slice e)) (hi : P.info? e = some i) (hz : i.zero = some z)
    (hsize : i.size = 1) (hby : i.bytes = 1) (hzs : z.cells.size = 1) {As : Option Addr} {cs : Nat} {xs : List UInt8} (hs : a.eval s = .slice As xs.length cs) (hown : Own w base e As cs xs)
    {B c : Nat} {A : Option Addr} {bs : List UInt8} (hx : a.eval x = .slice A bs.length c) (hr : Rd w B A c bs) (hbytes : xs.length + bs.length ≤ 140737488355328) (hbase : base ≤ w.heap.size)
    (h : ∀ A' c' w', Own w' base e A' c' (xs ++ bs) → Below base w w' → K (a.put o.dst (.slice A' (xs ++ bs).length c')) w') : o.wp P a w K Q := by
  obtain ⟨v', w', hrun, h2, h3⟩ := run_app (P := P) w base t o.type e i z ht hi hz hsize hby hzs hown hr hbytes hbase
  rw [← List.map_append, ← List.length_append] at h2
  obtain ⟨A', c', rfl, h4⟩ := owned_shape h2
  unfold Oper.wp execOp
  simp only [ho, resolve, invoke, builtin, Sem.run_bind, Sem.run_pure, Result.andThen_ok, List.map_toArray, List.map_cons, List.map_nil, hs, hx, hrun]
  refine h A' c' w' h4 ((Below.refl _ _).grown h3 hbase ?_)
  intro k hk
  exact (World.ownsRow.lt hown k hk).1
theorem wpList_app (w : World) {ops : Array Oper} {rest : List Oper} {o : Oper} {a : Act} {Q : Exit → Act → World → Prop} (hgd : o.guard = none) (s x : Operand) (t : TypeId)
    (ho : o.op = .call { callee := .builtin .append, args := #[s, x], argTypes := #[t, t] })
    (base : Nat) (e : TypeId) (i : TypeInfo) (z : Value) (ht : P.underlying t = some (.slice e)) (hi : P.info? e = some i) (hz : i.zero = some z)
    (hsize : i.size = 1) (hby : i.bytes = 1) (hzs : z.cells.size = 1) {As : Option Addr} {cs : Nat} {xs : List UInt8} (hs : a.eval s = .slice As xs.length cs) (hown : Own w base e As cs xs)
    {B c : Nat} {A : Option Addr} {bs : List UInt8} (hx : a.eval x = .slice A bs.length c) (hr : Rd w B A c bs) (hbytes : xs.length + bs.length ≤ 140737488355328) (hbase : base ≤ w.heap.size)
    (h : ∀ A' c' w', Own w' base e A' c' (xs ++ bs) → Below base w w' → wpList P ops Q rest (a.put o.dst (.slice A' (xs ++ bs).length c')) w') : wpList P ops Q (o :: rest) a w :=
  wpList_plain hgd fun _ hK => wp_app w s x t ho base e i z ht hi hz hsize hby hzs hs hown hx hr hbytes hbase fun A' c' w' h1 h2 => hK _ _ (h A' c' w' h1 h2)
/-- append of one byte. -/
theorem wp_app1 (w0 : World) {o : Oper} {a : Act} {K : Act → World → Prop} {Q : Exit → Act → World → Prop} (s x : Operand) (t : TypeId)
    (ho : o.op = .call { callee := .builtin .append, args := #[s, x], argTypes := #[t, t] })
    (base : Nat) (e : TypeId) (i : TypeInfo) (z : Value) (ht : P.underlying t = some (.slice e)) (hi : P.info? e = some i) (hz : i.zero = some z)
    (hsize : i.size = 1) (hby : i.bytes = 1) (hzs : z.cells.size = 1) {As : Option Addr} {cs n : Nat} {xs : List UInt8} (hs : a.eval s = .slice As n cs) (hn : n = xs.length) (hown : Own w0 base e As cs xs)
    {v : Int} (hx : a.eval x = .slice (some ⟨w0.heap.size, 0, none⟩) 1 1) (b : UInt8) (hv : v = (b.toNat : Int)) (hbytes : n + 1 ≤ 140737488355328) (hbase : base ≤ w0.heap.size)
    (h : ∀ A' c' w', Own w' base e A' c' (xs ++ [b]) → Below base w0 w' → K (a.put o.dst (.slice A' (n + 1) c')) w') : o.wp P a (w0.alloc (.cells #[.int .u8 v] e)) K Q := by
  subst hv
  subst hn
  have hb := (Below.refl w0.heap.size w0).alloc (Nat.le_refl _) (.cells #[.int .u8 (b.toNat : Int)] e)
  have hl := (Own.lit (w := w0) e (Nat.le_refl _) #[.int .u8 (b.toNat : Int)] [b] (by simp [maxLen]) rfl).rd
  refine wp_app _ s x t ho base e i z ht hi hz hsize hby hzs hs (hown.keep hb) (bs := [b]) hx hl (by simpa using hbytes) (by simp; omega) ?_
  intro A' c' w' h1 h2
  rw [show (xs ++ [b]).length = xs.length + 1 by simp]
  exact h A' c' w' h1 ((hb.mono hbase).trans h2)
theorem wpList_app1 (w0 : World) {ops : Array Oper} {rest : List Oper} {o : Oper} {a : Act} {Q : Exit → Act → World → Prop} (hgd : o.guard = none) (s x : Operand) (t : TypeId)
    (ho : o.op = .call { callee := .builtin .append, args := #[s, x], argTypes := #[t, t] })
    (base : Nat) (e : TypeId) (i : TypeInfo) (z : Value) (ht : P.underlying t = some (.slice e)) (hi : P.info? e = some i) (hz : i.zero = some z)
    (hsize : i.size = 1) (hby : i.bytes = 1) (hzs : z.cells.size = 1) {As : Option Addr} {cs n : Nat} {xs : List UInt8} (hs : a.eval s = .slice As n cs) (hn : n = xs.length) (hown : Own w0 base e As cs xs)
    {v : Int} (hx : a.eval x = .slice (some ⟨w0.heap.size, 0, none⟩) 1 1) (b : UInt8) (hv : v = (b.toNat : Int)) (hbytes : n + 1 ≤ 140737488355328) (hbase : base ≤ w0.heap.size)
    (h : ∀ A' c' w', Own w' base e A' c' (xs ++ [b]) → Below base w0 w' → wpList P ops Q rest (a.put o.dst (.slice A' (n + 1) c')) w') : wpList P ops Q (o :: rest) a (w0.alloc (.cells #[.int .u8 v] e)) :=
  wpList_plain hgd fun _ hK => wp_app1 w0 s x t ho base e i z ht hi hz hsize hby hzs hs hn hown hx b hv hbytes hbase fun A' c' w' h1 h2 => hK _ _ (h A' c' w' h1 h2)
theorem step_app1 (w0 : World) {ops : Array Oper} {o : Oper} {a : Act} {K : Act → World → Prop} {Q : Exit → Act → World → Prop} {E : Prop} (hgd : o.guard = none) (s x : Operand) (t : TypeId)
    (ho : o.op = .call { callee := .builtin .append, args := #[s, x], argTypes := #[t, t] })
    (base : Nat) (e : TypeId) (i : TypeInfo) (z : Value) (ht : P.underlying t = some (.slice e)) (hi : P.info? e = some i) (hz : i.zero = some z)
    (hsize : i.size = 1) (hby : i.bytes = 1) (hzs : z.cells.size = 1) {As : Option Addr} {cs n : Nat} {xs : List UInt8} (hs : a.eval s = .slice As n cs) (hn : n = xs.length) (hown : Own w0 base e As cs xs)
    {v : Int} (hx : a.eval x = .slice (some ⟨w0.heap.size, 0, none⟩) 1 1) (b : UInt8) (hv : v = (b.toNat : Int)) (hbytes : n + 1 ≤ 140737488355328) (hbase : base ≤ w0.heap.size)
    (h : ∀ A' c' w', Own w' base e A' c' (xs ++ [b]) → Below base w0 w' → K (a.put o.dst (.slice A' (n + 1) c')) w') :
    if Region.wanted o (yielded ops a.tmps) = true then Oper.wp P o a (w0.alloc (.cells #[.int .u8 v] e)) K Q else E := by
  have hw : Region.wanted o (yielded ops a.tmps) = true := by simp [Region.wanted, hgd]
  rw [if_pos hw]
  exact wp_app1 w0 s x t ho base e i z ht hi hz hsize hby hzs hs hn hown hx b hv hbytes hbase h

/-- append of bytes that are written out. -/
theorem wp_appL (w0 : World) {o : Oper} {a : Act} {K : Act → World → Prop} {Q : Exit → Act → World → Prop} (s x : Operand) (t : TypeId)
    (ho : o.op = .call { callee := .builtin .append, args := #[s, x], argTypes := #[t, t] })
    (base : Nat) (e : TypeId) (i : TypeInfo) (z : Value) (ht : P.underlying t = some (.slice e)) (hi : P.info? e = some i) (hz : i.zero = some z)
    (hsize : i.size = 1) (hby : i.bytes = 1) (hzs : z.cells.size = 1) {As : Option Addr} {cs n : Nat} {xs : List UInt8} (hs : a.eval s = .slice As n cs) (hn : n = xs.length) (hown : Own w0 base e As cs xs)
    {cells : Array Value} (bs : List UInt8) {m : Nat} (hm : m = bs.length) (hx : a.eval x = .slice (some ⟨w0.heap.size, 0, none⟩) m m) (hv : cells.toList = bs.map bv) (hbytes : n + m ≤ 140737488355328) (hbase : base ≤ w0.heap.size)
    (h : ∀ A' c' w', Own w' base e A' c' (xs ++ bs) → Below base w0 w' → K (a.put o.dst (.slice A' (n + m) c')) w') : o.wp P a (w0.alloc (.cells cells e)) K Q := by
  subst hm
  subst hn
  have hb := (Below.refl w0.heap.size w0).alloc (Nat.le_refl _) (.cells cells e)
  have hl := (Own.lit (w := w0) e (Nat.le_refl _) cells bs (by simp [maxLen]; omega) hv).rd
  refine wp_app _ s x t ho base e i z ht hi hz hsize hby hzs hs (hown.keep hb) (bs := bs) hx hl hbytes (by simp; omega) ?_
  intro A' c' w' h1 h2
  rw [List.length_append]
  exact h A' c' w' h1 ((hb.mono hbase).trans h2)
theorem step_appL (w0 : World) {ops : Array Oper} {o : Oper} {a : Act} {K : Act → World → Prop} {Q : Exit → Act → World → Prop} {E : Prop} (hgd : o.guard = none) (s x : Operand) (t : TypeId)
    (ho : o.op = .call { callee := .builtin .append, args := #[s, x], argTypes := #[t, t] })
    (base : Nat) (e : TypeId) (i : TypeInfo) (z : Value) (ht : P.underlying t = some (.slice e)) (hi : P.info? e = some i) (hz : i.zero = some z)
    (hsize : i.size = 1) (hby : i.bytes = 1) (hzs : z.cells.size = 1) {As : Option Addr} {cs n : Nat} {xs : List UInt8} (hs : a.eval s = .slice As n cs) (hn : n = xs.length) (hown : Own w0 base e As cs xs)
    {cells : Array Value} (bs : List UInt8) {m : Nat} (hm : m = bs.length) (hx : a.eval x = .slice (some ⟨w0.heap.size, 0, none⟩) m m) (hv : cells.toList = bs.map bv) (hbytes : n + m ≤ 140737488355328) (hbase : base ≤ w0.heap.size)
    (h : ∀ A' c' w', Own w' base e A' c' (xs ++ bs) → Below base w0 w' → K (a.put o.dst (.slice A' (n + m) c')) w') :
    if Region.wanted o (yielded ops a.tmps) = true then Oper.wp P o a (w0.alloc (.cells cells e)) K Q else E := by
  have hw : Region.wanted o (yielded ops a.tmps) = true := by simp [Region.wanted, hgd]
  rw [if_pos hw]
  exact wp_appL w0 s x t ho base e i z ht hi hz hsize hby hzs hs hn hown bs hm hx hv hbytes hbase h

/-- 'string(b)'. -/
theorem run_str (w : World) (src e : TypeId) (hs : P.underlying src = some (.slice e)) (he : P.underlying e = some (.int .u8)) {dst : TypeId} (hd : P.underlying dst = some .string)
    {B c : Nat} {A : Option Addr} {bs : List UInt8} (hr : Rd w B A c bs) : (convert src dst (.slice A bs.length c)).run P w = .ok (.string ⟨bs.toArray⟩) w := by
  rcases A with _ | ad
  · obtain ⟨rfl, rfl⟩ := hr.nil rfl
    exact run_convert_bytes_nil (P := P) w src e hs he _ _ dst hd
  · have hl : (loadCells ad bs.length).run P w = .ok ((bs.map (fun c => (c.toNat : Int))).map (Value.int .u8)).toArray w := by
      have := run_loadCells_list (P := P) w ad (bs.map bv) (fun j v hj => hr.cells rfl j v hj)
      simpa [Function.comp_def] using this
    rw [run_convert_bytes_string w src dst e _ _ c hs he hd, run_bytesToString w _ _ c _ hl, foldl_push_bytes]
    simp [ByteArray.empty, ByteArray.emptyWithCapacity, Function.comp_def]
    rfl

/-- 'make([]byte, n)'. -/
theorem run_mk (t e : TypeId) (i : TypeInfo) (ht : P.underlying t = some (.slice e)) (hi : P.info? e = some i) (hz : i.zero = some (.int .u8 0))
    (hsize : i.size = 1) (hby : i.bytes = 1) {l : Int} {n : Nat} (hl : l = (n : Int)) (hn : n ≤ 281474976710656) (w : World) :
    (Instr.makeSlice t (.int .i64 l) (.int .i64 l)).run P w = .ok (.slice (some ⟨w.heap.size, 0, none⟩) n n) (w.alloc (.cells (madeCells #[.int .u8 0] n) e)) := by
  subst hl
  have h := run_make (P := P) w t e i (.int .u8 0) ht hi hz .i64 .i64 n n (by omega) (Int.le_refl _) (by rw [hby]; omega) (by omega)
  simpa [hsize, Value.cells] using h
end

end Go.Proofs.Ytecphnhdcphgbaa
