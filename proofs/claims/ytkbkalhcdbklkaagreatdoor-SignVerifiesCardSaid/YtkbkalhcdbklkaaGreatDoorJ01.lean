/-
  Words for slices of bytes in memory: of no program. By an AI agent. (and more)
-/
import Derived.WalkKit
import Derived.Below
import Derived.Laws.OwnMore
import Derived.Laws.AppendOwnNone
import Derived.Laws.BytesArg
import Derived.Deep.AppendLies
import Derived.Deep.Draws
import Derived.Deep.QuietTactic
import Derived.BigQuiet
import Derived.Lib.Hide
import Derived.Handy
import Derived.Test.YtkbkalhcdbklkaaGreatDoorChecked
import Derived.Ground.NamesProg
import Derived.Shelf.Spec.BitsCarry
import Derived.Shelf.Bits.Mul64
import Derived.StillTailTactics
import Derived.RegionTactic
import Derived.Deep.RegionHeld3
import Derived.Laws.Pointers
import Derived.RowKit3
import Derived.Deep.RegionWith
import Derived.ChangeKeysEq
import Derived.Laws.StructEq
import Derived.Laws.ShiftsVar
namespace Go.Proofs.YtkbkalhcdbklkaaGreatDoor
section
open Go Go.RowKit
abbrev bv (c : UInt8) : Value := .int .u8 (c.toNat : Int)
def nth (bs : List UInt8) (k : Nat) : Nat := (bs[k]?.getD 0).toNat
theorem nth_lt (bs : List UInt8) (k : Nat) : nth bs k < 256 := UInt8.toNat_lt _
theorem nth_get {bs : List UInt8} {k : Nat} (h : k < bs.length) : nth bs k = bs[k].toNat := by simp [nth, h]
theorem map_bv_get {bs : List UInt8} {k : Nat} (h : k < bs.length) : (bs.map bv)[k]? = some (.int .u8 (nth bs k : Int)) := by
 simp [nth, h]
structure Rd (w : World) (B : Nat) (A : Option Addr) (c : Nat) (bs : List UInt8) : Prop where
 cap : bs.length ≤ c
 nil : A = none → bs = [] ∧ c = 0
 some_ : bs ≠ [] → ∃ b o, A = some ⟨b, o, none⟩ ∧ b < B ∧ ∀ k, k < bs.length → w.cell? ⟨b, o + k, none⟩ = some (.int .u8 (nth bs k : Int))
section
variable {w w' : World} {B B' c : Nat} {A : Option Addr} {bs : List UInt8}
theorem Rd.keep (h : Rd w B A c bs) (hb : Below B w w') : Rd w' B A c bs :=
 ⟨h.cap, h.nil, fun hn => by
  obtain ⟨b, o, e, hlt, hc⟩ := h.some_ hn
  exact ⟨b, o, e, hlt, fun k hk => (hb.cell (p := ⟨b, o + k, none⟩) hlt).trans (hc k hk)⟩⟩
theorem Rd.mono (h : Rd w B A c bs) (hb : B ≤ B') : Rd w B' A c bs :=
 ⟨h.cap, h.nil, fun hn => by
  obtain ⟨b, o, e, hlt, hc⟩ := h.some_ hn
  exact ⟨b, o, e, by omega, hc⟩⟩
theorem Rd.at_ {k : Nat} (h : Rd w B A c bs) (hk : k < bs.length) : ∃ b o, A = some ⟨b, o, none⟩ ∧ b < B ∧ w.cell? ⟨b, o + k, none⟩ = some (.int .u8 (nth bs k : Int)) := by
 obtain ⟨b, o, e, hlt, hc⟩ := h.some_ (by rintro rfl; simp at hk)
 exact ⟨b, o, e, hlt, hc k hk⟩
theorem Rd.cells (h : Rd w B A c bs) {ad : Addr} (hA : A = some ad) : ∀ j u, (bs.map bv)[j]? = some u → w.cell? (ad.add j) = some u := by
 intro j u hu
 have hj : j < bs.length := by simpa using (List.getElem?_eq_some_iff.1 hu).1
 obtain ⟨b, o, e, _, hc⟩ := h.at_ hj
 rw [hA] at e
 obtain rfl := Option.some.inj e
 rw [Addr.add_lit, hc, ← map_bv_get hj, hu]
def Own (w : World) (B : Nat) (e : TypeId) (A : Option Addr) (c : Nat) (bs : List UInt8) : Prop :=
 w.ownsRow B e 1 (.slice A bs.length c) bs.length (bs.map bv)
variable {e : TypeId}
theorem Own.rd (h : Own w B e A c bs) : Rd w w.heap.size A c bs := by
 obtain ⟨hl, h2⟩ := h
 rcases h2 with ⟨h, h0⟩ | ⟨g, cap, cur, hv, hB, hh, hn, hm, hs, ht⟩
 ·have e0 : bs = [] := List.eq_nil_of_length_eq_zero h0
  subst e0
  simp only [Value.slice.injEq] at h
  obtain ⟨rfl, _, rfl⟩ := h
  exact ⟨by simp, fun _ => ⟨rfl, rfl⟩, fun h => absurd rfl h⟩
 ·simp only [Value.slice.injEq, true_and] at hv
  obtain ⟨rfl, rfl⟩ := hv
  refine ⟨hn, (fun h => nomatch h), fun _ => ⟨g, 0, rfl, (Array.getElem?_eq_some_iff.1 hh).1, fun k hk => ?_⟩⟩
  rw [Nat.zero_add, cell_of_row w g k cur e (0, 0) hh, ← map_bv_get hk, ← ht, List.getElem?_take, if_pos (by omega)]
  simp
theorem Own.keep (h : Own w B e A c bs) (hb : Below w.heap.size w w') : Own w' B e A c bs := by
 obtain ⟨hl, h2⟩ := h
 refine ⟨hl, ?_⟩
 rcases h2 with h | ⟨g, cap, cur, hv, hB, hh, r⟩
 ·exact .inl h
 ·exact .inr ⟨g, cap, cur, hv, hB, (hb.block g (Array.getElem?_eq_some_iff.1 hh).1).trans hh, r⟩
theorem Own.mono (h : Own w B e A c bs) (hb : B' ≤ B) : Own w B' e A c bs := by
 obtain ⟨hl, h2⟩ := h
 refine ⟨hl, ?_⟩
 rcases h2 with h | ⟨g, cap, cur, hv, hB, r⟩
 ·exact .inl h
 ·exact .inr ⟨g, cap, cur, hv, by omega, r⟩
end
def fill (f : Nat → UInt8) (n k : Nat) : List UInt8 := (List.range n).map fun j => if j < k then f j else 0
theorem fill_length (f : Nat → UInt8) (n k : Nat) : (fill f n k).length = n := by simp [fill]
def gen (f : Nat → UInt8) (n : Nat) : List UInt8 := (List.range n).map f
theorem gen_length (f : Nat → UInt8) (n : Nat) : (gen f n).length = n := by simp [gen]
theorem gen_succ (f : Nat → UInt8) (n : Nat) : gen f (n + 1) = gen f n ++ [f n] := by simp [gen, List.range_succ]
theorem nth_gen {f : Nat → UInt8} {n k : Nat} (h : k < n) : nth (gen f n) k = (f k).toNat := by simp [nth, gen, h]
theorem fill_zero (f : Nat → UInt8) (n : Nat) : fill f n 0 = List.replicate n 0 := by
 refine List.ext_getElem (by simp [fill]) fun i h1 h2 => ?_
 simp [fill]
theorem fill_full (f : Nat → UInt8) (n : Nat) : fill f n n = gen f n := by
 refine List.ext_getElem (by simp [fill, gen]) fun i h1 h2 => ?_
 simp only [fill, gen, List.getElem_map, List.getElem_range]
 rw [if_pos (by simpa [gen] using h2)]
theorem fill_set (f : Nat → UInt8) (n k : Nat) {x : UInt8} (hx : x = f k) : (fill f n k).set k x = fill f n (k + 1) := by
 subst hx
 refine List.ext_getElem (by simp [fill]) fun i h1 h2 => ?_
 rw [List.getElem_set]
 simp only [fill, List.getElem_map, List.getElem_range]
 by_cases hik : k = i
 ·subst hik; simp
 ·rw [if_neg hik]
  by_cases h : i < k
  ·rw [if_pos h, if_pos (by omega)]
  ·rw [if_neg h, if_neg (by omega)]
theorem nth_ext {xs ys : List UInt8} (hn : xs.length = ys.length) (h : ∀ k, k < xs.length → nth xs k = nth ys k) : xs = ys := by
 refine List.ext_getElem hn fun i h1 h2 => ?_
 have := h i h1
 rw [nth_get h1, nth_get h2] at this
 exact UInt8.toNat_inj.1 this
section
variable {w : World} {B g n : Nat} {e : TypeId} {bs : List UInt8}
theorem Own.made {w : World} {B : Nat} (e : TypeId) (hB : B ≤ w.heap.size) (hn : n ≤ maxLen) : Own (w.alloc (.cells (madeCells #[.int .u8 0] n) e)) B e (some ⟨w.heap.size, 0, none⟩) n (List.replicate n 0) := by
 have h : (madeCells #[.int .u8 0] n).toList = (List.replicate n 0).map bv := by
  refine List.ext_getElem (by simp [madeCells]) fun i h1 h2 => ?_
  simp [madeCells, Nat.mod_one]
 have := World.ownsRow_lit (e := e) (size := 1) w (madeCells #[.int .u8 0] n) n hB hn (by simp [madeCells])
 unfold Own
 rw [List.length_replicate, ← h]
 exact this
theorem Own.lit {w : World} {B : Nat} (e : TypeId) (hB : B ≤ w.heap.size) (cs : Array Value) (bs : List UInt8) (hm : bs.length ≤ maxLen) (h : cs.toList = bs.map bv) : Own (w.alloc (.cells cs e)) B e (some ⟨w.heap.size, 0, none⟩) bs.length bs := by
 have hs : cs.size = bs.length * 1 := by rw [← Array.length_toList, h]; simp
 have := World.ownsRow_lit (e := e) (size := 1) w cs bs.length hB hm hs
 unfold Own
 rw [← h]
 exact this
theorem Own.cell (h : Own w B e (some ⟨g, 0, none⟩) n bs) {k : Nat} (hk : k < bs.length) : w.cell? ⟨g, k, none⟩ = some (.int .u8 (nth bs k : Int)) := by
 rw [World.ownsRow.cellAt h k (by omega), map_bv_get hk]
theorem Own.set_ (h : Own w B e (some ⟨g, 0, none⟩) n bs) (k : Nat) (x : UInt8) : Own (w.setCell ⟨g, k, none⟩ (.int .u8 (x.toNat : Int))) B e (some ⟨g, 0, none⟩) n (bs.set k x) := by
 have := (World.ownsRow.stored h k (bv x)).1
 unfold Own
 rw [List.length_set, List.map_set]
 exact this
theorem Own.ge (h : Own w B e (some ⟨g, 0, none⟩) n bs) : B ≤ g := (World.ownsRow.lt h g rfl).1
theorem Own.free (h : Own w B e (some ⟨g, 0, none⟩) n bs) (k : Nat) : w.frozen? ⟨g, k, none⟩ = false := World.ownsRow.frozenAt h k
end
section
variable {P : Program}
theorem ones (bs : List UInt8) : ∀ u ∈ bs.map bv, u.oneCell' = true := by
 intro u hu
 obtain ⟨_, _, rfl⟩ := List.mem_map.1 hu
 rfl
theorem run_app (w : World) (base : Nat) (t ty e : TypeId) (i : TypeInfo) (z : Value) (ht : P.underlying t = some (.slice e)) (hi : P.info? e = some i) (hz : i.zero = some z)
  (hsize : i.size = 1) (hby : i.bytes = 1) (hzs : z.cells.size = 1) {v : Value} {n : Nat} {xs : List Value} (hown : w.ownsRow base e 1 v n xs)
  {B c : Nat} {A : Option Addr} {bs : List UInt8} (hr : Rd w B A c bs) (hbytes : n + bs.length ≤ 140737488355328) (hbase : base ≤ w.heap.size) :
  ∃ v' w', (Builtin.append_ #[t, t] ty #[v, .slice A bs.length c]).run P w = .ok v' w' ∧ w'.ownsRow base e 1 v' (n + bs.length) (xs ++ bs.map bv) ∧ w.grownBy w' v.ownBlock := by
 rcases A with _ | ad
 ·obtain ⟨rfl, rfl⟩ := hr.nil rfl
  exact ⟨v, w, run_append_owned_none (P := P) w base t ty e i 1 ht hi v n xs hown, by simpa using hown, World.grownBy.refl w _⟩
 ·obtain ⟨v', w', hrun, h2, h3, _⟩ := run_append_own (P := P) w base t ty e i z 1 1 ht hi hz hsize hby hzs (by decide) v n xs hown ad bs.length c (bs.map bv) (by simp)
   (hr.cells rfl) (ones bs) (by simp only [maxLen]; omega) (by omega) hbase
  exact ⟨v', w', hrun, h2, h3⟩
theorem owned_shape {w : World} {B : Nat} {e : TypeId} {v : Value} {bs : List UInt8} (h : w.ownsRow B e 1 v bs.length (bs.map bv)) : ∃ A c, v = .slice A bs.length c ∧ Own w B e A c bs := by
 rcases h.2 with ⟨rfl, h0⟩ | ⟨g, cap, cur, rfl, _⟩
 ·exact ⟨none, 0, by rw [h0], by unfold Own; rw [h0] at h ⊢; exact h⟩
 ·exact ⟨_, _, rfl, h⟩
theorem wp_app (w : World) {o : Oper} {a : Act} {K : Act → World → Prop} {Q : Exit → Act → World → Prop} (s x : Operand) (t : TypeId)
  (ho : o.op = .call { callee := .builtin .append, args := #[s, x], argTypes := #[t, t] })
  (base : Nat) (e : TypeId) (i : TypeInfo) (z : Value) (ht : P.underlying t = some (.slice e)) (hi : P.info? e = some i) (hz : i.zero = some z)
  (hsize : i.size = 1) (hby : i.bytes = 1) (hzs : z.cells.size = 1) {As : Option Addr} {cs : Nat} {xs : List UInt8} (hs : a.eval s = .slice As xs.length cs) (hown : Own w base e As cs xs)
  {B c : Nat} {A : Option Addr} {bs : List UInt8} (hx : a.eval x = .slice A bs.length c) (hr : Rd w B A c bs) (hbytes : xs.length + bs.length ≤ 140737488355328) (hbase : base ≤ w.heap.size)
  (h : ∀ A' c' w', Own w' base e A' c' (xs ++ bs) → Below base w w' → K (a.put o.dst (.slice A' (xs ++ bs).length c')) w') : o.wp P a w K Q := by
 obtain ⟨v', w', hrun, h2, h3⟩ := run_app (P := P) w base t o.type e i z ht hi hz hsize hby hzs hown hr hbytes hbase
 rw [← List.map_append, ← List.length_append] at h2
 obtain ⟨A', c', rfl, h4⟩ := owned_shape h2
 unfold Oper.wp execOp
 simp only [ho, resolve, invoke, builtin, Sem.run_bind, Sem.run_pure, Result.andThen_ok, List.map_toArray, List.map_cons, List.map_nil, hs, hx, hrun]
 refine h A' c' w' h4 ((Below.refl _ _).grown h3 hbase ?_)
 intro k hk
 exact (World.ownsRow.lt hown k hk).1
theorem wpList_app (w : World) {ops : Array Oper} {rest : List Oper} {o : Oper} {a : Act} {Q : Exit → Act → World → Prop} (hgd : o.guard = none) (s x : Operand) (t : TypeId)
  (ho : o.op = .call { callee := .builtin .append, args := #[s, x], argTypes := #[t, t] })
  (base : Nat) (e : TypeId) (i : TypeInfo) (z : Value) (ht : P.underlying t = some (.slice e)) (hi : P.info? e = some i) (hz : i.zero = some z)
  (hsize : i.size = 1) (hby : i.bytes = 1) (hzs : z.cells.size = 1) {As : Option Addr} {cs : Nat} {xs : List UInt8} (hs : a.eval s = .slice As xs.length cs) (hown : Own w base e As cs xs)
  {B c : Nat} {A : Option Addr} {bs : List UInt8} (hx : a.eval x = .slice A bs.length c) (hr : Rd w B A c bs) (hbytes : xs.length + bs.length ≤ 140737488355328) (hbase : base ≤ w.heap.size)
  (h : ∀ A' c' w', Own w' base e A' c' (xs ++ bs) → Below base w w' → wpList P ops Q rest (a.put o.dst (.slice A' (xs ++ bs).length c')) w') : wpList P ops Q (o :: rest) a w :=
 wpList_plain hgd fun _ hK => wp_app w s x t ho base e i z ht hi hz hsize hby hzs hs hown hx hr hbytes hbase fun A' c' w' h1 h2 => hK _ _ (h A' c' w' h1 h2)
theorem wp_app1 (w0 : World) {o : Oper} {a : Act} {K : Act → World → Prop} {Q : Exit → Act → World → Prop} (s x : Operand) (t : TypeId)
  (ho : o.op = .call { callee := .builtin .append, args := #[s, x], argTypes := #[t, t] })
  (base : Nat) (e : TypeId) (i : TypeInfo) (z : Value) (ht : P.underlying t = some (.slice e)) (hi : P.info? e = some i) (hz : i.zero = some z)
  (hsize : i.size = 1) (hby : i.bytes = 1) (hzs : z.cells.size = 1) {As : Option Addr} {cs n : Nat} {xs : List UInt8} (hs : a.eval s = .slice As n cs) (hn : n = xs.length) (hown : Own w0 base e As cs xs)
  {v : Int} (hx : a.eval x = .slice (some ⟨w0.heap.size, 0, none⟩) 1 1) (b : UInt8) (hv : v = (b.toNat : Int)) (hbytes : n + 1 ≤ 140737488355328) (hbase : base ≤ w0.heap.size)
  (h : ∀ A' c' w', Own w' base e A' c' (xs ++ [b]) → Below base w0 w' → K (a.put o.dst (.slice A' (n + 1) c')) w') : o.wp P a (w0.alloc (.cells #[.int .u8 v] e)) K Q := by
 subst hv
 subst hn
 have hb := (Below.refl w0.heap.size w0).alloc (Nat.le_refl _) (.cells #[.int .u8 (b.toNat : Int)] e)
 have hl := (Own.lit (w := w0) e (Nat.le_refl _) #[.int .u8 (b.toNat : Int)] [b] (by simp [maxLen]) rfl).rd
 refine wp_app _ s x t ho base e i z ht hi hz hsize hby hzs hs (hown.keep hb) (bs := [b]) hx hl (by simpa using hbytes) (by simp; omega) ?_
 intro A' c' w' h1 h2
 rw [show (xs ++ [b]).length = xs.length + 1 by simp]
 exact h A' c' w' h1 ((hb.mono hbase).trans h2)
theorem wpList_app1 (w0 : World) {ops : Array Oper} {rest : List Oper} {o : Oper} {a : Act} {Q : Exit → Act → World → Prop} (hgd : o.guard = none) (s x : Operand) (t : TypeId)
  (ho : o.op = .call { callee := .builtin .append, args := #[s, x], argTypes := #[t, t] })
  (base : Nat) (e : TypeId) (i : TypeInfo) (z : Value) (ht : P.underlying t = some (.slice e)) (hi : P.info? e = some i) (hz : i.zero = some z)
  (hsize : i.size = 1) (hby : i.bytes = 1) (hzs : z.cells.size = 1) {As : Option Addr} {cs n : Nat} {xs : List UInt8} (hs : a.eval s = .slice As n cs) (hn : n = xs.length) (hown : Own w0 base e As cs xs)
  {v : Int} (hx : a.eval x = .slice (some ⟨w0.heap.size, 0, none⟩) 1 1) (b : UInt8) (hv : v = (b.toNat : Int)) (hbytes : n + 1 ≤ 140737488355328) (hbase : base ≤ w0.heap.size)
  (h : ∀ A' c' w', Own w' base e A' c' (xs ++ [b]) → Below base w0 w' → wpList P ops Q rest (a.put o.dst (.slice A' (n + 1) c')) w') : wpList P ops Q (o :: rest) a (w0.alloc (.cells #[.int .u8 v] e)) :=
 wpList_plain hgd fun _ hK => wp_app1 w0 s x t ho base e i z ht hi hz hsize hby hzs hs hn hown hx b hv hbytes hbase fun A' c' w' h1 h2 => hK _ _ (h A' c' w' h1 h2)
theorem run_str (w : World) (src e : TypeId) (hs : P.underlying src = some (.slice e)) (he : P.underlying e = some (.int .u8)) {dst : TypeId} (hd : P.underlying dst = some .string)
  {B c : Nat} {A : Option Addr} {bs : List UInt8} (hr : Rd w B A c bs) : (convert src dst (.slice A bs.length c)).run P w = .ok (.string ⟨bs.toArray⟩) w := by
 rcases A with _ | ad
 ·obtain ⟨rfl, rfl⟩ := hr.nil rfl
  exact run_convert_bytes_nil (P := P) w src e hs he _ _ dst hd
 ·have hl : (loadCells ad bs.length).run P w = .ok ((bs.map (fun c => (c.toNat : Int))).map (Value.int .u8)).toArray w := by
   have := run_loadCells_list (P := P) w ad (bs.map bv) (fun j v hj => hr.cells rfl j v hj)
   simpa [Function.comp_def] using this
  rw [run_convert_bytes_string w src dst e _ _ c hs he hd, run_bytesToString w _ _ c _ hl, foldl_push_bytes]
  simp [ByteArray.empty, ByteArray.emptyWithCapacity, Function.comp_def]
  rfl
theorem run_mk (t e : TypeId) (i : TypeInfo) (ht : P.underlying t = some (.slice e)) (hi : P.info? e = some i) (hz : i.zero = some (.int .u8 0))
  (hsize : i.size = 1) (hby : i.bytes = 1) {l : Int} {n : Nat} (hl : l = (n : Int)) (hn : n ≤ 281474976710656) (w : World) :
  (Instr.makeSlice t (.int .i64 l) (.int .i64 l)).run P w = .ok (.slice (some ⟨w.heap.size, 0, none⟩) n n) (w.alloc (.cells (madeCells #[.int .u8 0] n) e)) := by
 subst hl
 have h := run_make (P := P) w t e i (.int .u8 0) ht hi hz .i64 .i64 n n (by omega) (Int.le_refl _) (by rw [hby]; omega) (by omega)
 simpa [hsize, Value.cells] using h
end
end
end Go.Proofs.YtkbkalhcdbklkaaGreatDoor
/-
 Digits of numbers, to any base: of no program. By an AI agent.
-/
namespace Go.Proofs.YtkbkalhcdbklkaaGreatDoor
section
def dgt (b x i : Nat) : Nat := x / b ^ i % b
theorem dgt_lt {b : Nat} (hb : 0 < b) (x i : Nat) : dgt b x i < b := Nat.mod_lt _ hb
theorem dgt_le {b : Nat} (hb : 0 < b) (x i : Nat) : dgt b x i ≤ b - 1 := by have := dgt_lt hb x i; omega
theorem dgt_zero_of_lt {b x i : Nat} (h : x < b ^ i) : dgt b x i = 0 := by simp [dgt, Nat.div_eq_of_lt h]
theorem mod_pow_succ' (b x i : Nat) : x % b ^ (i + 1) = x % b ^ i + b ^ i * dgt b x i := by
 rw [Nat.pow_succ, Nat.mod_mul]; rfl
theorem dgt_mod {b : Nat} (x : Nat) {i n : Nat} (h : i < n) : dgt b (x % b ^ n) i = dgt b x i := by
 unfold dgt
 have e : b ^ n = b ^ i * (b * b ^ (n - i - 1)) := by
  rw [← Nat.mul_assoc, ← Nat.pow_succ, ← Nat.pow_add]; congr 1; omega
 rw [e, Nat.mod_mul_right_div_self, Nat.mod_mul_right_mod]
theorem dgt_ext {b x y n : Nat} (hx : x < b ^ n) (hy : y < b ^ n) (h : ∀ i, i < n → dgt b x i = dgt b y i) : x = y := by
 have key : ∀ k, k ≤ n → x % b ^ k = y % b ^ k := by
  intro k
  induction k with
  | zero => intro _; simp [Nat.mod_one]
  | succ k ih => intro hk; rw [mod_pow_succ', mod_pow_succ', ih (by omega), h k (by omega)]
 have := key n (Nat.le_refl _)
 rwa [Nat.mod_eq_of_lt hx, Nat.mod_eq_of_lt hy] at this
def cry (b x y i : Nat) : Nat := (x % b ^ i + y % b ^ i) / b ^ i
theorem cry_zero (b x y : Nat) : cry b x y 0 = 0 := by simp [cry, Nat.mod_one]
theorem cry_succ {b : Nat} (hb : 0 < b) (x y i : Nat) : cry b x y (i + 1) = (dgt b x i + dgt b y i + cry b x y i) / b := by
 unfold cry
 have hp : 0 < b ^ i := Nat.pow_pos hb
 rw [mod_pow_succ', mod_pow_succ', Nat.pow_succ, ← Nat.div_div_eq_div_mul]
 have e : x % b ^ i + b ^ i * dgt b x i + (y % b ^ i + b ^ i * dgt b y i) = (x % b ^ i + y % b ^ i) + b ^ i * (dgt b x i + dgt b y i) := by
  rw [Nat.mul_add]; omega
 rw [e, Nat.add_mul_div_left _ _ hp]
 congr 1; omega
theorem dgt_add {b : Nat} (hb : 0 < b) (x y i : Nat) : dgt b (x + y) i = (dgt b x i + dgt b y i + cry b x y i) % b := by
 unfold cry dgt
 have hp : 0 < b ^ i := Nat.pow_pos hb
 have e : x + y = (x % b ^ i + y % b ^ i) + b ^ i * (x / b ^ i + y / b ^ i) := by
  have h1 := Nat.mod_add_div x (b ^ i)
  have h2 := Nat.mod_add_div y (b ^ i)
  rw [Nat.mul_add]; omega
 conv => lhs; rw [e, Nat.add_mul_div_left _ _ hp]
 rw [Nat.add_comm, Nat.add_mod (x / b ^ i % b + y / b ^ i % b), Nat.add_mod (x / b ^ i % b), Nat.mod_mod, Nat.mod_mod, ← Nat.add_mod (x / b ^ i), ← Nat.add_mod]
theorem cry_le {b : Nat} (hb : 0 < b) (x y i : Nat) : cry b x y i ≤ 1 := by
 unfold cry
 have hp : 0 < b ^ i := Nat.pow_pos hb
 have h1 := Nat.mod_lt x hp
 have h2 := Nat.mod_lt y hp
 have : (x % b ^ i + y % b ^ i) / b ^ i < 2 := Nat.div_lt_of_lt_mul (by omega)
 omega
theorem cry_full {b x y n : Nat} (hx : x < b ^ n) (hy : y < b ^ n) : cry b x y n = (x + y) / b ^ n := by
 unfold cry; rw [Nat.mod_eq_of_lt hx, Nat.mod_eq_of_lt hy]
def brw (b x y i : Nat) : Nat := if x % b ^ i < y % b ^ i then 1 else 0
theorem brw_zero (b x y : Nat) : brw b x y 0 = 0 := by simp [brw, Nat.mod_one]
theorem brw_le (b x y i : Nat) : brw b x y i ≤ 1 := by unfold brw; split <;> omega
theorem brw_succ {b : Nat} (hb : 0 < b) (x y i : Nat) : brw b x y (i + 1) = if dgt b x i < dgt b y i + brw b x y i then 1 else 0 := by
 unfold brw
 have hp : 0 < b ^ i := Nat.pow_pos hb
 rw [mod_pow_succ', mod_pow_succ']
 have h1 := Nat.mod_lt x hp
 have h2 := Nat.mod_lt y hp
 generalize x % b ^ i = r at *
 generalize y % b ^ i = s at *
 generalize dgt b x i = d at *
 generalize dgt b y i = e at *
 generalize b ^ i = p at *
 rcases Nat.lt_trichotomy d e with h | h | h
 ·have : p * (d + 1) ≤ p * e := Nat.mul_le_mul_left _ h
  rw [Nat.mul_add] at this
  rw [if_pos (by omega), if_pos (by split <;> omega)]
 ·subst h
  by_cases h3 : r < s
  ·rw [if_pos (by omega), if_pos (by rw [if_pos h3]; omega)]
  ·rw [if_neg (by omega), if_neg (by rw [if_neg h3]; omega)]
 ·have : p * (e + 1) ≤ p * d := Nat.mul_le_mul_left _ h
  rw [Nat.mul_add] at this
  rw [if_neg (by omega), if_neg (by split <;> omega)]
theorem brw_full {b x y n : Nat} (hx : x < b ^ n) (hy : y < b ^ n) : brw b x y n = if x < y then 1 else 0 := by
 unfold brw; rw [Nat.mod_eq_of_lt hx, Nat.mod_eq_of_lt hy]
theorem dgt_sub {b : Nat} (hb : 0 < b) (x y : Nat) {i n : Nat} (hi : i < n) (hy : y < b ^ n) :
  (dgt b (x + b ^ n - y) i : Int) = ((dgt b x i : Int) - dgt b y i - brw b x y i) % (b : Int) := by
 unfold brw dgt
 have hp : 0 < b ^ i := Nat.pow_pos hb
 have e : b ^ n = b ^ i * (b * b ^ (n - i - 1)) := by
  rw [← Nat.mul_assoc, ← Nat.pow_succ, ← Nat.pow_add]; congr 1; omega
 rw [e] at hy ⊢
 generalize b ^ (n - i - 1) = q at *
 have h1 := Nat.mod_lt x hp
 have h2 := Nat.mod_lt y hp
 have d1 := Nat.mod_add_div x (b ^ i)
 have d2 := Nat.mod_add_div y (b ^ i)
 generalize x % b ^ i = r at *
 generalize y % b ^ i = s at *
 generalize x / b ^ i = X at *
 generalize y / b ^ i = Y at *
 generalize b ^ i = p at *
 subst d1 d2
 have key : ∀ br : Nat, (if r < s then (1 : Nat) else 0) = br → (((r + p * X + p * (b * q) - (s + p * Y)) / p : Nat) : Int) = (X : Int) + b * q - Y - br := by
  intro br hbr
  have hZ : ((r + p * X + p * (b * q) - (s + p * Y) : Nat) : Int) = (r + p * br - s : Int) + p * ((X : Int) + b * q - Y - br) := by
   have : s + p * Y ≤ r + p * X + p * (b * q) := by omega
   rw [Int.ofNat_sub this]
   simp only [Int.natCast_add, Int.natCast_mul, Int.mul_sub, Int.mul_add]
   omega
  rw [Int.natCast_ediv, hZ, Int.add_mul_ediv_left _ _ (by omega), Int.ediv_eq_zero_of_lt]
  ·omega
  ·subst hbr; split <;> simp <;> omega
  ·subst hbr; split <;> simp <;> omega
 rw [Int.natCast_emod, key _ rfl]
 rw [Int.natCast_emod, Int.natCast_emod]
 rw [show (X : Int) + b * q - Y - ((if r < s then (1 : Nat) else 0 : Nat) : Int) = (X - Y - ((if r < s then (1 : Nat) else 0 : Nat) : Int)) + b * q by omega, Int.add_mul_emod_self_left]
 rw [Int.sub_emod ((X : Int) - Y), Int.sub_emod (X : Int) Y, Int.sub_emod ((X : Int) % b - Y % b), Int.sub_emod ((X : Int) % b) ((Y : Int) % b)]
theorem dgt_add_mul {b : Nat} (A z : Nat) {j n : Nat} (h : j < n) : dgt b (A + b ^ n * z) j = dgt b A j := by
 rw [← dgt_mod _ h, Nat.add_mul_mod_self_left, dgt_mod _ h]
theorem dgt_div (b x i : Nat) : x / b ^ (i + 1) = x / b ^ i / b := by rw [Nat.pow_succ, Nat.div_div_eq_div_mul]
def mT (b x y i : Nat) : Nat := (x % b ^ i) * y
def mS (b x y i k : Nat) : Nat := mT b x y i % b ^ (i + k) + dgt b x i * (y % b ^ k) * b ^ i
def mO (b x y i k : Nat) : Nat := mS b x y i k / b ^ (i + k)
theorem mT_zero (b x y : Nat) : mT b x y 0 = 0 := by simp [mT, Nat.mod_one]
theorem mT_succ (b x y i : Nat) : mT b x y (i + 1) = mT b x y i + dgt b x i * y * b ^ i := by
 unfold mT
 rw [mod_pow_succ', Nat.add_mul]
 congr 1
 rw [Nat.mul_comm (b ^ i), Nat.mul_right_comm]
theorem mT_full {b x y n : Nat} (hx : x < b ^ n) : mT b x y n = x * y := by unfold mT; rw [Nat.mod_eq_of_lt hx]
theorem mT_lt {b x y i n : Nat} (hb : 0 < b) (hy : y < b ^ n) : mT b x y i < b ^ (i + n) := by
 unfold mT
 rw [Nat.pow_add]
 exact Nat.mul_lt_mul_of_lt_of_le (Nat.mod_lt _ (Nat.pow_pos hb)) (Nat.le_of_lt hy) (Nat.pow_pos hb)
theorem mS_zero {b x y i : Nat} : mS b x y i 0 = mT b x y i % b ^ i := by simp [mS, Nat.mod_one]
theorem mO_zero {b x y i : Nat} (hb : 0 < b) : mO b x y i 0 = 0 := by
 unfold mO; rw [mS_zero]; exact Nat.div_eq_of_lt (Nat.mod_lt _ (Nat.pow_pos hb))
theorem mS_succ (b x y i k : Nat) : mS b x y i (k + 1) = mS b x y i k + b ^ (i + k) * (dgt b x i * dgt b y k + dgt b (mT b x y i) (i + k)) := by
 unfold mS
 rw [← Nat.add_assoc, mod_pow_succ', mod_pow_succ']
 generalize mT b x y i % b ^ (i + k) = p
 generalize dgt b (mT b x y i) (i + k) = q
 generalize dgt b x i = r
 generalize dgt b y k = s
 generalize y % b ^ k = t
 rw [Nat.pow_add]
 simp only [Nat.mul_add, Nat.add_mul, Nat.mul_assoc, Nat.mul_comm, Nat.mul_left_comm, Nat.add_assoc, Nat.add_comm, Nat.add_left_comm]
theorem mS_div {b x y i k : Nat} (hb : 0 < b) : mS b x y i (k + 1) / b ^ (i + k) = dgt b x i * dgt b y k + dgt b (mT b x y i) (i + k) + mO b x y i k := by
 rw [mS_succ, Nat.add_mul_div_left _ _ (Nat.pow_pos hb)]
 unfold mO
 omega
theorem mO_succ {b x y i k : Nat} (hb : 0 < b) : mO b x y i (k + 1) = (dgt b x i * dgt b y k + dgt b (mT b x y i) (i + k) + mO b x y i k) / b := by
 rw [← mS_div hb]
 unfold mO
 rw [← Nat.add_assoc, dgt_div]
theorem mS_new {b x y i k : Nat} (hb : 0 < b) : dgt b (mS b x y i (k + 1)) (i + k) = (dgt b x i * dgt b y k + dgt b (mT b x y i) (i + k) + mO b x y i k) % b := by
 rw [← mS_div hb]; rfl
theorem mS_old {b x y i k j : Nat} (h : j < i + k) : dgt b (mS b x y i (k + 1)) j = dgt b (mS b x y i k) j := by
 rw [mS_succ, dgt_add_mul _ _ h]
theorem mS_lt {b x y i k : Nat} (hb : 0 < b) : mS b x y i k < b ^ (i + k + 1) := by
 unfold mS
 have h1 := Nat.mod_lt (mT b x y i) (Nat.pow_pos (n := i + k) hb)
 have h2 := dgt_le hb x i
 have h3 : dgt b x i * (y % b ^ k) * b ^ i ≤ (b - 1) * b ^ k * b ^ i :=
  Nat.mul_le_mul_right _ (Nat.mul_le_mul h2 (Nat.le_of_lt (Nat.mod_lt _ (Nat.pow_pos hb))))
 have e1 : (b - 1) * b ^ k * b ^ i = (b - 1) * b ^ (i + k) := by rw [Nat.mul_assoc, ← Nat.pow_add, Nat.add_comm]
 have e2 : b ^ (i + k + 1) = b ^ (i + k) + (b - 1) * b ^ (i + k) := by
  rw [Nat.pow_succ]
  obtain ⟨c, rfl⟩ : ∃ c, b = c + 1 := ⟨b - 1, by omega⟩
  rw [Nat.mul_add, Nat.add_sub_cancel, Nat.mul_comm _ c]; omega
 omega
theorem mO_lt {b x y i k : Nat} (hb : 0 < b) : mO b x y i k < b := by
 unfold mO
 refine Nat.div_lt_of_lt_mul ?_
 rw [← Nat.pow_succ]
 exact mS_lt hb
theorem mS_full {b x y i n : Nat} (hb : 0 < b) (hy : y < b ^ n) : mS b x y i n = mT b x y (i + 1) := by
 unfold mS
 rw [Nat.mod_eq_of_lt (mT_lt hb hy), Nat.mod_eq_of_lt hy, mT_succ]
end
end Go.Proofs.YtkbkalhcdbklkaaGreatDoor
/-
 Rows of one-cell values in memory, of whatever type: of no program. By an AI agent.
-/
namespace Go.Proofs.YtkbkalhcdbklkaaGreatDoor
section
open Go Go.RowKit
structure RdF (w : World) (B : Nat) (A : Option Addr) (c n : Nat) (f : Nat → Value) : Prop where
 cap : n ≤ c
 nil : A = none → n = 0 ∧ c = 0
 some_ : 0 < n → ∃ b o, A = some ⟨b, o, none⟩ ∧ b < B ∧ ∀ k, k < n → w.cell? ⟨b, o + k, none⟩ = some (f k)
section
variable {w w' : World} {B B' c n : Nat} {A : Option Addr} {f : Nat → Value}
theorem RdF.keep (h : RdF w B A c n f) (hb : Below B w w') : RdF w' B A c n f :=
 ⟨h.cap, h.nil, fun hn => by
  obtain ⟨b, o, e, hlt, hc⟩ := h.some_ hn
  exact ⟨b, o, e, hlt, fun k hk => (hb.cell (p := ⟨b, o + k, none⟩) hlt).trans (hc k hk)⟩⟩
theorem RdF.mono (h : RdF w B A c n f) (hb : B ≤ B') : RdF w B' A c n f :=
 ⟨h.cap, h.nil, fun hn => by
  obtain ⟨b, o, e, hlt, hc⟩ := h.some_ hn
  exact ⟨b, o, e, by omega, hc⟩⟩
theorem RdF.at_ {k : Nat} (h : RdF w B A c n f) (hk : k < n) : ∃ b o, A = some ⟨b, o, none⟩ ∧ b < B ∧ w.cell? ⟨b, o + k, none⟩ = some (f k) := by
 obtain ⟨b, o, e, hlt, hc⟩ := h.some_ (by omega)
 exact ⟨b, o, e, hlt, hc k hk⟩
theorem RdF.next (h : RdF w w.heap.size A c n f) (hb : Below w.heap.size w w') : RdF w' w'.heap.size A c n f := (h.keep hb).mono hb.size
theorem RdF.take {m : Nat} (h : RdF w B A c n f) (hm : m ≤ n) : RdF w B A c m f :=
 ⟨Nat.le_trans hm h.cap, fun e => by have := h.nil e; omega, fun hn => by
  obtain ⟨b, o, e, hlt, hc⟩ := h.some_ (by omega)
  exact ⟨b, o, e, hlt, fun k hk => hc k (by omega)⟩⟩
theorem RdF.congr {g : Nat → Value} (h : RdF w B A c n f) (he : ∀ k, k < n → f k = g k) : RdF w B A c n g :=
 ⟨h.cap, h.nil, fun hn => by
  obtain ⟨b, o, e, hlt, hc⟩ := h.some_ hn
  exact ⟨b, o, e, hlt, fun k hk => by rw [← he k hk]; exact hc k hk⟩⟩
theorem RdF.cells (h : RdF w B A c n f) {ad : Addr} (hA : A = some ad) : ∀ j u, ((List.range n).map f)[j]? = some u → w.cell? (ad.add j) = some u := by
 intro j u hu
 have hj : j < n := by have := (List.getElem?_eq_some_iff.1 hu).1; simpa using this
 obtain ⟨b, o, e, _, hc⟩ := h.at_ hj
 rw [hA] at e
 obtain rfl := Option.some.inj e
 rw [Addr.add_lit, hc]
 simp [hj] at hu
 rw [hu]
def OwnF (w : World) (B : Nat) (e : TypeId) (A : Option Addr) (c n : Nat) (f : Nat → Value) : Prop :=
 w.ownsRow B e 1 (.slice A n c) n ((List.range n).map f)
variable {e : TypeId}
theorem range_map_get {k : Nat} (h : k < n) : ((List.range n).map f)[k]? = some (f k) := by simp [h]
theorem OwnF.congr {g : Nat → Value} (h : OwnF w B e A c n f) (he : ∀ k, k < n → f k = g k) : OwnF w B e A c n g := by
 unfold OwnF at h ⊢
 rw [show (List.range n).map g = (List.range n).map f from List.map_congr_left fun k hk => (he k (by simpa using hk)).symm]
 exact h
theorem OwnF.rd (h : OwnF w B e A c n f) : RdF w w.heap.size A c n f := by
 obtain ⟨hl, h2⟩ := h
 rcases h2 with ⟨h, h0⟩ | ⟨g, cap, cur, hv, hB, hh, hn, hm, hs, ht⟩
 ·subst h0
  simp only [Value.slice.injEq] at h
  obtain ⟨rfl, _, rfl⟩ := h
  exact ⟨by simp, fun _ => ⟨rfl, rfl⟩, fun h => absurd h (by omega)⟩
 ·simp only [Value.slice.injEq, true_and] at hv
  obtain ⟨rfl, rfl⟩ := hv
  refine ⟨hn, (fun h => nomatch h), fun _ => ⟨g, 0, rfl, (Array.getElem?_eq_some_iff.1 hh).1, fun k hk => ?_⟩⟩
  rw [Nat.zero_add, cell_of_row w g k cur e (0, 0) hh, ← range_map_get hk, ← ht, List.getElem?_take, if_pos (by omega)]
  simp
theorem OwnF.keep (h : OwnF w B e A c n f) (hb : Below w.heap.size w w') : OwnF w' B e A c n f := by
 obtain ⟨hl, h2⟩ := h
 refine ⟨hl, ?_⟩
 rcases h2 with h | ⟨g, cap, cur, hv, hB, hh, r⟩
 ·exact .inl h
 ·exact .inr ⟨g, cap, cur, hv, hB, (hb.block g (Array.getElem?_eq_some_iff.1 hh).1).trans hh, r⟩
theorem OwnF.mono (h : OwnF w B e A c n f) (hb : B' ≤ B) : OwnF w B' e A c n f := by
 obtain ⟨hl, h2⟩ := h
 refine ⟨hl, ?_⟩
 rcases h2 with h | ⟨g, cap, cur, hv, hB, r⟩
 ·exact .inl h
 ·exact .inr ⟨g, cap, cur, hv, by omega, r⟩
theorem OwnF.nothing (w : World) (B : Nat) (e : TypeId) (f : Nat → Value) : OwnF w B e none 0 0 f := World.ownsRow_nil _ _ _ _
variable {g : Nat}
theorem OwnF.lit {w : World} {B : Nat} (e : TypeId) (hB : B ≤ w.heap.size) (cs : Array Value) (n : Nat) (f : Nat → Value) (hm : n ≤ maxLen) (h : cs.toList = (List.range n).map f) : OwnF (w.alloc (.cells cs e)) B e (some ⟨w.heap.size, 0, none⟩) n n f := by
 have hs : cs.size = n * 1 := by rw [← Array.length_toList, h]; simp
 have := World.ownsRow_lit (e := e) (size := 1) w cs n hB hm hs
 unfold OwnF
 rw [← h]
 exact this
theorem OwnF.cell (h : OwnF w B e (some ⟨g, 0, none⟩) c n f) {k : Nat} (hk : k < n) : w.cell? ⟨g, k, none⟩ = some (f k) := by
 rw [World.ownsRow.cellAt h k (by omega), range_map_get hk]
theorem OwnF.set_ (h : OwnF w B e (some ⟨g, 0, none⟩) c n f) (k : Nat) (x : Value) : OwnF (w.setCell ⟨g, k, none⟩ x) B e (some ⟨g, 0, none⟩) c n (fun j => if j = k then x else f j) := by
 have := (World.ownsRow.stored h k x).1
 unfold OwnF
 have e : ((List.range n).map f).set k x = (List.range n).map (fun j => if j = k then x else f j) := by
  refine List.ext_getElem (by simp) fun i h1 h2 => ?_
  rw [List.getElem_set]
  simp only [List.getElem_map, List.getElem_range]
  by_cases h : k = i
  ·rw [if_pos h, if_pos h.symm]
  ·rw [if_neg h, if_neg (Ne.symm h)]
 rw [← e]
 exact this
theorem RdF.cell0 (h : RdF w B (some ⟨g, 0, none⟩) c n f) {k : Nat} (hk : k < n) : w.cell? ⟨g, k, none⟩ = some (f k) := by
 obtain ⟨b, o, e, _, hc⟩ := h.at_ hk
 simp only [Option.some.injEq, Addr.mk.injEq] at e
 obtain ⟨rfl, rfl, _⟩ := e
 simpa using hc
theorem OwnF.keepAt (h : OwnF w B e (some ⟨g, 0, none⟩) c n f) (hb : Below (g + 1) w w') : OwnF w' B e (some ⟨g, 0, none⟩) c n f := by
 obtain ⟨hl, h2⟩ := h
 refine ⟨hl, ?_⟩
 rcases h2 with h | ⟨g', cap, cur, hv, hB, hh, r⟩
 ·exact .inl h
 ·have hg : g = g' := by simp only [Value.slice.injEq, Option.some.injEq, Addr.mk.injEq] at hv; exact hv.1.1
  subst hg
  exact .inr ⟨g, cap, cur, hv, hB, (hb.block g (by omega)).trans hh, r⟩
theorem OwnF.other (h : OwnF w B e (some ⟨g, 0, none⟩) c n f) {p : Addr} (hp : p.block ≠ g) (v : Value) : OwnF (w.setCell p v) B e (some ⟨g, 0, none⟩) c n f := by
 obtain ⟨hl, h2⟩ := h
 refine ⟨hl, ?_⟩
 rcases h2 with h | ⟨g', cap, cur, hv, hB, hh, r⟩
 ·exact .inl h
 ·have hg : g = g' := by simp only [Value.slice.injEq, Option.some.injEq, Addr.mk.injEq] at hv; exact hv.1.1
  subst hg
  exact .inr ⟨g, cap, cur, hv, hB, (Below.heap_setCell w p v g (Ne.symm hp)).trans hh, r⟩
theorem OwnF.ge (h : OwnF w B e (some ⟨g, 0, none⟩) c n f) : B ≤ g := (World.ownsRow.lt h g rfl).1
theorem OwnF.lt (h : OwnF w B e (some ⟨g, 0, none⟩) c n f) : g < w.heap.size := (World.ownsRow.lt h g rfl).2
theorem OwnF.free (h : OwnF w B e (some ⟨g, 0, none⟩) c n f) (k : Nat) : w.frozen? ⟨g, k, none⟩ = false := World.ownsRow.frozenAt h k
theorem OwnF.drew (h : OwnF w B e A c n f) : OwnF w.drew B e A c n f := h
theorem RdF.drew (h : RdF w B A c n f) : RdF w.drew B A c n f := ⟨h.cap, h.nil, h.some_⟩
theorem owned_shapeF {v : Value} {xs : List Value} {n : Nat} (h : w.ownsRow B e 1 v n xs) (hx : xs = (List.range n).map f) : ∃ A c, v = .slice A n c ∧ OwnF w B e A c n f := by
 subst hx
 rcases h.2 with ⟨rfl, h0⟩ | ⟨g, cap, cur, rfl, _⟩
 ·exact ⟨Option.none, 0, by rw [h0], by unfold OwnF; rw [h0] at h ⊢; exact h⟩
 ·exact ⟨_, _, rfl, h⟩
end
section
variable {P : Program}
theorem wp_appF (w : World) {o : Oper} {a : Act} {K : Act → World → Prop} {Q : Exit → Act → World → Prop} (s x : Operand) (t : TypeId)
  (ho : o.op = .call { callee := .builtin .append, args := #[s, x], argTypes := #[t, t] })
  (base : Nat) (e : TypeId) (i : TypeInfo) (z : Value) (ht : P.underlying t = some (.slice e)) (hi : P.info? e = some i) (hz : i.zero = some z)
  (hsize : i.size = 1) {by_ : Nat} (hby : i.bytes = by_) (_hby0 : 0 < by_) (hzs : z.cells.size = 1) {As : Option Addr} {cs n : Nat} {f : Nat → Value} (hs : a.eval s = .slice As n cs) (hown : OwnF w base e As cs n f)
  {B c m : Nat} {A : Option Addr} {g : Nat → Value} (hx : a.eval x = .slice A m c) (hr : RdF w B A c m g) (hg : ∀ k, k < m → (g k).oneCell' = true) (hlen : n + m ≤ 140737488355328) (hbytes : (n + m) * by_ ≤ 140737488355328) (hbase : base ≤ w.heap.size)
  (h : ∀ A' c' w', OwnF w' base e A' c' (n + m) (fun k => if k < n then f k else g (k - n)) → Below base w w' → K (a.put o.dst (.slice A' (n + m) c')) w') : o.wp P a w K Q := by
 have happ : (List.range n).map f ++ (List.range m).map g = (List.range (n + m)).map (fun k => if k < n then f k else g (k - n)) := by
  refine List.ext_getElem (by simp) fun i h1 h2 => ?_
  rw [List.getElem_append]
  simp only [List.length_map, List.length_range, List.getElem_map, List.getElem_range]
  by_cases hi : i < n
  ·rw [dif_pos hi, if_pos hi]
  ·rw [dif_neg hi, if_neg hi]
 have hrun : ∃ v' w', (Builtin.append_ #[t, t] o.type #[.slice As n cs, .slice A m c]).run P w = .ok v' w' ∧ w'.ownsRow base e 1 v' (n + m) ((List.range n).map f ++ (List.range m).map g) ∧ w.grownBy w' (Value.slice As n cs).ownBlock := by
  rcases A with _ | ad
  ·obtain ⟨rfl, rfl⟩ := hr.nil rfl
   exact ⟨_, w, run_append_owned_none (P := P) w base t o.type e i 1 ht hi _ n _ hown, by simp only [Nat.add_zero, List.range_zero, List.map_nil, List.append_nil]; exact hown, World.grownBy.refl w _⟩
  ·obtain ⟨v', w', hrun, h2, h3, _⟩ := run_append_own (P := P) w base t o.type e i z 1 by_ ht hi hz hsize hby hzs (by decide) _ n _ hown ad m c ((List.range m).map g) (by simp)
    (hr.cells rfl) (by intro u hu; obtain ⟨k, hk, rfl⟩ := List.mem_map.1 hu; exact hg k (by simpa using hk)) (by simp only [maxLen]; omega) (by omega) hbase
   exact ⟨v', w', hrun, h2, h3⟩
 obtain ⟨v', w', hrun, h2, h3⟩ := hrun
 obtain ⟨A', c', rfl, h4⟩ := owned_shapeF h2 happ
 unfold Oper.wp execOp
 simp only [ho, resolve, invoke, builtin, Sem.run_bind, Sem.run_pure, Result.andThen_ok, List.map_toArray, List.map_cons, List.map_nil, hs, hx, hrun]
 refine h A' c' w' h4 ((Below.refl _ _).grown h3 hbase ?_)
 intro k hk
 exact (World.ownsRow.lt hown k hk).1
theorem wp_appF1 (w0 : World) {o : Oper} {a : Act} {K : Act → World → Prop} {Q : Exit → Act → World → Prop} (s x : Operand) (t : TypeId)
  (ho : o.op = .call { callee := .builtin .append, args := #[s, x], argTypes := #[t, t] })
  (base : Nat) (e : TypeId) (i : TypeInfo) (z : Value) (ht : P.underlying t = some (.slice e)) (hi : P.info? e = some i) (hz : i.zero = some z)
  (hsize : i.size = 1) {by_ : Nat} (hby : i.bytes = by_) (hby0 : 0 < by_) (hzs : z.cells.size = 1) {As : Option Addr} {cs n : Nat} {f : Nat → Value} (hs : a.eval s = .slice As n cs) (hown : OwnF w0 base e As cs n f)
  {v : Value} (hv : v = f n) (hx : a.eval x = .slice (some ⟨w0.heap.size, 0, none⟩) 1 1) (hone : (f n).oneCell' = true) (hlen : n + 1 ≤ 140737488355328) (hbytes : (n + 1) * by_ ≤ 140737488355328) (hbase : base ≤ w0.heap.size)
  (h : ∀ A' c' w', OwnF w' base e A' c' (n + 1) f → Below base w0 w' → K (a.put o.dst (.slice A' (n + 1) c')) w') : o.wp P a (w0.alloc (.cells #[v] e)) K Q := by
 subst hv
 have hb := (Below.refl w0.heap.size w0).alloc (Nat.le_refl _) (.cells #[f n] e)
 have hl := (OwnF.lit (w := w0) e (Nat.le_refl _) #[f n] 1 (fun _ => f n) (by simp [maxLen]) rfl).rd
 refine wp_appF _ s x t ho base e i z ht hi hz hsize hby hby0 hzs hs (hown.keep hb) hx hl (fun _ _ => hone) hlen hbytes (by simp; omega) ?_
 intro A' c' w' h1 h2
 refine h A' c' w' (h1.congr fun k hk => ?_) ((hb.mono hbase).trans h2)
 by_cases hk' : k < n
 ·rw [if_pos hk']
 ·rw [if_neg hk', show k = n by omega]
theorem wpList_appF1 (w0 : World) {ops : Array Oper} {rest : List Oper} {o : Oper} {a : Act} {Q : Exit → Act → World → Prop} (hgd : o.guard = none) (s x : Operand) (t : TypeId)
  (ho : o.op = .call { callee := .builtin .append, args := #[s, x], argTypes := #[t, t] })
  (base : Nat) (e : TypeId) (i : TypeInfo) (z : Value) (ht : P.underlying t = some (.slice e)) (hi : P.info? e = some i) (hz : i.zero = some z)
  (hsize : i.size = 1) {by_ : Nat} (hby : i.bytes = by_) (hby0 : 0 < by_) (hzs : z.cells.size = 1) {As : Option Addr} {cs n : Nat} {f : Nat → Value} (hs : a.eval s = .slice As n cs) (hown : OwnF w0 base e As cs n f)
  {v : Value} (hv : v = f n) (hx : a.eval x = .slice (some ⟨w0.heap.size, 0, none⟩) 1 1) (hone : (f n).oneCell' = true) (hlen : n + 1 ≤ 140737488355328) (hbytes : (n + 1) * by_ ≤ 140737488355328) (hbase : base ≤ w0.heap.size)
  (h : ∀ A' c' w', OwnF w' base e A' c' (n + 1) f → Below base w0 w' → wpList P ops Q rest (a.put o.dst (.slice A' (n + 1) c')) w') : wpList P ops Q (o :: rest) a (w0.alloc (.cells #[v] e)) :=
 wpList_plain hgd fun _ hK => wp_appF1 w0 s x t ho base e i z ht hi hz hsize hby hby0 hzs hs hown hv hx hone hlen hbytes hbase fun A' c' w' h1 h2 => hK _ _ (h A' c' w' h1 h2)
theorem run_mkF (t e : TypeId) (i : TypeInfo) {z : Value} (ht : P.underlying t = some (.slice e)) (hi : P.info? e = some i) (hz : i.zero = some z) (hzc : z.cells = #[z])
  (hsize : i.size = 1) {by_ : Nat} (hby : i.bytes = by_) {l : Int} {n : Nat} (hl : l = (n : Int)) (hn : n * by_ ≤ 281474976710656) (hn' : n ≤ 281474976710656) (w : World) :
  (Instr.makeSlice t (.int .i64 l) (.int .i64 l)).run P w = .ok (.slice (some ⟨w.heap.size, 0, none⟩) n n) (w.alloc (.cells (madeCells #[z] n) e)) := by
 subst hl
 have h := run_make (P := P) w t e i z ht hi hz .i64 .i64 n n (by omega) (Int.le_refl _) (by rw [hby, ← Int.natCast_mul, Nat.mul_comm]; omega) (by omega)
 simpa [hsize, hzc] using h
theorem OwnF.made {w : World} {B : Nat} (e : TypeId) (z : Value) {n : Nat} (hB : B ≤ w.heap.size) (hn : n ≤ maxLen) : OwnF (w.alloc (.cells (madeCells #[z] n) e)) B e (some ⟨w.heap.size, 0, none⟩) n n (fun _ => z) := by
 refine OwnF.lit e hB _ n _ hn ?_
 refine List.ext_getElem (by simp [madeCells]) fun i h1 h2 => ?_
 simp [madeCells, Nat.mod_one]
end
end
end Go.Proofs.YtkbkalhcdbklkaaGreatDoor
/-
 math/bits by contracts, words of numbers. By an AI agent.
-/
namespace Go.Proofs
open Go.Shelf
def Tryz.ren264 : Go.Shelf.Ren := ⟨fun n => if n = 264 then 128 else n, fun t => if t = 53 then 33 else if t = 46 then 126 else t, fun g => g⟩
theorem Tryz.lays264 : Lays.n264 Tryz.prog Tryz.ren264 where
 mixed := by kernel_rfl
 f264 := Tryz.func128.trans (congrArg some (by kernel_rfl))
 t46 := Tryz.underlying126
 a46 := Tryz.isAgg126
 z46 := Tryz.sizeOf126
 v46 := Tryz.zeroValue126
 t53 := Tryz.underlying33
 a53 := Tryz.isAgg33
 z53 := Tryz.sizeOf33
 v53 := Tryz.zeroValue33
end Go.Proofs
namespace Go.Proofs.YtkbkalhcdbklkaaGreatDoor
section
open Go Go.RowKit Go.Shelf
theorem run_add64' (x y c : Nat) (hc : c ≤ 1) (w : World) : (callFunc 95 #[.int .u64 (x : Int), .int .u64 (y : Int), .int .u64 (c : Int)]).run Tryz.prog w =
  .ok (.value (.tuple #[.int .u64 (((x + y + c) % 18446744073709551616 : Nat) : Int), .int .u64 (((x + y + c) / 18446744073709551616 : Nat) : Int)])) w := by
 rw [run_callFunc_extern Tryz.func95 (by kernel_rfl) (by kernel_rfl) (by kernel_rfl) (e := add64Entry) (by kernel_rfl), run_add64 x y c (by omega) (by omega) (by omega) (by omega)]
 simp only [Result.andThen]
 congr 5 <;> omega
theorem run_sub64' (x y b : Nat) (hb : b ≤ 1) (w : World) : (callFunc 99 #[.int .u64 (x : Int), .int .u64 (y : Int), .int .u64 (b : Int)]).run Tryz.prog w =
  .ok (.value (.tuple #[.int .u64 (((x + 18446744073709551616 - y - b) % 18446744073709551616 : Nat) : Int), .int .u64 ((if x < y + b then 1 else 0 : Nat) : Int)])) w := by
 rw [run_callFunc_extern Tryz.func99 (by kernel_rfl) (by kernel_rfl) (by kernel_rfl) (e := sub64Entry) (by kernel_rfl), run_sub64 x y b hb]
 rfl
theorem mul64_any (x y : Nat) (hx : x < 18446744073709551616) (hy : y < 18446744073709551616) (w : World) :
  Calls Tryz.prog 128 #[.int .u64 x, .int .u64 y] w fun e w' => e = .returned (.tuple #[.int .u64 ((x * y / 18446744073709551616 : Nat) : Int), .int .u64 ((x * y % 18446744073709551616 : Nat) : Int)]) ∧ w' = w :=
 Any.bits_Mul64 Tryz.lays264 x y hx hy w
def wd (x k : Nat) : Nat := dgt 18446744073709551616 x k
def by8 (x k : Nat) : Nat := dgt 256 x k
theorem wd_lt (x k : Nat) : wd x k < 18446744073709551616 := dgt_lt (by decide) _ _
theorem by8_lt (x k : Nat) : by8 x k < 256 := dgt_lt (by decide) _ _
def W4 : Nat := 18446744073709551616 ^ 4
def W8 : Nat := 18446744073709551616 ^ 8
theorem W4_eq : W4 = 115792089237316195423570985008687907853269984665640564039457584007913129639936 := by decide
theorem W4_pos : 0 < W4 := by decide
theorem W8_eq : W8 = W4 * W4 := by decide
abbrev nv (x : Nat) : Value := .agg #[.int .u64 (wd x 0 : Int), .int .u64 (wd x 1 : Int), .int .u64 (wd x 2 : Int), .int .u64 (wd x 3 : Int)]
abbrev dv (x : Nat) : Value := .agg #[.int .u64 (wd x 0 : Int), .int .u64 (wd x 1 : Int), .int .u64 (wd x 2 : Int), .int .u64 (wd x 3 : Int), .int .u64 (wd x 4 : Int), .int .u64 (wd x 5 : Int), .int .u64 (wd x 6 : Int), .int .u64 (wd x 7 : Int)]
def cw (x y k : Nat) : Nat := cry 18446744073709551616 x y k
def bw (x y k : Nat) : Nat := brw 18446744073709551616 x y k
theorem cw_le (x y k : Nat) : cw x y k ≤ 1 := cry_le (by decide) _ _ _
theorem bw_le (x y k : Nat) : bw x y k ≤ 1 := brw_le _ _ _ _
theorem cw_zero (x y : Nat) : cw x y 0 = 0 := cry_zero _ _ _
theorem bw_zero (x y : Nat) : bw x y 0 = 0 := brw_zero _ _ _
theorem bw_four {x y : Nat} (hx : x < W4) (hy : y < W4) : bw x y 4 = if x < y then 1 else 0 := brw_full hx hy
theorem wd_mod (x : Nat) {k : Nat} (hk : k < 4) : wd (x % W4) k = wd x k := dgt_mod x hk
theorem add64_wd (x y k : Nat) (w : World) : (callFunc 95 #[.int .u64 (wd x k : Int), .int .u64 (wd y k : Int), .int .u64 (cw x y k : Int)]).run Tryz.prog w =
  .ok (.value (.tuple #[.int .u64 (wd (x + y) k : Int), .int .u64 (cw x y (k + 1) : Int)])) w := by
 rw [run_add64' _ _ _ (cw_le _ _ _)]
 rw [show wd (x + y) k = (wd x k + wd y k + cw x y k) % 18446744073709551616 from dgt_add (by decide) _ _ _,
  show cw x y (k + 1) = (wd x k + wd y k + cw x y k) / 18446744073709551616 from cry_succ (by decide) _ _ _]
theorem wd_sub (x y : Nat) {k : Nat} (hk : k < 4) (hy : y < W4) : wd (x + W4 - y) k = (wd x k + 18446744073709551616 - wd y k - bw x y k) % 18446744073709551616 := by
 have h := dgt_sub (b := 18446744073709551616) (by decide) x y hk hy
 have h1 := wd_lt y k
 have h2 := bw_le x y k
 unfold wd W4 bw at *
 generalize dgt 18446744073709551616 x k = a at *
 generalize dgt 18446744073709551616 y k = b at *
 generalize brw 18446744073709551616 x y k = c at *
 omega
theorem sub64_wd (x y : Nat) {k : Nat} (hk : k < 4) (hy : y < W4) (w : World) : (callFunc 99 #[.int .u64 (wd x k : Int), .int .u64 (wd y k : Int), .int .u64 (bw x y k : Int)]).run Tryz.prog w =
  .ok (.value (.tuple #[.int .u64 (wd (x + W4 - y) k : Int), .int .u64 (bw x y (k + 1) : Int)])) w := by
 rw [run_sub64' _ _ _ (bw_le _ _ _), wd_sub x y hk hy,
  show bw x y (k + 1) = if wd x k < wd y k + bw x y k then 1 else 0 from brw_succ (by decide) _ _ _]
theorem infoU64 : (Tryz.prog.info? 33).map (fun i => (i.zero, i.size, i.bytes)) = some (some (.int .u64 0), 1, 8) := by kernel_rfl
theorem infoInt : (Tryz.prog.info? 3).map (fun i => (i.zero, i.size, i.bytes)) = some (some (.int .i64 0), 1, 8) := by kernel_rfl
theorem bnx {w w' w'' : World} (h : Below w.heap.size w w') (k : Below w'.heap.size w' w'') : Below w.heap.size w w'' := Below.trans h (k.mono h.size)
theorem bnw {v w : World} {o : Obj} (h : v = w.alloc o) : Below w.heap.size w v := by rw [h]; exact (Below.refl _ _).alloc (Nat.le_refl _) _
theorem bsz {v w : World} {o : Obj} (h : v = w.alloc o) : v.heap.size = w.heap.size + 1 := by rw [h]; simp
end
section
open Go Go.RowKit
def wv (x j : Nat) : Value := .int .u64 (wd x j : Int)
def fw (x k j : Nat) : Value := .int .u64 ((if j < k then wd x j else 0 : Nat) : Int)
theorem fw_in {x k j : Nat} (h : j < k) : fw x k j = .int .u64 (wd x j : Int) := by simp [fw, h]
theorem fw_out {x k j : Nat} (h : ¬ j < k) : fw x k j = .int .u64 0 := by simp [fw, h]
theorem fw_set (x k j : Nat) : (if j = k then .int .u64 (wd x k : Int) else fw x k j) = fw x (k + 1) j := by
 by_cases h : j = k
 ·subst h; rw [if_pos rfl, fw_in (by omega)]
 ·rw [if_neg h]
  by_cases h2 : j < k
  ·rw [fw_in h2, fw_in (by omega)]
  ·rw [fw_out h2, fw_out (by omega)]
abbrev A4 (x : Nat) : Obj := .cells #[.int .u64 (wd x 0 : Int), .int .u64 (wd x 1 : Int), .int .u64 (wd x 2 : Int), .int .u64 (wd x 3 : Int)] 35
abbrev Z4 : Obj := .cells #[.int .u64 0, .int .u64 0, .int .u64 0, .int .u64 0] 35
theorem own_A4 {w : World} {B : Nat} (hB : B ≤ w.heap.size) (x : Nat) : OwnF (w.alloc (A4 x)) B 35 (some ⟨w.heap.size, 0, none⟩) 4 4 (wv x) :=
 OwnF.lit _ hB _ 4 _ (by decide) rfl
theorem own_Z4 {w : World} {B : Nat} (hB : B ≤ w.heap.size) : OwnF (w.alloc Z4) B 35 (some ⟨w.heap.size, 0, none⟩) 4 4 (fun _ => .int .u64 0) :=
 OwnF.lit _ hB _ 4 _ (by decide) rfl
theorem set4 {w : World} {B g : Nat} {e : TypeId} {f : Nat → Value} (h : OwnF w B e (some ⟨g, 0, none⟩) 4 4 f) (v0 v1 v2 v3 : Value) :
  ∃ w', w' = ((((w.setCell ⟨g, 0, none⟩ v0).setCell ⟨g, 1, none⟩ v1).setCell ⟨g, 2, none⟩ v2).setCell ⟨g, 3, none⟩ v3) ∧
  w'.cell? ⟨g, 0, none⟩ = some v0 ∧ w'.cell? ⟨g, 1, none⟩ = some v1 ∧ w'.cell? ⟨g, 2, none⟩ = some v2 ∧ w'.cell? ⟨g, 3, none⟩ = some v3 ∧ Below B w w' := by
 have h1 := h.set_ 0 v0
 have h2 := h1.set_ 1 v1
 have h3 := h2.set_ 2 v2
 have h4 := h3.set_ 3 v3
 have hg := h.ge
 exact ⟨_, rfl, by rw [h4.cell (by decide)]; simp, by rw [h4.cell (by decide)]; simp, by rw [h4.cell (by decide)]; simp, by rw [h4.cell (by decide)]; simp,
  ((((Below.refl _ w).setCell hg _).setCell hg _).setCell hg _).setCell hg _⟩
theorem start4 (x y : Nat) (w : World) : RdF ((((w.alloc (A4 x)).alloc (A4 y)).alloc Z4).alloc Z4) (w.heap.size + 3) (some ⟨w.heap.size, 0, none⟩) 4 4 (wv x) ∧
  RdF ((((w.alloc (A4 x)).alloc (A4 y)).alloc Z4).alloc Z4) (w.heap.size + 3) (some ⟨w.heap.size + 1, 0, none⟩) 4 4 (wv y) ∧
  OwnF ((((w.alloc (A4 x)).alloc (A4 y)).alloc Z4).alloc Z4) w.heap.size 35 (some ⟨w.heap.size + 2, 0, none⟩) 4 4 (fun _ => .int .u64 0) ∧
  OwnF ((((w.alloc (A4 x)).alloc (A4 y)).alloc Z4).alloc Z4) w.heap.size 35 (some ⟨w.heap.size + 3, 0, none⟩) 4 4 (fun _ => .int .u64 0) ∧
  Below w.heap.size w ((((w.alloc (A4 x)).alloc (A4 y)).alloc Z4).alloc Z4) := by
 have s1 : (w.alloc (A4 x)).heap.size = w.heap.size + 1 := by simp
 have s2 : ((w.alloc (A4 x)).alloc (A4 y)).heap.size = w.heap.size + 2 := by simp
 have s3 : (((w.alloc (A4 x)).alloc (A4 y)).alloc Z4).heap.size = w.heap.size + 3 := by simp
 have b1 := (Below.refl (w.heap.size + 1) (w.alloc (A4 x))).alloc (by omega) (A4 y)
 have b2 := (Below.refl (w.heap.size + 2) ((w.alloc (A4 x)).alloc (A4 y))).alloc (by omega) Z4
 have b3 := (Below.refl (w.heap.size + 3) (((w.alloc (A4 x)).alloc (A4 y)).alloc Z4)).alloc (by omega) Z4
 have irx := (((own_A4 (w := w) (Nat.le_refl _) x).rd.mono (B' := w.heap.size + 1) (by omega)).keep ((b1.trans (b2.mono (by omega))).trans (b3.mono (by omega)))).mono (B' := w.heap.size + 3) (by omega)
 have iry := (((own_A4 (w := w.alloc (A4 x)) (B := w.heap.size) (by omega) y).rd.mono (B' := w.heap.size + 2) (by omega)).keep (b2.trans (b3.mono (by omega)))).mono (B' := w.heap.size + 3) (by omega)
 have ioz := (own_Z4 (w := (w.alloc (A4 x)).alloc (A4 y)) (B := w.heap.size) (by omega)).keepAt (by rw [s2]; exact b3)
 have ios := own_Z4 (w := ((w.alloc (A4 x)).alloc (A4 y)).alloc Z4) (B := w.heap.size) (by omega)
 have bb : Below w.heap.size w ((((w.alloc (A4 x)).alloc (A4 y)).alloc Z4).alloc Z4) := ((((Below.refl _ w).alloc (by omega) _).alloc (by omega) _).alloc (by omega) _).alloc (by omega) _
 rw [s1] at iry
 rw [s2] at ioz
 rw [s3] at ios
 exact ⟨irx, iry, ioz, ios, bb⟩
theorem add_any (x y : Nat) (w : World) :
  Calls Tryz.prog 53 #[nv x, nv y] w fun e w' => e = .returned (.tuple #[nv (x + y), .int .u64 (cw x y 4 : Int)]) ∧ Below w.heap.size w w' := by
 obtain ⟨irx, iry, ioz, ios, bb⟩ := start4 x y w
 unfold nv
 go_enter Tryz.func53, Tryz.ntmps53
 go_wp2
 go_loopw [7, 9] (fun c i wr => ∃ k : Nat, k ≤ 4 ∧ i = .int .i64 k ∧ c = .int .u64 (cw x y k : Int) ∧ RdF wr (w.heap.size + 3) (some ⟨w.heap.size, 0, none⟩) 4 4 (wv x) ∧ RdF wr (w.heap.size + 3) (some ⟨w.heap.size + 1, 0, none⟩) 4 4 (wv y) ∧
   OwnF wr w.heap.size 35 (some ⟨w.heap.size + 2, 0, none⟩) 4 4 (fun _ => .int .u64 0) ∧ OwnF wr w.heap.size 35 (some ⟨w.heap.size + 3, 0, none⟩) 4 4 (fw (x + y) k) ∧ Below w.heap.size w wr)
  (fun _ i _ => 4 - (intOf i).toNat)
 case atStart => exact ⟨0, by omega, rfl, by rw [cw_zero]; rfl, irx, iry, ioz, ios.congr (fun j _ => by rw [fw_out (by omega)]), bb⟩
 case round =>
  obtain ⟨k, hk, rfl, rfl, rx, ry, oz, os, hb⟩ := hrel
  clear irx iry ioz ios bb
  by_cases hlt : k < 4
  ·have g1 : (k : Int) < 4 := by omega
   have c1 : wr.cell? ⟨w.heap.size, k, none⟩ = some (.int .u64 (wd x k : Int)) := rx.cell0 hlt
   have c2 : wr.cell? ⟨w.heap.size + 1, k, none⟩ = some (.int .u64 (wd y k : Int)) := ry.cell0 hlt
   have c3 := os.cell hlt
   rw [fw_out (by omega)] at c3
   have f3 := os.free k
   have hadd := add64_wd x y k
   go_wp2
   go_region
   go_wp2
   go_roundw
   case rel =>
    have os' := os.set_ k (.int .u64 (wd (x + y) k : Int))
    have hset : Below (w.heap.size + 3) wr (wr.setCell ⟨w.heap.size + 3, k, none⟩ (.int .u64 (wd (x + y) k : Int))) := (Below.refl (w.heap.size + 3) wr).setCell (Nat.le_refl (w.heap.size + 3)) _
    refine ⟨k + 1, by omega, by go_num, by go_num, (rx.keep hset).drew, (ry.keep hset).drew, (oz.keepAt hset).drew, ?_, (hb.trans (hset.mono (by omega))).drew⟩
    exact (os'.congr fun j _ => fw_set _ _ _).drew
   case measure => simp [intOf]; omega
  ·have hk' : k = 4 := by omega
   subst hk'
   have c0 := os.cell (k := 0) (by decide)
   have c1 := os.cell (k := 1) (by decide)
   have c2 := os.cell (k := 2) (by decide)
   have c3 := os.cell (k := 3) (by decide)
   rw [fw_in (by decide)] at c0 c1 c2 c3
   have d0 := oz.cell (k := 0) (by decide)
   have d1 := oz.cell (k := 1) (by decide)
   have d2 := oz.cell (k := 2) (by decide)
   have d3 := oz.cell (k := 3) (by decide)
   have f0 := oz.free 0
   have f1 := oz.free 1
   have f2 := oz.free 2
   have f3 := oz.free 3
   obtain ⟨wz, ez, r0, r1, r2, r3, rb⟩ := set4 oz (.int .u64 (wd (x + y) 0 : Int)) (.int .u64 (wd (x + y) 1 : Int)) (.int .u64 (wd (x + y) 2 : Int)) (.int .u64 (wd (x + y) 3 : Int))
   have hbb := hb.trans rb
   go_wp2
   rw [← ez]
   clear c0 c1 c2 c3 d0 d1 d2 d3 f0 f1 f2 f3 ez
   refine bodyPost_ret (v := .tuple #[.agg #[.int .u64 (wd (x + y) 0 : Int), .int .u64 (wd (x + y) 1 : Int), .int .u64 (wd (x + y) 2 : Int), .int .u64 (wd (x + y) 3 : Int)], .int .u64 (cw x y 4 : Int)]) (by simp [results, Tryz.results53, go_sem, r0, r1, r2, r3]) rfl ⟨rfl, hb.trans rb⟩
theorem sub_any (x y : Nat) (hy : y < W4) (w : World) :
  Calls Tryz.prog 62 #[nv x, nv y] w fun e w' => e = .returned (.tuple #[nv (x + W4 - y), .int .u64 (bw x y 4 : Int)]) ∧ Below w.heap.size w w' := by
 obtain ⟨irx, iry, ioz, ios, bb⟩ := start4 x y w
 unfold nv
 go_enter Tryz.func62, Tryz.ntmps62
 go_wp2
 go_loopw [7, 9] (fun c i wr => ∃ k : Nat, k ≤ 4 ∧ i = .int .i64 k ∧ c = .int .u64 (bw x y k : Int) ∧ RdF wr (w.heap.size + 3) (some ⟨w.heap.size, 0, none⟩) 4 4 (wv x) ∧ RdF wr (w.heap.size + 3) (some ⟨w.heap.size + 1, 0, none⟩) 4 4 (wv y) ∧
   OwnF wr w.heap.size 35 (some ⟨w.heap.size + 2, 0, none⟩) 4 4 (fun _ => .int .u64 0) ∧ OwnF wr w.heap.size 35 (some ⟨w.heap.size + 3, 0, none⟩) 4 4 (fw (x + W4 - y) k) ∧ Below w.heap.size w wr)
  (fun _ i _ => 4 - (intOf i).toNat)
 case atStart => exact ⟨0, by omega, rfl, by rw [bw_zero]; rfl, irx, iry, ioz, ios.congr (fun j _ => by rw [fw_out (by omega)]), bb⟩
 case round =>
  obtain ⟨k, hk, rfl, rfl, rx, ry, oz, os, hb⟩ := hrel
  clear irx iry ioz ios bb
  by_cases hlt : k < 4
  ·have g1 : (k : Int) < 4 := by omega
   have c1 : wr.cell? ⟨w.heap.size, k, none⟩ = some (.int .u64 (wd x k : Int)) := rx.cell0 hlt
   have c2 : wr.cell? ⟨w.heap.size + 1, k, none⟩ = some (.int .u64 (wd y k : Int)) := ry.cell0 hlt
   have c3 := os.cell hlt
   rw [fw_out (by omega)] at c3
   have f3 := os.free k
   have hadd := sub64_wd x y hlt hy
   go_wp2
   go_region
   go_wp2
   go_roundw
   case rel =>
    have os' := os.set_ k (.int .u64 (wd (x + W4 - y) k : Int))
    have hset : Below (w.heap.size + 3) wr (wr.setCell ⟨w.heap.size + 3, k, none⟩ (.int .u64 (wd (x + W4 - y) k : Int))) := (Below.refl (w.heap.size + 3) wr).setCell (Nat.le_refl (w.heap.size + 3)) _
    refine ⟨k + 1, by omega, by go_num, by go_num, (rx.keep hset).drew, (ry.keep hset).drew, (oz.keepAt hset).drew, ?_, (hb.trans (hset.mono (by omega))).drew⟩
    exact (os'.congr fun j _ => fw_set _ _ _).drew
   case measure => simp [intOf]; omega
  ·have hk' : k = 4 := by omega
   subst hk'
   have c0 := os.cell (k := 0) (by decide)
   have c1 := os.cell (k := 1) (by decide)
   have c2 := os.cell (k := 2) (by decide)
   have c3 := os.cell (k := 3) (by decide)
   rw [fw_in (by decide)] at c0 c1 c2 c3
   have d0 := oz.cell (k := 0) (by decide)
   have d1 := oz.cell (k := 1) (by decide)
   have d2 := oz.cell (k := 2) (by decide)
   have d3 := oz.cell (k := 3) (by decide)
   have f0 := oz.free 0
   have f1 := oz.free 1
   have f2 := oz.free 2
   have f3 := oz.free 3
   obtain ⟨wz, ez, r0, r1, r2, r3, rb⟩ := set4 oz (.int .u64 (wd (x + W4 - y) 0 : Int)) (.int .u64 (wd (x + W4 - y) 1 : Int)) (.int .u64 (wd (x + W4 - y) 2 : Int)) (.int .u64 (wd (x + W4 - y) 3 : Int))
   have hbb := hb.trans rb
   go_wp2
   rw [← ez]
   clear c0 c1 c2 c3 d0 d1 d2 d3 f0 f1 f2 f3 ez
   refine bodyPost_ret (v := .tuple #[.agg #[.int .u64 (wd (x + W4 - y) 0 : Int), .int .u64 (wd (x + W4 - y) 1 : Int), .int .u64 (wd (x + W4 - y) 2 : Int), .int .u64 (wd (x + W4 - y) 3 : Int)], .int .u64 (bw x y 4 : Int)]) (by simp [results, Tryz.results62, go_sem, r0, r1, r2, r3]) rfl ⟨rfl, hb.trans rb⟩
end
end Go.Proofs.YtkbkalhcdbklkaaGreatDoor
namespace Go.Proofs.YtkbkalhcdbklkaaGreatDoor
section
open Go Go.RowKit
def adl (x y : Nat) : Nat := (x + y) % 18446744073709551616
def adc (x y : Nat) : Nat := (x + y) / 18446744073709551616
def mhi (x y : Nat) : Nat := x * y / 18446744073709551616
def mlo (x y : Nat) : Nat := x * y % 18446744073709551616
theorem mul64_hl (x y : Nat) (hx : x < 18446744073709551616) (hy : y < 18446744073709551616) (w : World) :
  Calls Tryz.prog 128 #[.int .u64 x, .int .u64 y] w fun e w' => e = .returned (.tuple #[.int .u64 (mhi x y : Int), .int .u64 (mlo x y : Int)]) ∧ w' = w := mul64_any x y hx hy w
theorem add64_lc (x y : Nat) (w : World) : (callFunc 95 #[.int .u64 (x : Int), .int .u64 (y : Int), .int .u64 0]).run Tryz.prog w =
  .ok (.value (.tuple #[.int .u64 (adl x y : Int), .int .u64 (adc x y : Int)])) w := run_add64' x y 0 (by omega) w
def mah (a b c d : Nat) : Nat := (a * b + c + d) / 18446744073709551616
def mal (a b c d : Nat) : Nat := (a * b + c + d) % 18446744073709551616
theorem mah_lt {a b c d : Nat} (ha : a < 18446744073709551616) (hb : b < 18446744073709551616) (hc : c < 18446744073709551616) (hd : d < 18446744073709551616) : mah a b c d < 18446744073709551616 := by
 have : a * b ≤ 18446744073709551615 * 18446744073709551615 := Nat.mul_le_mul (by omega) (by omega)
 unfold mah
 generalize a * b = p at *
 omega
theorem madd_any (a b c d : Nat) (ha : a < 18446744073709551616) (hb : b < 18446744073709551616) (hc : c < 18446744073709551616) (hd : d < 18446744073709551616) (w : World) :
  Calls Tryz.prog 97 #[.int .u64 (a : Int), .int .u64 (b : Int), .int .u64 (c : Int), .int .u64 (d : Int)] w fun e w' => e = .returned (.tuple #[.int .u64 (mah a b c d : Int), .int .u64 (mal a b c d : Int)]) ∧ w' = w := by
 have hab : a * b ≤ 18446744073709551615 * 18446744073709551615 := Nat.mul_le_mul (by omega) (by omega)
 go_enter Tryz.func97, Tryz.ntmps97
 go_wp2_with (first | (go_at_call 128; refine (mul64_hl a b ha hb _).mono ?_; rintro e w' ⟨rfl, rfl⟩) | simp only [add64_lc])
 go_ret2
 refine ⟨?_, rfl⟩
 have e1 : adl (adl (mlo a b) c) d = mal a b c d := by unfold adl mlo mal; generalize a * b = p at *; omega
 have e2 : mhi a b + adc (mlo a b) c + adc (adl (mlo a b) c) d = mah a b c d := by unfold adl adc mlo mhi mah; generalize a * b = p at *; omega
 have e3 := mah_lt ha hb hc hd
 rw [e1, ← e2]
 rw [← e2] at e3
 have e4 : IntKind.u64.wrap (IntKind.u64.wrap ((mhi a b : Int) + (adc (mlo a b) c : Int)) + (adc (adl (mlo a b) c) d : Int)) = ((mhi a b + adc (mlo a b) c + adc (adl (mlo a b) c) d : Nat) : Int) := by
  rw [IntKind.wrap_u64, IntKind.wrap_u64]; omega
 rw [e4]
 rfl
def mt (x y i : Nat) : Nat := mT 18446744073709551616 x y i
def ms (x y i k : Nat) : Nat := mS 18446744073709551616 x y i k
def mo (x y i k : Nat) : Nat := mO 18446744073709551616 x y i k
def mc (x y i k j : Nat) : Value := .int .u64 ((if j < i + k then wd (ms x y i k) j else wd (mt x y i) j : Nat) : Int)
theorem mc_start (x y i j : Nat) : mc x y i 0 j = wv (mt x y i) j := by
 unfold mc wv
 by_cases h : j < i + 0
 ·rw [if_pos h]
  unfold ms wd; rw [mS_zero, dgt_mod (n := i) _ h]; rfl
 ·rw [if_neg h]
theorem mc_at (x y i k : Nat) : mc x y i k (i + k) = .int .u64 (wd (mt x y i) (i + k) : Int) := by
 unfold mc; rw [if_neg (by omega)]
theorem mo_lt (x y i k : Nat) : mo x y i k < 18446744073709551616 := mO_lt (by decide)
theorem mo_succ (x y i k : Nat) : mo x y i (k + 1) = mah (wd x i) (wd y k) (wd (mt x y i) (i + k)) (mo x y i k) := mO_succ (by decide)
theorem mc_set (x y i k j : Nat) : (if j = i + k then .int .u64 (mal (wd x i) (wd y k) (wd (mt x y i) (i + k)) (mo x y i k) : Int) else mc x y i k j) = mc x y i (k + 1) j := by
 by_cases h : j = i + k
 ·subst h
  rw [if_pos rfl]
  unfold mc
  rw [if_pos (by omega), show mal (wd x i) (wd y k) (wd (mt x y i) (i + k)) (mo x y i k) = wd (ms x y i (k + 1)) (i + k) from (mS_new (b := 18446744073709551616) (by decide)).symm]
 ·rw [if_neg h]
  unfold mc
  by_cases h2 : j < i + k
  ·rw [if_pos h2, if_pos (by omega), show wd (ms x y i (k + 1)) j = wd (ms x y i k) j from mS_old h2]
  ·rw [if_neg h2, if_neg (by omega)]
theorem mc_end {x y i j : Nat} (hy : y < W4) : (if j = i + 4 then .int .u64 (mo x y i 4 : Int) else mc x y i 4 j) = wv (mt x y (i + 1)) j := by
 have hS : ms x y i 4 = mt x y (i + 1) := mS_full (by decide) hy
 have hl : mt x y i < 18446744073709551616 ^ (i + 4) := mT_lt (by decide) hy
 have hl' : mt x y (i + 1) < 18446744073709551616 ^ (i + 1 + 4) := mT_lt (by decide) hy
 by_cases h : j = i + 4
 ·subst h
  rw [if_pos rfl]
  unfold wv wd dgt
  rw [show mo x y i 4 = ms x y i 4 / 18446744073709551616 ^ (i + 4) from rfl, hS, Nat.mod_eq_of_lt]
  refine Nat.div_lt_of_lt_mul ?_
  rw [← Nat.pow_succ]
  exact Nat.lt_of_lt_of_le hl' (Nat.le_of_eq (by congr 1))
 ·rw [if_neg h]
  unfold mc wv
  by_cases h2 : j < i + 4
  ·rw [if_pos h2, hS]
  ·rw [if_neg h2]
   unfold wd
   rw [dgt_zero_of_lt (Nat.lt_of_lt_of_le hl (Nat.pow_le_pow_right (by decide) (by omega))), dgt_zero_of_lt (Nat.lt_of_lt_of_le hl' (Nat.pow_le_pow_right (by decide) (by omega)))]
theorem mt_zero (x y : Nat) : mt x y 0 = 0 := mT_zero _ _ _
theorem mt_four {x : Nat} (y : Nat) (hx : x < W4) : mt x y 4 = x * y := mT_full hx
abbrev Z8 : Obj := .cells #[.int .u64 0, .int .u64 0, .int .u64 0, .int .u64 0, .int .u64 0, .int .u64 0, .int .u64 0, .int .u64 0] 86
theorem own_Z8 {w : World} {B : Nat} (hB : B ≤ w.heap.size) : OwnF (w.alloc Z8) B 86 (some ⟨w.heap.size, 0, none⟩) 8 8 (fun _ => .int .u64 0) :=
 OwnF.lit _ hB _ 8 _ (by decide) rfl
theorem start8 (x y : Nat) (w : World) : RdF ((((w.alloc (A4 x)).alloc (A4 y)).alloc Z8).alloc Z8) (w.heap.size + 3) (some ⟨w.heap.size, 0, none⟩) 4 4 (wv x) ∧
  RdF ((((w.alloc (A4 x)).alloc (A4 y)).alloc Z8).alloc Z8) (w.heap.size + 3) (some ⟨w.heap.size + 1, 0, none⟩) 4 4 (wv y) ∧
  OwnF ((((w.alloc (A4 x)).alloc (A4 y)).alloc Z8).alloc Z8) w.heap.size 86 (some ⟨w.heap.size + 2, 0, none⟩) 8 8 (fun _ => .int .u64 0) ∧
  OwnF ((((w.alloc (A4 x)).alloc (A4 y)).alloc Z8).alloc Z8) w.heap.size 86 (some ⟨w.heap.size + 3, 0, none⟩) 8 8 (fun _ => .int .u64 0) ∧
  Below w.heap.size w ((((w.alloc (A4 x)).alloc (A4 y)).alloc Z8).alloc Z8) := by
 have s1 : (w.alloc (A4 x)).heap.size = w.heap.size + 1 := by simp
 have s2 : ((w.alloc (A4 x)).alloc (A4 y)).heap.size = w.heap.size + 2 := by simp
 have s3 : (((w.alloc (A4 x)).alloc (A4 y)).alloc Z8).heap.size = w.heap.size + 3 := by simp
 have b1 := (Below.refl (w.heap.size + 1) (w.alloc (A4 x))).alloc (by omega) (A4 y)
 have b2 := (Below.refl (w.heap.size + 2) ((w.alloc (A4 x)).alloc (A4 y))).alloc (by omega) Z8
 have b3 := (Below.refl (w.heap.size + 3) (((w.alloc (A4 x)).alloc (A4 y)).alloc Z8)).alloc (by omega) Z8
 have irx := (((own_A4 (w := w) (Nat.le_refl _) x).rd.mono (B' := w.heap.size + 1) (by omega)).keep ((b1.trans (b2.mono (by omega))).trans (b3.mono (by omega)))).mono (B' := w.heap.size + 3) (by omega)
 have iry := (((own_A4 (w := w.alloc (A4 x)) (B := w.heap.size) (by omega) y).rd.mono (B' := w.heap.size + 2) (by omega)).keep (b2.trans (b3.mono (by omega)))).mono (B' := w.heap.size + 3) (by omega)
 have ioz := (own_Z8 (w := (w.alloc (A4 x)).alloc (A4 y)) (B := w.heap.size) (by omega)).keepAt (by rw [s2]; exact b3)
 have ios := own_Z8 (w := ((w.alloc (A4 x)).alloc (A4 y)).alloc Z8) (B := w.heap.size) (by omega)
 have bb : Below w.heap.size w ((((w.alloc (A4 x)).alloc (A4 y)).alloc Z8).alloc Z8) := ((((Below.refl _ w).alloc (by omega) _).alloc (by omega) _).alloc (by omega) _).alloc (by omega) _
 rw [s1] at iry
 rw [s2] at ioz
 rw [s3] at ios
 exact ⟨irx, iry, ioz, ios, bb⟩
theorem set8 {w : World} {B g : Nat} {e : TypeId} {f : Nat → Value} (h : OwnF w B e (some ⟨g, 0, none⟩) 8 8 f) (v0 v1 v2 v3 v4 v5 v6 v7 : Value) :
  ∃ w', w' = ((((((((w.setCell ⟨g, 0, none⟩ v0).setCell ⟨g, 1, none⟩ v1).setCell ⟨g, 2, none⟩ v2).setCell ⟨g, 3, none⟩ v3).setCell ⟨g, 4, none⟩ v4).setCell ⟨g, 5, none⟩ v5).setCell ⟨g, 6, none⟩ v6).setCell ⟨g, 7, none⟩ v7) ∧
  w'.cell? ⟨g, 0, none⟩ = some v0 ∧ w'.cell? ⟨g, 1, none⟩ = some v1 ∧ w'.cell? ⟨g, 2, none⟩ = some v2 ∧ w'.cell? ⟨g, 3, none⟩ = some v3 ∧
  w'.cell? ⟨g, 4, none⟩ = some v4 ∧ w'.cell? ⟨g, 5, none⟩ = some v5 ∧ w'.cell? ⟨g, 6, none⟩ = some v6 ∧ w'.cell? ⟨g, 7, none⟩ = some v7 ∧ Below B w w' := by
 have h8 := (((((((h.set_ 0 v0).set_ 1 v1).set_ 2 v2).set_ 3 v3).set_ 4 v4).set_ 5 v5).set_ 6 v6).set_ 7 v7
 have hg := h.ge
 exact ⟨_, rfl, by rw [h8.cell (by decide)]; simp, by rw [h8.cell (by decide)]; simp, by rw [h8.cell (by decide)]; simp, by rw [h8.cell (by decide)]; simp,
  by rw [h8.cell (by decide)]; simp, by rw [h8.cell (by decide)]; simp, by rw [h8.cell (by decide)]; simp, by rw [h8.cell (by decide)]; simp,
  ((((((((Below.refl _ w).setCell hg _).setCell hg _).setCell hg _).setCell hg _).setCell hg _).setCell hg _).setCell hg _).setCell hg _⟩
end
end Go.Proofs.YtkbkalhcdbklkaaGreatDoor
namespace Go.Proofs.YtkbkalhcdbklkaaGreatDoor
section
open Go Go.RowKit
set_option maxHeartbeats 400000 in
set_option maxRecDepth 20000 in
theorem mul_any (x y : Nat) (hx : x < W4) (hy : y < W4) (w : World) :
  Calls Tryz.prog 55 #[nv x, nv y] w fun e w' => e = .returned (dv (x * y)) ∧ Below w.heap.size w w' := by
 obtain ⟨irx, iry, ioz, ios, bb⟩ := start8 x y w
 unfold nv dv
 go_enter Tryz.func55, Tryz.ntmps55
 go_wp2
 go_loopw [9] (fun i wr => ∃ k : Nat, k ≤ 4 ∧ i = .int .i64 k ∧ RdF wr (w.heap.size + 3) (some ⟨w.heap.size, 0, none⟩) 4 4 (wv x) ∧ RdF wr (w.heap.size + 3) (some ⟨w.heap.size + 1, 0, none⟩) 4 4 (wv y) ∧
   OwnF wr w.heap.size 86 (some ⟨w.heap.size + 2, 0, none⟩) 8 8 (fun _ => .int .u64 0) ∧ OwnF wr w.heap.size 86 (some ⟨w.heap.size + 3, 0, none⟩) 8 8 (wv (mt x y k)) ∧ Below w.heap.size w wr)
  (fun i _ => 4 - (intOf i).toNat)
 case atStart => exact ⟨0, by omega, rfl, irx, iry, ioz, ios.congr (fun j _ => by rw [mt_zero]; unfold wv wd dgt; simp), bb⟩
 case round =>
  obtain ⟨i, hi, rfl, rx, ry, oz, os, hb⟩ := hrel
  clear irx iry ioz ios bb
  by_cases hlt : i < 4
  ·have g1 : (i : Int) < 4 := by omega
   go_wp2
   obtain ⟨w0, e0⟩ : ∃ w0 : World, w0 = wr := ⟨_, rfl⟩
   subst e0
   go_loopw [7, 12] (fun c kk wr => ∃ k : Nat, k ≤ 4 ∧ kk = .int .i64 k ∧ c = .int .u64 (mo x y i k : Int) ∧ RdF wr (w.heap.size + 3) (some ⟨w.heap.size, 0, none⟩) 4 4 (wv x) ∧ RdF wr (w.heap.size + 3) (some ⟨w.heap.size + 1, 0, none⟩) 4 4 (wv y) ∧
     OwnF wr w.heap.size 86 (some ⟨w.heap.size + 2, 0, none⟩) 8 8 (fun _ => .int .u64 0) ∧ OwnF wr w.heap.size 86 (some ⟨w.heap.size + 3, 0, none⟩) 8 8 (mc x y i k) ∧ Below w.heap.size w wr)
    (fun _ kk _ => 4 - (intOf kk).toNat)
   case atStart => exact ⟨0, by omega, rfl, by rw [show mo x y i 0 = 0 from mO_zero (by decide)]; rfl, rx, ry, oz, os.congr (fun j _ => (mc_start _ _ _ _).symm), hb⟩
   case round =>
    clear rx ry oz os hb
    obtain ⟨k, hk, rfl, rfl, rx, ry, oz, os, hb⟩ := hrel
    by_cases hlt2 : k < 4
    ·have g2 : (k : Int) < 4 := by omega
     have c1 : wr.cell? ⟨w.heap.size, i, none⟩ = some (.int .u64 (wd x i : Int)) := rx.cell0 hlt
     have c2 : wr.cell? ⟨w.heap.size + 1, k, none⟩ = some (.int .u64 (wd y k : Int)) := ry.cell0 hlt2
     have c3 := os.cell (k := i + k) (by omega)
     rw [mc_at] at c3
     have f3 := os.free (i + k)
     have hw : IntKind.i64.wrap ((i : Int) + (k : Int)) = (i : Int) + (k : Int) := by rw [IntKind.wrap_i64]; omega
     have h8 : (i : Int) + (k : Int) < 8 := by omega
     have h0 : 0 ≤ (i : Int) + (k : Int) := by omega
     have tn : ((i : Int) + (k : Int)).toNat = i + k := by omega
     go_wp2
     refine wp_region_still_tail 21 (by kernel_rfl) (by kernel_rfl) ?_
     simp only [List.take_succ_cons, List.take_zero, List.drop_succ_cons, List.drop_zero]
     repeat (first | still_step | still_call (madd_any _ _ _ _ (wd_lt _ _) (wd_lt _ _) (wd_lt _ _) (mo_lt _ _ _ _) _))
     refine wpStill_nil ?_
     change wpList _ _ _ _ _ wr.drew
     go_wp2
     have hset : Below (w.heap.size + 3) wr (wr.setCell ⟨w.heap.size + 3, i + k, none⟩ (.int .u64 (mal (wd x i) (wd y k) (wd (mt x y i) (i + k)) (mo x y i k) : Int))) := (Below.refl (w.heap.size + 3) wr).setCell (Nat.le_refl (w.heap.size + 3)) _
     have os' := os.set_ (i + k) (.int .u64 (mal (wd x i) (wd y k) (wd (mt x y i) (i + k)) (mo x y i k) : Int))
     refine ⟨⟨k + 1, by omega, by go_num, by rw [mo_succ], (rx.keep hset).drew, (ry.keep hset).drew, (oz.keepAt hset).drew, ?_, (hb.trans (hset.mono (by omega))).drew⟩, by simp [intOf]; omega⟩
     exact (os'.congr fun j _ => mc_set _ _ _ _ _).drew
    ·have hk' : k = 4 := by omega
     subst hk'
     have hw : IntKind.i64.wrap ((i : Int) + 4) = (i : Int) + 4 := by rw [IntKind.wrap_i64]; omega
     have h8 : (i : Int) + 4 < 8 := by omega
     have h0 : 0 ≤ (i : Int) + 4 := by omega
     have tn : ((i : Int) + 4).toNat = i + 4 := by omega
     have c3 := os.cell (k := i + 4) (by omega)
     have f3 := os.free (i + 4)
     go_wp2
     have hset : Below (w.heap.size + 3) wr (wr.setCell ⟨w.heap.size + 3, i + 4, none⟩ (.int .u64 (mo x y i 4 : Int))) := (Below.refl (w.heap.size + 3) wr).setCell (Nat.le_refl (w.heap.size + 3)) _
     have os' := os.set_ (i + 4) (.int .u64 (mo x y i 4 : Int))
     go_roundw
     case rel =>
      refine ⟨i + 1, by omega, by go_num, rx.keep hset, ry.keep hset, oz.keepAt hset, ?_, hb.trans (hset.mono (by omega))⟩
      exact os'.congr fun j _ => mc_end hy
     case measure => simp [intOf]; omega
  ·have hk' : i = 4 := by omega
   subst hk'
   rw [mt_four y hx] at os
   have c0 := os.cell (k := 0) (by decide)
   have c1 := os.cell (k := 1) (by decide)
   have c2 := os.cell (k := 2) (by decide)
   have c3 := os.cell (k := 3) (by decide)
   have c4 := os.cell (k := 4) (by decide)
   have c5 := os.cell (k := 5) (by decide)
   have c6 := os.cell (k := 6) (by decide)
   have c7 := os.cell (k := 7) (by decide)
   unfold wv at c0 c1 c2 c3 c4 c5 c6 c7
   have d0 := oz.cell (k := 0) (by decide)
   have d1 := oz.cell (k := 1) (by decide)
   have d2 := oz.cell (k := 2) (by decide)
   have d3 := oz.cell (k := 3) (by decide)
   have d4 := oz.cell (k := 4) (by decide)
   have d5 := oz.cell (k := 5) (by decide)
   have d6 := oz.cell (k := 6) (by decide)
   have d7 := oz.cell (k := 7) (by decide)
   have f0 := oz.free 0
   have f1 := oz.free 1
   have f2 := oz.free 2
   have f3 := oz.free 3
   have f4 := oz.free 4
   have f5 := oz.free 5
   have f6 := oz.free 6
   have f7 := oz.free 7
   obtain ⟨wz, ez, r0, r1, r2, r3, r4, r5, r6, r7, rb⟩ := set8 oz (.int .u64 (wd (x * y) 0 : Int)) (.int .u64 (wd (x * y) 1 : Int)) (.int .u64 (wd (x * y) 2 : Int)) (.int .u64 (wd (x * y) 3 : Int)) (.int .u64 (wd (x * y) 4 : Int)) (.int .u64 (wd (x * y) 5 : Int)) (.int .u64 (wd (x * y) 6 : Int)) (.int .u64 (wd (x * y) 7 : Int))
   go_wp2
   rw [← ez]
   refine bodyPost_ret (v := .agg #[.int .u64 (wd (x * y) 0 : Int), .int .u64 (wd (x * y) 1 : Int), .int .u64 (wd (x * y) 2 : Int), .int .u64 (wd (x * y) 3 : Int), .int .u64 (wd (x * y) 4 : Int), .int .u64 (wd (x * y) 5 : Int), .int .u64 (wd (x * y) 6 : Int), .int .u64 (wd (x * y) 7 : Int)]) (by simp [results, Tryz.results55, go_sem, r0, r1, r2, r3, r4, r5, r6, r7]) rfl ⟨rfl, hb.trans rb⟩
end
end Go.Proofs.YtkbkalhcdbklkaaGreatDoor
namespace Go.Proofs.YtkbkalhcdbklkaaGreatDoor
section
open Go Go.RowKit
def mask (b : Nat) : Nat := if b = 0 then 0 else 18446744073709551615
theorem mask_eq (b : Nat) (hb : b < 18446744073709551616) : IntKind.u64.wrap (-(bits .or .u64 (b : Int) (IntKind.u64.wrap (-(b : Int))) / 9223372036854775808)) = (mask b : Int) := by
 by_cases h : b = 0
 ·subst h; decide
 ·have e : IntKind.u64.wrap (-(b : Int)) = ((18446744073709551616 - b : Nat) : Int) := by rw [IntKind.wrap_u64]; omega
  rw [e, bits_or_u64_nat _ _ hb (by omega)]
  have h1 : b ≤ b ||| (18446744073709551616 - b) := Nat.left_le_or
  have h2 : 18446744073709551616 - b ≤ b ||| (18446744073709551616 - b) := Nat.right_le_or
  have h3 : b ||| (18446744073709551616 - b) < 2 ^ 64 := Nat.or_lt_two_pow (by omega) (by omega)
  generalize b ||| (18446744073709551616 - b) = z at *
  have hz : (z : Int) / 9223372036854775808 = 1 := by omega
  rw [hz]
  unfold mask
  rw [if_neg h]
  decide
theorem sel_eq (b a c : Nat) (ha : a < 18446744073709551616) (hc : c < 18446744073709551616) :
  bits .xor .u64 (a : Int) (bits .and .u64 (mask b : Int) (bits .xor .u64 (a : Int) (c : Int))) = ((if b = 0 then a else c : Nat) : Int) := by
 have hx : a ^^^ c < 2 ^ 64 := Nat.xor_lt_two_pow (by omega) (by omega)
 rw [bits_xor_u64_nat _ _ ha hc]
 unfold mask
 by_cases h : b = 0
 ·rw [if_pos h, if_pos h, bits_and_u64_nat _ _ (by omega) (by omega), Nat.zero_and, bits_xor_u64_nat _ _ ha (by omega), Nat.xor_zero]
 ·rw [if_neg h, if_neg h, bits_and_u64_nat _ _ (by omega) (by omega), Nat.and_comm, show (18446744073709551615 : Nat) = 2 ^ 64 - 1 from rfl, Nat.and_two_pow_sub_one_eq_mod, Nat.mod_eq_of_lt hx,
   bits_xor_u64_nat _ _ ha (by omega), ← Nat.xor_assoc, Nat.xor_self, Nat.zero_xor]
theorem sel_wd (b x y k : Nat) : bits .xor .u64 (wd x k : Int) (bits .and .u64 (mask b : Int) (bits .xor .u64 (wd x k : Int) (wd y k : Int))) = (wd (if b = 0 then x else y) k : Int) := by
 rw [sel_eq _ _ _ (wd_lt _ _) (wd_lt _ _)]
 split <;> rfl
theorem pick_any (b x y : Nat) (hb : b < 18446744073709551616) (w : World) :
  Calls Tryz.prog 132 #[.int .u64 (b : Int), nv x, nv y] w fun e w' => e = .returned (nv (if b = 0 then x else y)) ∧ Below w.heap.size w w' := by
 obtain ⟨irx, iry, ioz, ios, bb⟩ := start4 x y w
 have hm := mask_eq b hb
 obtain ⟨p, hp⟩ : ∃ p, p = if b = 0 then x else y := ⟨_, rfl⟩
 have hs : ∀ k, bits .xor .u64 (wd x k : Int) (bits .and .u64 (mask b : Int) (bits .xor .u64 (wd x k : Int) (wd y k : Int))) = (wd p k : Int) := fun k => by rw [hp]; exact sel_wd b x y k
 rw [← hp]
 clear hp
 unfold nv
 go_enter Tryz.func132, Tryz.ntmps132
 go_wp2
 go_loopw [16] (fun i wr => ∃ k : Nat, k ≤ 4 ∧ i = .int .i64 k ∧ RdF wr (w.heap.size + 3) (some ⟨w.heap.size, 0, none⟩) 4 4 (wv x) ∧ RdF wr (w.heap.size + 3) (some ⟨w.heap.size + 1, 0, none⟩) 4 4 (wv y) ∧
   OwnF wr w.heap.size 35 (some ⟨w.heap.size + 2, 0, none⟩) 4 4 (fun _ => .int .u64 0) ∧ OwnF wr w.heap.size 35 (some ⟨w.heap.size + 3, 0, none⟩) 4 4 (fw p k) ∧ Below w.heap.size w wr)
  (fun i _ => 4 - (intOf i).toNat)
 case atStart => exact ⟨0, by omega, rfl, irx, iry, ioz, ios.congr (fun j _ => by rw [fw_out (by omega)]), bb⟩
 case round =>
  obtain ⟨k, hk, rfl, rx, ry, oz, os, hb⟩ := hrel
  clear irx iry ioz ios bb
  by_cases hlt : k < 4
  ·have g1 : (k : Int) < 4 := by omega
   have c1 : wr.cell? ⟨w.heap.size, k, none⟩ = some (.int .u64 (wd x k : Int)) := rx.cell0 hlt
   have c2 : wr.cell? ⟨w.heap.size + 1, k, none⟩ = some (.int .u64 (wd y k : Int)) := ry.cell0 hlt
   have c3 := os.cell hlt
   rw [fw_out (by omega)] at c3
   have f3 := os.free k
   go_wp2
   go_region
   go_wp2
   go_roundw
   case rel =>
    have os' := os.set_ k (.int .u64 (wd p k : Int))
    have hset : Below (w.heap.size + 3) wr (wr.setCell ⟨w.heap.size + 3, k, none⟩ (.int .u64 (wd p k : Int))) := (Below.refl (w.heap.size + 3) wr).setCell (Nat.le_refl (w.heap.size + 3)) _
    refine ⟨k + 1, by omega, by go_num, (rx.keep hset).drew, (ry.keep hset).drew, (oz.keepAt hset).drew, ?_, (hb.trans (hset.mono (by omega))).drew⟩
    exact (os'.congr fun j _ => fw_set _ _ _).drew
   case measure => simp [intOf]; omega
  ·have hk' : k = 4 := by omega
   subst hk'
   replace os := os.congr (g := wv p) fun j hj => by rw [fw_in hj]; rfl
   have c0 := (os).cell (k := 0) (by decide)
   have c1 := (os).cell (k := 1) (by decide)
   have c2 := (os).cell (k := 2) (by decide)
   have c3 := (os).cell (k := 3) (by decide)
   have d0 := (oz).cell (k := 0) (by decide)
   have d1 := (oz).cell (k := 1) (by decide)
   have d2 := (oz).cell (k := 2) (by decide)
   have d3 := (oz).cell (k := 3) (by decide)
   have f0 := (oz).free 0
   have f1 := (oz).free 1
   have f2 := (oz).free 2
   have f3 := (oz).free 3
   unfold wv at c0 c1 c2 c3
   obtain ⟨wz, ez, r0, r1, r2, r3, rb⟩ := set4 oz (.int .u64 (wd p 0 : Int)) (.int .u64 (wd p 1 : Int)) (.int .u64 (wd p 2 : Int)) (.int .u64 (wd p 3 : Int))
   go_wp2
   rw [← ez]
   refine bodyPost_ret (v := .agg #[.int .u64 (wd p 0 : Int), .int .u64 (wd p 1 : Int), .int .u64 (wd p 2 : Int), .int .u64 (wd p 3 : Int)]) (by simp [results, Tryz.results132, go_sem, r0, r1, r2, r3]) rfl ⟨rfl, hb.trans rb⟩
end
end Go.Proofs.YtkbkalhcdbklkaaGreatDoor
namespace Go.Proofs.YtkbkalhcdbklkaaGreatDoor
section
open Go Go.RowKit
theorem part_u64 (xs : Array Value) (i : Nat) (v : Value) (h : xs[i]? = some v) (w : World) : (part 33 xs (i * Tryz.prog.cellsOf 33)).run Tryz.prog w = .ok v w := by
 have e : Tryz.prog.cellsOf 33 = 1 := by kernel_rfl
 rw [e, Nat.mul_one]
 simp [part, go_sem, h]
theorem items_u64 (xs ys : Array Value) (a b : Nat → Int) (w : World) : ∀ is : List Nat, (∀ i ∈ is, xs[i]? = some (.int .u64 (a i)) ∧ ys[i]? = some (.int .u64 (b i))) →
  (Op.eqItems 9999 33 (Tryz.prog.cellsOf 33) xs ys is).run Tryz.prog w = .ok (is.all fun i => a i == b i) w
 | [], _ => rfl
 | i :: is, h => by
  have h0 := h i (by simp)
  have ih := items_u64 xs ys a b w is (fun j hj => h j (by simp [hj]))
  simp only [Op.eqItems, Sem.run_bind, part_u64 _ _ _ h0.1, part_u64 _ _ _ h0.2, Result.andThen_ok, run_equalIn_int w 9998 33 .u64 .u64 (a i) (b i) Tryz.underlying33, List.all_cons]
  cases he : (a i == b i)
  ·simp
  ·simpa using ih
theorem eqw (x y n : Nat) (hx : x < 18446744073709551616 ^ n) (hy : y < 18446744073709551616 ^ n) : ((List.range n).all fun i => ((wd x i : Nat) : Int) == ((wd y i : Nat) : Int)) = decide (x = y) := by
 by_cases h : x = y
 ·subst h; simp
 ·rw [decide_eq_false h]
  cases hb : (List.range n).all fun i => ((wd x i : Nat) : Int) == ((wd y i : Nat) : Int)
  ·rfl
  ·refine absurd (dgt_ext hx hy fun i hi => ?_) h
   have := List.all_eq_true.1 hb i (by simpa using hi)
   have : ((wd x i : Nat) : Int) = ((wd y i : Nat) : Int) := by simpa using this
   exact Int.ofNat.inj this
theorem eq4 (x y : Nat) (hx : x < W4) (hy : y < W4) (w : World) : (Op.equalIn 10000 35 (nv x) (nv y)).run Tryz.prog w = .ok (decide (x = y)) w := by
 obtain ⟨i0, hi⟩ : ∃ i, Tryz.prog.info? 33 = some i := by
  have := infoU64
  cases h : Tryz.prog.info? 33 with
  | none => rw [h] at this; simp at this
  | some i => exact ⟨i, rfl⟩
 rw [run_equalIn_array (P := Tryz.prog) (w := w) 9999 _ _ Tryz.underlying35 hi, items_u64 _ _ (fun i => (wd x i : Int)) (fun i => (wd y i : Int)) w (List.range 4), eqw x y 4 hx hy]
 intro i hi
 have : i = 0 ∨ i = 1 ∨ i = 2 ∨ i = 3 := by have hi' : i < 4 := (by simpa using hi); omega
 rcases this with rfl | rfl | rfl | rfl <;> exact ⟨rfl, rfl⟩
end
end Go.Proofs.YtkbkalhcdbklkaaGreatDoor
namespace Go.Proofs.YtkbkalhcdbklkaaGreatDoor
section
open Go Go.RowKit
end
end Go.Proofs.YtkbkalhcdbklkaaGreatDoor
namespace Go.Proofs.YtkbkalhcdbklkaaGreatDoor
section
open Go Go.RowKit
def bt (x i : Nat) : Nat := x / 2 ^ i % 2
theorem bt_wd (x i : Nat) : wd x (i / 64) / 2 ^ (i % 64) % 2 = bt x i := by
 have h : ∀ y s, s < 64 → (y % 18446744073709551616) / 2 ^ s % 2 = y / 2 ^ s % 2 := fun y s hs => dgt_mod (b := 2) (n := 64) y hs
 unfold wd dgt bt
 rw [h _ _ (by omega), Nat.div_div_eq_div_mul, show (18446744073709551616 : Nat) = 2 ^ 64 from rfl, ← Nat.pow_mul, ← Nat.pow_add, Nat.div_add_mod]
theorem and_one (a s : Nat) (ha : a < 18446744073709551616) : bits .and .u64 ((a : Int) / 2 ^ s) 1 = ((a / 2 ^ s % 2 : Nat) : Int) := by
 have e : (a : Int) / 2 ^ s = ((a / 2 ^ s : Nat) : Int) := by rw [Int.natCast_ediv, Int.natCast_pow]; rfl
 have hl : a / 2 ^ s < 18446744073709551616 := Nat.lt_of_le_of_lt (Nat.div_le_self _ _) ha
 rw [e]
 have := bits_and_u64_nat (a / 2 ^ s) 1 hl (by omega)
 rw [Nat.and_one_is_mod] at this
 exact this
theorem bit_in (x i : Nat) (h : i < 256) (w : World) :
  Calls Tryz.prog 66 #[nv x, .int .i64 i] w fun e w' => e = .returned (.int .u64 (bt x i : Int)) ∧ Below w.heap.size w w' := by
 have hb := (Below.refl _ w).alloc (Nat.le_refl _) (A4 x)
 have h1 := own_A4 (w := w) (B := w.heap.size) (Nat.le_refl _) x
 have c := h1.cell (k := i / 64) (by omega)
 unfold wv at c
 have g1 : ¬ (i : Int) < 0 := by omega
 have g2 : ¬ (256 : Int) ≤ i := by omega
 have g3 : (i : Int).tdiv 64 = ((i / 64 : Nat) : Int) := by rw [Int.tdiv_eq_ediv_of_nonneg (by omega)]; rfl
 have g4 : (i : Int).tmod 64 = ((i % 64 : Nat) : Int) := by rw [Int.tmod_eq_emod_of_nonneg (by omega)]; rfl
 unfold nv
 go_enter Tryz.func66, Tryz.ntmps66
 go_wp2
 go_ret
 refine ⟨?_, hb⟩
 rw [and_one _ _ (wd_lt _ _), bt_wd]
 rfl
end
end Go.Proofs.YtkbkalhcdbklkaaGreatDoor
namespace Go.Proofs.YtkbkalhcdbklkaaGreatDoor
section
open Go Go.RowKit
def vk (bs : List UInt8) : Nat → Nat
 | 0 => 0
 | k + 1 => vk bs k + nth bs k * 256 ^ k
theorem vk_lt (bs : List UInt8) : ∀ k, vk bs k < 256 ^ k
 | 0 => by simp [vk]
 | k + 1 => by
  have h := vk_lt bs k
  have h2 : nth bs k * 256 ^ k ≤ 255 * 256 ^ k := Nat.mul_le_mul_right _ (by have := nth_lt bs k; omega)
  simp only [vk, Nat.pow_succ]
  omega
theorem pow_split (k : Nat) : 256 ^ k = 18446744073709551616 ^ (k / 8) * 256 ^ (k % 8) := by
 rw [show (18446744073709551616 : Nat) = 256 ^ 8 from rfl, ← Nat.pow_mul, ← Nat.pow_add, Nat.div_add_mod]
theorem vk_word (bs : List UInt8) (k : Nat) : wd (vk bs k) (k / 8) < 256 ^ (k % 8) := by
 have h := vk_lt bs k
 rw [pow_split] at h
 exact Nat.lt_of_le_of_lt (Nat.mod_le _ _) (Nat.div_lt_of_lt_mul h)
theorem pow_r (r : Nat) (h : r < 8) : 256 ^ r * 256 ≤ 18446744073709551616 := by
 rw [← Nat.pow_succ]
 exact Nat.pow_le_pow_right (n := 256) (by decide) (show r + 1 ≤ 8 by omega)
theorem vk_here (bs : List UInt8) (k : Nat) : wd (vk bs (k + 1)) (k / 8) = wd (vk bs k) (k / 8) + nth bs k * 256 ^ (k % 8) := by
 have h := vk_lt bs k
 have hn := nth_lt bs k
 have hr := pow_r (k % 8) (by omega)
 rw [show vk bs (k + 1) = vk bs k + 18446744073709551616 ^ (k / 8) * (nth bs k * 256 ^ (k % 8)) by rw [vk, pow_split, Nat.mul_left_comm]]
 rw [pow_split] at h
 have h1 : vk bs k / 18446744073709551616 ^ (k / 8) < 256 ^ (k % 8) := Nat.div_lt_of_lt_mul h
 have h2 : nth bs k * 256 ^ (k % 8) ≤ 255 * 256 ^ (k % 8) := Nat.mul_le_mul_right _ (by omega)
 unfold wd dgt
 rw [Nat.add_mul_div_left _ _ (Nat.pow_pos (by decide))]
 generalize vk bs k / 18446744073709551616 ^ (k / 8) = X at *
 generalize nth bs k * 256 ^ (k % 8) = Y at *
 generalize 256 ^ (k % 8) = Z at *
 rw [Nat.mod_eq_of_lt (show X + Y < 18446744073709551616 by omega), Nat.mod_eq_of_lt (show X < 18446744073709551616 by omega)]
theorem vk_there (bs : List UInt8) (k j : Nat) (h : j ≠ k / 8) : wd (vk bs (k + 1)) j = wd (vk bs k) j := by
 by_cases h1 : j < k / 8
 ·rw [show vk bs (k + 1) = vk bs k + 18446744073709551616 ^ (k / 8) * (nth bs k * 256 ^ (k % 8)) by rw [vk, pow_split, Nat.mul_left_comm]]
  exact dgt_add_mul _ _ h1
 ·have l : ∀ m, m ≤ k + 1 → vk bs m < 18446744073709551616 ^ j := fun m hm => by
   refine Nat.lt_of_lt_of_le (vk_lt bs m) ?_
   rw [show (18446744073709551616 : Nat) = 256 ^ 8 from rfl, ← Nat.pow_mul]
   exact Nat.pow_le_pow_right (by decide) (by omega)
  unfold wd
  rw [dgt_zero_of_lt (l _ (by omega)), dgt_zero_of_lt (l _ (by omega))]
theorem or_add (a b r : Nat) (ha : a < 256 ^ r) (hb : b < 256) (hr : r < 8) : bits .or .u64 (a : Int) (IntKind.u64.wrap ((b : Int) * 2 ^ (8 * r))) = ((a + b * 256 ^ r : Nat) : Int) := by
 have e : (2 : Nat) ^ (8 * r) = 256 ^ r := by rw [Nat.pow_mul]
 have hp := pow_r r hr
 have h2 : b * 256 ^ r ≤ 255 * 256 ^ r := Nat.mul_le_mul_right _ (by omega)
 have e2 : (b : Int) * 2 ^ (8 * r) = ((b * 256 ^ r : Nat) : Int) := by rw [← e, Int.natCast_mul, Int.natCast_pow]; rfl
 have e3 : a ||| b * 256 ^ r = a + b * 256 ^ r := by
  rw [← e, Nat.or_comm, ← Nat.shiftLeft_eq, ← Nat.shiftLeft_add_eq_or_of_lt (by rw [e]; exact ha), Nat.add_comm]
 rw [e2]
 generalize b * 256 ^ r = y at *
 generalize 256 ^ r = z at *
 have e4 : IntKind.u64.wrap ((y : Nat) : Int) = (y : Int) := by rw [IntKind.wrap_u64]; omega
 rw [e4, bits_or_u64_nat _ _ (by omega) (by omega), e3]
set_option maxRecDepth 20000 in
theorem fill_any (w : World) {B B' g N c : Nat} {e : TypeId} {A : Option Addr} {bs : List UInt8} (hw : OwnF w B e (some ⟨g, 0, none⟩) N N (fun _ => .int .u64 0)) (hr : Rd w B' A c bs) (hB : B' ≤ g) (hl : bs.length ≤ 8 * N) (hN : N ≤ 1000) :
  Calls Tryz.prog 88 #[.slice (some ⟨g, 0, none⟩) N N, .slice A bs.length c] w fun e' w' => e' = .returned (.tuple #[]) ∧ OwnF w' B e (some ⟨g, 0, none⟩) N N (wv (vk bs bs.length)) ∧ Below g w w' := by
 go_enter Tryz.func88, Tryz.ntmps88
 go_wp2
 go_loopw [7] (fun i wr => ∃ k : Nat, k ≤ bs.length ∧ i = .int .i64 k ∧ OwnF wr B e (some ⟨g, 0, none⟩) N N (wv (vk bs k)) ∧ Below g w wr)
  (fun i _ => bs.length - (intOf i).toNat)
 case atStart => exact ⟨0, by omega, rfl, hw.congr (fun j _ => by rw [show vk bs 0 = 0 from rfl]; unfold wv wd dgt; simp), Below.refl _ _⟩
 case round =>
  obtain ⟨k, hk, rfl, os, hb⟩ := hrel
  by_cases hlt : k < bs.length
  ·have g1 : (k : Int) < (bs.length : Int) := by omega
   obtain ⟨b1, o1, rfl, hb1, cc1⟩ := hr.at_ hlt
   have c1 : wr.cell? ⟨b1, o1 + k, none⟩ = some (.int .u8 (nth bs k : Int)) := (hb.cell (p := ⟨b1, o1 + k, none⟩) (Nat.lt_of_lt_of_le hb1 hB)).trans cc1
   have c2 := os.cell (k := k / 8) (by omega)
   unfold wv at c2
   have f2 := os.free (k / 8)
   have g2 : IntKind.i64.wrap ((k : Int) / 8) = (k : Int) / 8 := by rw [IntKind.wrap_i64]; omega
   have g3 : (k : Int).tmod 8 = (k : Int) % 8 := Int.tmod_eq_emod_of_nonneg (by omega)
   have ga : IntKind.u64.wrap (nth bs k : Int) = (nth bs k : Int) := by have := nth_lt bs k; rw [IntKind.wrap_u64]; omega
   have g4 : (k : Int) / 8 < (N : Int) := by omega
   have g5 : IntKind.i64.wrap (8 * ((k : Int) % 8)) = 8 * ((k : Int) % 8) := by rw [IntKind.wrap_i64]; omega
   have g6 : 0 ≤ (k : Int) / 8 := by omega
   have g7 : ((k : Int) / 8).toNat = k / 8 := by omega
   have g8 : 0 ≤ 8 * ((k : Int) % 8) := by omega
   have g9 : (8 * ((k : Int) % 8)).toNat = 8 * (k % 8) := by omega
   have gb : bits .or .u64 (wd (vk bs k) (k / 8) : Int) (IntKind.u64.wrap ((nth bs k : Int) * 2 ^ (8 * (k % 8)))) = (wd (vk bs (k + 1)) (k / 8) : Int) := by
    rw [or_add _ _ _ (vk_word bs k) (nth_lt _ _) (by omega), vk_here]
   clear cc1
   go_wp2
   refine wp_region_still_tail 16 (by kernel_rfl) (by kernel_rfl) ?_
   simp only [List.take_succ_cons, List.take_zero, List.drop_succ_cons, List.drop_zero]
   repeat still_step
   refine wpStill_nil ?_
   change wpList _ _ _ _ _ wr.drew
   go_wp2
   have os' := os.set_ (k / 8) (.int .u64 (wd (vk bs (k + 1)) (k / 8) : Int))
   have hset : Below g wr (wr.setCell ⟨g, k / 8, none⟩ (.int .u64 (wd (vk bs (k + 1)) (k / 8) : Int))) := (Below.refl g wr).setCell (Nat.le_refl g) _
   refine ⟨⟨k + 1, by omega, by go_num, ?_, (hb.trans hset).drew⟩, by simp [intOf]; omega⟩
   refine (os'.congr fun j _ => ?_).drew
   unfold wv
   by_cases h : j = k / 8
   ·rw [if_pos h, h]
   ·rw [if_neg h, vk_there _ _ _ h]
  ·have hk' : k = bs.length := by omega
   subst hk'
   go_wp2
   go_returns
   exact ⟨rfl, os, hb⟩
end
end Go.Proofs.YtkbkalhcdbklkaaGreatDoor
namespace Go.Proofs.YtkbkalhcdbklkaaGreatDoor
section
open Go Go.RowKit
theorem nv_zero : nv 0 = .agg #[.int .u64 0, .int .u64 0, .int .u64 0, .int .u64 0] := by simp [wd, dgt]
theorem own_ZZ4 (w : World) : OwnF ((w.alloc Z4).alloc Z4) w.heap.size 35 (some ⟨w.heap.size, 0, none⟩) 4 4 (fun _ => .int .u64 0) ∧ OwnF ((w.alloc Z4).alloc Z4) w.heap.size 35 (some ⟨w.heap.size + 1, 0, none⟩) 4 4 (fun _ => .int .u64 0) ∧ Below w.heap.size w ((w.alloc Z4).alloc Z4) := by
 have s1 : (w.alloc Z4).heap.size = w.heap.size + 1 := by simp
 have h1 := (own_Z4 (w := w) (B := w.heap.size) (Nat.le_refl _)).keepAt ((Below.refl (w.heap.size + 1) (w.alloc Z4)).alloc (by omega) Z4)
 have h2 := own_Z4 (w := w.alloc Z4) (B := w.heap.size) (by omega)
 rw [s1] at h2
 exact ⟨h1, h2, ((Below.refl _ w).alloc (Nat.le_refl _) _).alloc (by omega) _⟩
theorem own_ZZ8 (w : World) : OwnF ((w.alloc Z8).alloc Z8) w.heap.size 86 (some ⟨w.heap.size, 0, none⟩) 8 8 (fun _ => .int .u64 0) ∧ OwnF ((w.alloc Z8).alloc Z8) w.heap.size 86 (some ⟨w.heap.size + 1, 0, none⟩) 8 8 (fun _ => .int .u64 0) ∧ Below w.heap.size w ((w.alloc Z8).alloc Z8) := by
 have s1 : (w.alloc Z8).heap.size = w.heap.size + 1 := by simp
 have h1 := (own_Z8 (w := w) (B := w.heap.size) (Nat.le_refl _)).keepAt ((Below.refl (w.heap.size + 1) (w.alloc Z8)).alloc (by omega) Z8)
 have h2 := own_Z8 (w := w.alloc Z8) (B := w.heap.size) (by omega)
 rw [s1] at h2
 exact ⟨h1, h2, ((Below.refl _ w).alloc (Nat.le_refl _) _).alloc (by omega) _⟩
def vb (bs : List UInt8) : Nat := vk bs bs.length
theorem from_good (w : World) {B c : Nat} {A : Option Addr} {bs : List UInt8} (hr : Rd w B A c bs) (hB : B ≤ w.heap.size) (hl : bs.length ≤ 32) :
  Calls Tryz.prog 45 #[.slice A bs.length c] w fun e w' => e = .returned (.tuple #[nv (vb bs), .int .i64 0]) ∧ Below w.heap.size w w' := by
 obtain ⟨hz, ho, hb⟩ := own_ZZ4 w
 have g1 : ¬ (32 : Int) < (bs.length : Int) := by omega
 unfold nv
 go_enter Tryz.func45, Tryz.ntmps45
 go_wp2_with fail
 go_at_call 88
 refine (fill_any _ ho (hr.keep (hb.mono hB)) (by omega) (by omega) (by omega)).mono ?_
 rintro e w1 ⟨rfl, os, hb1⟩
 rw [show vk bs bs.length = vb bs from rfl] at os
 have oz := hz.keepAt hb1
 have c0 := (os).cell (k := 0) (by decide)
 have c1 := (os).cell (k := 1) (by decide)
 have c2 := (os).cell (k := 2) (by decide)
 have c3 := (os).cell (k := 3) (by decide)
 have d0 := (oz).cell (k := 0) (by decide)
 have d1 := (oz).cell (k := 1) (by decide)
 have d2 := (oz).cell (k := 2) (by decide)
 have d3 := (oz).cell (k := 3) (by decide)
 have f0 := (oz).free 0
 have f1 := (oz).free 1
 have f2 := (oz).free 2
 have f3 := (oz).free 3
 unfold wv at c0 c1 c2 c3
 obtain ⟨wz, ez, r0, r1, r2, r3, rb⟩ := set4 oz (.int .u64 (wd (vb bs) 0 : Int)) (.int .u64 (wd (vb bs) 1 : Int)) (.int .u64 (wd (vb bs) 2 : Int)) (.int .u64 (wd (vb bs) 3 : Int))
 go_wp2
 rw [← ez]
 refine bodyPost_ret (v := .tuple #[.agg #[.int .u64 (wd (vb bs) 0 : Int), .int .u64 (wd (vb bs) 1 : Int), .int .u64 (wd (vb bs) 2 : Int), .int .u64 (wd (vb bs) 3 : Int)], .int .i64 0]) (by simp [results, Tryz.results45, go_sem, r0, r1, r2, r3]) rfl ⟨rfl, (hb.trans (hb1.mono (by omega))).trans rb⟩
theorem double_good (w : World) {B c : Nat} {A : Option Addr} {bs : List UInt8} (hr : Rd w B A c bs) (hB : B ≤ w.heap.size) (hl : bs.length ≤ 64) :
  Calls Tryz.prog 94 #[.slice A bs.length c] w fun e w' => e = .returned (.tuple #[dv (vb bs), .int .i64 0]) ∧ Below w.heap.size w w' := by
 obtain ⟨hz, ho, hb⟩ := own_ZZ8 w
 have g1 : ¬ (64 : Int) < (bs.length : Int) := by omega
 unfold dv
 go_enter Tryz.func94, Tryz.ntmps94
 go_wp2_with fail
 go_at_call 88
 refine (fill_any _ ho (hr.keep (hb.mono hB)) (by omega) (by omega) (by omega)).mono ?_
 rintro e w1 ⟨rfl, os, hb1⟩
 rw [show vk bs bs.length = vb bs from rfl] at os
 have oz := hz.keepAt hb1
 have c0 := (os).cell (k := 0) (by decide)
 have c1 := (os).cell (k := 1) (by decide)
 have c2 := (os).cell (k := 2) (by decide)
 have c3 := (os).cell (k := 3) (by decide)
 have c4 := (os).cell (k := 4) (by decide)
 have c5 := (os).cell (k := 5) (by decide)
 have c6 := (os).cell (k := 6) (by decide)
 have c7 := (os).cell (k := 7) (by decide)
 have d0 := (oz).cell (k := 0) (by decide)
 have d1 := (oz).cell (k := 1) (by decide)
 have d2 := (oz).cell (k := 2) (by decide)
 have d3 := (oz).cell (k := 3) (by decide)
 have d4 := (oz).cell (k := 4) (by decide)
 have d5 := (oz).cell (k := 5) (by decide)
 have d6 := (oz).cell (k := 6) (by decide)
 have d7 := (oz).cell (k := 7) (by decide)
 have f0 := (oz).free 0
 have f1 := (oz).free 1
 have f2 := (oz).free 2
 have f3 := (oz).free 3
 have f4 := (oz).free 4
 have f5 := (oz).free 5
 have f6 := (oz).free 6
 have f7 := (oz).free 7
 unfold wv at c0 c1 c2 c3 c4 c5 c6 c7
 obtain ⟨wz, ez, r0, r1, r2, r3, r4, r5, r6, r7, rb⟩ := set8 oz (.int .u64 (wd (vb bs) 0 : Int)) (.int .u64 (wd (vb bs) 1 : Int)) (.int .u64 (wd (vb bs) 2 : Int)) (.int .u64 (wd (vb bs) 3 : Int)) (.int .u64 (wd (vb bs) 4 : Int)) (.int .u64 (wd (vb bs) 5 : Int)) (.int .u64 (wd (vb bs) 6 : Int)) (.int .u64 (wd (vb bs) 7 : Int))
 go_wp2
 rw [← ez]
 refine bodyPost_ret (v := .tuple #[.agg #[.int .u64 (wd (vb bs) 0 : Int), .int .u64 (wd (vb bs) 1 : Int), .int .u64 (wd (vb bs) 2 : Int), .int .u64 (wd (vb bs) 3 : Int), .int .u64 (wd (vb bs) 4 : Int), .int .u64 (wd (vb bs) 5 : Int), .int .u64 (wd (vb bs) 6 : Int), .int .u64 (wd (vb bs) 7 : Int)], .int .i64 0]) (by simp [results, Tryz.results94, go_sem, r0, r1, r2, r3, r4, r5, r6, r7]) rfl ⟨rfl, (hb.trans (hb1.mono (by omega))).trans rb⟩
end
end Go.Proofs.YtkbkalhcdbklkaaGreatDoor
namespace Go.Proofs.YtkbkalhcdbklkaaGreatDoor
section
open Go Go.RowKit
theorem infoByte : (Tryz.prog.info? 5).map (fun i => (i.zero, i.size, i.bytes)) = some (some (.int .u8 0), 1, 1) := by kernel_rfl
theorem info_parts {t : TypeId} {z : Option Value} {s b : Nat} (h : (Tryz.prog.info? t).map (fun i => (i.zero, i.size, i.bytes)) = some (z, s, b)) : ∃ i, Tryz.prog.info? t = some i ∧ i.zero = z ∧ i.size = s ∧ i.bytes = b := by
 cases hi : Tryz.prog.info? t with
 | none => rw [hi] at h; simp at h
 | some i => rw [hi] at h; simp at h; exact ⟨i, rfl, h.1, h.2.1, h.2.2⟩
theorem by_wd (x i : Nat) : wd x (i / 8) / 2 ^ (8 * (i % 8)) % 256 = by8 x i := by
 have h : ∀ y s, s < 8 → (y % 18446744073709551616) / 256 ^ s % 256 = y / 256 ^ s % 256 := fun y s hs => dgt_mod (b := 256) (n := 8) y hs
 unfold wd by8 dgt
 rw [Nat.pow_mul, show (2 : Nat) ^ 8 = 256 from rfl, h _ _ (by omega), Nat.div_div_eq_div_mul, show (18446744073709551616 : Nat) = 256 ^ 8 from rfl, ← Nat.pow_mul, ← Nat.pow_add, Nat.div_add_mod]
theorem wrap_by (x i : Nat) : IntKind.u8.wrap ((wd x (i / 8) : Int) / 2 ^ (8 * (i % 8))) = (by8 x i : Int) := by
 have e : (wd x (i / 8) : Int) / 2 ^ (8 * (i % 8)) = ((wd x (i / 8) / 2 ^ (8 * (i % 8)) : Nat) : Int) := by rw [Int.natCast_ediv, Int.natCast_pow]; rfl
 rw [e, ← by_wd, IntKind.wrap_u8]
 omega
def bf (x i : Nat) : UInt8 := UInt8.ofNat (by8 x i)
theorem bf_nat (x i : Nat) : (bf x i).toNat = by8 x i := by
 have := by8_lt x i
 simp only [bf, UInt8.toNat_ofNat']
 omega
theorem bytes_any (x : Nat) (w : World) :
  Calls Tryz.prog 56 #[nv x] w fun e w' => ∃ A c, e = .returned (.slice A 32 c) ∧ Own w' w.heap.size 5 A c (gen (bf x) 32) ∧ Below w.heap.size w w' := by
 obtain ⟨i0, hi, hz0, hz1, hz2⟩ := info_parts infoByte
 have ha := own_A4 (w := w) (Nat.le_refl _) x
 have s1 : (w.alloc (A4 x)).heap.size = w.heap.size + 1 := by simp
 have b1 := (Below.refl w.heap.size w).alloc (Nat.le_refl _) (A4 x)
 have hmk := run_mk (P := Tryz.prog) 22 5 i0 Tryz.underlying22 hi hz0 hz1 hz2 (l := 32) (n := 32) rfl (by omega)
 have hm : Own ((w.alloc (A4 x)).alloc (.cells (madeCells #[.int .u8 0] 32) 5)) w.heap.size 5 (some ⟨w.heap.size + 1, 0, none⟩) 32 (List.replicate 32 0) := by
  have := Own.made (w := w.alloc (A4 x)) (B := w.heap.size) (n := 32) 5 (by omega) (by decide)
  rw [s1] at this
  exact this
 have b2 := (Below.refl (w.heap.size + 1) (w.alloc (A4 x))).alloc (by omega) (.cells (madeCells #[.int .u8 0] 32) 5)
 have hra := (ha.rd.mono (B' := w.heap.size + 1) (by omega)).keep b2
 have hb0 := b1.trans (b2.mono (by omega))
 unfold nv
 go_enter Tryz.func56, Tryz.ntmps56
 go_wp2
 go_loopw [8] (fun i wr => ∃ k : Nat, k ≤ 32 ∧ i = .int .i64 k ∧ RdF wr (w.heap.size + 1) (some ⟨w.heap.size, 0, none⟩) 4 4 (wv x) ∧ Own wr w.heap.size 5 (some ⟨w.heap.size + 1, 0, none⟩) 32 (fill (bf x) 32 k) ∧ Below w.heap.size w wr)
  (fun i _ => 32 - (intOf i).toNat)
 case atStart => exact ⟨0, by omega, rfl, hra, by rw [fill_zero]; exact hm, hb0⟩
 case round =>
  obtain ⟨k, hk, rfl, ra, os, hb⟩ := hrel
  clear hmk hm b1 b2 hra hb0 ha
  by_cases hlt : k < 32
  ·have g1 : (k : Int) < 32 := by omega
   have c1 := ra.cell0 (k := k / 8) (by omega)
   unfold wv at c1
   have c2 := os.cell (k := k) (by rw [fill_length]; exact hlt)
   have f2 := os.free k
   have g2 : IntKind.i64.wrap ((k : Int) / 8) = (k : Int) / 8 := by rw [IntKind.wrap_i64]; omega
   have g3 : (k : Int).tmod 8 = (k : Int) % 8 := Int.tmod_eq_emod_of_nonneg (by omega)
   have g4 : (k : Int) / 8 < 4 := by omega
   have g5 : IntKind.i64.wrap (8 * ((k : Int) % 8)) = 8 * ((k : Int) % 8) := by rw [IntKind.wrap_i64]; omega
   have g6 : 0 ≤ (k : Int) / 8 := by omega
   have g7 : ((k : Int) / 8).toNat = k / 8 := by omega
   have g8 : 0 ≤ 8 * ((k : Int) % 8) := by omega
   have g9 : (8 * ((k : Int) % 8)).toNat = 8 * (k % 8) := by omega
   have gb := wrap_by x k
   rw [← bf_nat] at gb
   go_wp2
   have hset : Below (w.heap.size + 1) wr (wr.setCell ⟨w.heap.size + 1, k, none⟩ (.int .u8 ((bf x k).toNat : Int))) := (Below.refl (w.heap.size + 1) wr).setCell (Nat.le_refl (w.heap.size + 1)) _
   refine ⟨⟨k + 1, by omega, by go_num, ra.keep hset, ?_, hb.trans (hset.mono (by omega))⟩, by simp [intOf]; omega⟩
   rw [← fill_set _ _ k rfl]
   exact os.set_ k _
  ·have hk' : k = 32 := by omega
   subst hk'
   rw [fill_full] at os
   go_wp2
   go_ret
   exact ⟨_, _, rfl, os, hb⟩
abbrev A8 (x : Nat) : Obj := .cells #[.int .u64 (wd x 0 : Int), .int .u64 (wd x 1 : Int), .int .u64 (wd x 2 : Int), .int .u64 (wd x 3 : Int), .int .u64 (wd x 4 : Int), .int .u64 (wd x 5 : Int), .int .u64 (wd x 6 : Int), .int .u64 (wd x 7 : Int)] 86
theorem own_A8 {w : World} {B : Nat} (hB : B ≤ w.heap.size) (x : Nat) : OwnF (w.alloc (A8 x)) B 86 (some ⟨w.heap.size, 0, none⟩) 8 8 (wv x) :=
 OwnF.lit _ hB _ 8 _ (by decide) rfl
theorem nv_mod (x : Nat) : nv (x % W4) = nv x := by
 unfold nv wd
 rw [show W4 = 18446744073709551616 ^ 4 from rfl, dgt_mod x (by decide), dgt_mod x (by decide), dgt_mod x (by decide), dgt_mod x (by decide)]
end
end Go.Proofs.YtkbkalhcdbklkaaGreatDoor
