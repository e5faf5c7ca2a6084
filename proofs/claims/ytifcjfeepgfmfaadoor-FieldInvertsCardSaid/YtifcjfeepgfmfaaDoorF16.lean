/-
  Numbers of sixteen digits to the base 65536, as values and in blocks of the call's own; a long array is read and written as one. By an AI agent.
-/
import Derived.Test.YtifcjfeepgfmfaaDoorO4
import Derived.Test.YtifcjfeepgfmfaaDoorHeld
import Derived.Deep.MidRow
namespace Go.Proofs.YtifcjfeepgfmfaaDoor
open Go Go.RowKit
/-- The k-th digit to the base 65536. -/
def d16 (x k : Nat) : Nat := dgt 65536 x k
theorem d16_lt (x k : Nat) : d16 x k < 65536 := dgt_lt (by decide) _ _
theorem W4_d16 : W4 = 65536 ^ 16 := by decide +kernel
def dv16 (x k : Nat) : Value := .int .i64 (d16 x k : Int)
def fl (x : Nat) : List Value := (List.range 16).map (dv16 x)
theorem fl_len (x : Nat) : (fl x).length = 16 := by simp [fl]
theorem fl_get {x k : Nat} (h : k < 16) : (fl x)[k]? = some (dv16 x k) := by simp [fl, h]
theorem fl_one (x : Nat) : (fl x).toArray.all (·.oneCell') = true := all_oneCell_toArray fun v hv => by
  obtain ⟨k, _, rfl⟩ := List.mem_map.1 hv
  rfl
/-- An element, as a value. -/
abbrev fv (x : Nat) : Value := .agg (fl x).toArray
abbrev A16 (x : Nat) : Obj := .cells (fl x).toArray 26
abbrev Z16 : Obj := .cells #[.int .i64 0, .int .i64 0, .int .i64 0, .int .i64 0, .int .i64 0, .int .i64 0, .int .i64 0, .int .i64 0, .int .i64 0, .int .i64 0, .int .i64 0, .int .i64 0, .int .i64 0, .int .i64 0, .int .i64 0, .int .i64 0] 26
theorem f_arr : Tryd.prog.underlying 26 = some (.array 16 3) := Tryd.underlying26
theorem f_info : (Tryd.prog.info? 26).map (·.size) = some 16 := by kernel_rfl
/-- The block 'g', which the call made (from 'B' on), holds the digits of x. -/
def O16 (w : World) (B g x : Nat) : Prop := OwnF w B 26 (some ⟨g, 0, none⟩) 16 16 (dv16 x)
theorem own_A16 {w : World} {B : Nat} (hB : B ≤ w.heap.size) (x : Nat) : O16 (w.alloc (A16 x)) B w.heap.size x := OwnF.lit _ hB _ 16 _ (by decide) (by simp [fl])
theorem own_Z16 {w : World} {B : Nat} (hB : B ≤ w.heap.size) : OwnF (w.alloc Z16) B 26 (some ⟨w.heap.size, 0, none⟩) 16 16 (fun _ => .int .i64 0) := OwnF.lit _ hB _ 16 _ (by decide) rfl
section
variable {w w' : World} {B g : Nat}
theorem OwnF.range {e : TypeId} {c n : Nat} {f : Nat → Value} (h : OwnF w B e (some ⟨g, 0, none⟩) c n f) {cs : List Value} (hl : cs.length ≤ n) (hc : ∀ k, k < cs.length → cs[k]? = some (f k)) : w.rangeAt g 0 cs := by
  intro j v hj
  have hlt : j < cs.length := (List.getElem?_eq_some_iff.1 hj).1
  rw [Nat.zero_add, OwnF.cell h (by omega), ← hc j hlt, hj]
theorem OwnF.there {e : TypeId} {c n : Nat} {f : Nat → Value} (h : OwnF w B e (some ⟨g, 0, none⟩) c n f) : w.there g 0 n := fun j hj => by
  rw [Nat.zero_add, OwnF.cell h hj]
  exact ⟨rfl, OwnF.free h j⟩
theorem OwnF.sets {e : TypeId} {c n : Nat} : ∀ (vs : List Value) (o : Nat) (w : World) (f : Nat → Value), OwnF w B e (some ⟨g, 0, none⟩) c n f → OwnF (w.setCells g o vs) B e (some ⟨g, 0, none⟩) c n (fun j => if o ≤ j then (vs[j - o]?).getD (f j) else f j)
  | [], o, w, f, h => h.congr fun j _ => by simp
  | v :: r, o, w, f, h => by
    have h1 := OwnF.sets r (o + 1) _ _ (OwnF.set_ h o v)
    refine OwnF.congr h1 fun j _ => ?_
    by_cases h2 : o + 1 ≤ j
    · have h3 : j ≠ o := by omega
      have h4 : o ≤ j := by omega
      have h5 : j - o = j - (o + 1) + 1 := by omega
      simp only [h2, h3, h4, h5, if_true, if_false, List.getElem?_cons_succ]
    · rw [if_neg h2]
      by_cases h3 : j = o
      · subst h3; simp
      · rw [if_neg h3, if_neg (by omega)]
theorem sets_below (g : Nat) : ∀ (vs : List Value) (o : Nat) (w : World), Below g w (w.setCells g o vs)
  | [], _, w => Below.refl _ w
  | v :: r, o, w => ((Below.refl g w).setCell (p := ⟨g, o, none⟩) (Nat.le_refl g) v).trans (sets_below g r (o + 1) _)
theorem sets_size (g : Nat) : ∀ (vs : List Value) (o : Nat) (w : World), (w.setCells g o vs).heap.size = w.heap.size
  | [], _, _ => rfl
  | v :: r, o, w => (sets_size g r (o + 1) _).trans (by simp)
theorem OwnF.sets_other {e : TypeId} {c n g' : Nat} {f : Nat → Value} (hg : g' ≠ g) : ∀ (vs : List Value) (o : Nat) (w : World), OwnF w B e (some ⟨g, 0, none⟩) c n f → OwnF (w.setCells g' o vs) B e (some ⟨g, 0, none⟩) c n f
  | [], _, _, h => h
  | v :: r, o, _, h => OwnF.sets_other hg r (o + 1) _ (OwnF.other h (p := ⟨g', o, none⟩) hg v)
/-- Another number is laid there. -/
def set16w (w : World) (g y : Nat) : World := w.setCells g 0 (fl y)
theorem put16 {c : Nat} {e : TypeId} {f : Nat → Value} (h : OwnF w B e (some ⟨g, 0, none⟩) c 16 f) (y : Nat) : OwnF (set16w w g y) B e (some ⟨g, 0, none⟩) c 16 (dv16 y) :=
  OwnF.congr (OwnF.sets (fl y) 0 w f h) fun k hk => by rw [if_pos (Nat.zero_le _), Nat.sub_zero, fl_get hk]; rfl
variable {x : Nat}
theorem O16.keep (h : O16 w B g x) (hb : Below w.heap.size w w') : O16 w' B g x := OwnF.keep h hb
theorem O16.alloc (h : O16 w B g x) (o : Obj) : O16 (w.alloc o) B g x := OwnF.keep h ((Below.refl _ w).alloc (Nat.le_refl _) o)
theorem O16.new (hB : B ≤ w.heap.size) (x : Nat) : O16 (w.alloc (A16 x)) B w.heap.size x := own_A16 hB x
theorem O16.drew (h : O16 w B g x) : O16 w.drew B g x := OwnF.drew h
theorem O16.lt (h : O16 w B g x) : g < w.heap.size := OwnF.lt h
theorem O16.ge (h : O16 w B g x) : B ≤ g := OwnF.ge h
theorem O16.mono {B' : Nat} (h : O16 w B g x) (hb : B' ≤ B) : O16 w B' g x := OwnF.mono h hb
theorem O16.put (h : O16 w B g x) (y : Nat) : O16 (set16w w g y) B g y := put16 h y
theorem O16.other {g' : Nat} (h : O16 w B g x) (hg : g' ≠ g) (y : Nat) : O16 (set16w w g' y) B g x := OwnF.sets_other hg _ _ _ h
theorem O4.other16 {g' : Nat} (h : O4 w B g x) (hg : g' ≠ g) (y : Nat) : O4 (set16w w g' y) B g x := OwnF.sets_other hg _ _ _ h
theorem set16w_size (w : World) (g x : Nat) : (set16w w g x).heap.size = w.heap.size := sets_size _ _ _ _
theorem O16.below (h : O16 w B g x) (y : Nat) : Below B w (set16w w g y) := (sets_below g _ _ w).mono h.ge
theorem O16.zero (h : OwnF w B 26 (some ⟨g, 0, none⟩) 16 16 (fun _ => .int .i64 0)) : O16 w B g 0 := h.congr fun k _ => by simp [dv16, d16, dgt]
theorem fload (h : OwnF w B 26 (some ⟨g, 0, none⟩) 16 16 (dv16 x)) : (Instr.loadAt 26 (.pointer (some ⟨g, 0, none⟩))).run Tryd.prog w = .ok (fv x) w :=
  run_loadAt_mid w g 0 _ (fl x) _ (h.range (by rw [fl_len]; exact Nat.le_refl _) fun k hk => fl_get (by rwa [fl_len] at hk)) f_arr rfl (by rw [fl_len]; exact f_info)
theorem floadv (h : OwnF w B 26 (some ⟨g, 0, none⟩) 16 16 (dv16 x)) : (loadVar 26 ⟨g, 0, none⟩).run Tryd.prog w = .ok (fv x) w :=
  run_loadVar_mid w g 0 _ (fl x) _ (h.range (by rw [fl_len]; exact Nat.le_refl _) fun k hk => fl_get (by rwa [fl_len] at hk)) f_arr rfl (by rw [fl_len]; exact f_info)
theorem fstore {f : Nat → Value} (h : OwnF w B 26 (some ⟨g, 0, none⟩) 16 16 f) (y : Nat) : (Instr.storeAt 26 (.pointer (some ⟨g, 0, none⟩)) (fv y)).run Tryd.prog w = .ok () (set16w w g y) :=
  run_storeAt_mid w g 0 _ (fl y).toArray (by rw [List.size_toArray, fl_len]; exact h.there) (by rw [List.size_toArray, fl_len]; exact f_info) (fl_one y)
theorem O16.load (h : O16 w B g x) : (Instr.loadAt 26 (.pointer (some ⟨g, 0, none⟩))).run Tryd.prog w = .ok (fv x) w := fload h
theorem O16.loadv (h : O16 w B g x) : (loadVar 26 ⟨g, 0, none⟩).run Tryd.prog w = .ok (fv x) w := floadv h
theorem O16.store (h : O16 w B g x) (y : Nat) : (Instr.storeAt 26 (.pointer (some ⟨g, 0, none⟩)) (fv y)).run Tryd.prog w = .ok () (set16w w g y) := fstore h y
end
section
variable {ops : Array Oper} {rest : List Oper} {a : Act} {w : World} {Q : Exit → Act → World → Prop} {B g v : Nat} {dst : Option Nat} {tp : TypeId} {ps : String} {af : Array Edge} {x y : Operand}
/-- The walk's steps at a long array. -/
theorem fl_load (o : O16 w B g v) (hx : a.eval x = .pointer (some ⟨g, 0, none⟩)) (h : wpList Tryd.prog ops Q rest (a.put dst (fv v)) w) : wpList Tryd.prog ops Q (⟨dst, .load 26 x, tp, ps, af, none⟩ :: rest) a w :=
  wpList_load_mid rfl _ x rfl g 0 hx (fl v) _ (OwnF.range o (by rw [fl_len]; exact Nat.le_refl _) fun k hk => fl_get (by rwa [fl_len] at hk)) f_arr rfl (by rw [fl_len]; exact f_info) h
theorem fl_store (o : O16 w B g v) (z : Nat) (hx : a.eval x = .pointer (some ⟨g, 0, none⟩)) (hy : a.eval y = fv z) (h : wpList Tryd.prog ops Q rest (a.put dst undef) (set16w w g z)) : wpList Tryd.prog ops Q (⟨dst, .store 26 x y, tp, ps, af, none⟩ :: rest) a w :=
  wpList_store_mid rfl _ x y rfl g 0 (fl z).toArray hx hy (by rw [List.size_toArray, fl_len]; exact OwnF.there o) (by rw [List.size_toArray, fl_len]; exact f_info) (fl_one z) h
end
theorem fres {fn : Func} {p : Tmp} (h : fn.results = #[.cell p 26]) (tmps : Array Value) {w : World} {B g x : Nat} (o : O16 w B g x) (hp : tmps.getD p undef = .pointer (some ⟨g, 0, none⟩)) : (results fn tmps).run Tryd.prog w = .ok (fv x) w := by
  have hp' : tmps[p]?.getD undef = .pointer (some ⟨g, 0, none⟩) := by simpa using hp
  simp [results, h, hp', asAddr, o.loadv]
theorem fresv {fn : Func} {p u : Tmp} (h : fn.results = #[.cell p 26, .tmp u]) (tmps : Array Value) {w : World} {B g x : Nat} (o : O16 w B g x) (hp : tmps.getD p undef = .pointer (some ⟨g, 0, none⟩)) {v : Value} (hv : tmps.getD u undef = v) : (results fn tmps).run Tryd.prog w = .ok (.tuple #[fv x, v]) w := by
  subst hv
  have hp' : tmps[p]?.getD undef = .pointer (some ⟨g, 0, none⟩) := by simpa using hp
  simp only [results, h]
  simp [Sem.run_bind, Result.andThen, hp', asAddr, o.loadv]
/-- The result's block, behind a call that came after some boxes. -/
theorem fres1 {w w1 : World} (h : Below (w.alloc Z16).heap.size (w.alloc Z16) w1) : O16 w1 w.heap.size w.heap.size 0 ∧ Below w.heap.size w w1 :=
  ⟨(O16.zero (own_Z16 (w := w) (Nat.le_refl _))).keep h, ((Below.refl _ w).alloc (Nat.le_refl _) Z16).trans (h.mono (by simp))⟩
theorem fres2 {w w1 : World} {X : Obj} (h : Below ((w.alloc X).alloc Z16).heap.size ((w.alloc X).alloc Z16) w1) : O16 w1 w.heap.size (w.heap.size + 1) 0 ∧ Below w.heap.size w w1 := by
  have s1 : (w.alloc X).heap.size = w.heap.size + 1 := by simp
  have o := (O16.zero (own_Z16 (w := w.alloc X) (Nat.le_refl _))).keep h
  rw [s1] at o
  exact ⟨o.mono (by omega), (((Below.refl _ w).alloc (Nat.le_refl _) X).alloc (by omega) Z16).trans (h.mono (by simp; omega))⟩
theorem fres3 {w w1 : World} {X Y : Obj} (h : Below (((w.alloc X).alloc Y).alloc Z16).heap.size (((w.alloc X).alloc Y).alloc Z16) w1) : O16 w1 w.heap.size (w.heap.size + 2) 0 ∧ Below w.heap.size w w1 := by
  have s1 : ((w.alloc X).alloc Y).heap.size = w.heap.size + 2 := by simp
  have o := (O16.zero (own_Z16 (w := (w.alloc X).alloc Y) (Nat.le_refl _))).keep h
  rw [s1] at o
  exact ⟨o.mono (by omega), ((((Below.refl _ w).alloc (Nat.le_refl _) X).alloc (by simp) Y).alloc (by omega) Z16).trans (h.mono (by simp; omega))⟩
theorem fbox1 {w w1 : World} {x : Nat} {Y : Obj} (h : Below ((w.alloc (A16 x)).alloc Y).heap.size ((w.alloc (A16 x)).alloc Y) w1) : O16 w1 w.heap.size w.heap.size x :=
  ((O16.new (w := w) (Nat.le_refl _) x).alloc Y).keep h
end Go.Proofs.YtifcjfeepgfmfaaDoor
