
import Derived.Test.YtkbkalhcdbklkaaGreatDoorJ11
import Derived.Deep.MidRow
import Derived.Test.YtkbkalhcdbklkaaGreatDoorJ02
/-
 Numbers of sixteen digits to the base 65536, as values and in blocks of the call's own; a long array is read and written as one. By an AI agent.
-/
namespace Go.Proofs.YtkbkalhcdbklkaaGreatDoor
open Go Go.RowKit
def d16 (x k : Nat) : Nat := dgt 65536 x k
theorem d16_lt (x k : Nat) : d16 x k < 65536 := dgt_lt (by decide) _ _
theorem W4_d16 : W4 = 65536 ^ 16 := by decide +kernel
def dv16 (x k : Nat) : Value := .int .i64 (d16 x k : Int)
def fl (x : Nat) : List Value := (List.range 16).map (dv16 x)
theorem fl_len (x : Nat) : (fl x).length = 16 := by simp [fl]
theorem fl_get {x k : Nat} (h : k < 16) : (fl x)[k]? = some (dv16 x k) := by simp [fl, h]
theorem fl_one (x : Nat) : (fl x).toArray.all (·.oneCell') = true := all_oneCell_toArray fun v hv => by
 obtain ⟨k, _, rfl⟩ := List.mem_map.1 hv
 rfl
abbrev fv (x : Nat) : Value := .agg (fl x).toArray
abbrev A16 (x : Nat) : Obj := .cells (fl x).toArray 68
abbrev Z16 : Obj := .cells #[.int .i64 0, .int .i64 0, .int .i64 0, .int .i64 0, .int .i64 0, .int .i64 0, .int .i64 0, .int .i64 0, .int .i64 0, .int .i64 0, .int .i64 0, .int .i64 0, .int .i64 0, .int .i64 0, .int .i64 0, .int .i64 0] 68
theorem f_arr : Tryz.prog.underlying 68 = some (.array 16 3) := Tryz.underlying68
theorem f_info : (Tryz.prog.info? 68).map (·.size) = some 16 := by kernel_rfl
def O16 (w : World) (B g x : Nat) : Prop := OwnF w B 68 (some ⟨g, 0, none⟩) 16 16 (dv16 x)
theorem own_A16 {w : World} {B : Nat} (hB : B ≤ w.heap.size) (x : Nat) : O16 (w.alloc (A16 x)) B w.heap.size x := OwnF.lit _ hB _ 16 _ (by decide) (by simp [fl])
theorem own_Z16 {w : World} {B : Nat} (hB : B ≤ w.heap.size) : OwnF (w.alloc Z16) B 68 (some ⟨w.heap.size, 0, none⟩) 16 16 (fun _ => .int .i64 0) := OwnF.lit _ hB _ 16 _ (by decide) rfl
section
variable {w w' : World} {B g : Nat}
theorem OwnF.range {e : TypeId} {c n : Nat} {f : Nat → Value} (h : OwnF w B e (some ⟨g, 0, none⟩) c n f) {cs : List Value} (hl : cs.length ≤ n) (hc : ∀ k, k < cs.length → cs[k]? = some (f k)) : w.rangeAt g 0 cs := by
 intro j v hj
 have hlt : j < cs.length := (List.getElem?_eq_some_iff.1 hj).1
 rw [Nat.zero_add, OwnF.cell h (by omega), ← hc j hlt, hj]
theorem OwnF.there {e : TypeId} {c n : Nat} {f : Nat → Value} (h : OwnF w B e (some ⟨g, 0, none⟩) c n f) : w.there g 0 n := fun j hj => by
 rw [Nat.zero_add, OwnF.cell h hj]
 exact ⟨rfl, OwnF.free h j⟩
theorem OwnF.sets {e : TypeId} {c n : Nat} : ∀ (vs : List Value) (o : Nat) (w : World) (f : Nat → Value), OwnF w B e (some ⟨g, 0, none⟩) c n f → OwnF (w.setCells g o vs) B e (some ⟨g, 0, none⟩) c n (fun j => if o ≤ j then (vs[j - o]?).getD (f j) else f j)
 | [], o, w, f, h => h.congr fun j _ => by simp
 | v :: r, o, w, f, h => by
  have h1 := OwnF.sets r (o + 1) _ _ (OwnF.set_ h o v)
  refine OwnF.congr h1 fun j _ => ?_
  by_cases h2 : o + 1 ≤ j
  ·have h3 : j ≠ o := by omega
   have h4 : o ≤ j := by omega
   have h5 : j - o = j - (o + 1) + 1 := by omega
   simp only [h2, h3, h4, h5, if_true, if_false, List.getElem?_cons_succ]
  ·rw [if_neg h2]
   by_cases h3 : j = o
   ·subst h3; simp
   ·rw [if_neg h3, if_neg (by omega)]
theorem sets_below (g : Nat) : ∀ (vs : List Value) (o : Nat) (w : World), Below g w (w.setCells g o vs)
 | [], _, w => Below.refl _ w
 | v :: r, o, w => ((Below.refl g w).setCell (p := ⟨g, o, none⟩) (Nat.le_refl g) v).trans (sets_below g r (o + 1) _)
theorem OwnF.sets_other {e : TypeId} {c n g' : Nat} {f : Nat → Value} (hg : g' ≠ g) : ∀ (vs : List Value) (o : Nat) (w : World), OwnF w B e (some ⟨g, 0, none⟩) c n f → OwnF (w.setCells g' o vs) B e (some ⟨g, 0, none⟩) c n f
 | [], _, _, h => h
 | v :: r, o, _, h => OwnF.sets_other hg r (o + 1) _ (OwnF.other h (p := ⟨g', o, none⟩) hg v)
def set16w (w : World) (g y : Nat) : World := w.setCells g 0 (fl y)
theorem put16 {c : Nat} {e : TypeId} {f : Nat → Value} (h : OwnF w B e (some ⟨g, 0, none⟩) c 16 f) (y : Nat) : OwnF (set16w w g y) B e (some ⟨g, 0, none⟩) c 16 (dv16 y) :=
 OwnF.congr (OwnF.sets (fl y) 0 w f h) fun k hk => by rw [if_pos (Nat.zero_le _), Nat.sub_zero, fl_get hk]; rfl
variable {x : Nat}
theorem O16.keep (h : O16 w B g x) (hb : Below w.heap.size w w') : O16 w' B g x := OwnF.keep h hb
theorem O16.alloc (h : O16 w B g x) (o : Obj) : O16 (w.alloc o) B g x := OwnF.keep h ((Below.refl _ w).alloc (Nat.le_refl _) o)
theorem O16.new (hB : B ≤ w.heap.size) (x : Nat) : O16 (w.alloc (A16 x)) B w.heap.size x := own_A16 hB x
theorem O16.drew (h : O16 w B g x) : O16 w.drew B g x := OwnF.drew h
theorem O16.lt (h : O16 w B g x) : g < w.heap.size := OwnF.lt h
theorem O16.ge (h : O16 w B g x) : B ≤ g := OwnF.ge h
theorem O16.mono {B' : Nat} (h : O16 w B g x) (hb : B' ≤ B) : O16 w B' g x := OwnF.mono h hb
theorem O16.put (h : O16 w B g x) (y : Nat) : O16 (set16w w g y) B g y := put16 h y
theorem O16.other {g' : Nat} (h : O16 w B g x) (hg : g' ≠ g) (y : Nat) : O16 (set16w w g' y) B g x := OwnF.sets_other hg _ _ _ h
theorem O16.below (h : O16 w B g x) (y : Nat) : Below B w (set16w w g y) := (sets_below g _ _ w).mono h.ge
theorem O16.zero (h : OwnF w B 68 (some ⟨g, 0, none⟩) 16 16 (fun _ => .int .i64 0)) : O16 w B g 0 := h.congr fun k _ => by simp [dv16, d16, dgt]
theorem fload (h : OwnF w B 68 (some ⟨g, 0, none⟩) 16 16 (dv16 x)) : (Instr.loadAt 68 (.pointer (some ⟨g, 0, none⟩))).run Tryz.prog w = .ok (fv x) w :=
 run_loadAt_mid w g 0 _ (fl x) _ (h.range (by rw [fl_len]; exact Nat.le_refl _) fun k hk => fl_get (by rwa [fl_len] at hk)) f_arr rfl (by rw [fl_len]; exact f_info)
theorem floadv (h : OwnF w B 68 (some ⟨g, 0, none⟩) 16 16 (dv16 x)) : (loadVar 68 ⟨g, 0, none⟩).run Tryz.prog w = .ok (fv x) w :=
 run_loadVar_mid w g 0 _ (fl x) _ (h.range (by rw [fl_len]; exact Nat.le_refl _) fun k hk => fl_get (by rwa [fl_len] at hk)) f_arr rfl (by rw [fl_len]; exact f_info)
theorem fstore {f : Nat → Value} (h : OwnF w B 68 (some ⟨g, 0, none⟩) 16 16 f) (y : Nat) : (Instr.storeAt 68 (.pointer (some ⟨g, 0, none⟩)) (fv y)).run Tryz.prog w = .ok () (set16w w g y) :=
 run_storeAt_mid w g 0 _ (fl y).toArray (by rw [List.size_toArray, fl_len]; exact h.there) (by rw [List.size_toArray, fl_len]; exact f_info) (fl_one y)
theorem O16.load (h : O16 w B g x) : (Instr.loadAt 68 (.pointer (some ⟨g, 0, none⟩))).run Tryz.prog w = .ok (fv x) w := fload h
theorem O16.loadv (h : O16 w B g x) : (loadVar 68 ⟨g, 0, none⟩).run Tryz.prog w = .ok (fv x) w := floadv h
theorem O16.store (h : O16 w B g x) (y : Nat) : (Instr.storeAt 68 (.pointer (some ⟨g, 0, none⟩)) (fv y)).run Tryz.prog w = .ok () (set16w w g y) := fstore h y
end
section
variable {ops : Array Oper} {rest : List Oper} {a : Act} {w : World} {Q : Exit → Act → World → Prop} {B g v : Nat} {dst : Option Nat} {tp : TypeId} {ps : String} {af : Array Edge} {x y : Operand}
theorem fl_load (o : O16 w B g v) (hx : a.eval x = .pointer (some ⟨g, 0, none⟩)) (h : wpList Tryz.prog ops Q rest (a.put dst (fv v)) w) : wpList Tryz.prog ops Q (⟨dst, .load 68 x, tp, ps, af, none⟩ :: rest) a w :=
 wpList_load_mid rfl _ x rfl g 0 hx (fl v) _ (OwnF.range o (by rw [fl_len]; exact Nat.le_refl _) fun k hk => fl_get (by rwa [fl_len] at hk)) f_arr rfl (by rw [fl_len]; exact f_info) h
theorem fl_store (o : O16 w B g v) (z : Nat) (hx : a.eval x = .pointer (some ⟨g, 0, none⟩)) (hy : a.eval y = fv z) (h : wpList Tryz.prog ops Q rest (a.put dst undef) (set16w w g z)) : wpList Tryz.prog ops Q (⟨dst, .store 68 x y, tp, ps, af, none⟩ :: rest) a w :=
 wpList_store_mid rfl _ x y rfl g 0 (fl z).toArray hx hy (by rw [List.size_toArray, fl_len]; exact OwnF.there o) (by rw [List.size_toArray, fl_len]; exact f_info) (fl_one z) h
end
theorem fres {fn : Func} {p : Tmp} (h : fn.results = #[.cell p 68]) (tmps : Array Value) {w : World} {B g x : Nat} (o : O16 w B g x) (hp : tmps.getD p undef = .pointer (some ⟨g, 0, none⟩)) : (results fn tmps).run Tryz.prog w = .ok (fv x) w := by
 have hp' : tmps[p]?.getD undef = .pointer (some ⟨g, 0, none⟩) := by simpa using hp
 simp [results, h, hp', asAddr, o.loadv]
theorem fresv {fn : Func} {p u : Tmp} (h : fn.results = #[.cell p 68, .tmp u]) (tmps : Array Value) {w : World} {B g x : Nat} (o : O16 w B g x) (hp : tmps.getD p undef = .pointer (some ⟨g, 0, none⟩)) {v : Value} (hv : tmps.getD u undef = v) : (results fn tmps).run Tryz.prog w = .ok (.tuple #[fv x, v]) w := by
 subst hv
 have hp' : tmps[p]?.getD undef = .pointer (some ⟨g, 0, none⟩) := by simpa using hp
 simp only [results, h]
 simp [Result.andThen, hp', asAddr, o.loadv]
theorem fres1 {w w1 : World} (h : Below (w.alloc Z16).heap.size (w.alloc Z16) w1) : O16 w1 w.heap.size w.heap.size 0 ∧ Below w.heap.size w w1 :=
 ⟨(O16.zero (own_Z16 (w := w) (Nat.le_refl _))).keep h, ((Below.refl _ w).alloc (Nat.le_refl _) Z16).trans (h.mono (by simp))⟩
theorem fres2 {w w1 : World} {X : Obj} (h : Below ((w.alloc X).alloc Z16).heap.size ((w.alloc X).alloc Z16) w1) : O16 w1 w.heap.size (w.heap.size + 1) 0 ∧ Below w.heap.size w w1 := by
 have s1 : (w.alloc X).heap.size = w.heap.size + 1 := by simp
 have o := (O16.zero (own_Z16 (w := w.alloc X) (Nat.le_refl _))).keep h
 rw [s1] at o
 exact ⟨o.mono (by omega), (((Below.refl _ w).alloc (Nat.le_refl _) X).alloc (by omega) Z16).trans (h.mono (by simp; omega))⟩
theorem fbox1 {w w1 : World} {x : Nat} {Y : Obj} (h : Below ((w.alloc (A16 x)).alloc Y).heap.size ((w.alloc (A16 x)).alloc Y) w1) : O16 w1 w.heap.size w.heap.size x :=
 ((O16.new (w := w) (Nat.le_refl _) x).alloc Y).keep h
end Go.Proofs.YtkbkalhcdbklkaaGreatDoor
namespace Go.Proofs.YtkbkalhcdbklkaaGreatDoor
open Go Go.RowKit
section
variable {P : Program}
theorem wpList_appF2 (w0 : World) {ops : Array Oper} {rest : List Oper} {o : Oper} {a : Act} {Q : Exit → Act → World → Prop} (hgd : o.guard = none) (s x : Operand) (t : TypeId)
  (ho : o.op = .call { callee := .builtin .append, args := #[s, x], argTypes := #[t, t] })
  (base : Nat) (e : TypeId) (i : TypeInfo) (z : Value) (ht : P.underlying t = some (.slice e)) (hi : P.info? e = some i) (hz : i.zero = some z)
  (hsize : i.size = 1) {by_ : Nat} (hby : i.bytes = by_) (hby0 : 0 < by_) (hzs : z.cells.size = 1) {As : Option Addr} {cs n : Nat} {f : Nat → Value} (hs : a.eval s = .slice As n cs) (hown : OwnF w0 base e As cs n f)
  {v0 v1 : Value} (hv0 : v0 = f n) (hv1 : v1 = f (n + 1)) (hx : a.eval x = .slice (some ⟨w0.heap.size, 0, none⟩) 2 2) (hone : ∀ k, (f k).oneCell' = true) (hlen : n + 2 ≤ 140737488355328) (hbytes : (n + 2) * by_ ≤ 140737488355328) (hbase : base ≤ w0.heap.size)
  (h : ∀ A' c' w', OwnF w' base e A' c' (n + 2) f → Below base w0 w' → wpList P ops Q rest (a.put o.dst (.slice A' (n + 2) c')) w') : wpList P ops Q (o :: rest) a (w0.alloc (.cells #[v0, v1] e)) := by
 subst hv0 hv1
 refine wpList_plain hgd fun _ hK => ?_
 have hb := (Below.refl w0.heap.size w0).alloc (Nat.le_refl _) (.cells #[f n, f (n + 1)] e)
 have hl := (OwnF.lit (w := w0) e (Nat.le_refl _) #[f n, f (n + 1)] 2 (fun k => f (n + k)) (by simp [maxLen]) rfl).rd
 refine wp_appF _ s x t ho base e i z ht hi hz hsize hby hby0 hzs hs (hown.keep hb) hx hl (fun _ _ => hone _) hlen hbytes (by simp; omega) ?_
 intro A' c' w' h1 h2
 refine hK _ _ (h A' c' w' (h1.congr fun k hk => ?_) ((hb.mono hbase).trans h2))
 by_cases hk' : k < n
 ·rw [if_pos hk']
 ·rw [if_neg hk']
  congr 1
  omega
end
def slen : Value → Nat
 | .slice _ n _ => n
 | _ => 0
theorem P_dig : by8 P25 0 = 237 ∧ (∀ k, k < 30 → by8 P25 (k + 1) = 255) ∧ by8 P25 31 = 127 := by
 unfold by8
 exact ⟨by decide +kernel, by decide +kernel, by decide +kernel⟩
theorem P_can : Can 32 P25 := can_of (n := 31) (by rw [P_dig.2.2]; decide)
theorem P_lt : P25 < 256 ^ 32 := by decide +kernel
set_option maxRecDepth 20000
theorem rprime_any (w : World) : Calls Tryz.prog 108 #[] w fun e w' => ∃ A c, e = .returned (.slice A 32 c) ∧ DOwn w' w.heap.size A c 32 P25 ∧ Below w.heap.size w w' := by
 obtain ⟨i0, hi, hz0, hz1, hz2⟩ := info_parts infoInt
 have o1 := OwnF.lit (w := w) (B := w.heap.size) 3 (Nat.le_refl _) #[.int .i64 237] 1 (dg8 P25) (by decide) (by unfold dg8; simp [P_dig.1])
 have hc := (Below.refl w.heap.size w).alloc (Nat.le_refl _) (.cells #[.int .i64 237] 3)
 go_enter Tryz.func108, Tryz.ntmps108
 go_wp2_with fail
 go_loopw [1] (fun v wr => ∃ k : Nat, k ≤ 30 ∧ (∃ A c, v = .slice A (k + 1) c ∧ OwnF wr w.heap.size 3 A c (k + 1) (dg8 P25)) ∧ Below w.heap.size w wr)
  (fun v _ => 31 - slen v)
 case atStart => exact ⟨0, by omega, ⟨_, _, rfl, o1⟩, hc⟩
 case round =>
  clear o1 hc
  obtain ⟨k, hk, ⟨A, c, rfl, ow⟩, hb⟩ := hrel
  by_cases hlt : k < 30
  ·have g1 : (k : Int) + 1 < 31 := by omega
   have HV : Hid (Value.int .i64 255 = dg8 P25 (k + 1)) := Lib.hid (by unfold dg8; rw [P_dig.2.1 k hlt]; rfl)
   go_wp2_with (at_builtin; refine wpList_appF1 _ rfl (.tmp 6) (.tmp 7) _ rfl w.heap.size 3 i0 _ Tryz.underlying40 hi hz0 hz1 hz2 (by decide) rfl rfl ow HV.out rfl rfl (by omega) (by omega) hb.size ?_; intro A' c' w' ho' hb')
   refine ⟨⟨k + 1, by omega, ⟨A', c', rfl, ho'⟩, hb.trans hb'⟩, by simp [slen]; omega⟩
  ·obtain rfl : k = 30 := by omega
   have HV : Hid (Value.int .i64 127 = dg8 P25 31) := Lib.hid (by unfold dg8; rw [P_dig.2.2]; rfl)
   go_wp2_with (at_builtin; refine wpList_appF1 _ rfl (.tmp 9) (.tmp 10) _ rfl w.heap.size 3 i0 _ Tryz.underlying40 hi hz0 hz1 hz2 (by decide) rfl rfl ow HV.out rfl rfl (by omega) (by omega) hb.size ?_; intro A' c' w' ho' hb')
   go_ret
   exact ⟨A', c', rfl, ⟨ho', P_lt, P_can⟩, hb.trans hb'⟩
end Go.Proofs.YtkbkalhcdbklkaaGreatDoor
namespace Go.Proofs.YtkbkalhcdbklkaaGreatDoor
open Go Go.RowKit
theorem p256 (m : Nat) : (256 : Nat) ^ (2 * m) = 65536 ^ m := by rw [Nat.pow_mul]
theorem p256' (m : Nat) : (256 : Nat) ^ (2 * m + 1) = 65536 ^ m * 256 := by rw [Nat.pow_succ, p256]
theorem pr_other {x k j : Nat} (hj : j ≠ k / 2) : d16 (x % 256 ^ (k + 1)) j = d16 (x % 256 ^ k) j := by
 have hy := Nat.mod_lt x (show 0 < 256 ^ k from Nat.pow_pos (by decide))
 have hy' := Nat.mod_lt x (show 0 < 256 ^ (k + 1) from Nat.pow_pos (by decide))
 by_cases h : j < k / 2
 ·rw [mod_pow_succ']
  have e : ∃ c, 256 ^ k = 65536 ^ (k / 2) * c := by
   rcases (show k = 2 * (k / 2) ∨ k = 2 * (k / 2) + 1 by omega) with e | e
   ·exact ⟨1, by rw [Nat.mul_one, ← p256, ← e]⟩
   ·exact ⟨256, by rw [← p256', ← e]⟩
  obtain ⟨c, e⟩ := e
  rw [e, Nat.mul_assoc]
  exact dgt_add_mul _ _ h
 ·have hp : (256 : Nat) ^ (k + 1) ≤ 65536 ^ j := by rw [← p256]; exact Nat.pow_le_pow_right (by decide) (by omega)
  have hp' : (256 : Nat) ^ k ≤ 65536 ^ j := by rw [← p256]; exact Nat.pow_le_pow_right (by decide) (by omega)
  unfold d16
  rw [dgt_zero_of_lt (Nat.lt_of_lt_of_le hy' hp), dgt_zero_of_lt (Nat.lt_of_lt_of_le hy hp')]
theorem pr_even {x m : Nat} : d16 (x % 256 ^ (2 * m)) m = 0 ∧ d16 (x % 256 ^ (2 * m + 1)) m = by8 x (2 * m) := by
 have hy := Nat.mod_lt x (show 0 < 65536 ^ m from Nat.pow_pos (by decide))
 have hb := by8_lt x (2 * m)
 refine ⟨?_, ?_⟩
 ·rw [p256]; exact dgt_zero_of_lt hy
 ·rw [mod_pow_succ', p256]
  show (_ + 65536 ^ m * by8 x (2 * m)) / 65536 ^ m % 65536 = _
  rw [Nat.add_mul_div_left _ _ (Nat.pow_pos (by decide)), Nat.div_eq_of_lt hy, Nat.zero_add, Nat.mod_eq_of_lt (by omega)]
theorem pr_odd {x m : Nat} : d16 (x % 256 ^ (2 * m + 2)) m = d16 (x % 256 ^ (2 * m + 1)) m + 256 * by8 x (2 * m + 1) := by
 have hb := by8_lt x (2 * m + 1)
 have hc := by8_lt x (2 * m)
 rw [pr_even.2]
 have h0 : x % 256 ^ (2 * m + 1) / 65536 ^ m = by8 x (2 * m) := by
  have := (pr_even (x := x) (m := m)).2
  unfold d16 dgt at this
  have hl : x % 256 ^ (2 * m + 1) / 65536 ^ m < 256 := Nat.div_lt_of_lt_mul (by rw [p256']; exact Nat.mod_lt _ (Nat.mul_pos (Nat.pow_pos (by decide)) (by decide)))
  rwa [Nat.mod_eq_of_lt (by omega)] at this
 rw [show 2 * m + 2 = 2 * m + 1 + 1 from rfl, mod_pow_succ', p256', Nat.mul_assoc]
 show (x % (65536 ^ m * 256) + 65536 ^ m * (256 * by8 x (2 * m + 1))) / 65536 ^ m % 65536 = _
 rw [Nat.add_mul_div_left _ _ (Nat.pow_pos (by decide)), ← p256', h0, Nat.mod_eq_of_lt (by omega)]
def pv (x k j : Nat) : Value := .int .i64 (d16 (x % 256 ^ k) j : Int)
theorem pv_set {x k : Nat} {v : Value} (hv : v = pv x (k + 1) (k / 2)) (j : Nat) : (if j = k / 2 then v else pv x k j) = pv x (k + 1) j := by
 by_cases h : j = k / 2
 ·rw [if_pos h, hv, h]
 ·rw [if_neg h]; unfold pv; rw [pr_other h]
attribute [local irreducible] wd by8 d16 set16w fl
set_option maxRecDepth 20000
set_option maxHeartbeats 1600000 in
theorem pairs_any {A : Option Addr} {B c n x : Nat} (w : World) (h : Dig w B A c n x) (hB : B ≤ w.heap.size) (hn : n ≤ 32) :
  Calls Tryz.prog 109 #[.slice A n c] w fun e w' => e = .returned (fv x) ∧ Below w.heap.size w w' := by
 have s1 : (w.alloc Z16).heap.size = w.heap.size + 1 := by simp
 have oz := (O16.zero (own_Z16 (w := w) (Nat.le_refl _))).alloc Z16
 have oo := own_Z16 (w := w.alloc Z16) (B := w.heap.size) (by omega)
 rw [s1] at oo
 have hc := ((Below.refl w.heap.size w).alloc (Nat.le_refl _) Z16).alloc (by omega) Z16
 have hne : w.heap.size + 1 ≠ w.heap.size := by omega
 clear s1
 go_enter Tryz.func109, Tryz.ntmps109
 go_wp2_with fail
 go_loopw [4] (fun i wr => ∃ k : Nat, k ≤ n ∧ i = .int .i64 k ∧ OwnF wr w.heap.size 68 (some ⟨w.heap.size + 1, 0, none⟩) 16 16 (pv x k) ∧ O16 wr w.heap.size w.heap.size 0 ∧ Below w.heap.size w wr)
  (fun i _ => n - (intOf i).toNat)
 case atStart => exact ⟨0, by omega, rfl, oo.congr (fun j _ => by unfold pv; rw [Nat.pow_zero, Nat.mod_one]; unfold d16; simp [dgt]), oz, hc⟩
 case round =>
  clear oz oo hc
  obtain ⟨k, hk, rfl, oo, oz, hc⟩ := hrel
  by_cases hlt : k < n
  ·have g1 : (k : Int) < (n : Int) := by omega
   obtain ⟨b1, o1, rfl, hb1, c1⟩ := (h.keep (hc.mono hB)).rd.at_ hlt
   unfold dg8 at c1
   have c2 := OwnF.cell oo (k := k / 2) (by omega)
   have f2 := OwnF.free oo (k / 2)
   unfold pv at c2
   have g4 : (k : Int) / 2 < 16 := by omega
   have g2 : IntKind.i64.wrap ((k : Int) / 2) = (k : Int) / 2 := by rw [IntKind.wrap_i64]; omega
   have g6 : 0 ≤ (k : Int) / 2 := by omega
   have g7 : ((k : Int) / 2).toNat = k / 2 := by omega
   have hb := by8_lt x k
   obtain ⟨m, hm⟩ : ∃ m, m = k / 2 := ⟨_, rfl⟩
   have g9 := h.rd.cap
   rcases (show k = 2 * m ∨ k = 2 * m + 1 by omega) with e | e
   ·have g3 : ((k : Int).tmod 2 == 0) = true := by rw [Int.tmod_eq_emod_of_nonneg (by omega)]; simp; omega
    have g3' : (k : Int) % 2 = 0 := by omega
    have hv : IntKind.i64.wrap ((d16 (x % 256 ^ k) (k / 2) : Int) + (by8 x k : Int)) = (d16 (x % 256 ^ (k + 1)) (k / 2) : Int) := by
     rw [← hm, e, pr_even.1, pr_even.2, IntKind.wrap_i64]; rw [e] at hb; omega
    have HM := Lib.hid hm
    have HE := Lib.hid e
    clear hm e hb
    go_wp2_with fail
    refine wp_region_still_tail 10 (by kernel_rfl) (by kernel_rfl) ?_
    simp only [List.take_succ_cons, List.take_zero, List.drop_succ_cons, List.drop_zero]
    repeat still_step
    refine wpStill_nil ?_
    change wpList _ _ _ _ _ wr.drew
    go_wp2_with fail
    refine ⟨⟨k + 1, by omega, by go_num, ?_, (OwnF.other oz (by simp) _).drew, (hc.setCell (by simp) _).drew⟩, by simp [intOf]; omega⟩
    exact ((OwnF.set_ oo (k / 2) _).congr fun j _ => pv_set rfl j).drew
   ·have g3 : ((k : Int).tmod 2 == 0) = false := by rw [Int.tmod_eq_emod_of_nonneg (by omega)]; simp; omega
    have g3' : (k : Int) % 2 = 1 := by omega
    have gw : IntKind.i64.wrap (256 * (by8 x k : Int)) = 256 * (by8 x k : Int) := by rw [IntKind.wrap_i64]; omega
    have hv : IntKind.i64.wrap ((d16 (x % 256 ^ k) (k / 2) : Int) + 256 * (by8 x k : Int)) = (d16 (x % 256 ^ (k + 1)) (k / 2) : Int) := by
     rw [← hm, e, pr_odd, IntKind.wrap_i64]; rw [e] at hb
     have := d16_lt (x % 256 ^ (2 * m + 1)) m
     omega
    have HM := Lib.hid hm
    have HE := Lib.hid e
    clear hm e hb
    go_wp2_with fail
    refine wp_region_still_tail 11 (by kernel_rfl) (by kernel_rfl) ?_
    simp only [List.take_succ_cons, List.take_zero, List.drop_succ_cons, List.drop_zero]
    repeat still_step
    refine wpStill_nil ?_
    change wpList _ _ _ _ _ wr.drew
    go_wp2_with fail
    refine ⟨⟨k + 1, by omega, by go_num, ?_, (OwnF.other oz (by simp) _).drew, (hc.setCell (by simp) _).drew⟩, by simp [intOf]; omega⟩
    exact ((OwnF.set_ oo (k / 2) _).congr fun j _ => pv_set rfl j).drew
  ·obtain rfl : k = n := by omega
   have ox : O16 wr w.heap.size (w.heap.size + 1) x := OwnF.congr oo fun j _ => by unfold pv; rw [Nat.mod_eq_of_lt h.lt]; rfl
   have hop := Lib.hid (oz.put x)
   have hbz := oz.below x
   go_wp2_with (first | ((with_reducible refine fl_store oz x ?_ ?_ ?_); rfl; rfl) | ((with_reducible refine fl_load ox ?_ ?_); rfl))
   exact bodyPost_ret (fres Tryz.results109 _ hop.out rfl) rfl ⟨rfl, hc.trans hbz⟩
end Go.Proofs.YtkbkalhcdbklkaaGreatDoor
namespace Go.Proofs.YtkbkalhcdbklkaaGreatDoor
open Go Go.RowKit
section
variable {P : Program}
theorem step_appF2 (w0 : World) {ops : Array Oper} {o : Oper} {a : Act} {K : Act → World → Prop} {Q : Exit → Act → World → Prop} {E : Prop} (hgd : o.guard = none) (s x : Operand) (t : TypeId)
  (ho : o.op = .call { callee := .builtin .append, args := #[s, x], argTypes := #[t, t] })
  (base : Nat) (e : TypeId) (i : TypeInfo) (z : Value) (ht : P.underlying t = some (.slice e)) (hi : P.info? e = some i) (hz : i.zero = some z)
  (hsize : i.size = 1) {by_ : Nat} (hby : i.bytes = by_) (hby0 : 0 < by_) (hzs : z.cells.size = 1) {As : Option Addr} {cs n : Nat} {f : Nat → Value} (hs : a.eval s = .slice As n cs) (hown : OwnF w0 base e As cs n f)
  {v0 v1 : Value} (hv0 : v0 = f n) (hv1 : v1 = f (n + 1)) (hx : a.eval x = .slice (some ⟨w0.heap.size, 0, none⟩) 2 2) (hone : ∀ k, (f k).oneCell' = true) (hlen : n + 2 ≤ 140737488355328) (hbytes : (n + 2) * by_ ≤ 140737488355328) (hbase : base ≤ w0.heap.size)
  (h : ∀ A' c' w', OwnF w' base e A' c' (n + 2) f → Below base w0 w' → K (a.put o.dst (.slice A' (n + 2) c')) w') :
  if Region.wanted o (yielded ops a.tmps) = true then Oper.wp P o a (w0.alloc (.cells #[v0, v1] e)) K Q else E := by
 have hw : Region.wanted o (yielded ops a.tmps) = true := by simp [Region.wanted, hgd]
 rw [if_pos hw]
 subst hv0 hv1
 have hb := (Below.refl w0.heap.size w0).alloc (Nat.le_refl _) (.cells #[f n, f (n + 1)] e)
 have hl := (OwnF.lit (w := w0) e (Nat.le_refl _) #[f n, f (n + 1)] 2 (fun k => f (n + k)) (by simp [maxLen]) rfl).rd
 refine wp_appF _ s x t ho base e i z ht hi hz hsize hby hby0 hzs hs (hown.keep hb) hx hl (fun _ _ => hone _) hlen hbytes (by simp; omega) ?_
 intro A' c' w' h1 h2
 refine h A' c' w' (h1.congr fun k hk => ?_) ((hb.mono hbase).trans h2)
 by_cases hk' : k < n
 ·rw [if_pos hk']
 ·rw [if_neg hk']
  congr 1
  omega
end
theorem by8_16 (x i : Nat) : by8 x (2 * i) = d16 x i % 256 ∧ by8 x (2 * i + 1) = d16 x i / 256 := by
 unfold by8 d16 dgt
 rw [p256', p256]
 refine ⟨?_, ?_⟩
 ·generalize x / 65536 ^ i = y; omega
 ·rw [← Nat.div_div_eq_div_mul]
  generalize x / 65536 ^ i = y; omega
attribute [local irreducible] wd by8 d16 set16w fl
set_option maxRecDepth 20000
set_option maxHeartbeats 1600000 in
theorem rbytes_any {x : Nat} (hx : x < W4) (w : World) :
  Calls Tryz.prog 118 #[fv x] w fun e w' => ∃ A c n, e = .returned (.slice A n c) ∧ DOwn w' w.heap.size A c n x ∧ Below w.heap.size w w' := by
 obtain ⟨i0, hi, hz0, hz1, hz2⟩ := info_parts infoInt
 have ox := O16.new (w := w) (Nat.le_refl _) x
 have hc := (Below.refl _ w).alloc (Nat.le_refl _) (A16 x)
 have hs : (w.alloc (A16 x)).heap.size = w.heap.size + 1 := by simp
 have HX := Lib.hid hx
 clear hx
 go_enter Tryz.func118, Tryz.ntmps118
 go_wp2_with fail
 go_loopw [3, 4] (fun v i wr => ∃ k : Nat, k ≤ 16 ∧ i = .int .i64 k ∧ (∃ A c, v = .slice A (2 * k) c ∧ OwnF wr (w.heap.size + 1) 3 A c (2 * k) (dg8 x)) ∧ Below (w.heap.size + 1) (w.alloc (A16 x)) wr)
  (fun _ i _ => 16 - (intOf i).toNat)
 case atStart => exact ⟨0, by omega, rfl, ⟨none, 0, rfl, OwnF.nothing _ _ _ _⟩, Below.refl _ _⟩
 case round =>
  obtain ⟨k, hk, rfl, ⟨Av, cv, rfl, ow⟩, hb⟩ := hrel
  by_cases hlt : k < 16
  ·have g1 : (k : Int) < 16 := by omega
   have hb0 := hb
   rw [← hs] at hb0
   have c1 : wr.cell? ⟨w.heap.size, k, none⟩ = some (.int .i64 (d16 x k : Int)) := OwnF.cell (ox.keep hb0) hlt
   obtain ⟨e1, e2⟩ := by8_16 x k
   obtain ⟨f1, f1'⟩ := nmod e1.symm
   obtain ⟨f2, f2'⟩ := ndiv e2.symm
   have hl2 := d16_lt x k
   have fw2 : IntKind.i64.wrap ((by8 x (2 * k + 1) : Nat) : Int) = ((by8 x (2 * k + 1) : Nat) : Int) := by have := by8_lt x (2 * k + 1); rw [IntKind.wrap_i64]; omega
   have HV0 : Hid (Value.int .i64 (by8 x (2 * k) : Int) = dg8 x (2 * k)) := Lib.hid rfl
   have HV1 : Hid (Value.int .i64 (by8 x (2 * k + 1) : Int) = dg8 x (2 * k + 1)) := Lib.hid rfl
   have hbs := hb.size
   clear e1 e2 hb0 hl2
   go_wp2_with fail
   have hbase : w.heap.size + 1 ≤ wr.heap.size := by omega
   go_region_held3 (fun w' => w'.cell? ⟨w.heap.size, k, none⟩ = some (.int .i64 (d16 x k : Int)))
    (first | go_keep | exact (hb'.cell (p := ⟨w.heap.size, k, none⟩) (by simp)).trans c1)
    (first | (refine step_appF2 _ (by rfl) _ _ _ (by rfl) (w.heap.size + 1) 3 i0 _ Tryz.underlying40 hi hz0 hz1 hz2 (by decide) (by rfl) (by rfl) ow.drew HV0.out HV1.out (by rfl) (fun _ => rfl) (by omega) (by omega) hbase ?_; intro A2 c2 w' ho' hb'))
   all_goals
    go_wp2_with fail
    go_roundw
    case rel => exact ⟨k + 1, by omega, by go_num, ⟨A2, c2, by rw [show 2 * (k + 1) = 2 * k + 2 by omega], ho'⟩, hb.drew.trans hb'⟩
    case measure => simp [intOf]; omega
  ·obtain rfl : k = 16 := by omega
   have hxl : x < 256 ^ (2 * 16) := by have := HX.out; rwa [W4_256] at this
   go_wp2_with fail
   go_at_call 91
   refine (trim_any (x := x) _ ⟨ow.rd, hxl⟩ (by omega)).mono ?_
   rintro e w1 ⟨n', hn', rfl, hx', hcn, rfl⟩
   go_wp2_with fail
   go_ret
   exact ⟨Av, cv, n', rfl, DOwn.trim ow (by omega) hn' hx' hcn, hc.trans (hb.mono (by omega))⟩
theorem rnum_any {x : Nat} (hx : x < W4) (w : World) :
  Calls Tryz.prog 85 #[fv x] w fun e w' => e = .returned (nv x) ∧ Below w.heap.size w w' := by
 have kb := fun w => rbytes_any hx w
 have KB := Lib.hid kb
 clear kb hx
 unfold nv
 go_enter Tryz.func85, Tryz.ntmps85
 have ox := O16.new (w := w) (Nat.le_refl _) x
 replace ox := ox.alloc Z4
 go_wp2_with ((with_reducible refine fl_load ox ?_ ?_); rfl)
 go_at_call 118
 refine (KB.out _).mono ?_
 rintro e v1 ⟨A, c, n, rfl, dx, h0⟩
 obtain ⟨oz, hc⟩ := zres2 h0
 clear h0 ox
 go_wp2_with fail
 go_at_call 117
 refine (of_any _ dx.dig (Nat.le_refl _)).mono ?_
 rintro e v2 ⟨rfl, h0⟩
 replace oz := oz.keep h0
 replace hc := bnx hc h0
 clear h0 dx
 obtain ⟨z0, z1, z2, z3⟩ := oz.c4
 obtain ⟨f0, f1, f2, f3⟩ := oz.f4
 obtain ⟨wz, ez, or, hb, _⟩ := oz.out x
 obtain ⟨r0, r1, r2, r3⟩ := or.c4
 go_wp2_with fail
 rw [← ez]
 refine bodyPost_ret (v := nv x) (by simp [results, Tryz.results85, go_sem, r0, r1, r2, r3]) rfl ⟨rfl, hc.trans hb⟩
end Go.Proofs.YtkbkalhcdbklkaaGreatDoor
