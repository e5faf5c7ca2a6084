/-
  From what a law's arguments read as to what its walk asks, and from the walk to the row: of no program. By an AI agent. Numbers modulo 2^255 - 19 as a field; points of -x^2 + y^2 = 1 + d x^2 y^2, d no square: their sums are points, hang on no order and no brackets. Of no program. By an AI agent. Numbers of sixteen digits to the base 65536, as values and in blocks of the call's own; a long array is read and written as one. By an AI agent. Layer 9's own, awake over contracts. By an AI agent.
-/
import Derived.Test.YtgaofocjnifjdaaDoorMA
import Derived.ProofKit
import Derived.OpenShut
import Derived.SizedLaws
import Derived.Carry
import Derived.Deep.DeepHandedRow
import Derived.Lib.LaidTab
import Derived.Test.YtgaofocjnifjdaaDoorJ02
import Derived.Deep.MidRow
import Derived.Test.YtgaofocjnifjdaaDoorJ02
import Derived.Test.YtgaofocjnifjdaaDoorMB
namespace Go.Proofs.YtgaofocjnifjdaaDoor
open Go Go.RowKit Go.ChangeShapes Go.WideShapes Go.ChangeAt
section
variable {H : Type} {enc : TypeId × Value → H} {P : Program}

/-- All arguments read behind the call as before it. -/
theorem carry_all (hl : laidOutB P = true) {W W' : World} (hb : Below W.heap.size W W') : ∀ (ts : List TypeId) (vs : List Value) (ds : List (DataW H)) (ps : List MemPlace), (∀ t ∈ ts, P.readableRec t = true ∧ t < P.types.size) →
    DataW.TrodAll enc P W 0 (fun _ => true) true ts vs ds ps → (∀ x ∈ ps, x.block < W.heap.size) → DataW.TrodAll enc P W' 0 (fun b => decide (b < W.heap.size)) true ts vs ds ps
  | [], vs, ds, ps, _, h, _ => by
    obtain ⟨rfl, rfl, rfl⟩ := trodAll_nil h
    rfl
  | t :: ts, vs, ds, ps, hr, h, hlt => by
    obtain ⟨v, vs', d, ds', p, q, rfl, rfl, rfl, h0, h1⟩ := trodAll_cons h
    exact ⟨p, q, Below.trod hl (hr t (by simp)).1 (hr t (by simp)).2 h0 hb (fun x hx => hlt x (by simp [hx])), carry_all hl hb ts vs' ds' q (fun t ht => hr t (by simp [ht])) h1 (fun x hx => hlt x (by simp [hx])), rfl⟩

/-- What a law leaves: true, and its arguments as they were. -/
theorem post_law {f : Func} {s : ChangeSpec} {W W' : World} {args : Array Value} {ds gs : List (DataW H)} {before : List MemPlace} {tb : TypeId}
    (hW : DataW.Whole enc P f.params.toList s.vars false W args.toList ds gs before) (hv : s.vars = []) (hfn : s.fn H (ds ++ gs) = { results := [.lit (.bool true)], args := ds })
    (hrt : f.resultTypes = #[tb]) (htb : P.underlying tb = some .bool) (hl : laidOutB P = true) (hr : ∀ t ∈ f.params.toList, P.readableRec t = true ∧ t < P.types.size) (hb : Below W.heap.size W W') :
    s.post enc P f false true false false W args (.bool true) W' := by
  have hW' := hW
  obtain ⟨p, q, hA, hV, rfl, hfz, _⟩ := hW
  have hlt : ∀ x ∈ p ++ q, x.block < W.heap.size := fun x hx => by simpa using hW'.lt x hx
  have hV' : gs = [] ∧ q = [] := by
    rw [hv] at hV
    cases gs <;> simp [DataW.TrodVars] at hV
    exact ⟨rfl, hV⟩
  obtain ⟨rfl, rfl⟩ := hV'
  refine ⟨ds, [], p ++ [], [], p, [], hW', ?_, ?_, ?_, hb.frame _, fun h => nomatch h⟩
  · rw [hfn, hrt]
    exact trodAll_cons_mk (shut_bool htb _) trodAll_mk0
  · rw [hfn]
    exact carry_all hl hb _ _ _ _ hr hA (fun x hx => hlt x (by simp [hx]))
  · rw [hv, hfn]
    rfl

/-- An argument of type []byte: the bytes that it reads as, and how its reading is spelled. -/
theorem open_bytes {t e : TypeId} (ht : P.underlying t = some (.slice e)) (he : P.underlying e = some (.int .u8)) (hc : P.cellsOf e = 1) {W : World} {r : Reach} {b0 : Nat} {v : Value} {d : DataW H} {ps : List MemPlace}
    (hval : Value.okWide P W r b0 t v) (h : DataW.Trod enc P W 0 (fun _ => true) true t v d ps) :
    ∃ A c bs, v = .slice A bs.length c ∧ Rd W W.heap.size A c bs ∧ ((d = .nil ∧ bs = []) ∨ ∃ sp, d = .slice (bs.map fun b => .lit (.int .u8 (b.toNat : Int))) sp) := by
  obtain ⟨a0, len, cap, rfl⟩ := okWide_slice ht hval
  obtain ⟨fuel, hf⟩ := h
  rcases open_ints ht he hc hf with ⟨hcs, hx⟩ | ⟨a, len', cap', zs, hcs, _, hl, hm, hz, hx, hcell, hwz⟩
  · simp [Value.cells] at hcs
    obtain ⟨rfl, rfl, rfl⟩ := hcs
    simp only [Prod.mk.injEq] at hx
    obtain ⟨rfl, rfl⟩ := hx
    exact ⟨none, 0, [], rfl, ⟨by simp, fun _ => ⟨rfl, rfl⟩, fun h => absurd rfl h⟩, .inl ⟨rfl, rfl⟩⟩
  · simp [Value.cells] at hcs
    obtain ⟨rfl, rfl, rfl⟩ := hcs
    simp only [Prod.mk.injEq] at hx
    obtain ⟨rfl, rfl⟩ := hx
    simp only [if_true] at hz
    have hb : ∀ z ∈ zs, 0 ≤ z ∧ z ≤ 255 := fun z hzm => by simpa [Lit.wf, IntKind.min, IntKind.max, IntKind.signed, IntKind.bits] using hwz z hzm
    have hlen : ((zs.take len).map fun z => UInt8.ofNat z.toNat).length = len := by simp; omega
    have hnth : ∀ k, k < len → (nth ((zs.take len).map fun z => UInt8.ofNat z.toNat) k : Int) = zs.getD k 0 := fun k hk => by
      rw [nth_get (by omega)]
      have hk' : k < zs.length := by omega
      have := hb zs[k] (List.getElem_mem hk')
      simp [List.getD, hk']
      omega
    refine ⟨some a, cap, (zs.take len).map fun z => UInt8.ofNat z.toNat, by rw [hlen], ⟨by omega, (fun h => nomatch h), fun hne => ?_⟩, .inr ⟨_, congrArg (fun l => DataW.slice l _) ?_⟩⟩
    · have h0 : 0 < len := by
        rcases Nat.eq_zero_or_pos len with h | h
        · subst h; simp at hne
        · exact h
      have c0 := hcell 0 (by omega)
      have hsp : a.spot = none := by
        have : a.add 0 = a := by simp [Addr.add]
        rw [this] at c0
        unfold World.cell? at c0
        cases hs : a.spot with
        | none => rfl
        | some s => rw [hs] at c0; revert c0; split <;> simp
      obtain ⟨b, o, sp⟩ := a
      simp only at hsp
      subst hsp
      refine ⟨b, o, rfl, World.block_lt_of_cell? W _ c0, fun k hk => ?_⟩
      rw [hnth k (by omega), ← hcell k (by omega), Addr.add_lit]
    · have hw : ∀ z ∈ zs.take len, 0 ≤ z ∧ z ≤ 255 := fun z hzm => hb z (List.mem_of_mem_take hzm)
      simp only [lits, List.map_map]
      refine List.map_congr_left fun z hzm => ?_
      have := hw z hzm
      simp
      omega

/-- So long a slice of bytes can be. -/
theorem bytes_reach {ts : List TypeId} {ds : List (DataW H)} (h : (DataW.weightsEach P ts ds).all (· ≤ reachBytes) = true) {j : Nat} {t e : TypeId} (ht : ts[j]? = some t) (hu : P.underlying t = some (.slice e)) (hby : P.bytesOf e = 1) {d : DataW H} (hd : ds[j]? = some d) {bs : List UInt8}
    (hx : (d = .nil ∧ bs = []) ∨ ∃ sp, d = .slice (bs.map fun b => .lit (.int .u8 (b.toNat : Int))) sp) : bs.length ≤ 140737488351232 := by
  rcases hx with ⟨_, rfl⟩ | ⟨sp, rfl⟩
  · simp
  · have := sized_slice h ht hd hu
    rw [hby] at this
    simp only [List.length_map, reachBytes] at this
    omega
end
end Go.Proofs.YtgaofocjnifjdaaDoor
namespace Go.Proofs.YtgaofocjnifjdaaDoor
theorem P25_big : 2 < P25 := by decide +kernel
instance zeroP : NeZero P25 := ⟨by decide +kernel⟩
abbrev Fp := Fin P25
def toF (n : Nat) : Fp := Fin.ofNat P25 n
theorem toF_val (n : Nat) : (toF n).val = n % P25 := rfl
theorem toF_eq {m n : Nat} : toF m = toF n ↔ m % P25 = n % P25 := ⟨fun h => congrArg Fin.val h, fun h => Fin.ext h⟩
theorem toF_self (x : Fp) : toF x.val = x := Fin.ext (Nat.mod_eq_of_lt x.isLt)
theorem toF_mod (n : Nat) : toF (n % P25) = toF n := toF_eq.2 (Nat.mod_mod _ _)
theorem toF_add (m n : Nat) : toF (m + n) = toF m + toF n := Fin.ext (by rw [Fin.val_add, toF_val, toF_val, toF_val, ← Nat.add_mod])
theorem toF_mul (m n : Nat) : toF (m * n) = toF m * toF n := Fin.ext (by rw [Fin.val_mul, toF_val, toF_val, toF_val, ← Nat.mul_mod])
theorem toF_zero : toF 0 = 0 := rfl
theorem toF_one : toF 1 = 1 := rfl
theorem toF_pow (m k : Nat) : toF (m ^ k) = toF m ^ k := by
  induction k with
  | zero => rfl
  | succ k ih => rw [Nat.pow_succ, toF_mul, ih]; grind
/-- No two numbers but 0 make 0. -/
theorem mul_zero' {x y : Fp} (h : x * y = 0) : x = 0 ∨ y = 0 := by
  have h1 : x.val * y.val % P25 = 0 := by have := congrArg Fin.val h; rwa [Fin.val_mul] at this
  rcases prP.mul (Nat.dvd_of_mod_eq_zero h1) with h2 | h2
  · exact .inl (Fin.ext ((Nat.mod_eq_of_lt x.isLt).symm.trans (Nat.mod_eq_zero_of_dvd h2)))
  · exact .inr (Fin.ext ((Nat.mod_eq_of_lt y.isLt).symm.trans (Nat.mod_eq_zero_of_dvd h2)))
theorem mul_ne {x y : Fp} (hx : x ≠ 0) (hy : y ≠ 0) : x * y ≠ 0 := fun h => (mul_zero' h).elim hx hy
theorem cancel {a x y : Fp} (ha : a ≠ 0) (h : a * x = a * y) : x = y := by
  have : a * (x - y) = 0 := by grind
  rcases mul_zero' this with h1 | h1
  · exact absurd h1 ha
  · grind
def inv (x : Fp) : Fp := toF (x.val ^ (P25 - 2))
theorem einv_mul {x : Fp} (hx : x ≠ 0) : x * inv x = 1 := by
  have h0 : x.val % P25 ≠ 0 := fun h => hx (Fin.ext ((Nat.mod_eq_of_lt x.isLt).symm.trans h))
  have h1 := prP.fermat fun hd => h0 (Nat.mod_eq_zero_of_dvd hd)
  have h2 : x.val * x.val ^ (P25 - 2) = x.val ^ (P25 - 1) := by
    have : P25 - 1 = (P25 - 2) + 1 := by have := P25_big; omega
    rw [this, Nat.pow_succ, Nat.mul_comm]
  unfold inv
  rw [← toF_self x, ← toF_mul, toF_self x, h2, ← toF_mod, h1]
  rfl
theorem two_ne : (2 : Fp) ≠ 0 := fun h => by
  have := congrArg Fin.val h
  revert this
  decide +kernel
section
variable (d i : Fp)
/-- A point. -/
def On (x y : Fp) : Prop := y * y - x * x = 1 + d * (x * x) * (y * y)
end
variable {d i : Fp}
/-- d is no square: what a sum is divided by is never 0. -/
theorem full {x1 y1 x2 y2 e : Fp} (hi : i * i = -1) (hd : ∀ s : Fp, s * s ≠ d) (h1 : On d x1 y1) (h2 : On d x2 y2) (he : e * e = 1) : d * x1 * x2 * y1 * y2 ≠ e := by
  intro h
  unfold On at h1 h2
  have hne : e ≠ 0 := fun h => by rw [h] at he; revert he; decide +kernel
  have hx1 : x1 ≠ 0 := fun h0 => hne (by rw [← h, h0]; grind)
  have hy1 : y1 ≠ 0 := fun h0 => hne (by rw [← h, h0]; grind)
  have hx2 : x2 ≠ 0 := fun h0 => hne (by rw [← h, h0]; grind)
  have hi0 : i ≠ 0 := fun h0 => by rw [h0] at hi; revert hi; decide +kernel
  have k1 : (y1 + e * i * x1) * (y1 + e * i * x1) = d * ((x1 * y1 * (y2 + i * x2)) * (x1 * y1 * (y2 + i * x2))) := by grind
  have k2 : (y1 - e * i * x1) * (y1 - e * i * x1) = d * ((x1 * y1 * (y2 - i * x2)) * (x1 * y1 * (y2 - i * x2))) := by grind
  have key : ∀ a b : Fp, b ≠ 0 → a * a = d * (b * b) → False := fun a b hb hab => by
    have hI := einv_mul hb
    exact hd (a * inv b) (by grind)
  by_cases h0 : y2 + i * x2 = 0
  · refine key _ _ (mul_ne (mul_ne hx1 hy1) ?_) k2
    intro h3
    have : 2 * (i * x2) = 0 := by grind
    rcases mul_zero' this with h4 | h4
    · exact two_ne h4
    · rcases mul_zero' h4 with h5 | h5
      · exact hi0 h5
      · exact hx2 h5
  · exact key _ _ (mul_ne (mul_ne hx1 hy1) h0) k1
end Go.Proofs.YtgaofocjnifjdaaDoor
namespace Go.Proofs.YtgaofocjnifjdaaDoor
open Go Go.RowKit
/-- The k-th digit to the base 65536. -/
def d16 (x k : Nat) : Nat := dgt 65536 x k
theorem d16_lt (x k : Nat) : d16 x k < 65536 := dgt_lt (by decide) _ _
theorem W4_d16 : W4 = 65536 ^ 16 := by decide +kernel
def dv16 (x k : Nat) : Value := .int .i64 (d16 x k : Int)
def fl (x : Nat) : List Value := (List.range 16).map (dv16 x)
/-- An element, as a value. -/
abbrev fv (x : Nat) : Value := .agg (fl x).toArray
section
variable {w w' : World} {B g : Nat}
theorem OwnF.range {e : TypeId} {c n : Nat} {f : Nat → Value} (h : OwnF w B e (some ⟨g, 0, none⟩) c n f) {cs : List Value} (hl : cs.length ≤ n) (hc : ∀ k, k < cs.length → cs[k]? = some (f k)) : w.rangeAt g 0 cs := by
  intro j v hj
  have hlt : j < cs.length := (List.getElem?_eq_some_iff.1 hj).1
  rw [Nat.zero_add, OwnF.cell h (by omega), ← hc j hlt, hj]
/-- Another number is laid there. -/
def set16w (w : World) (g y : Nat) : World := w.setCells g 0 (fl y)
variable {x : Nat}
end
section
variable {ops : Array Oper} {rest : List Oper} {a : Act} {w : World} {Q : Exit → Act → World → Prop} {B g v : Nat} {dst : Option Nat} {tp : TypeId} {ps : String} {af : Array Edge} {x y : Operand}
end
end Go.Proofs.YtgaofocjnifjdaaDoor

namespace Go.Proofs.YtgaofocjnifjdaaDoor
open Go Go.RowKit
section
variable {P : Program}
end
def slen : Value → Nat
  | .slice _ n _ => n
  | _ => 0
set_option maxRecDepth 20000
end Go.Proofs.YtgaofocjnifjdaaDoor

namespace Go.Proofs.YtgaofocjnifjdaaDoor
open Go Go.RowKit
def pv (x k j : Nat) : Value := .int .i64 (d16 (x % 256 ^ k) j : Int)
attribute [local irreducible] wd by8 d16 set16w fl
set_option maxRecDepth 20000
end Go.Proofs.YtgaofocjnifjdaaDoor

namespace Go.Proofs.YtgaofocjnifjdaaDoor
open Go Go.RowKit
section
variable {P : Program}
end
attribute [local irreducible] wd by8 d16 set16w fl
set_option maxRecDepth 20000
end Go.Proofs.YtgaofocjnifjdaaDoor
namespace Go.Proofs.YtgaofocjnifjdaaDoor
open Go Go.RowKit
set_option maxRecDepth 20000
theorem own9_any {A : Option Addr} {B c : Nat} {bs : List UInt8} (w : World) (hr : Rd w B A c bs) (hB : B ≤ w.heap.size) (hl : bs.length ≤ 140737488355328) :
    Calls Tryd.prog 7 #[.slice A bs.length c] w fun e w' => ∃ A' c', e = .returned (.slice A' bs.length c') ∧ Own w' w.heap.size 5 A' c' bs ∧ Below w.heap.size w w' := by
  obtain ⟨i0, hi, hz0, hz1, hz2⟩ := info_parts infoByte
  have h2 : Rd (w.alloc (.cells #[] 5)) B A c bs := hr.keep ((Below.refl B w).alloc hB _)
  have h3 : Own (w.alloc (.cells #[] 5)) w.heap.size 5 (some ⟨w.heap.size, 0, none⟩) 0 [] := World.ownsRow_made w #[] 0 (Nat.le_refl _) (by decide) (by decide)
  have h4 : Below w.heap.size w (w.alloc (.cells #[] 5)) := (Below.refl _ w).alloc (Nat.le_refl _) _
  go_enter Tryd.func7, Tryd.ntmps7
  go_wp2_with (at_builtin; refine wpList_app _ rfl (.tmp 3) (.tmp 4) _ rfl w.heap.size 5 i0 _ Tryd.underlying22 hi hz0 hz1 hz2 rfl (xs := []) rfl h3 rfl h2 (by simpa using hl) (by simp) ?_; intro A1 c1 v1 ho hb)
  replace ho : Own v1 w.heap.size 5 A1 c1 bs := ho
  go_ret
  exact ⟨A1, c1, rfl, ho, h4.trans hb⟩
theorem own9_rd (bs : List UInt8) (A : Option Addr) (c : Nat) (w : World) (hl : bs.length ≤ 140737488355328) (hr : Rd w w.heap.size A c bs) :
    Calls Tryd.prog 7 #[.slice A bs.length c] w fun e w' => ∃ A' c', e = .returned (.slice A' bs.length c') ∧ Rd w' w'.heap.size A' c' bs ∧ Below w.heap.size w w' :=
  (own9_any w hr (Nat.le_refl _) hl).mono fun _ _ ⟨A', c', he, o, hb⟩ => ⟨A', c', he, o.rd, hb⟩
/-- 32 noughts. -/
def zer9 : List UInt8 := List.replicate 32 0
theorem zer9_len : zer9.length = 32 := by simp [zer9]
theorem mk9 (w : World) : Rd (w.alloc (.cells (madeCells #[.int .u8 0] 32) 5)) (w.alloc (.cells (madeCells #[.int .u8 0] 32) 5)).heap.size (some ⟨w.heap.size, 0, none⟩) 32 zer9 := (Own.made (w := w) (B := w.heap.size) 5 (Nat.le_refl _) (by decide)).rd
theorem awake9_gen {G : World → Prop} (hGn : ∀ w w', G w → Below w.heap.size w w' → G w') {L : List UInt8} (hl : L.length = 32) (s0 : nth L 0 = 59) (s1 : nth L 1 = 106)
    (kp : ∀ (A : Option Addr) (c : Nat) (w : World), G w → Rd w w.heap.size A c zer9 → Calls Tryd.prog 8 #[.slice A 32 c] w fun e w' => ∃ A2 c2, e = .returned (.tuple #[.slice A2 32 c2, .int .i64 0]) ∧ Rd w' w'.heap.size A2 c2 L ∧ Below w.heap.size w w')
    (kv : ∀ (A : Option Addr) (c : Nat) (w : World), G w → Rd w w.heap.size A c L → Calls Tryd.prog 9 #[.slice A 32 c, .slice none 0 0, .slice none 0 0] w fun e w' => e = .returned (.int .i64 1) ∧ Below w.heap.size w w')
    (w : World) (hG : G w) : Calls Tryd.prog 5 #[] w fun e w' => e = .returned (.bool true) ∧ Below w.heap.size w w' := by
  obtain ⟨i0, hi, hz0, hz1, hz2⟩ := info_parts infoByte
  have hmk := run_mk (P := Tryd.prog) 22 5 i0 Tryd.underlying22 hi hz0 hz1 hz2 (l := 32) (n := 32) rfl (by omega)
  have hb := (Below.refl _ w).alloc (Nat.le_refl _) (.cells (madeCells #[.int .u8 0] 32) 5)
  have KP := Lib.hid (kp _ _ _ (hGn _ _ hG hb) (mk9 w))
  have KV := Lib.hid kv
  have HB := Lib.hid hb
  have HG := Lib.hid hG
  have GN := Lib.hid hGn
  clear kp kv hb hG hGn
  go_enter Tryd.func5, Tryd.ntmps5
  go_wp2_with fail
  go_at_call 8
  refine KP.out.mono ?_
  rintro e v1 ⟨A1, c1, rfl, r1, hb⟩
  have hc := HB.out.trans (hb.mono HB.out.size)
  have KQ := Lib.hid (KV.out A1 c1 v1 (GN.out _ _ HG.out hc) r1)
  clear hb KP HB hmk
  obtain ⟨b1, o1, rfl, _, x0⟩ := r1.at_ (k := 0) (by omega)
  obtain ⟨b2, o2, e2, _, x1⟩ := r1.at_ (k := 1) (by omega)
  simp only [Option.some.injEq, Addr.mk.injEq, and_true] at e2
  obtain ⟨rfl, rfl⟩ := e2
  rw [s0] at x0
  rw [s1] at x1
  rw [Nat.add_zero] at x0
  clear r1
  go_wp2_with fail
  go_at_call 9
  refine KQ.out.mono ?_
  rintro e v2 ⟨rfl, hb⟩
  replace hc := hc.trans (hb.mono hc.size)
  go_wp2_with fail
  go_ret
  exact ⟨rfl, hc⟩
end Go.Proofs.YtgaofocjnifjdaaDoor
