/-
  From what a law's arguments read as to what its walk asks, and from the walk to the row: of no program. By an AI agent. Numbers modulo 2^255 - 19 as a field; points of -x^2 + y^2 = 1 + d x^2 y^2, d no square: their sums are points, hang on no order and no brackets. Of no program. By an AI agent. Numbers of four words in blocks of the call's own, of whatever type (api.Num, scalar.Scalar); the order L. By an AI agent. Layer 9's own, awake over contracts. By an AI agent. Layer 9's SignPublics, SignSigns, SignVerifies over contracts. Written by tools/gen_g7.py. By an AI agent.
-/
import Derived.Test.YtkbkalhcdbklkaaGreatDoorMA
import Derived.ProofKit
import Derived.OpenShut
import Derived.SizedLaws
import Derived.Carry
import Derived.Deep.DeepHandedRow
import Derived.Lib.LaidTab
import Derived.Test.YtkbkalhcdbklkaaGreatDoorMF
import Derived.Test.YtkbkalhcdbklkaaGreatDoorME
import Derived.Test.YtkbkalhcdbklkaaGreatDoorMB
import Derived.Test.YtkbkalhcdbklkaaGreatDoorJ02
namespace Go.Proofs.YtkbkalhcdbklkaaGreatDoor
open Go Go.RowKit Go.ChangeShapes Go.WideShapes Go.ChangeAt
section
variable {H : Type} {enc : TypeId × Value → H} {P : Program}

/-- All arguments read behind the call as before it. -/
theorem carry_all (hl : laidOutB P = true) {W W' : World} (hb : Below W.heap.size W W') : ∀ (ts : List TypeId) (vs : List Value) (ds : List (DataW H)) (ps : List MemPlace), (∀ t ∈ ts, P.readableRec t = true ∧ t < P.types.size) →
    DataW.TrodAll enc P W 0 (fun _ => true) true ts vs ds ps → (∀ x ∈ ps, x.block < W.heap.size) → DataW.TrodAll enc P W' 0 (fun b => decide (b < W.heap.size)) true ts vs ds ps
  | [], vs, ds, ps, _, h, _ => by
    obtain ⟨rfl, rfl, rfl⟩ := trodAll_nil h
    rfl
  | t :: ts, vs, ds, ps, hr, h, hlt => by
    obtain ⟨v, vs', d, ds', p, q, rfl, rfl, rfl, h0, h1⟩ := trodAll_cons h
    exact ⟨p, q, Below.trod hl (hr t (by simp)).1 (hr t (by simp)).2 h0 hb (fun x hx => hlt x (by simp [hx])), carry_all hl hb ts vs' ds' q (fun t ht => hr t (by simp [ht])) h1 (fun x hx => hlt x (by simp [hx])), rfl⟩

/-- What a law leaves: true, and its arguments as they were. -/
theorem post_law {f : Func} {s : ChangeSpec} {W W' : World} {args : Array Value} {ds gs : List (DataW H)} {before : List MemPlace} {tb : TypeId}
    (hW : DataW.Whole enc P f.params.toList s.vars false W args.toList ds gs before) (hv : s.vars = []) (hfn : s.fn H (ds ++ gs) = { results := [.lit (.bool true)], args := ds })
    (hrt : f.resultTypes = #[tb]) (htb : P.underlying tb = some .bool) (hl : laidOutB P = true) (hr : ∀ t ∈ f.params.toList, P.readableRec t = true ∧ t < P.types.size) (hb : Below W.heap.size W W') :
    s.post enc P f false true false false W args (.bool true) W' := by
  have hW' := hW
  obtain ⟨p, q, hA, hV, rfl, hfz, _⟩ := hW
  have hlt : ∀ x ∈ p ++ q, x.block < W.heap.size := fun x hx => by simpa using hW'.lt x hx
  have hV' : gs = [] ∧ q = [] := by
    rw [hv] at hV
    cases gs <;> simp [DataW.TrodVars] at hV
    exact ⟨rfl, hV⟩
  obtain ⟨rfl, rfl⟩ := hV'
  refine ⟨ds, [], p ++ [], [], p, [], hW', ?_, ?_, ?_, hb.frame _, fun h => nomatch h⟩
  · rw [hfn, hrt]
    exact trodAll_cons_mk (shut_bool htb _) trodAll_mk0
  · rw [hfn]
    exact carry_all hl hb _ _ _ _ hr hA (fun x hx => hlt x (by simp [hx]))
  · rw [hv, hfn]
    rfl

/-- An argument of type []byte: the bytes that it reads as, and how its reading is spelled. -/
theorem open_bytes {t e : TypeId} (ht : P.underlying t = some (.slice e)) (he : P.underlying e = some (.int .u8)) (hc : P.cellsOf e = 1) {W : World} {r : Reach} {b0 : Nat} {v : Value} {d : DataW H} {ps : List MemPlace}
    (hval : Value.okWide P W r b0 t v) (h : DataW.Trod enc P W 0 (fun _ => true) true t v d ps) :
    ∃ A c bs, v = .slice A bs.length c ∧ Rd W W.heap.size A c bs ∧ ((d = .nil ∧ bs = []) ∨ ∃ sp, d = .slice (bs.map fun b => .lit (.int .u8 (b.toNat : Int))) sp) := by
  obtain ⟨a0, len, cap, rfl⟩ := okWide_slice ht hval
  obtain ⟨fuel, hf⟩ := h
  rcases open_ints ht he hc hf with ⟨hcs, hx⟩ | ⟨a, len', cap', zs, hcs, _, hl, hm, hz, hx, hcell, hwz⟩
  · simp [Value.cells] at hcs
    obtain ⟨rfl, rfl, rfl⟩ := hcs
    simp only [Prod.mk.injEq] at hx
    obtain ⟨rfl, rfl⟩ := hx
    exact ⟨none, 0, [], rfl, ⟨by simp, fun _ => ⟨rfl, rfl⟩, fun h => absurd rfl h⟩, .inl ⟨rfl, rfl⟩⟩
  · simp [Value.cells] at hcs
    obtain ⟨rfl, rfl, rfl⟩ := hcs
    simp only [Prod.mk.injEq] at hx
    obtain ⟨rfl, rfl⟩ := hx
    simp only [if_true] at hz
    have hb : ∀ z ∈ zs, 0 ≤ z ∧ z ≤ 255 := fun z hzm => by simpa [Lit.wf, IntKind.min, IntKind.max, IntKind.signed, IntKind.bits] using hwz z hzm
    have hlen : ((zs.take len).map fun z => UInt8.ofNat z.toNat).length = len := by simp; omega
    have hnth : ∀ k, k < len → (nth ((zs.take len).map fun z => UInt8.ofNat z.toNat) k : Int) = zs.getD k 0 := fun k hk => by
      rw [nth_get (by omega)]
      have hk' : k < zs.length := by omega
      have := hb zs[k] (List.getElem_mem hk')
      simp [List.getD, hk']
      omega
    refine ⟨some a, cap, (zs.take len).map fun z => UInt8.ofNat z.toNat, by rw [hlen], ⟨by omega, (fun h => nomatch h), fun hne => ?_⟩, .inr ⟨_, congrArg (fun l => DataW.slice l _) ?_⟩⟩
    · have h0 : 0 < len := by
        rcases Nat.eq_zero_or_pos len with h | h
        · subst h; simp at hne
        · exact h
      have c0 := hcell 0 (by omega)
      have hsp : a.spot = none := by
        have : a.add 0 = a := by simp [Addr.add]
        rw [this] at c0
        unfold World.cell? at c0
        cases hs : a.spot with
        | none => rfl
        | some s => rw [hs] at c0; revert c0; split <;> simp
      obtain ⟨b, o, sp⟩ := a
      simp only at hsp
      subst hsp
      refine ⟨b, o, rfl, World.block_lt_of_cell? W _ c0, fun k hk => ?_⟩
      rw [hnth k (by omega), ← hcell k (by omega), Addr.add_lit]
    · have hw : ∀ z ∈ zs.take len, 0 ≤ z ∧ z ≤ 255 := fun z hzm => hb z (List.mem_of_mem_take hzm)
      simp only [lits, List.map_map]
      refine List.map_congr_left fun z hzm => ?_
      have := hw z hzm
      simp
      omega

/-- So long a slice of bytes can be. -/
theorem bytes_reach {ts : List TypeId} {ds : List (DataW H)} (h : (DataW.weightsEach P ts ds).all (· ≤ reachBytes) = true) {j : Nat} {t e : TypeId} (ht : ts[j]? = some t) (hu : P.underlying t = some (.slice e)) (hby : P.bytesOf e = 1) {d : DataW H} (hd : ds[j]? = some d) {bs : List UInt8}
    (hx : (d = .nil ∧ bs = []) ∨ ∃ sp, d = .slice (bs.map fun b => .lit (.int .u8 (b.toNat : Int))) sp) : bs.length ≤ 140737488351232 := by
  rcases hx with ⟨_, rfl⟩ | ⟨sp, rfl⟩
  · simp
  · have := sized_slice h ht hd hu
    rw [hby] at this
    simp only [List.length_map, reachBytes] at this
    omega
end
end Go.Proofs.YtkbkalhcdbklkaaGreatDoor
namespace Go.Proofs.YtkbkalhcdbklkaaGreatDoor
theorem P25_big : 2 < P25 := by decide +kernel
instance zeroP : NeZero P25 := ⟨by decide +kernel⟩
abbrev Fp := Fin P25
def toF (n : Nat) : Fp := Fin.ofNat P25 n
theorem toF_val (n : Nat) : (toF n).val = n % P25 := rfl
theorem toF_eq {m n : Nat} : toF m = toF n ↔ m % P25 = n % P25 := ⟨fun h => congrArg Fin.val h, fun h => Fin.ext h⟩
theorem toF_self (x : Fp) : toF x.val = x := Fin.ext (Nat.mod_eq_of_lt x.isLt)
theorem toF_mod (n : Nat) : toF (n % P25) = toF n := toF_eq.2 (Nat.mod_mod _ _)
theorem toF_add (m n : Nat) : toF (m + n) = toF m + toF n := Fin.ext (by rw [Fin.val_add, toF_val, toF_val, toF_val, ← Nat.add_mod])
theorem toF_mul (m n : Nat) : toF (m * n) = toF m * toF n := Fin.ext (by rw [Fin.val_mul, toF_val, toF_val, toF_val, ← Nat.mul_mod])
theorem toF_one : toF 1 = 1 := rfl
theorem toF_pow (m k : Nat) : toF (m ^ k) = toF m ^ k := by
  induction k with
  | zero => rfl
  | succ k ih => rw [Nat.pow_succ, toF_mul, ih]; grind
/-- No two numbers but 0 make 0. -/
theorem mul_zero' {x y : Fp} (h : x * y = 0) : x = 0 ∨ y = 0 := by
  have h1 : x.val * y.val % P25 = 0 := by have := congrArg Fin.val h; rwa [Fin.val_mul] at this
  rcases prP.mul (Nat.dvd_of_mod_eq_zero h1) with h2 | h2
  · exact .inl (Fin.ext ((Nat.mod_eq_of_lt x.isLt).symm.trans (Nat.mod_eq_zero_of_dvd h2)))
  · exact .inr (Fin.ext ((Nat.mod_eq_of_lt y.isLt).symm.trans (Nat.mod_eq_zero_of_dvd h2)))
theorem mul_ne {x y : Fp} (hx : x ≠ 0) (hy : y ≠ 0) : x * y ≠ 0 := fun h => (mul_zero' h).elim hx hy
theorem cancel {a x y : Fp} (ha : a ≠ 0) (h : a * x = a * y) : x = y := by
  have : a * (x - y) = 0 := by grind
  rcases mul_zero' this with h1 | h1
  · exact absurd h1 ha
  · grind
def inv (x : Fp) : Fp := toF (x.val ^ (P25 - 2))
theorem einv_mul {x : Fp} (hx : x ≠ 0) : x * inv x = 1 := by
  have h0 : x.val % P25 ≠ 0 := fun h => hx (Fin.ext ((Nat.mod_eq_of_lt x.isLt).symm.trans h))
  have h1 := prP.fermat fun hd => h0 (Nat.mod_eq_zero_of_dvd hd)
  have h2 : x.val * x.val ^ (P25 - 2) = x.val ^ (P25 - 1) := by
    have : P25 - 1 = (P25 - 2) + 1 := by have := P25_big; omega
    rw [this, Nat.pow_succ, Nat.mul_comm]
  unfold inv
  rw [← toF_self x, ← toF_mul, toF_self x, h2, ← toF_mod, h1]
  rfl
theorem two_ne : (2 : Fp) ≠ 0 := fun h => by
  have := congrArg Fin.val h
  revert this
  decide +kernel
section
variable (d i : Fp)
/-- A point. -/
def On (x y : Fp) : Prop := y * y - x * x = 1 + d * (x * x) * (y * y)
end
variable {d i : Fp}
/-- d is no square: what a sum is divided by is never 0. -/
theorem full {x1 y1 x2 y2 e : Fp} (hi : i * i = -1) (hd : ∀ s : Fp, s * s ≠ d) (h1 : On d x1 y1) (h2 : On d x2 y2) (he : e * e = 1) : d * x1 * x2 * y1 * y2 ≠ e := by
  intro h
  unfold On at h1 h2
  have hne : e ≠ 0 := fun h => by rw [h] at he; revert he; decide +kernel
  have hx1 : x1 ≠ 0 := fun h0 => hne (by rw [← h, h0]; grind)
  have hy1 : y1 ≠ 0 := fun h0 => hne (by rw [← h, h0]; grind)
  have hx2 : x2 ≠ 0 := fun h0 => hne (by rw [← h, h0]; grind)
  have hi0 : i ≠ 0 := fun h0 => by rw [h0] at hi; revert hi; decide +kernel
  have k1 : (y1 + e * i * x1) * (y1 + e * i * x1) = d * ((x1 * y1 * (y2 + i * x2)) * (x1 * y1 * (y2 + i * x2))) := by grind
  have k2 : (y1 - e * i * x1) * (y1 - e * i * x1) = d * ((x1 * y1 * (y2 - i * x2)) * (x1 * y1 * (y2 - i * x2))) := by grind
  have key : ∀ a b : Fp, b ≠ 0 → a * a = d * (b * b) → False := fun a b hb hab => by
    have hI := einv_mul hb
    exact hd (a * inv b) (by grind)
  by_cases h0 : y2 + i * x2 = 0
  · refine key _ _ (mul_ne (mul_ne hx1 hy1) ?_) k2
    intro h3
    have : 2 * (i * x2) = 0 := by grind
    rcases mul_zero' this with h4 | h4
    · exact two_ne h4
    · rcases mul_zero' h4 with h5 | h5
      · exact hi0 h5
      · exact hx2 h5
  · exact key _ _ (mul_ne (mul_ne hx1 hy1) h0) k1
end Go.Proofs.YtkbkalhcdbklkaaGreatDoor
namespace Go.Proofs.YtkbkalhcdbklkaaGreatDoor
open Go Go.RowKit
abbrev AE (e : TypeId) (x : Nat) : Obj := .cells #[.int .u64 (wd x 0 : Int), .int .u64 (wd x 1 : Int), .int .u64 (wd x 2 : Int), .int .u64 (wd x 3 : Int)] e
abbrev ZE (e : TypeId) : Obj := .cells #[.int .u64 0, .int .u64 0, .int .u64 0, .int .u64 0] e
/-- The block 'g', which the call made (from 'B' on), holds the number x. -/
def T4 (w : World) (B g x : Nat) : Prop := ∃ e, OwnF w B e (some ⟨g, 0, none⟩) 4 4 (wv x)
section
variable {w w' : World} {B g x : Nat}
theorem T4.keep (h : T4 w B g x) (hb : Below w.heap.size w w') : T4 w' B g x := let ⟨e, o⟩ := h; ⟨e, OwnF.keep o hb⟩
theorem T4.alloc (h : T4 w B g x) (o : Obj) : T4 (w.alloc o) B g x := h.keep ((Below.refl _ w).alloc (Nat.le_refl _) o)
theorem T4.new (hB : B ≤ w.heap.size) (e : TypeId) (x : Nat) : T4 (w.alloc (AE e x)) B w.heap.size x := ⟨e, OwnF.lit _ hB _ 4 _ (by decide) rfl⟩
theorem T4.zero (hB : B ≤ w.heap.size) (e : TypeId) : T4 (w.alloc (ZE e)) B w.heap.size 0 := ⟨e, (OwnF.lit e hB #[.int .u64 0, .int .u64 0, .int .u64 0, .int .u64 0] 4 (fun _ => .int .u64 0) (by decide) rfl).congr fun k _ => by simp [wv, wd, dgt]⟩
theorem T4.drew (h : T4 w B g x) : T4 w.drew B g x := let ⟨e, o⟩ := h; ⟨e, OwnF.drew o⟩
theorem T4.lt (h : T4 w B g x) : g < w.heap.size := let ⟨_, o⟩ := h; OwnF.lt o
theorem T4.ge (h : T4 w B g x) : B ≤ g := let ⟨_, o⟩ := h; OwnF.ge o
theorem T4.mono {B' : Nat} (h : T4 w B g x) (hb : B' ≤ B) : T4 w B' g x := let ⟨e, o⟩ := h; ⟨e, OwnF.mono o hb⟩
theorem T4.c4 (h : T4 w B g x) : w.cell? ⟨g, 0, none⟩ = some (.int .u64 (wd x 0 : Int)) ∧ w.cell? ⟨g, 1, none⟩ = some (.int .u64 (wd x 1 : Int)) ∧ w.cell? ⟨g, 2, none⟩ = some (.int .u64 (wd x 2 : Int)) ∧ w.cell? ⟨g, 3, none⟩ = some (.int .u64 (wd x 3 : Int)) :=
  let ⟨_, h⟩ := h; ⟨OwnF.cell h (k := 0) (by decide), OwnF.cell h (k := 1) (by decide), OwnF.cell h (k := 2) (by decide), OwnF.cell h (k := 3) (by decide)⟩
theorem T4.f4 (h : T4 w B g x) : w.frozen? ⟨g, 0, none⟩ = false ∧ w.frozen? ⟨g, 1, none⟩ = false ∧ w.frozen? ⟨g, 2, none⟩ = false ∧ w.frozen? ⟨g, 3, none⟩ = false :=
  let ⟨_, h⟩ := h; ⟨OwnF.free h 0, OwnF.free h 1, OwnF.free h 2, OwnF.free h 3⟩
theorem T4.put (h : T4 w B g x) (y : Nat) : T4 (set4w w g y) B g y := let ⟨e, o⟩ := h; ⟨e, put4o o y⟩
theorem T4.other {g' : Nat} (h : T4 w B g x) (hg : g' ≠ g) (y : Nat) : T4 (set4w w g' y) B g x := let ⟨e, o⟩ := h; ⟨e, other4 o hg y⟩
theorem T4.below (h : T4 w B g x) (y : Nat) : Below B w (set4w w g y) := (set4w_below w g y).mono h.ge
theorem T4.out (h : T4 w B g x) (y : Nat) : ∃ wz, wz = ((((w.setCell ⟨g, 0, none⟩ (.int .u64 (wd y 0 : Int))).setCell ⟨g, 1, none⟩ (.int .u64 (wd y 1 : Int))).setCell ⟨g, 2, none⟩ (.int .u64 (wd y 2 : Int))).setCell ⟨g, 3, none⟩ (.int .u64 (wd y 3 : Int))) ∧
    T4 wz B g y ∧ Below B w wz ∧ wz.heap.size = w.heap.size := ⟨_, rfl, h.put y, h.below y, set4w_size w g y⟩
theorem T4.nv (h : T4 w B g x) {y : Nat} (e : ∀ k, k < 4 → wd x k = wd y k) : T4 w B g y := let ⟨t, o⟩ := h; ⟨t, OwnF.congr o fun k hk => by unfold wv; rw [e k hk]⟩
end
/-- The result's block, behind a call that came after some boxes. -/
theorem tres1 {w w1 : World} {e : TypeId} (h : Below (w.alloc (ZE e)).heap.size (w.alloc (ZE e)) w1) : T4 w1 w.heap.size w.heap.size 0 ∧ Below w.heap.size w w1 :=
  ⟨(T4.zero (w := w) (Nat.le_refl _) e).keep h, ((Below.refl _ w).alloc (Nat.le_refl _) (ZE e)).trans (h.mono (by simp))⟩
theorem tres2 {w w1 : World} {X : Obj} {e : TypeId} (h : Below ((w.alloc X).alloc (ZE e)).heap.size ((w.alloc X).alloc (ZE e)) w1) : T4 w1 w.heap.size (w.heap.size + 1) 0 ∧ Below w.heap.size w w1 := by
  have s1 : (w.alloc X).heap.size = w.heap.size + 1 := by simp
  have o := (T4.zero (w := w.alloc X) (Nat.le_refl _) e).keep h
  rw [s1] at o
  exact ⟨o.mono (by omega), (((Below.refl _ w).alloc (Nat.le_refl _) X).alloc (by omega) (ZE e)).trans (h.mono (by simp; omega))⟩
theorem tres3 {w w1 : World} {X Y : Obj} {e : TypeId} (h : Below (((w.alloc X).alloc Y).alloc (ZE e)).heap.size (((w.alloc X).alloc Y).alloc (ZE e)) w1) : T4 w1 w.heap.size (w.heap.size + 2) 0 ∧ Below w.heap.size w w1 := by
  have s1 : ((w.alloc X).alloc Y).heap.size = w.heap.size + 2 := by simp
  have o := (T4.zero (w := (w.alloc X).alloc Y) (Nat.le_refl _) e).keep h
  rw [s1] at o
  exact ⟨o.mono (by omega), ((((Below.refl _ w).alloc (Nat.le_refl _) X).alloc (by simp) Y).alloc (by omega) (ZE e)).trans (h.mono (by simp; omega))⟩
theorem tkeepZ {W w' : World} {e : TypeId} (h : Below (W.alloc (ZE e)).heap.size (W.alloc (ZE e)) w') : T4 w' W.heap.size W.heap.size 0 := (T4.zero (w := W) (Nat.le_refl _) e).keep h
theorem tkeepZd {W w' : World} {e : TypeId} (h : Below (W.alloc (ZE e)).drew.heap.size (W.alloc (ZE e)).drew w') : T4 w' W.heap.size W.heap.size 0 := ((T4.zero (w := W) (Nat.le_refl _) e).drew).keep h
theorem keep8 {w : World} {B g x : Nat} {e : TypeId} (h : OwnF w B e (some ⟨g, 0, none⟩) 8 8 (wv x)) : ∀ wz, Below w.heap.size w wz → wz.cell? ⟨g, 0, none⟩ = some (.int .u64 (wd x 0 : Int)) ∧ wz.cell? ⟨g, 1, none⟩ = some (.int .u64 (wd x 1 : Int)) ∧ wz.cell? ⟨g, 2, none⟩ = some (.int .u64 (wd x 2 : Int)) ∧ wz.cell? ⟨g, 3, none⟩ = some (.int .u64 (wd x 3 : Int)) ∧ wz.cell? ⟨g, 4, none⟩ = some (.int .u64 (wd x 4 : Int)) ∧ wz.cell? ⟨g, 5, none⟩ = some (.int .u64 (wd x 5 : Int)) ∧ wz.cell? ⟨g, 6, none⟩ = some (.int .u64 (wd x 6 : Int)) ∧ wz.cell? ⟨g, 7, none⟩ = some (.int .u64 (wd x 7 : Int)) := fun _ hz =>
  let h := OwnF.keep h hz; ⟨OwnF.cell h (k := 0) (by decide), OwnF.cell h (k := 1) (by decide), OwnF.cell h (k := 2) (by decide), OwnF.cell h (k := 3) (by decide), OwnF.cell h (k := 4) (by decide), OwnF.cell h (k := 5) (by decide), OwnF.cell h (k := 6) (by decide), OwnF.cell h (k := 7) (by decide)⟩
/-- The order of the base point. -/
def LL : Nat := 7237005577332262213973186563042994240857116359379907606001950938285454250989
theorem LL_pos : 0 < LL := by decide
theorem LL_W4 : LL < W4 := by decide +kernel
theorem LL_lt (x : Nat) : x % LL < W4 := Nat.lt_trans (Nat.mod_lt _ LL_pos) LL_W4
theorem l_order : nv LL = lit4 6346243789798364141 1503914060200516822 0 1152921504606846976 := by kernel_rfl
/-- Four words and one above them. -/
abbrev dv5 (s : Nat) (c : Int) : Value := .agg #[.int .u64 (wd s 0 : Int), .int .u64 (wd s 1 : Int), .int .u64 (wd s 2 : Int), .int .u64 (wd s 3 : Int), .int .u64 c, .int .u64 0, .int .u64 0, .int .u64 0]
theorem dv_five (s : Nat) {c : Nat} (hc : c < 18446744073709551616) : dv5 s c = dv (s % W4 + W4 * c) := by
  have h0 : wd c 0 = c := by unfold wd dgt; rw [Nat.pow_zero, Nat.div_one, Nat.mod_eq_of_lt hc]
  have hk : ∀ k, 1 ≤ k → wd c k = 0 := fun k hk => dgt_zero_of_lt (Nat.lt_of_lt_of_le hc (by have := Nat.pow_le_pow_right (n := 18446744073709551616) (by decide) hk; rwa [Nat.pow_one] at this))
  have e1 : (s % W4 + W4 * c) % W4 = s % W4 := by rw [Nat.add_mul_mod_self_left, Nat.mod_mod]
  have e2 : (s % W4 + W4 * c) / W4 = c := by rw [Nat.add_mul_div_left _ _ W4_pos, Nat.div_eq_of_lt (Nat.mod_lt _ W4_pos), Nat.zero_add]
  rw [dv_split, e1, e2]
  unfold dv5 dvs
  rw [h0, hk 1 (by omega), hk 2 (by omega), hk 3 (by omega), wd_mod s (by decide), wd_mod s (by decide), wd_mod s (by decide), wd_mod s (by decide)]
  rfl
theorem order_any (w : World) : Calls Tryz.prog 63 #[] w fun e w' => e = .returned (nv LL) ∧ Below w.heap.size w w' := by
  rw [l_order]
  go_enter Tryz.func63, Tryz.ntmps63
  go_wp2_with fail
  refine bodyPost_ret (v := lit4 6346243789798364141 1503914060200516822 0 1152921504606846976) (by simp [results, Tryz.results63, go_sem]) rfl ⟨rfl, (Below.refl _ w).alloc (Nat.le_refl _) _⟩
end Go.Proofs.YtkbkalhcdbklkaaGreatDoor
namespace Go.Proofs.YtkbkalhcdbklkaaGreatDoor
open Go Go.RowKit
set_option maxRecDepth 20000
theorem own9_any {A : Option Addr} {B c : Nat} {bs : List UInt8} (w : World) (hr : Rd w B A c bs) (hB : B ≤ w.heap.size) (hl : bs.length ≤ 140737488355328) :
    Calls Tryz.prog 6 #[.slice A bs.length c] w fun e w' => ∃ A' c', e = .returned (.slice A' bs.length c') ∧ Own w' w.heap.size 5 A' c' bs ∧ Below w.heap.size w w' := by
  obtain ⟨i0, hi, hz0, hz1, hz2⟩ := info_parts infoByte
  have h2 : Rd (w.alloc (.cells #[] 5)) B A c bs := hr.keep ((Below.refl B w).alloc hB _)
  have h3 : Own (w.alloc (.cells #[] 5)) w.heap.size 5 (some ⟨w.heap.size, 0, none⟩) 0 [] := World.ownsRow_made w #[] 0 (Nat.le_refl _) (by decide) (by decide)
  have h4 : Below w.heap.size w (w.alloc (.cells #[] 5)) := (Below.refl _ w).alloc (Nat.le_refl _) _
  go_enter Tryz.func6, Tryz.ntmps6
  go_wp2_with (at_builtin; refine wpList_app _ rfl (.tmp 3) (.tmp 4) _ rfl w.heap.size 5 i0 _ Tryz.underlying22 hi hz0 hz1 hz2 rfl (xs := []) rfl h3 rfl h2 (by simpa using hl) (by simp) ?_; intro A1 c1 v1 ho hb)
  replace ho : Own v1 w.heap.size 5 A1 c1 bs := ho
  go_ret
  exact ⟨A1, c1, rfl, ho, h4.trans hb⟩
theorem own9_rd (bs : List UInt8) (A : Option Addr) (c : Nat) (w : World) (hl : bs.length ≤ 140737488355328) (hr : Rd w w.heap.size A c bs) :
    Calls Tryz.prog 6 #[.slice A bs.length c] w fun e w' => ∃ A' c', e = .returned (.slice A' bs.length c') ∧ Rd w' w'.heap.size A' c' bs ∧ Below w.heap.size w w' :=
  (own9_any w hr (Nat.le_refl _) hl).mono fun _ _ ⟨A', c', he, o, hb⟩ => ⟨A', c', he, o.rd, hb⟩
/-- 32 noughts. -/
def zer9 : List UInt8 := List.replicate 32 0
theorem zer9_len : zer9.length = 32 := by simp [zer9]
theorem mk9 (w : World) : Rd (w.alloc (.cells (madeCells #[.int .u8 0] 32) 5)) (w.alloc (.cells (madeCells #[.int .u8 0] 32) 5)).heap.size (some ⟨w.heap.size, 0, none⟩) 32 zer9 := (Own.made (w := w) (B := w.heap.size) 5 (Nat.le_refl _) (by decide)).rd
theorem awake9_gen {G : World → Prop} (hGn : ∀ w w', G w → Below w.heap.size w w' → G w') {L : List UInt8} (hl : L.length = 32) (s0 : nth L 0 = 59) (s1 : nth L 1 = 106)
    (kp : ∀ (A : Option Addr) (c : Nat) (w : World), G w → Rd w w.heap.size A c zer9 → Calls Tryz.prog 7 #[.slice A 32 c] w fun e w' => ∃ A2 c2, e = .returned (.tuple #[.slice A2 32 c2, .int .i64 0]) ∧ Rd w' w'.heap.size A2 c2 L ∧ Below w.heap.size w w')
    (kv : ∀ (A : Option Addr) (c : Nat) (w : World), G w → Rd w w.heap.size A c L → Calls Tryz.prog 12 #[.slice A 32 c, .slice none 0 0, .slice none 0 0] w fun e w' => e = .returned (.int .i64 1) ∧ Below w.heap.size w w')
    (w : World) (hG : G w) : Calls Tryz.prog 9 #[] w fun e w' => e = .returned (.bool true) ∧ Below w.heap.size w w' := by
  obtain ⟨i0, hi, hz0, hz1, hz2⟩ := info_parts infoByte
  have hmk := run_mk (P := Tryz.prog) 22 5 i0 Tryz.underlying22 hi hz0 hz1 hz2 (l := 32) (n := 32) rfl (by omega)
  have hb := (Below.refl _ w).alloc (Nat.le_refl _) (.cells (madeCells #[.int .u8 0] 32) 5)
  have KP := Lib.hid (kp _ _ _ (hGn _ _ hG hb) (mk9 w))
  have KV := Lib.hid kv
  have HB := Lib.hid hb
  have HG := Lib.hid hG
  have GN := Lib.hid hGn
  clear kp kv hb hG hGn
  go_enter Tryz.func9, Tryz.ntmps9
  go_wp2_with fail
  go_at_call 7
  refine KP.out.mono ?_
  rintro e v1 ⟨A1, c1, rfl, r1, hb⟩
  have hc := HB.out.trans (hb.mono HB.out.size)
  have KQ := Lib.hid (KV.out A1 c1 v1 (GN.out _ _ HG.out hc) r1)
  clear hb KP HB hmk
  obtain ⟨b1, o1, rfl, _, x0⟩ := r1.at_ (k := 0) (by omega)
  obtain ⟨b2, o2, e2, _, x1⟩ := r1.at_ (k := 1) (by omega)
  simp only [Option.some.injEq, Addr.mk.injEq, and_true] at e2
  obtain ⟨rfl, rfl⟩ := e2
  rw [s0] at x0
  rw [s1] at x1
  rw [Nat.add_zero] at x0
  clear r1
  go_wp2_with fail
  go_at_call 12
  refine KQ.out.mono ?_
  rintro e v2 ⟨rfl, hb⟩
  replace hc := hc.trans (hb.mono hc.size)
  go_wp2_with fail
  go_ret
  exact ⟨rfl, hc⟩
end Go.Proofs.YtkbkalhcdbklkaaGreatDoor
namespace Go.Proofs.YtkbkalhcdbklkaaGreatDoor
open Go Go.RowKit
section
attribute [local irreducible] wd by8
set_option maxRecDepth 20000
set_option maxHeartbeats 6400000 in
theorem publics_gen {G : World → Prop} (hGn : ∀ w w', G w → Below w.heap.size w w' → G w') {A : Option Addr} {c er : Nat} {seed L : List UInt8} (hl : seed.length ≤ 140737488355328)
    (kg : ∀ (A : Option Addr) (c : Nat) (w : World), G w → Rd w w.heap.size A c seed → Calls Tryz.prog 7 #[.slice A seed.length c] w fun e w' => ∃ A2 c2, e = .returned (.tuple #[.slice A2 L.length c2, .int .i64 (er : Int)]) ∧ Rd w' w'.heap.size A2 c2 L ∧ Below w.heap.size w w')
    (kr : ∀ (A : Option Addr) (c : Nat) (w : World), Rd w w.heap.size A c seed → Calls Tryz.prog 8 #[.slice A seed.length c] w fun e w' => ∃ A2 c2, e = .returned (.tuple #[.slice A2 L.length c2, .int .i64 (er : Int)]) ∧ Rd w' w'.heap.size A2 c2 L ∧ Below w.heap.size w w')
    (k9 : ∀ w, G w → Calls Tryz.prog 9 #[] w fun e w' => e = .returned (.bool true) ∧ Below w.heap.size w w')
    (w : World) (r0 : Rd w w.heap.size A c seed) (hG : G w) : Calls Tryz.prog 3 #[.slice A seed.length c] w fun e w' => e = .returned (.bool true) ∧ Below w.heap.size w w' := by
  have KG := Lib.hid kg
  have KR := Lib.hid kr
  have K9 := Lib.hid k9
  have HL := Lib.hid hl
  clear kg kr k9 hl
  have GN := Lib.hid hGn
  have HG := Lib.hid hG
  clear hGn hG
  have hc := Below.refl w.heap.size w
  go_enter Tryz.func3, Tryz.ntmps3
  go_wp2_with fail
  go_at_call 6
  refine (own9_rd seed _ _ _ HL.out r0).mono ?_
  rintro e y1 ⟨A1, c1, rfl, r1, h0⟩
  replace HG := Lib.hid (GN.out _ _ HG.out h0)
  replace r0 := (r0.keep h0).mono h0.size
  replace hc := hc.trans (h0.mono hc.size)
  clear h0
  go_wp2_with fail
  go_at_call 7
  refine (KG.out _ _ _ HG.out r1).mono ?_
  rintro e y2 ⟨A2, c2, rfl, r2, h0⟩
  replace HG := Lib.hid (GN.out _ _ HG.out h0)
  replace r0 := (r0.keep h0).mono h0.size
  replace r1 := (r1.keep h0).mono h0.size
  replace hc := hc.trans (h0.mono hc.size)
  clear h0
  go_wp2_with fail
  go_at_call 8
  refine (KR.out _ _ _ r0).mono ?_
  rintro e y3 ⟨A3, c3, rfl, r3, h0⟩
  replace HG := Lib.hid (GN.out _ _ HG.out h0)
  replace r0 := (r0.keep h0).mono h0.size
  replace r1 := (r1.keep h0).mono h0.size
  replace r2 := (r2.keep h0).mono h0.size
  replace hc := hc.trans (h0.mono hc.size)
  clear h0
  go_upto_region 4 with fail
  refine wp_region_obs 20 [20, 21, 22, 23, 24, 25, 26, 27, 28, 29, 30, 31, 32, 33, 34, 35, 36, 37, 38, 39] [.byt L, .val (.string ⟨L.toArray⟩), .byt L, .val (.string ⟨L.toArray⟩), .val (.bool true), .val (.bool true), .val (.int .i64 (er : Int)), .val (.int .i64 (er : Int)), .val (.bool true), .val (.bool true), .val (.bool true), .byt seed, .val (.string ⟨seed.toArray⟩), .byt seed, .val (.string ⟨seed.toArray⟩), .val (.bool true), .val (.bool true), .val (.bool true), .val (.bool true), .val (.bool true)] (fun wz => Below y3.heap.size y3 wz) (by kernel_rfl) (fun wz wz' hz hb => hz.trans (hb.mono hz.size)) (Below.refl _ _) (fun u => by simp only [puts, List.foldl_cons, List.foldl_nil]; go_simp; exact rfl) ?_ ?_
  · simp only [List.take_succ_cons, List.take_zero]
    refine ObsS.cons (fun u w hS hd => ?_) ?_
    · exact Gv.run (.slice A2 L.length c2) rfl (by go_simp) (⟨_, _, rfl, (r2.keep hS).mono hS.size⟩)
    refine ObsS.cons (fun u w hS hd => ?_) ?_
    · obtain ⟨A20, c20, d20, g20⟩ : (Know.byt L).ok (u 20) w := hd 0 (by decide)
      rw [d20]
      exact Gv.run (.string ⟨L.toArray⟩) rfl (run_conv rfl rfl (run_str w 22 5 Tryz.underlying22 Tryz.underlying5 (dst := 9) Tryz.underlying9 g20)) rfl
    refine ObsS.cons (fun u w hS hd => ?_) ?_
    · exact Gv.run (.slice A3 L.length c3) rfl (by go_simp) (⟨_, _, rfl, (r3.keep hS).mono hS.size⟩)
    refine ObsS.cons (fun u w hS hd => ?_) ?_
    · obtain ⟨A22, c22, d22, g22⟩ : (Know.byt L).ok (u 22) w := hd 2 (by decide)
      rw [d22]
      exact Gv.run (.string ⟨L.toArray⟩) rfl (run_conv rfl rfl (run_str w 22 5 Tryz.underlying22 Tryz.underlying5 (dst := 9) Tryz.underlying9 g22)) rfl
    refine ObsS.cons (fun u w hS hd => ?_) ?_
    · have d21 : u 21 = .string ⟨L.toArray⟩ := hd 1 (by decide)
      rw [d21]
      have d23 : u 23 = .string ⟨L.toArray⟩ := hd 3 (by decide)
      rw [d23]
      exact Gv.run (.bool true) rfl (by go_simp) rfl
    refine ObsS.cons (fun u w hS hd => ?_) ?_
    · have d24 : u 24 = .bool true := hd 4 (by decide)
      rw [d24]
      exact Gv.run (.bool true) rfl (by go_simp) rfl
    refine ObsS.cons (fun u w hS hd => ?_) ?_
    · have d25 : u 25 = .bool true := hd 5 (by decide)
      rw [d25]
      exact Gv.run (.int .i64 (er : Int)) rfl (by go_simp) rfl
    refine ObsS.cons (fun u w hS hd => ?_) ?_
    · have d25 : u 25 = .bool true := hd 5 (by decide)
      rw [d25]
      exact Gv.run (.int .i64 (er : Int)) rfl (by go_simp) rfl
    refine ObsS.cons (fun u w hS hd => ?_) ?_
    · have d25 : u 25 = .bool true := hd 5 (by decide)
      rw [d25]
      have d26 : u 26 = .int .i64 (er : Int) := hd 6 (by decide)
      rw [d26]
      have d27 : u 27 = .int .i64 (er : Int) := hd 7 (by decide)
      rw [d27]
      exact Gv.run (.bool true) rfl (by go_simp) rfl
    refine ObsS.cons (fun u w hS hd => ?_) ?_
    · have d25 : u 25 = .bool true := hd 5 (by decide)
      rw [d25]
      have d28 : u 28 = .bool true := hd 8 (by decide)
      rw [d28]
      exact Gv.run (.bool true) rfl (by go_simp) rfl
    refine ObsS.cons (fun u w hS hd => ?_) ?_
    · have d29 : u 29 = .bool true := hd 9 (by decide)
      rw [d29]
      exact Gv.run (.bool true) rfl (by go_simp) rfl
    refine ObsS.cons (fun u w hS hd => ?_) ?_
    · have d30 : u 30 = .bool true := hd 10 (by decide)
      rw [d30]
      exact Gv.run (.slice A1 seed.length c1) rfl (by go_simp) (⟨_, _, rfl, (r1.keep hS).mono hS.size⟩)
    refine ObsS.cons (fun u w hS hd => ?_) ?_
    · have d30 : u 30 = .bool true := hd 10 (by decide)
      rw [d30]
      obtain ⟨A31, c31, d31, g31⟩ : (Know.byt seed).ok (u 31) w := hd 11 (by decide)
      rw [d31]
      exact Gv.run (.string ⟨seed.toArray⟩) rfl (run_conv rfl rfl (run_str w 22 5 Tryz.underlying22 Tryz.underlying5 (dst := 9) Tryz.underlying9 g31)) rfl
    refine ObsS.cons (fun u w hS hd => ?_) ?_
    · have d30 : u 30 = .bool true := hd 10 (by decide)
      rw [d30]
      exact Gv.run (.slice A seed.length c) rfl (by go_simp) (⟨_, _, rfl, (r0.keep hS).mono hS.size⟩)
    refine ObsS.cons (fun u w hS hd => ?_) ?_
    · have d30 : u 30 = .bool true := hd 10 (by decide)
      rw [d30]
      obtain ⟨A33, c33, d33, g33⟩ : (Know.byt seed).ok (u 33) w := hd 13 (by decide)
      rw [d33]
      exact Gv.run (.string ⟨seed.toArray⟩) rfl (run_conv rfl rfl (run_str w 22 5 Tryz.underlying22 Tryz.underlying5 (dst := 9) Tryz.underlying9 g33)) rfl
    refine ObsS.cons (fun u w hS hd => ?_) ?_
    · have d30 : u 30 = .bool true := hd 10 (by decide)
      rw [d30]
      have d32 : u 32 = .string ⟨seed.toArray⟩ := hd 12 (by decide)
      rw [d32]
      have d34 : u 34 = .string ⟨seed.toArray⟩ := hd 14 (by decide)
      rw [d34]
      exact Gv.run (.bool true) rfl (by go_simp) rfl
    refine ObsS.cons (fun u w hS hd => ?_) ?_
    · have d30 : u 30 = .bool true := hd 10 (by decide)
      rw [d30]
      have d35 : u 35 = .bool true := hd 15 (by decide)
      rw [d35]
      exact Gv.run (.bool true) rfl (by go_simp) rfl
    refine ObsS.cons (fun u w hS hd => ?_) ?_
    · have d36 : u 36 = .bool true := hd 16 (by decide)
      rw [d36]
      exact Gv.run (.bool true) rfl (by go_simp) rfl
    refine ObsS.cons (fun u w hS hd => ?_) ?_
    · have d37 : u 37 = .bool true := hd 17 (by decide)
      rw [d37]
      refine Gv.call 9 #[] rfl (by go_simp) ((K9.out w (GN.out _ _ HG.out hS)).mono ?_)
      rintro e w' ⟨rfl, hb⟩
      exact ⟨_, rfl, rfl, hb⟩
    refine ObsS.cons (fun u w hS hd => ?_) ?_
    · have d37 : u 37 = .bool true := hd 17 (by decide)
      rw [d37]
      have d38 : u 38 = .bool true := hd 18 (by decide)
      rw [d38]
      exact Gv.run (.bool true) rfl (by go_simp) rfl
    exact ObsS.nil
  intro uy4 y4 hS hd
  have d39 : uy4 39 = .bool true := hd 19 (by decide)
  rw [d39]
  replace HG := Lib.hid (GN.out _ _ HG.out hS)
  replace r0 := (r0.keep hS).mono hS.size
  replace r1 := (r1.keep hS).mono hS.size
  replace r2 := (r2.keep hS).mono hS.size
  replace r3 := (r3.keep hS).mono hS.size
  replace hc := hc.trans (hS.mono hc.size)
  clear hS hd d39
  simp only [List.drop_succ_cons, List.drop_zero]
  go_wp2_with fail
  go_ret
  exact ⟨rfl, hc⟩
theorem signs_much {G : World → Prop} {A A1 : Option Addr} {n c n1 c1 : Nat}
    (ka : ∀ w, G w → Calls Tryz.prog 9 #[] w fun e w' => e = .returned (.bool true) ∧ Below w.heap.size w w') (hn : 4000 < n1) (w : World) (hG : G w) :
    Calls Tryz.prog 4 #[.slice A n c, .slice A1 n1 c1] w fun e w' => e = .returned (.bool true) ∧ Below w.heap.size w w' := by
  have KA := Lib.hid (ka w hG)
  clear ka
  have g1 : (4000 : Int) < (n1 : Int) := by omega
  go_enter Tryz.func4, Tryz.ntmps4
  go_wp2_with fail
  go_at_call 9
  refine KA.out.mono ?_
  rintro e v1 ⟨rfl, hc⟩
  go_wp2_with fail
  go_ret
  exact ⟨rfl, hc⟩
set_option maxHeartbeats 6400000 in
theorem signs_gen {G : World → Prop} (hGn : ∀ w w', G w → Below w.heap.size w w' → G w') {A B : Option Addr} {c d er : Nat} {seed b L : List UInt8} (hl : seed.length ≤ 140737488355328) (hm : b.length ≤ 4000)
    (kg : ∀ (A B : Option Addr) (c d : Nat) (w : World), G w → Rd w w.heap.size A c seed → Rd w w.heap.size B d b → Calls Tryz.prog 10 #[.slice A seed.length c, .slice B b.length d] w fun e w' => ∃ A2 c2, e = .returned (.tuple #[.slice A2 L.length c2, .int .i64 (er : Int)]) ∧ Rd w' w'.heap.size A2 c2 L ∧ Below w.heap.size w w')
    (kr : ∀ (A B : Option Addr) (c d : Nat) (w : World), Rd w w.heap.size A c seed → Rd w w.heap.size B d b → Calls Tryz.prog 11 #[.slice A seed.length c, .slice B b.length d] w fun e w' => ∃ A2 c2, e = .returned (.tuple #[.slice A2 L.length c2, .int .i64 (er : Int)]) ∧ Rd w' w'.heap.size A2 c2 L ∧ Below w.heap.size w w')
    (k9 : ∀ w, G w → Calls Tryz.prog 9 #[] w fun e w' => e = .returned (.bool true) ∧ Below w.heap.size w w')
    (w : World) (r0 : Rd w w.heap.size A c seed) (q0 : Rd w w.heap.size B d b) (hG : G w) : Calls Tryz.prog 4 #[.slice A seed.length c, .slice B b.length d] w fun e w' => e = .returned (.bool true) ∧ Below w.heap.size w w' := by
  have KG := Lib.hid kg
  have KR := Lib.hid kr
  have K9 := Lib.hid k9
  have HL := Lib.hid hl
  have HM := Lib.hid (show b.length ≤ 140737488355328 by omega)
  have g0 : ¬ (4000 : Int) < (b.length : Int) := by omega
  clear kg kr k9 hl hm
  have GN := Lib.hid hGn
  have HG := Lib.hid hG
  clear hGn hG
  have hc := Below.refl w.heap.size w
  go_enter Tryz.func4, Tryz.ntmps4
  go_wp2_with fail
  go_at_call 6
  refine (own9_rd seed _ _ _ HL.out r0).mono ?_
  rintro e y1 ⟨A1, c1, rfl, r1, h0⟩
  replace HG := Lib.hid (GN.out _ _ HG.out h0)
  replace r0 := (r0.keep h0).mono h0.size
  replace q0 := (q0.keep h0).mono h0.size
  replace hc := hc.trans (h0.mono hc.size)
  clear h0
  go_wp2_with fail
  go_at_call 6
  refine (own9_rd b _ _ _ HM.out q0).mono ?_
  rintro e y2 ⟨B1, d1, rfl, q1, h0⟩
  replace HG := Lib.hid (GN.out _ _ HG.out h0)
  replace r0 := (r0.keep h0).mono h0.size
  replace q0 := (q0.keep h0).mono h0.size
  replace r1 := (r1.keep h0).mono h0.size
  replace hc := hc.trans (h0.mono hc.size)
  clear h0
  go_wp2_with fail
  go_at_call 10
  refine (KG.out _ _ _ _ _ HG.out r1 q1).mono ?_
  rintro e y3 ⟨A2, c2, rfl, r2, h0⟩
  replace HG := Lib.hid (GN.out _ _ HG.out h0)
  replace r0 := (r0.keep h0).mono h0.size
  replace q0 := (q0.keep h0).mono h0.size
  replace r1 := (r1.keep h0).mono h0.size
  replace q1 := (q1.keep h0).mono h0.size
  replace hc := hc.trans (h0.mono hc.size)
  clear h0
  go_wp2_with fail
  go_at_call 11
  refine (KR.out _ _ _ _ _ r0 q0).mono ?_
  rintro e y4 ⟨A3, c3, rfl, r3, h0⟩
  replace HG := Lib.hid (GN.out _ _ HG.out h0)
  replace r0 := (r0.keep h0).mono h0.size
  replace q0 := (q0.keep h0).mono h0.size
  replace r1 := (r1.keep h0).mono h0.size
  replace q1 := (q1.keep h0).mono h0.size
  replace r2 := (r2.keep h0).mono h0.size
  replace hc := hc.trans (h0.mono hc.size)
  clear h0
  go_upto_region 6 with fail
  refine wp_region_obs 27 [31, 32, 33, 34, 35, 36, 37, 38, 39, 40, 41, 42, 43, 44, 45, 46, 47, 48, 49, 50, 51, 52, 53, 54, 55, 56, 57] [.byt L, .val (.string ⟨L.toArray⟩), .byt L, .val (.string ⟨L.toArray⟩), .val (.bool true), .val (.bool true), .val (.int .i64 (er : Int)), .val (.int .i64 (er : Int)), .val (.bool true), .val (.bool true), .val (.bool true), .byt seed, .val (.string ⟨seed.toArray⟩), .byt seed, .val (.string ⟨seed.toArray⟩), .val (.bool true), .val (.bool true), .val (.bool true), .byt b, .val (.string ⟨b.toArray⟩), .byt b, .val (.string ⟨b.toArray⟩), .val (.bool true), .val (.bool true), .val (.bool true), .val (.bool true), .val (.bool true)] (fun wz => Below y4.heap.size y4 wz) (by kernel_rfl) (fun wz wz' hz hb => hz.trans (hb.mono hz.size)) (Below.refl _ _) (fun u => by simp only [puts, List.foldl_cons, List.foldl_nil]; go_simp; exact rfl) ?_ ?_
  · simp only [List.take_succ_cons, List.take_zero]
    refine ObsS.cons (fun u w hS hd => ?_) ?_
    · exact Gv.run (.slice A2 L.length c2) rfl (by go_simp) (⟨_, _, rfl, (r2.keep hS).mono hS.size⟩)
    refine ObsS.cons (fun u w hS hd => ?_) ?_
    · obtain ⟨A31, c31, d31, g31⟩ : (Know.byt L).ok (u 31) w := hd 0 (by decide)
      rw [d31]
      exact Gv.run (.string ⟨L.toArray⟩) rfl (run_conv rfl rfl (run_str w 22 5 Tryz.underlying22 Tryz.underlying5 (dst := 9) Tryz.underlying9 g31)) rfl
    refine ObsS.cons (fun u w hS hd => ?_) ?_
    · exact Gv.run (.slice A3 L.length c3) rfl (by go_simp) (⟨_, _, rfl, (r3.keep hS).mono hS.size⟩)
    refine ObsS.cons (fun u w hS hd => ?_) ?_
    · obtain ⟨A33, c33, d33, g33⟩ : (Know.byt L).ok (u 33) w := hd 2 (by decide)
      rw [d33]
      exact Gv.run (.string ⟨L.toArray⟩) rfl (run_conv rfl rfl (run_str w 22 5 Tryz.underlying22 Tryz.underlying5 (dst := 9) Tryz.underlying9 g33)) rfl
    refine ObsS.cons (fun u w hS hd => ?_) ?_
    · have d32 : u 32 = .string ⟨L.toArray⟩ := hd 1 (by decide)
      rw [d32]
      have d34 : u 34 = .string ⟨L.toArray⟩ := hd 3 (by decide)
      rw [d34]
      exact Gv.run (.bool true) rfl (by go_simp) rfl
    refine ObsS.cons (fun u w hS hd => ?_) ?_
    · have d35 : u 35 = .bool true := hd 4 (by decide)
      rw [d35]
      exact Gv.run (.bool true) rfl (by go_simp) rfl
    refine ObsS.cons (fun u w hS hd => ?_) ?_
    · have d36 : u 36 = .bool true := hd 5 (by decide)
      rw [d36]
      exact Gv.run (.int .i64 (er : Int)) rfl (by go_simp) rfl
    refine ObsS.cons (fun u w hS hd => ?_) ?_
    · have d36 : u 36 = .bool true := hd 5 (by decide)
      rw [d36]
      exact Gv.run (.int .i64 (er : Int)) rfl (by go_simp) rfl
    refine ObsS.cons (fun u w hS hd => ?_) ?_
    · have d36 : u 36 = .bool true := hd 5 (by decide)
      rw [d36]
      have d37 : u 37 = .int .i64 (er : Int) := hd 6 (by decide)
      rw [d37]
      have d38 : u 38 = .int .i64 (er : Int) := hd 7 (by decide)
      rw [d38]
      exact Gv.run (.bool true) rfl (by go_simp) rfl
    refine ObsS.cons (fun u w hS hd => ?_) ?_
    · have d36 : u 36 = .bool true := hd 5 (by decide)
      rw [d36]
      have d39 : u 39 = .bool true := hd 8 (by decide)
      rw [d39]
      exact Gv.run (.bool true) rfl (by go_simp) rfl
    refine ObsS.cons (fun u w hS hd => ?_) ?_
    · have d40 : u 40 = .bool true := hd 9 (by decide)
      rw [d40]
      exact Gv.run (.bool true) rfl (by go_simp) rfl
    refine ObsS.cons (fun u w hS hd => ?_) ?_
    · have d41 : u 41 = .bool true := hd 10 (by decide)
      rw [d41]
      exact Gv.run (.slice A1 seed.length c1) rfl (by go_simp) (⟨_, _, rfl, (r1.keep hS).mono hS.size⟩)
    refine ObsS.cons (fun u w hS hd => ?_) ?_
    · have d41 : u 41 = .bool true := hd 10 (by decide)
      rw [d41]
      obtain ⟨A42, c42, d42, g42⟩ : (Know.byt seed).ok (u 42) w := hd 11 (by decide)
      rw [d42]
      exact Gv.run (.string ⟨seed.toArray⟩) rfl (run_conv rfl rfl (run_str w 22 5 Tryz.underlying22 Tryz.underlying5 (dst := 9) Tryz.underlying9 g42)) rfl
    refine ObsS.cons (fun u w hS hd => ?_) ?_
    · have d41 : u 41 = .bool true := hd 10 (by decide)
      rw [d41]
      exact Gv.run (.slice A seed.length c) rfl (by go_simp) (⟨_, _, rfl, (r0.keep hS).mono hS.size⟩)
    refine ObsS.cons (fun u w hS hd => ?_) ?_
    · have d41 : u 41 = .bool true := hd 10 (by decide)
      rw [d41]
      obtain ⟨A44, c44, d44, g44⟩ : (Know.byt seed).ok (u 44) w := hd 13 (by decide)
      rw [d44]
      exact Gv.run (.string ⟨seed.toArray⟩) rfl (run_conv rfl rfl (run_str w 22 5 Tryz.underlying22 Tryz.underlying5 (dst := 9) Tryz.underlying9 g44)) rfl
    refine ObsS.cons (fun u w hS hd => ?_) ?_
    · have d41 : u 41 = .bool true := hd 10 (by decide)
      rw [d41]
      have d43 : u 43 = .string ⟨seed.toArray⟩ := hd 12 (by decide)
      rw [d43]
      have d45 : u 45 = .string ⟨seed.toArray⟩ := hd 14 (by decide)
      rw [d45]
      exact Gv.run (.bool true) rfl (by go_simp) rfl
    refine ObsS.cons (fun u w hS hd => ?_) ?_
    · have d41 : u 41 = .bool true := hd 10 (by decide)
      rw [d41]
      have d46 : u 46 = .bool true := hd 15 (by decide)
      rw [d46]
      exact Gv.run (.bool true) rfl (by go_simp) rfl
    refine ObsS.cons (fun u w hS hd => ?_) ?_
    · have d47 : u 47 = .bool true := hd 16 (by decide)
      rw [d47]
      exact Gv.run (.bool true) rfl (by go_simp) rfl
    refine ObsS.cons (fun u w hS hd => ?_) ?_
    · have d48 : u 48 = .bool true := hd 17 (by decide)
      rw [d48]
      exact Gv.run (.slice B1 b.length d1) rfl (by go_simp) (⟨_, _, rfl, (q1.keep hS).mono hS.size⟩)
    refine ObsS.cons (fun u w hS hd => ?_) ?_
    · have d48 : u 48 = .bool true := hd 17 (by decide)
      rw [d48]
      obtain ⟨A49, c49, d49, g49⟩ : (Know.byt b).ok (u 49) w := hd 18 (by decide)
      rw [d49]
      exact Gv.run (.string ⟨b.toArray⟩) rfl (run_conv rfl rfl (run_str w 22 5 Tryz.underlying22 Tryz.underlying5 (dst := 9) Tryz.underlying9 g49)) rfl
    refine ObsS.cons (fun u w hS hd => ?_) ?_
    · have d48 : u 48 = .bool true := hd 17 (by decide)
      rw [d48]
      exact Gv.run (.slice B b.length d) rfl (by go_simp) (⟨_, _, rfl, (q0.keep hS).mono hS.size⟩)
    refine ObsS.cons (fun u w hS hd => ?_) ?_
    · have d48 : u 48 = .bool true := hd 17 (by decide)
      rw [d48]
      obtain ⟨A51, c51, d51, g51⟩ : (Know.byt b).ok (u 51) w := hd 20 (by decide)
      rw [d51]
      exact Gv.run (.string ⟨b.toArray⟩) rfl (run_conv rfl rfl (run_str w 22 5 Tryz.underlying22 Tryz.underlying5 (dst := 9) Tryz.underlying9 g51)) rfl
    refine ObsS.cons (fun u w hS hd => ?_) ?_
    · have d48 : u 48 = .bool true := hd 17 (by decide)
      rw [d48]
      have d50 : u 50 = .string ⟨b.toArray⟩ := hd 19 (by decide)
      rw [d50]
      have d52 : u 52 = .string ⟨b.toArray⟩ := hd 21 (by decide)
      rw [d52]
      exact Gv.run (.bool true) rfl (by go_simp) rfl
    refine ObsS.cons (fun u w hS hd => ?_) ?_
    · have d48 : u 48 = .bool true := hd 17 (by decide)
      rw [d48]
      have d53 : u 53 = .bool true := hd 22 (by decide)
      rw [d53]
      exact Gv.run (.bool true) rfl (by go_simp) rfl
    refine ObsS.cons (fun u w hS hd => ?_) ?_
    · have d54 : u 54 = .bool true := hd 23 (by decide)
      rw [d54]
      exact Gv.run (.bool true) rfl (by go_simp) rfl
    refine ObsS.cons (fun u w hS hd => ?_) ?_
    · have d55 : u 55 = .bool true := hd 24 (by decide)
      rw [d55]
      refine Gv.call 9 #[] rfl (by go_simp) ((K9.out w (GN.out _ _ HG.out hS)).mono ?_)
      rintro e w' ⟨rfl, hb⟩
      exact ⟨_, rfl, rfl, hb⟩
    refine ObsS.cons (fun u w hS hd => ?_) ?_
    · have d55 : u 55 = .bool true := hd 24 (by decide)
      rw [d55]
      have d56 : u 56 = .bool true := hd 25 (by decide)
      rw [d56]
      exact Gv.run (.bool true) rfl (by go_simp) rfl
    exact ObsS.nil
  intro uy5 y5 hS hd
  have d57 : uy5 57 = .bool true := hd 26 (by decide)
  rw [d57]
  replace HG := Lib.hid (GN.out _ _ HG.out hS)
  replace r0 := (r0.keep hS).mono hS.size
  replace q0 := (q0.keep hS).mono hS.size
  replace r1 := (r1.keep hS).mono hS.size
  replace q1 := (q1.keep hS).mono hS.size
  replace r2 := (r2.keep hS).mono hS.size
  replace r3 := (r3.keep hS).mono hS.size
  replace hc := hc.trans (hS.mono hc.size)
  clear hS hd d57
  simp only [List.drop_succ_cons, List.drop_zero]
  go_wp2_with fail
  go_ret
  exact ⟨rfl, hc⟩
end
end Go.Proofs.YtkbkalhcdbklkaaGreatDoor
