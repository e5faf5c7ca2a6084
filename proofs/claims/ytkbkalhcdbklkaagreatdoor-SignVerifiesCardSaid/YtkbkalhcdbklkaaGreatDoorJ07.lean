/-
  The document's Sum in bytes: padding, blocks, what is told (layer 6). By an AI agent. (and more)
-/
import Derived.Test.YtkbkalhcdbklkaaGreatDoorN9
import Derived.Test.YtkbkalhcdbklkaaGreatDoorJ12
import Derived.Test.YtkbkalhcdbklkaaGreatDoorJ10
import Derived.Test.YtkbkalhcdbklkaaGreatDoorMT
import Derived.Test.YtkbkalhcdbklkaaGreatDoorJ06
import Derived.Test.YtkbkalhcdbklkaaGreatDoorJ10
import Derived.Test.YtkbkalhcdbklkaaGreatDoorJ10
namespace Go.Proofs.YtkbkalhcdbklkaaGreatDoor
section
open Go Go.RowKit
def zc (S : Ks) (len : Nat) : Nat := (2 * S.bits - (len + 1 + S.bits / 4) % (2 * S.bits)) % (2 * S.bits)
def pz (bs : List UInt8) (n : Nat) : List UInt8 := bs ++ (128 : UInt8) :: List.replicate n 0
theorem pz_succ (bs : List UInt8) (n : Nat) : pz bs (n + 1) = pz bs n ++ [0] := by
 unfold pz
 rw [List.replicate_succ', ← List.cons_append, List.append_assoc]
theorem pz_length (bs : List UInt8) (n : Nat) : (pz bs n).length = bs.length + 1 + n := by
 unfold pz
 rw [List.length_append, List.length_cons, List.length_replicate]
 omega
def lb (len : Nat) (k : Nat) : UInt8 := UInt8.ofNat (len * 8 / 2 ^ (8 * (7 - k)) % 256)
def padL (S : Ks) (bs : List UInt8) : List UInt8 := pz bs (zc S bs.length + (S.bits / 4 - 8)) ++ gen (lb bs.length) 8
def sums (S : Ks) (P : List UInt8) : Nat → Nat → Nat
 | 0 => fun i => S.first.getD i 0
 | j + 1 => blN S (sums S P j) (nth ((P.drop (j * (2 * S.bits))).take (2 * S.bits)))
def outB (S : Ks) (V : Nat → Nat) (m : Nat) : UInt8 := UInt8.ofNat (V (m / (S.bits / 8)) / 2 ^ (S.bits - 8 - 8 * (m % (S.bits / 8))) % 256)
def sumN (S : Ks) (bs : List UInt8) : List UInt8 := gen (outB S (sums S (padL S bs) ((padL S bs).length / (2 * S.bits)))) S.bits
theorem zc_at {S : Ks} (hb : S.bits = 32 ∨ S.bits = 64) (len n : Nat) (hn : n ≤ zc S len) : ((len + 1 + n + S.bits / 4) % (2 * S.bits) = 0 ↔ n = zc S len) := by
 unfold zc at *
 have e : len + 1 + n + S.bits / 4 = (len + 1 + S.bits / 4) + n := by omega
 rw [e]
 generalize len + 1 + S.bits / 4 = x at *
 generalize S.bits = b at *
 rcases hb with rfl | rfl
 ·constructor <;> intro h1 <;> omega
 ·constructor <;> intro h1 <;> omega
theorem zc_lt {S : Ks} (hb : S.bits = 32 ∨ S.bits = 64) (len : Nat) : zc S len < 2 * S.bits := by
 unfold zc
 exact Nat.mod_lt _ (by rcases hb with h | h <;> omega)
theorem padL_length {S : Ks} (hb : S.bits = 32 ∨ S.bits = 64) (bs : List UInt8) : (padL S bs).length % (2 * S.bits) = 0 ∧ (padL S bs).length = bs.length + 1 + zc S bs.length + S.bits / 4 := by
 have h := (zc_at hb bs.length (zc S bs.length) (Nat.le_refl _)).2 rfl
 have e : (padL S bs).length = bs.length + 1 + zc S bs.length + S.bits / 4 := by
  unfold padL
  rw [List.length_append, pz_length, gen_length]
  rcases hb with h | h <;> rw [h] <;> omega
 exact ⟨by rw [e]; exact h, e⟩
theorem sums_lt {S : Ks} (hS : Kok S) (P : List UInt8) : ∀ j i, sums S P j i < 2 ^ S.bits
 | 0, i => hS.first.2 i
 | j + 1, i => by
  show blN S _ _ i < _
  unfold blN
  exact Nat.mod_lt _ (Nat.pow_pos (by decide))
theorem sums_succ (S : Ks) (P : List UInt8) (j : Nat) : sums S P (j + 1) = blN S (sums S P j) (nth ((P.drop (j * (2 * S.bits))).take (2 * S.bits))) := rfl
theorem Rd.sub {w : World} {B c b o i n : Nat} {P : List UInt8} (h : Rd w B (some ⟨b, o, none⟩) c P) (hi : i + n ≤ P.length) : Rd w B (some ⟨b, o + i, none⟩) (c - i) ((P.drop i).take n) := by
 have hl : ((P.drop i).take n).length = n := by rw [List.length_take, List.length_drop]; omega
 refine ⟨by rw [hl]; have := h.cap; omega, fun h => by simp at h, fun hne => ⟨b, o + i, rfl, ?_, fun k hk => ?_⟩⟩
 ·have hn : 0 < n := by
   refine Nat.pos_of_ne_zero fun h0 => hne ?_
   rw [h0, List.take_zero]
  obtain ⟨b1, o1, e, hb, _⟩ := h.at_ (k := i) (by omega)
  simp only [Option.some.injEq, Addr.mk.injEq] at e
  rw [e.1]
  exact hb
 ·rw [hl] at hk
  obtain ⟨b1, o1, e, _, c1⟩ := h.at_ (k := i + k) (by omega)
  simp only [Option.some.injEq, Addr.mk.injEq] at e
  obtain ⟨rfl, rfl, _⟩ := e
  rw [Nat.add_assoc, c1]
  unfold nth
  rw [List.getElem?_take, if_pos hk, List.getElem?_drop]
theorem lb_nat {len k : Nat} : (lb len k).toNat = len * 8 / 2 ^ (8 * (7 - k)) % 256 := by unfold lb; rw [UInt8.toNat_ofNat']; omega
theorem outB_nat (S : Ks) (V : Nat → Nat) (m : Nat) : (outB S V m).toNat = V (m / (S.bits / 8)) / 2 ^ (S.bits - 8 - 8 * (m % (S.bits / 8))) % 256 := by unfold outB; rw [UInt8.toNat_ofNat']; omega
end
section
open Go Go.RowKit
theorem nth_set (bs : List UInt8) (k : Nat) (b : UInt8) (j : Nat) (h : k < bs.length) : nth (bs.set k b) j = if k = j then b.toNat else nth bs j := by
 unfold nth
 rw [List.getElem?_set]
 by_cases e : k = j
 ·subst e; simp [h]
 ·simp [e]
theorem Own.at0 {w : World} {B : Nat} {e : TypeId} {A : Option Addr} {c : Nat} {bs : List UInt8} (h : Own w B e A c bs) (hl : 0 < bs.length) : ∃ g, A = some ⟨g, 0, none⟩ := by
 obtain ⟨_, h2⟩ := h
 rcases h2 with ⟨_, h0⟩ | ⟨g, cap, cur, hv, _⟩
 ·omega
 ·simp only [Value.slice.injEq] at hv
  exact ⟨g, hv.1⟩
theorem lAdd {x y : Nat} (hx : x < P25) (hy : y < P25) (w : World) : Calls Tryz.prog 112 #[fv x, fv y] w fun e w' => e = .returned (fv (adN x y)) ∧ Below w.heap.size w w' := radd_any (Nat.lt_trans hx P25_W4) (Nat.lt_trans hy P25_W4) w
theorem lSub {x y : Nat} (hx : x < P25) (hy : y < P25) (w : World) : Calls Tryz.prog 111 #[fv x, fv y] w fun e w' => e = .returned (fv (sbN x y)) ∧ Below w.heap.size w w' := rsub_any hx hy w
theorem lMul {x y : Nat} (hx : x < P25) (hy : y < P25) (w : World) : Calls Tryz.prog 82 #[fv x, fv y] w fun e w' => e = .returned (fv (mlN x y)) ∧ Below w.heap.size w w' := rmul_any (Nat.lt_trans hx P25_W4) (Nat.lt_trans hy P25_W4) w
theorem vb_of {x : Nat} (hx : x < W4) : vb (gen (bf x) 32) = x := by
 unfold vb
 rw [gen_length]
 refine dgt_ext (b := 256) (n := 32) (vk_lt _ _) (by rw [← W4_256]; exact hx) fun i hi => ?_
 rw [show dgt 256 (vk (gen (bf x) 32) 32) i = nth (gen (bf x) 32) i from vk_dig _ i 32 hi, nth_gen hi, bf_nat]
 rfl
theorem low_by (x : Nat) {k : Nat} (hk : k < 32) : by8 (x % 2 ^ 255) k = if k = 31 then by8 x 31 % 128 else by8 x k := by
 by_cases e : k = 31
 ·subst e
  rw [if_pos rfl]
  unfold by8 dgt
  simp only [Nat.reducePow]
  omega
 ·rw [if_neg e]
  rw [show (2 : Nat) ^ 255 = 256 ^ 31 * 128 by decide +kernel]
  have h1 : (x % (256 ^ 31 * 128)) % 256 ^ 31 = x % 256 ^ 31 := Nat.mod_mul_right_mod _ _ _
  unfold by8
  rw [← dgt_mod _ (show k < 31 by omega), h1, dgt_mod _ (show k < 31 by omega)]
theorem low_set {us : List UInt8} (hl : us.length = 32) {b : UInt8} (h : b.toNat = nth us 31 % 128) : us.set 31 b = gen (bf (vb us % 2 ^ 255)) 32 := by
 have hv : ∀ i, i < 32 → by8 (vb us) i = nth us i := fun i hi => by unfold vb; rw [hl]; exact vk_dig us i 32 hi
 refine nth_ext (by simp [gen_length, hl]) fun k hk => ?_
 have hk' : k < 32 := by simpa [hl] using hk
 rw [nth_gen hk', bf_nat, nth_set _ _ _ _ (by omega), low_by _ hk']
 by_cases e : 31 = k
 ·subst e; rw [if_pos rfl, if_pos rfl, h, hv 31 (by decide)]
 ·rw [if_neg e, if_neg (Ne.symm e), hv k hk']
end
section
open Go Go.RowKit
def runs (S : Ks) (V : Nat → Nat) (P : List UInt8) : Nat → Nat → Nat
 | 0 => V
 | j + 1 => blN S (runs S V P j) (nth ((P.drop (j * (2 * S.bits))).take (2 * S.bits)))
def fst (S : Ks) (i : Nat) : Nat := S.first.getD i 0
theorem runs_zero (S : Ks) (V : Nat → Nat) (P : List UInt8) : runs S V P 0 = V := rfl
theorem runs_succ (S : Ks) (V : Nat → Nat) (P : List UInt8) (j : Nat) : runs S V P (j + 1) = blN S (runs S V P j) (nth ((P.drop (j * (2 * S.bits))).take (2 * S.bits))) := rfl
theorem sums_runs (S : Ks) (P : List UInt8) : ∀ j, sums S P j = runs S (fst S) P j
 | 0 => rfl
 | j + 1 => by rw [sums_succ, runs_succ, sums_runs S P j]
theorem runs_lt {S : Ks} {V : Nat → Nat} (hV : ∀ i, V i < 2 ^ S.bits) (P : List UInt8) : ∀ j i, runs S V P j i < 2 ^ S.bits
 | 0, i => hV i
 | j + 1, i => by
  rw [runs_succ]
  unfold blN
  exact Nat.mod_lt _ (Nat.pow_pos (by decide))
theorem runs_left (S : Ks) (V : Nat → Nat) (P Q : List UInt8) : ∀ j, j * (2 * S.bits) ≤ P.length → runs S V (P ++ Q) j = runs S V P j
 | 0, _ => rfl
 | j + 1, h => by
  rw [Nat.succ_mul] at h
  rw [runs_succ, runs_succ, runs_left S V P Q j (by omega), List.drop_append_of_le_length (by omega), List.take_append_of_le_length (by rw [List.length_drop]; omega)]
theorem runs_right (S : Ks) (V : Nat → Nat) (P Q : List UInt8) {k : Nat} (h : P.length = k * (2 * S.bits)) : ∀ j, runs S V (P ++ Q) (k + j) = runs S (runs S V P k) Q j
 | 0 => runs_left S V P Q k (by omega)
 | j + 1 => by
  have e : (P ++ Q).drop ((k + j) * (2 * S.bits)) = Q.drop (j * (2 * S.bits)) := by
   rw [Nat.add_mul, ← h, List.drop_append]
   simp
  rw [← Nat.add_assoc, runs_succ, runs_succ, runs_right S V P Q h j, e]
theorem runs_on (S : Ks) (V : Nat → Nat) (P : List UInt8) {k : Nat} (h : k * (2 * S.bits) ≤ P.length) (j : Nat) : runs S V P (k + j) = runs S (runs S V P k) (P.drop (k * (2 * S.bits))) j := by
 have hl : (P.take (k * (2 * S.bits))).length = k * (2 * S.bits) := by rw [List.length_take]; omega
 have h1 := runs_right S V (P.take (k * (2 * S.bits))) (P.drop (k * (2 * S.bits))) hl j
 have h2 := runs_left S V (P.take (k * (2 * S.bits))) (P.drop (k * (2 * S.bits))) k (by omega)
 rw [List.take_append_drop] at h1 h2
 rw [h1, h2]
def padR (S : Ks) (rest : List UInt8) (all : Nat) : List UInt8 := pz rest (zc S rest.length + (S.bits / 4 - 8)) ++ gen (lb all) 8
theorem zc_mod {S : Ks} (hb : S.bits = 32 ∨ S.bits = 64) {a b : Nat} (h : a % (2 * S.bits) = b % (2 * S.bits)) : zc S a = zc S b := by
 unfold zc
 generalize S.bits = n at *
 rcases hb with rfl | rfl <;> omega
theorem padL_cut {S : Ks} (hb : S.bits = 32 ∨ S.bits = 64) (bs : List UInt8) {k : Nat} (hk : k * (2 * S.bits) ≤ bs.length) : padL S bs = bs.take (k * (2 * S.bits)) ++ padR S (bs.drop (k * (2 * S.bits))) bs.length := by
 have h : zc S (bs.length - k * (2 * S.bits)) = zc S bs.length := zc_mod hb (by
  obtain ⟨r, hr⟩ : ∃ r, bs.length = r + (2 * S.bits) * k := ⟨bs.length - k * (2 * S.bits), by rw [Nat.mul_comm] at hk ⊢; omega⟩
  rw [hr, Nat.mul_comm k, Nat.add_sub_cancel, Nat.add_mul_mod_self_left])
 unfold padL padR pz
 rw [List.length_drop, h, ← List.append_assoc, ← List.append_assoc, List.take_append_drop]
theorem padR_length {S : Ks} (hb : S.bits = 32 ∨ S.bits = 64) (rest : List UInt8) (all : Nat) : (padR S rest all).length % (2 * S.bits) = 0 ∧ (padR S rest all).length = rest.length + 1 + zc S rest.length + S.bits / 4 := by
 have h := (zc_at hb rest.length (zc S rest.length) (Nat.le_refl _)).2 rfl
 have e : (padR S rest all).length = rest.length + 1 + zc S rest.length + S.bits / 4 := by
  unfold padR
  rw [List.length_append, pz_length, gen_length]
  rcases hb with h | h <;> rw [h] <;> omega
 exact ⟨by rw [e]; exact h, e⟩
def sumR (S : Ks) (V : Nat → Nat) (b : List UInt8) (all : Nat) : List UInt8 :=
 gen (outB S (runs S (runs S V b (b.length / (2 * S.bits))) (padR S (b.drop (b.length / (2 * S.bits) * (2 * S.bits))) all) ((padR S (b.drop (b.length / (2 * S.bits) * (2 * S.bits))) all).length / (2 * S.bits)))) S.bits
theorem sumN_cut {S : Ks} (hb : S.bits = 32 ∨ S.bits = 64) (bs : List UInt8) {k : Nat} (hk : k * (2 * S.bits) ≤ bs.length) :
  sumN S bs = gen (outB S (runs S (runs S (fst S) bs k) (padR S (bs.drop (k * (2 * S.bits))) bs.length) ((padR S (bs.drop (k * (2 * S.bits))) bs.length).length / (2 * S.bits)))) S.bits := by
 have hp : 0 < 2 * S.bits := by omega
 have hl : (bs.take (k * (2 * S.bits))).length = k * (2 * S.bits) := by rw [List.length_take]; omega
 have h2 := runs_left S (fst S) (bs.take (k * (2 * S.bits))) (bs.drop (k * (2 * S.bits))) k (by omega)
 rw [List.take_append_drop] at h2
 unfold sumN
 rw [sums_runs, padL_cut hb bs hk, List.length_append, hl, Nat.add_comm, Nat.add_mul_div_right _ _ hp, Nat.add_comm _ k, runs_right S _ _ _ hl, ← h2]
theorem sumR_all {S : Ks} (hb : S.bits = 32 ∨ S.bits = 64) (bs : List UInt8) : sumR S (fst S) bs bs.length = sumN S bs := by
 rw [sumN_cut hb bs (Nat.div_mul_le_self bs.length (2 * S.bits))]
 rfl
end
section
open Go Go.RowKit
theorem fs_sb {x y : Nat} (hy : y < P25) : fsub x y = sbN x y := by
 unfold fsub sbN
 rw [show x + 3 * P25 - y = x + (P25 - y) + P25 * 2 by omega, Nat.add_mul_mod_self_left]
theorem ltW {x : Nat} (h : x < P25) : x < W4 := Nat.lt_trans h P25_W4
theorem cAdd {x y : Nat} (hx : x < P25) (hy : y < P25) (w : World) : Calls Tryz.prog 103 #[nv x, nv y] w fun e w' => e = .returned (nv (adN x y)) ∧ Below w.heap.size w w' := fadd_any (ltW hx) (ltW hy) w
theorem cSub {x y : Nat} (hx : x < P25) (hy : y < P25) (w : World) : Calls Tryz.prog 102 #[nv x, nv y] w fun e w' => e = .returned (nv (sbN x y)) ∧ Below w.heap.size w w' := by
 have h := fsub_any (ltW hx) (ltW hy) w
 rwa [fs_sb hy] at h
theorem cMul {x y : Nat} (hx : x < P25) (hy : y < P25) (w : World) : Calls Tryz.prog 101 #[nv x, nv y] w fun e w' => e = .returned (nv (mlN x y)) ∧ Below w.heap.size w w' := fmul_any (ltW hx) (ltW hy) w
theorem cNeg {x : Nat} (hx : x < P25) (w : World) : Calls Tryz.prog 69 #[nv x] w fun e w' => e = .returned (nv ((P25 - x) % P25)) ∧ Below w.heap.size w w' := by
 have h := fneg_any (ltW hx) w
 rw [fs_sb hx] at h
 unfold sbN at h
 rwa [Nat.zero_add] at h
theorem cInv {x : Nat} (hx : x < P25) (w : World) : Calls Tryz.prog 106 #[nv x] w fun e w' => e = .returned (nv (ivN x)) ∧ Below w.heap.size w w' := finvert_any (ltW hx) w
def Sp.ok (s : Sp) : Prop := s.x < P25 ∧ s.y < P25 ∧ s.z < P25 ∧ s.t < P25
def Sp.of {C : Cv} (s : Sp) (p : Pt C) : Prop := toF s.z ≠ 0 ∧ toF s.x = p.x * toF s.z ∧ toF s.y = p.y * toF s.z ∧ toF s.t = p.x * p.y * toF s.z
theorem ed2_lt : ed2 < P25 := by decide +kernel
theorem ed2_is : toF ed2 = 2 * E25.d := by show toF ed2 = 2 * toF ed; decide +kernel
def Sp.plus (p q : Sp) : Sp :=
 ⟨mlN (sbN (mlN (adN p.y p.x) (adN q.y q.x)) (mlN (sbN p.y p.x) (sbN q.y q.x))) (sbN (mlN (adN p.z p.z) q.z) (mlN (mlN p.t q.t) ed2)),
 mlN (adN (mlN (adN p.y p.x) (adN q.y q.x)) (mlN (sbN p.y p.x) (sbN q.y q.x))) (adN (mlN (adN p.z p.z) q.z) (mlN (mlN p.t q.t) ed2)),
 mlN (adN (mlN (adN p.z p.z) q.z) (mlN (mlN p.t q.t) ed2)) (sbN (mlN (adN p.z p.z) q.z) (mlN (mlN p.t q.t) ed2)),
 mlN (sbN (mlN (adN p.y p.x) (adN q.y q.x)) (mlN (sbN p.y p.x) (sbN q.y q.x))) (adN (mlN (adN p.y p.x) (adN q.y q.x)) (mlN (sbN p.y p.x) (sbN q.y q.x)))⟩
theorem Sp.plus_ok (p q : Sp) : (Sp.plus p q).ok := ⟨mlN_lt _ _, mlN_lt _ _, mlN_lt _ _, mlN_lt _ _⟩
theorem Sp.plus_of {s t : Sp} {p q : Pt E25} (ks : s.ok) (kt : t.ok) (hs : s.of p) (ht : t.of q) : (Sp.plus s t).of (p.add q) := by
 obtain ⟨z1, x1, y1, t1⟩ := hs
 obtain ⟨z2, x2, y2, t2⟩ := ht
 have h1 := sx_mul p q
 have h2 := sy_mul p q
 have n1 := dp_ne p q
 have n2 := dm_ne p q
 have e1 : (p.add q).x = sx E25.d p.x p.y q.x q.y := rfl
 have e2 : (p.add q).y = sy E25.d p.x p.y q.x q.y := rfl
 have M := fun x y => mlN_lt x y
 unfold Sp.of Sp.plus
 simp only [toF_mlN, toF_adN, toF_sbN _ _ ks.1, toF_sbN _ _ kt.1, toF_sbN _ _ (mlN_lt _ _), ed2_is]
 rw [e1, e2, x1, y1, t1, x2, y2, t2]
 clear ks kt M x1 y1 t1 x2 y2 t2
 generalize sx E25.d p.x p.y q.x q.y = X at *
 generalize sy E25.d p.x p.y q.x q.y = Y at *
 generalize toF s.z = u at *
 generalize toF t.z = v at *
 have k1 : (u + u) * v + p.x * p.y * u * (q.x * q.y * v) * (2 * E25.d) = 2 * (u * v) * (1 + dt E25.d p.x p.y q.x q.y) := by unfold dt; grind
 have k2 : (u + u) * v - p.x * p.y * u * (q.x * q.y * v) * (2 * E25.d) = 2 * (u * v) * (1 - dt E25.d p.x p.y q.x q.y) := by unfold dt; grind
 have k3 : (p.y * u + p.x * u) * (q.y * v + q.x * v) - (p.y * u - p.x * u) * (q.y * v - q.x * v) = 2 * (u * v) * (p.x * q.y + p.y * q.x) := by grind
 have k4 : (p.y * u + p.x * u) * (q.y * v + q.x * v) + (p.y * u - p.x * u) * (q.y * v - q.x * v) = 2 * (u * v) * (p.y * q.y + p.x * q.x) := by grind
 rw [k1, k2, k3, k4, ← h1, ← h2]
 generalize 1 + dt E25.d p.x p.y q.x q.y = A at *
 generalize 1 - dt E25.d p.x p.y q.x q.y = B at *
 have huv : 2 * (u * v) ≠ 0 := mul_ne two_ne (mul_ne z1 z2)
 clear e1 e2 k1 k2 k3 k4 h1 h2
 refine ⟨mul_ne (mul_ne huv n1) (mul_ne huv n2), ?_, ?_, ?_⟩
 ·grind
 ·grind
 ·grind
def Sp.up (x y : Nat) : Sp := ⟨x, y, 1, mlN x y⟩
theorem Sp.up_ok {x y : Nat} (hx : x < P25) (hy : y < P25) : (Sp.up x y).ok := ⟨hx, hy, P25_one, mlN_lt _ _⟩
theorem Sp.up_of {x y : Nat} (h : onN x y = true) : (Sp.up x y).of (ptN x y h) := by
 refine ⟨(show toF 1 ≠ 0 by decide +kernel), ?_, ?_, ?_⟩
 ·show toF x = toF x * 1
  grind
 ·show toF y = toF y * 1
  grind
 ·show toF (mlN x y) = toF x * toF y * 1
  rw [toF_mlN]
  grind
theorem Sp.down {s : Sp} {p : Pt E25} (hs : s.ok) (h : s.of p) : mlN s.x (ivN s.z) = p.x.val ∧ mlN s.y (ivN s.z) = p.y.val :=
 of_point (t := ⟨s.x, s.y, s.z⟩) ⟨h.1, h.2.1, h.2.2.1⟩ hs.2.2.1
theorem Pt.four (a b i j : Pt E25) : (a.add b).add (i.add j) = (a.add i).add (b.add j) := by
 rw [Pt.assoc, ← Pt.assoc b i j, Pt.comm b i, Pt.assoc i b j, ← Pt.assoc a i (b.add j)]
theorem Pt.step2 (p q : Pt E25) (m n i j : Nat) : (((p.mul m).add (q.mul n)).add ((p.mul m).add (q.mul n))).add ((p.mul i).add (q.mul j)) = (p.mul (2 * m + i)).add (q.mul (2 * n + j)) := by
 rw [Pt.four (p.mul m) (q.mul n), Pt.four, ← Pt.mul_add, ← Pt.mul_add, ← Pt.mul_add, ← Pt.mul_add, ← Nat.two_mul, ← Nat.two_mul]
theorem hi_succ {a k : Nat} (hk : k < 256) : a / 2 ^ (256 - (k + 1)) = 2 * (a / 2 ^ (256 - k)) + bt a (255 - k) := by
 unfold bt
 rw [show 256 - k = (255 - k) + 1 by omega, show 256 - (k + 1) = 255 - k by omega, Nat.pow_succ, ← Nat.div_div_eq_div_mul]
 omega
theorem hi_zero {a : Nat} (ha : a < W4) : a / 2 ^ (256 - 0) = 0 := by
 have hW : W4 = 2 ^ (256 - 0) := by decide +kernel
 exact Nat.div_eq_of_lt (by rw [← hW]; exact ha)
theorem hi_end (a : Nat) : a / 2 ^ (256 - 256) = a := by rw [Nat.sub_self, Nat.pow_zero, Nat.div_one]
def Ta.pick (t : Ta) (i j : Nat) : Sp := if j = 0 then (if i = 0 then t.n else t.f) else (if i = 0 then t.h else t.b)
structure Ta.of4 (t : Ta) (p q : Pt E25) : Prop where
 kn : t.n.ok
 kf : t.f.ok
 kh : t.h.ok
 kb : t.b.ok
 n : t.n.of (Pt.nought E25)
 f : t.f.of p
 h : t.h.of q
 b : t.b.of (p.add q)
theorem Ta.of4.pick {t : Ta} {p q : Pt E25} (h : t.of4 p q) {i j : Nat} (hi : i < 2) (hj : j < 2) : (t.pick i j).ok ∧ (t.pick i j).of ((p.mul i).add (q.mul j)) := by
 have m0 : ∀ r : Pt E25, r.mul 0 = Pt.nought E25 := fun _ => rfl
 unfold Ta.pick
 rcases (show i = 0 ∨ i = 1 by omega) with rfl | rfl <;> rcases (show j = 0 ∨ j = 1 by omega) with rfl | rfl
 ·rw [if_pos rfl, if_pos rfl, m0, m0, Pt.add_nought]; exact ⟨h.kn, h.n⟩
 ·rw [if_neg (by decide), if_pos rfl, m0, Pt.mul_one, Pt.nought_add]; exact ⟨h.kh, h.h⟩
 ·rw [if_pos rfl, if_neg (by decide), m0, Pt.mul_one, Pt.add_nought]; exact ⟨h.kf, h.f⟩
 ·rw [if_neg (by decide), if_neg (by decide), Pt.mul_one, Pt.mul_one]; exact ⟨h.kb, h.b⟩
end
end Go.Proofs.YtkbkalhcdbklkaaGreatDoor
