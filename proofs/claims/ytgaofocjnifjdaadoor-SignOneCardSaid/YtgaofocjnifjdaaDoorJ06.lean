/-
  The document's numbers, Small, Great, Sum256, Sum512 (layer 6). By an AI agent. The document's Small, Great, Sum256, Sum512 (layer 6). Written by tools/gen_n13.py. By an AI agent. Sums piece by piece: what stands behind whole blocks, and what is padded there (layer 6). Of no program. By an AI agent. The program's tables in memory: those of SHA-512 alone (layer 9). By an AI agent. The code's tables, number, get, put, of both words (layer 6). Written by tools/gen_n22.py. By an AI agent.
-/
import Derived.Test.YtgaofocjnifjdaaDoorJ05
import Derived.Test.YtgaofocjnifjdaaDoorJ05
import Derived.Test.YtgaofocjnifjdaaDoorJ04
import Derived.Test.YtgaofocjnifjdaaDoorJ03

import Derived.Test.YtgaofocjnifjdaaDoorN21
namespace Go.Proofs.YtgaofocjnifjdaaDoor
open Go Go.RowKit
def numv (e bits p : Nat) : Nat := if bits = 32 then gr p e 80 % 18446744073709551616 / 4294967296 else gr p e 80 % 18446744073709551616
theorem numv_lt (e p : Nat) {bits : Nat} (hb : bits = 32 ∨ bits = 64) : numv e bits p < 2 ^ bits := by
  unfold numv
  rcases hb with rfl | rfl
  · rw [if_pos rfl]; omega
  · rw [if_neg (by decide)]; omega
theorem map_at (L : List Nat) (f : Nat → Nat) {k : Nat} (h : k < L.length) : (L.map f).getD k 0 = f (L.getD k 0) := by
  simp [List.getD, h]
attribute [local irreducible] gr pr
set_option maxRecDepth 20000
def smallS : Ks := ⟨32, 64, (2, 13, 22), (6, 11, 25), (7, 18, 3), (17, 19, 10), (pr 310).map (numv 3 32), (pr 18).map (numv 2 32)⟩
def greatS : Ks := ⟨64, 80, (28, 34, 39), (14, 18, 41), (1, 8, 7), (19, 61, 6), (pr 408).map (numv 3 64), (pr 18).map (numv 2 64)⟩
theorem map_lt (L : List Nat) (f : Nat → Nat) {b : Nat} (hf : ∀ p, f p < b) (hb : 0 < b) (k : Nat) : (L.map f).getD k 0 < b := by
  by_cases h : k < L.length
  · rw [map_at L f h]; exact hf _
  · simp [List.getD, Nat.le_of_not_lt h, hb]
theorem len80 : (pr 408).length = 80 ∧ ∀ t, t < 408 → (pr t).length < 80 := by decide +kernel
theorem len8 : (pr 18).length = 8 ∧ ∀ t, t < 18 → (pr t).length < 8 := by decide +kernel
theorem greatOk : Kok greatS := ⟨.inr rfl, by decide, by decide, by decide, by decide, by decide, ⟨by rw [show greatS.keys = (pr 408).map (numv 3 64) from rfl, List.length_map]; exact len80.1, map_lt _ _ (fun p => numv_lt 3 p (.inr rfl)) (by decide)⟩, ⟨by rw [show greatS.first = (pr 18).map (numv 2 64) from rfl, List.length_map]; exact len8.1, map_lt _ _ (fun p => numv_lt 2 p (.inr rfl)) (by decide)⟩⟩
end Go.Proofs.YtgaofocjnifjdaaDoor
namespace Go.Proofs.YtgaofocjnifjdaaDoor
open Go Go.RowKit
set_option maxRecDepth 20000
section
variable {w : World} {B g : Nat}
end
def setKw (w : World) (g : Nat) (K : Kd) : World := w.setCells g 0 K.cells
section
variable {ops : Array Oper} {rest : List Oper} {a : Act} {w : World} {Q : Exit → Act → World → Prop} {B g : Nat} {dst : Option Nat} {tp : TypeId} {ps : String} {af : Array Edge} {x y : Operand}
end
section
attribute [local irreducible] setKw Kd.cells
end
section
attribute [local irreducible] setKw Kd.cells
end
end Go.Proofs.YtgaofocjnifjdaaDoor
namespace Go.Proofs.YtgaofocjnifjdaaDoor
open Go Go.RowKit
/-- The words behind j blocks, of any words at first. -/
def runs (S : Ks) (V : Nat → Nat) (P : List UInt8) : Nat → Nat → Nat
  | 0 => V
  | j + 1 => blN S (runs S V P j) (nth ((P.drop (j * (2 * S.bits))).take (2 * S.bits)))
def fst (S : Ks) (i : Nat) : Nat := S.first.getD i 0
theorem runs_zero (S : Ks) (V : Nat → Nat) (P : List UInt8) : runs S V P 0 = V := rfl
theorem runs_succ (S : Ks) (V : Nat → Nat) (P : List UInt8) (j : Nat) : runs S V P (j + 1) = blN S (runs S V P j) (nth ((P.drop (j * (2 * S.bits))).take (2 * S.bits))) := rfl
theorem sums_runs (S : Ks) (P : List UInt8) : ∀ j, sums S P j = runs S (fst S) P j
  | 0 => rfl
  | j + 1 => by rw [sums_succ, runs_succ, sums_runs S P j]
theorem runs_lt {S : Ks} {V : Nat → Nat} (hV : ∀ i, V i < 2 ^ S.bits) (P : List UInt8) : ∀ j i, runs S V P j i < 2 ^ S.bits
  | 0, i => hV i
  | j + 1, i => by
    rw [runs_succ]
    unfold blN
    exact Nat.mod_lt _ (Nat.pow_pos (by decide))
theorem runs_left (S : Ks) (V : Nat → Nat) (P Q : List UInt8) : ∀ j, j * (2 * S.bits) ≤ P.length → runs S V (P ++ Q) j = runs S V P j
  | 0, _ => rfl
  | j + 1, h => by
    rw [Nat.succ_mul] at h
    rw [runs_succ, runs_succ, runs_left S V P Q j (by omega), List.drop_append_of_le_length (by omega), List.take_append_of_le_length (by rw [List.length_drop]; omega)]
theorem runs_right (S : Ks) (V : Nat → Nat) (P Q : List UInt8) {k : Nat} (h : P.length = k * (2 * S.bits)) : ∀ j, runs S V (P ++ Q) (k + j) = runs S (runs S V P k) Q j
  | 0 => runs_left S V P Q k (by omega)
  | j + 1 => by
    have e : (P ++ Q).drop ((k + j) * (2 * S.bits)) = Q.drop (j * (2 * S.bits)) := by
      rw [Nat.add_mul, ← h, List.drop_append]
      simp
    rw [← Nat.add_assoc, runs_succ, runs_succ, runs_right S V P Q h j, e]
/-- On from any whole block. -/
theorem runs_on (S : Ks) (V : Nat → Nat) (P : List UInt8) {k : Nat} (h : k * (2 * S.bits) ≤ P.length) (j : Nat) : runs S V P (k + j) = runs S (runs S V P k) (P.drop (k * (2 * S.bits))) j := by
  have hl : (P.take (k * (2 * S.bits))).length = k * (2 * S.bits) := by rw [List.length_take]; omega
  have h1 := runs_right S V (P.take (k * (2 * S.bits))) (P.drop (k * (2 * S.bits))) hl j
  have h2 := runs_left S V (P.take (k * (2 * S.bits))) (P.drop (k * (2 * S.bits))) k (by omega)
  rw [List.take_append_drop] at h1 h2
  rw [h1, h2]
/-- What follows the last whole block, padded; all in all there are so many bytes. -/
def padR (S : Ks) (rest : List UInt8) (all : Nat) : List UInt8 := pz rest (zc S rest.length + (S.bits / 4 - 8)) ++ gen (lb all) 8
theorem zc_mod {S : Ks} (hb : S.bits = 32 ∨ S.bits = 64) {a b : Nat} (h : a % (2 * S.bits) = b % (2 * S.bits)) : zc S a = zc S b := by
  unfold zc
  generalize S.bits = n at *
  rcases hb with rfl | rfl <;> omega
theorem padL_cut {S : Ks} (hb : S.bits = 32 ∨ S.bits = 64) (bs : List UInt8) {k : Nat} (hk : k * (2 * S.bits) ≤ bs.length) : padL S bs = bs.take (k * (2 * S.bits)) ++ padR S (bs.drop (k * (2 * S.bits))) bs.length := by
  have h : zc S (bs.length - k * (2 * S.bits)) = zc S bs.length := zc_mod hb (by
    obtain ⟨r, hr⟩ : ∃ r, bs.length = r + (2 * S.bits) * k := ⟨bs.length - k * (2 * S.bits), by rw [Nat.mul_comm] at hk ⊢; omega⟩
    rw [hr, Nat.mul_comm k, Nat.add_sub_cancel, Nat.add_mul_mod_self_left])
  unfold padL padR pz
  rw [List.length_drop, h, ← List.append_assoc, ← List.append_assoc, List.take_append_drop]
theorem padR_length {S : Ks} (hb : S.bits = 32 ∨ S.bits = 64) (rest : List UInt8) (all : Nat) : (padR S rest all).length % (2 * S.bits) = 0 ∧ (padR S rest all).length = rest.length + 1 + zc S rest.length + S.bits / 4 := by
  have h := (zc_at hb rest.length (zc S rest.length) (Nat.le_refl _)).2 rfl
  have e : (padR S rest all).length = rest.length + 1 + zc S rest.length + S.bits / 4 := by
    unfold padR
    rw [List.length_append, pz_length, gen_length]
    rcases hb with h | h <;> rw [h] <;> omega
  exact ⟨by rw [e]; exact h, e⟩
/-- The code's sum: on from any words, of any bytes behind them. -/
def sumR (S : Ks) (V : Nat → Nat) (b : List UInt8) (all : Nat) : List UInt8 :=
  gen (outB S (runs S (runs S V b (b.length / (2 * S.bits))) (padR S (b.drop (b.length / (2 * S.bits) * (2 * S.bits))) all) ((padR S (b.drop (b.length / (2 * S.bits) * (2 * S.bits))) all).length / (2 * S.bits)))) S.bits
theorem sumN_cut {S : Ks} (hb : S.bits = 32 ∨ S.bits = 64) (bs : List UInt8) {k : Nat} (hk : k * (2 * S.bits) ≤ bs.length) :
    sumN S bs = gen (outB S (runs S (runs S (fst S) bs k) (padR S (bs.drop (k * (2 * S.bits))) bs.length) ((padR S (bs.drop (k * (2 * S.bits))) bs.length).length / (2 * S.bits)))) S.bits := by
  have hp : 0 < 2 * S.bits := by omega
  have hl : (bs.take (k * (2 * S.bits))).length = k * (2 * S.bits) := by rw [List.length_take]; omega
  have h2 := runs_left S (fst S) (bs.take (k * (2 * S.bits))) (bs.drop (k * (2 * S.bits))) k (by omega)
  rw [List.take_append_drop] at h2
  unfold sumN
  rw [sums_runs, padL_cut hb bs hk, List.length_append, hl, Nat.add_comm, Nat.add_mul_div_right _ _ hp, Nat.add_comm _ k, runs_right S _ _ _ hl, ← h2]
theorem sumR_all {S : Ks} (hb : S.bits = 32 ∨ S.bits = 64) (bs : List UInt8) : sumR S (fst S) bs bs.length = sumN S bs := by
  rw [sumN_cut hb bs (Nat.div_mul_le_self bs.length (2 * S.bits))]
  rfl
end Go.Proofs.YtgaofocjnifjdaaDoor
namespace Go.Proofs.YtgaofocjnifjdaaDoor
open Go Go.RowKit
/-- So many variables lie ahead of all that a call makes. -/
def glbN : Nat := max (1 + 1) (max (4 + 1) (5 + 1))
/-- The program's tables, as its own text lays them. -/
structure GlbS (w : World) : Prop where
  b : ∀ k, k < 8 → w.cell? ⟨1, k, none⟩ = some (.int .u64 ((fst greatS k : Nat) : Int))
  c : ∀ k, k < 64 → w.cell? ⟨4, k, none⟩ = some (.int .u32 ((smallS.keys.getD k 0 : Nat) : Int))
  d : ∀ k, k < 80 → w.cell? ⟨5, k, none⟩ = some (.int .u64 ((greatS.keys.getD k 0 : Nat) : Int))
theorem GlbS.four {w : World} (h : GlbS w) : glbN ≤ w.heap.size := by
  have h1 := World.block_lt_of_cell? w ⟨1, 0, none⟩ (h.b 0 (by decide))
  have h2 := World.block_lt_of_cell? w ⟨4, 0, none⟩ (h.c 0 (by decide))
  have h3 := World.block_lt_of_cell? w ⟨5, 0, none⟩ (h.d 0 (by decide))
  unfold glbN
  simp only at h1 h2 h3
  omega
theorem GlbS.keep {w w' : World} (h : GlbS w) {B : Nat} (hb : Below B w w') (hB : glbN ≤ B) : GlbS w' := by
  unfold glbN at hB
  exact ⟨fun k hk => (hb.cell (p := ⟨1, k, none⟩) (show 1 < B by omega)).trans (h.b k hk), fun k hk => (hb.cell (p := ⟨4, k, none⟩) (show 4 < B by omega)).trans (h.c k hk), fun k hk => (hb.cell (p := ⟨5, k, none⟩) (show 5 < B by omega)).trans (h.d k hk)⟩
theorem GlbS.next {w w' : World} (h : GlbS w) (hb : Below w.heap.size w w') : GlbS w' := h.keep hb h.four
end Go.Proofs.YtgaofocjnifjdaaDoor
namespace Go.Proofs.YtgaofocjnifjdaaDoor
open Go Go.RowKit
set_option maxRecDepth 20000
/-- A word's byte, the lowest first. -/
def bb (x i : Nat) : Nat := x / 2 ^ (8 * i) % 256
def bput (f : Nat → Value) (o s x i : Nat) (j : Nat) : Value := if o + s ≤ j + i ∧ j < o + s then .int .u8 ((bb x (o + s - 1 - j) : Nat) : Int) else f j
theorem bput_zero (f : Nat → Value) (o s x : Nat) : bput f o s x 0 = f := by
  funext j
  unfold bput
  rw [if_neg (by omega)]
theorem bput_succ (f : Nat → Value) (o s x : Nat) {i m : Nat} (hi : i < s) (hm : m = s - 1 - i) (j : Nat) : (if j = o + m then Value.int .u8 ((bb x i : Nat) : Int) else bput f o s x i j) = bput f o s x (i + 1) j := by
  unfold bput
  by_cases h : j = o + m
  · rw [if_pos h, if_pos (by omega), show o + s - 1 - j = i by omega]
  · rw [if_neg h]
    by_cases h2 : o + s ≤ j + i ∧ j < o + s
    · rw [if_pos h2, if_pos (by omega)]
    · rw [if_neg h2, if_neg (by omega)]
theorem be_or {x c : Nat} (hc : c < 256) : (x * 256) ||| c = x * 256 + c := by
  rw [Nat.mul_comm, show (256 : Nat) = 2 ^ 8 by decide]
  exact (Nat.two_pow_add_eq_or_of_lt (i := 8) (b := c) (by omega) x).symm
set_option maxHeartbeats 1600000 in
theorem number_64 {t : Nat} (ht : t < 80) (w : World) (hG : GlbS w) : Calls Tryd.prog 81 #[.int .i64 (t : Int)] w fun e w' => e = .returned (.int .u64 ((greatS.keys.getD t 0 : Nat) : Int)) ∧ w' = w := by
  have hc := hG.d t ht
  generalize greatS.keys.getD t 0 = r at *
  have h1 : (t : Int) < 80 := by omega
  have h2 : (0 : Int) ≤ (t : Int) := by omega
  clear hG
  go_enter Tryd.func81, Tryd.ntmps81
  go_wp2_with fail
  go_at_call 86
  refine (small_64 _).mono ?_
  rintro e v1 ⟨rfl, rfl⟩
  go_wp2_with fail
  go_ret
  exact ⟨rfl, rfl⟩
theorem be_fit_64 {y : Nat → Nat} (hy : ∀ i, y i < 256) (p : Nat) {k : Nat} (hk : k < 8) : be y p k < 72057594037927936 := Nat.lt_of_lt_of_le (be_lt hy p k) (Nat.le_trans (Nat.pow_le_pow_right (by decide) (show k ≤ 8 - 1 by omega)) (by decide))
set_option maxHeartbeats 1600000 in
theorem get_64 {y : Nat → Nat} (hy : ∀ i, y i < 256) {b o p c : Nat} (w : World) (hr : ∀ k, k < 8 → w.cell? ⟨b, o + k, none⟩ = some (.int .u8 ((y (p + k) : Nat) : Int))) :
    Calls Tryd.prog 83 #[.slice (some ⟨b, o, none⟩) 8 c] w fun e w' => e = .returned (.int .u64 ((be y p 8 : Nat) : Int)) ∧ w' = w := by
  have HR := Lib.hid hr
  have HY := Lib.hid hy
  have HB := Lib.hid (fun k hk => be_fit_64 hy p (k := k) hk)
  clear hr hy
  go_enter Tryd.func83, Tryd.ntmps83
  go_wp2_with fail
  go_loop [3, 7] (fun v i => ∃ k : Nat, k ≤ 8 ∧ i = .int .i64 (k : Int) ∧ v = .int .u64 ((be y p k : Nat) : Int))
    (fun _ i => 8 - (intOf i).toNat)
  case atStart => exact ⟨0, by omega, rfl, by rw [be_zero]; rfl⟩
  case round =>
    obtain ⟨k, hk, rfl, rfl⟩ := hrel
    by_cases hlt : k < 8
    · have g1 : (k : Int) < 8 := by omega
      have cc := HR.out k hlt
      have hs := be_succ y p k
      have hb := HB.out k hlt
      have hy := HY.out (p + k)
      generalize y (p + k) = c2 at *
      rw [← be_or hy] at hs
      have e1 : IntKind.u64.wrap (be y p k * 256 : Int) = ((be y p k * 256 : Nat) : Int) := by rw [IntKind.wrap_u64]; omega
      have e2 : IntKind.u64.wrap (c2 : Int) = (c2 : Int) := by rw [IntKind.wrap_u64]; omega
      have e3 := bits_or_u64_nat (be y p k * 256) c2 (by omega) (by omega)
      rw [← hs] at e3
      generalize hz : be y p (k + 1) = z at *
      have HZ := Lib.hid hz
      generalize hx : be y p k = x at *
      generalize hx2 : x * 256 = x2 at *
      clear hs hx hz hy hb hx2
      go_wp2_with fail
      go_round
      case rel => exact ⟨k + 1, by omega, by go_num, by rw [HZ.out]⟩
      case measure => simp [intOf]; omega
    · obtain rfl : k = 8 := by omega
      simp only [Int.cast_ofNat_Int]
      go_wp2_with fail
      go_ret
      exact ⟨rfl, rfl⟩
set_option maxHeartbeats 1600000 in
theorem put_64 {B g o N C cap x : Nat} {f : Nat → Value} {e0 : TypeId} (ho : o + 8 ≤ N) (w : World) (ow : OwnF w B e0 (some ⟨g, 0, none⟩) C N f) :
    Calls Tryd.prog 67 #[.slice (some ⟨g, o, none⟩) 8 cap, .int .u64 (x : Int)] w fun e w' => e = .returned (.tuple #[]) ∧ OwnF w' B e0 (some ⟨g, 0, none⟩) C N (bput f o 8 x 8) ∧ Only g w w' := by
  go_enter Tryd.func67, Tryd.ntmps67
  go_wp2_with fail
  go_loopw [7] (fun i wr => ∃ k : Nat, k ≤ 8 ∧ i = .int .i64 (k : Int) ∧ OwnF wr B e0 (some ⟨g, 0, none⟩) C N (bput f o 8 x k) ∧ Only g w wr)
    (fun i _ => 8 - (intOf i).toNat)
  case atStart => exact ⟨0, by omega, rfl, by rw [bput_zero]; exact ow, Only.refl _ _⟩
  case round =>
    clear ow
    obtain ⟨k, hk, rfl, ow, hb⟩ := hrel
    by_cases hlt : k < 8
    · have g1 : (k : Int) < 8 := by omega
      obtain ⟨m, hm⟩ : ∃ m, m = 8 - 1 - k := ⟨_, rfl⟩
      have cc := ow.cell (k := o + m) (by omega)
      have ff := ow.free (o + m)
      have e1 : IntKind.i64.wrap (7 - (k : Int)) = (m : Int) := by rw [IntKind.wrap_i64]; omega
      have e2 : IntKind.i64.wrap (8 * (k : Int)) = ((8 * k : Nat) : Int) := by rw [IntKind.wrap_i64]; omega
      have e3 : (x : Int) / 2 ^ min (8 * k) 64 = ((x / 2 ^ (8 * k) : Nat) : Int) := by rw [Nat.min_eq_left (by omega)]; simp
      have hzb : bb x k = x / 2 ^ (8 * k) % 256 := rfl
      generalize hz : x / 2 ^ (8 * k) = z at *
      have e4 : IntKind.u8.wrap (z : Int) = ((bb x k : Nat) : Int) := by rw [IntKind.wrap_u8]; omega
      have h1 : (0 : Int) ≤ (m : Int) := by omega
      have h2 : (m : Int) < 8 := by omega
      have hset := ow.set_ (o + m) (.int .u8 ((bb x k : Nat) : Int))
      have hcg := Lib.hid (OwnF.congr hset fun j _ => bput_succ f o 8 x hlt hm j)
      have ho2 := Lib.hid (hb.trans (Only.setCell wr ⟨g, o + m, none⟩ (.int .u8 ((bb x k : Nat) : Int))))
      generalize bb x k = zb at *
      generalize h8 : 8 * k = k8 at *
      have g8 : (0 : Int) ≤ (k8 : Int) := by omega
      clear hzb hm hset ow hb hz h8
      go_wp2_with fail
      exact ⟨⟨k + 1, by omega, by go_num, hcg.out, ho2.out⟩, by simp [intOf]; omega⟩
    · obtain rfl : k = 8 := by omega
      simp only [Int.cast_ofNat_Int]
      go_wp2_with fail
      exact bodyPost_end (v := .tuple #[]) (by simp [results, Tryd.results67, go_sem]) rfl ⟨rfl, ow, hb⟩
end Go.Proofs.YtgaofocjnifjdaaDoor
