import Derived.Test.YtmhfkabpfkoocaaDoorMA
import Derived.StillTailTactics
import Derived.RegionTactic
import Derived.Deep.RegionHeld3
import Derived.Laws.Pointers
import Derived.RowKit3
import Derived.Deep.RegionWith
import Derived.ChangeKeysEq
import Derived.Laws.StructEq
import Derived.Laws.ShiftsVar
namespace Go.Proofs.YtmhfkabpfkoocaaDoor
open Go Go.RowKit

def wv (x j : Nat) : Value := .int .u64 (wd x j : Int)
def fw (x k j : Nat) : Value := .int .u64 ((if j < k then wd x j else 0 : Nat) : Int)
theorem fw_in {x k j : Nat} (h : j < k) : fw x k j = .int .u64 (wd x j : Int) := by simp [fw, h]
theorem fw_out {x k j : Nat} (h : ¬ j < k) : fw x k j = .int .u64 0 := by simp [fw, h]
theorem fw_set (x k j : Nat) : (if j = k then .int .u64 (wd x k : Int) else fw x k j) = fw x (k + 1) j := by
  by_cases h : j = k
  · subst h; rw [if_pos rfl, fw_in (by omega)]
  · rw [if_neg h]
    by_cases h2 : j < k
    · rw [fw_in h2, fw_in (by omega)]
    · rw [fw_out h2, fw_out (by omega)]
abbrev A4 (x : Nat) : Obj := .cells #[.int .u64 (wd x 0 : Int), .int .u64 (wd x 1 : Int), .int .u64 (wd x 2 : Int), .int .u64 (wd x 3 : Int)] 65
abbrev Z4 : Obj := .cells #[.int .u64 0, .int .u64 0, .int .u64 0, .int .u64 0] 65
theorem own_A4 {w : World} {B : Nat} (hB : B ≤ w.heap.size) (x : Nat) : OwnF (w.alloc (A4 x)) B 65 (some ⟨w.heap.size, 0, none⟩) 4 4 (wv x) :=
  OwnF.lit _ hB _ 4 _ (by decide) rfl
theorem own_Z4 {w : World} {B : Nat} (hB : B ≤ w.heap.size) : OwnF (w.alloc Z4) B 65 (some ⟨w.heap.size, 0, none⟩) 4 4 (fun _ => .int .u64 0) :=
  OwnF.lit _ hB _ 4 _ (by decide) rfl

theorem set4 {w : World} {B g : Nat} {e : TypeId} {f : Nat → Value} (h : OwnF w B e (some ⟨g, 0, none⟩) 4 4 f) (v0 v1 v2 v3 : Value) :
    ∃ w', w' = ((((w.setCell ⟨g, 0, none⟩ v0).setCell ⟨g, 1, none⟩ v1).setCell ⟨g, 2, none⟩ v2).setCell ⟨g, 3, none⟩ v3) ∧
    w'.cell? ⟨g, 0, none⟩ = some v0 ∧ w'.cell? ⟨g, 1, none⟩ = some v1 ∧ w'.cell? ⟨g, 2, none⟩ = some v2 ∧ w'.cell? ⟨g, 3, none⟩ = some v3 ∧ Below B w w' := by
  have h1 := h.set_ 0 v0
  have h2 := h1.set_ 1 v1
  have h3 := h2.set_ 2 v2
  have h4 := h3.set_ 3 v3
  have hg := h.ge
  exact ⟨_, rfl, by rw [h4.cell (by decide)]; simp, by rw [h4.cell (by decide)]; simp, by rw [h4.cell (by decide)]; simp, by rw [h4.cell (by decide)]; simp,
    ((((Below.refl _ w).setCell hg _).setCell hg _).setCell hg _).setCell hg _⟩
/-- Two numbers and two new ones, in four blocks. -/
theorem start4 (x y : Nat) (w : World) : RdF ((((w.alloc (A4 x)).alloc (A4 y)).alloc Z4).alloc Z4) (w.heap.size + 3) (some ⟨w.heap.size, 0, none⟩) 4 4 (wv x) ∧
    RdF ((((w.alloc (A4 x)).alloc (A4 y)).alloc Z4).alloc Z4) (w.heap.size + 3) (some ⟨w.heap.size + 1, 0, none⟩) 4 4 (wv y) ∧
    OwnF ((((w.alloc (A4 x)).alloc (A4 y)).alloc Z4).alloc Z4) w.heap.size 65 (some ⟨w.heap.size + 2, 0, none⟩) 4 4 (fun _ => .int .u64 0) ∧
    OwnF ((((w.alloc (A4 x)).alloc (A4 y)).alloc Z4).alloc Z4) w.heap.size 65 (some ⟨w.heap.size + 3, 0, none⟩) 4 4 (fun _ => .int .u64 0) ∧
    Below w.heap.size w ((((w.alloc (A4 x)).alloc (A4 y)).alloc Z4).alloc Z4) := by
  have s1 : (w.alloc (A4 x)).heap.size = w.heap.size + 1 := by simp
  have s2 : ((w.alloc (A4 x)).alloc (A4 y)).heap.size = w.heap.size + 2 := by simp
  have s3 : (((w.alloc (A4 x)).alloc (A4 y)).alloc Z4).heap.size = w.heap.size + 3 := by simp
  have b1 := (Below.refl (w.heap.size + 1) (w.alloc (A4 x))).alloc (by omega) (A4 y)
  have b2 := (Below.refl (w.heap.size + 2) ((w.alloc (A4 x)).alloc (A4 y))).alloc (by omega) Z4
  have b3 := (Below.refl (w.heap.size + 3) (((w.alloc (A4 x)).alloc (A4 y)).alloc Z4)).alloc (by omega) Z4
  have irx := (((own_A4 (w := w) (Nat.le_refl _) x).rd.mono (B' := w.heap.size + 1) (by omega)).keep ((b1.trans (b2.mono (by omega))).trans (b3.mono (by omega)))).mono (B' := w.heap.size + 3) (by omega)
  have iry := (((own_A4 (w := w.alloc (A4 x)) (B := w.heap.size) (by omega) y).rd.mono (B' := w.heap.size + 2) (by omega)).keep (b2.trans (b3.mono (by omega)))).mono (B' := w.heap.size + 3) (by omega)
  have ioz := (own_Z4 (w := (w.alloc (A4 x)).alloc (A4 y)) (B := w.heap.size) (by omega)).keepAt (by rw [s2]; exact b3)
  have ios := own_Z4 (w := ((w.alloc (A4 x)).alloc (A4 y)).alloc Z4) (B := w.heap.size) (by omega)
  have bb : Below w.heap.size w ((((w.alloc (A4 x)).alloc (A4 y)).alloc Z4).alloc Z4) := ((((Below.refl _ w).alloc (by omega) _).alloc (by omega) _).alloc (by omega) _).alloc (by omega) _
  rw [s1] at iry
  rw [s2] at ioz
  rw [s3] at ios
  exact ⟨irx, iry, ioz, ios, bb⟩

theorem add_any (x y : Nat) (w : World) :
    Calls Tryd.prog 48 #[nv x, nv y] w fun e w' => e = .returned (.tuple #[nv (x + y), .int .u64 (cw x y 4 : Int)]) ∧ Below w.heap.size w w' := by
  obtain ⟨irx, iry, ioz, ios, bb⟩ := start4 x y w
  unfold nv
  go_enter Tryd.func48, Tryd.ntmps48
  go_wp2
  go_loopw [7, 9] (fun c i wr => ∃ k : Nat, k ≤ 4 ∧ i = .int .i64 k ∧ c = .int .u64 (cw x y k : Int) ∧ RdF wr (w.heap.size + 3) (some ⟨w.heap.size, 0, none⟩) 4 4 (wv x) ∧ RdF wr (w.heap.size + 3) (some ⟨w.heap.size + 1, 0, none⟩) 4 4 (wv y) ∧
      OwnF wr w.heap.size 65 (some ⟨w.heap.size + 2, 0, none⟩) 4 4 (fun _ => .int .u64 0) ∧ OwnF wr w.heap.size 65 (some ⟨w.heap.size + 3, 0, none⟩) 4 4 (fw (x + y) k) ∧ Below w.heap.size w wr)
    (fun _ i _ => 4 - (intOf i).toNat)
  case atStart => exact ⟨0, by omega, rfl, by rw [cw_zero]; rfl, irx, iry, ioz, ios.congr (fun j _ => by rw [fw_out (by omega)]), bb⟩
  case round =>
    obtain ⟨k, hk, rfl, rfl, rx, ry, oz, os, hb⟩ := hrel
    clear irx iry ioz ios bb
    by_cases hlt : k < 4
    · have g1 : (k : Int) < 4 := by omega
      have c1 : wr.cell? ⟨w.heap.size, k, none⟩ = some (.int .u64 (wd x k : Int)) := rx.cell0 hlt
      have c2 : wr.cell? ⟨w.heap.size + 1, k, none⟩ = some (.int .u64 (wd y k : Int)) := ry.cell0 hlt
      have c3 := os.cell hlt
      rw [fw_out (by omega)] at c3
      have f3 := os.free k
      have hadd := add64_wd x y k
      go_wp2
      go_region
      go_wp2
      go_roundw
      case rel =>
        have os' := os.set_ k (.int .u64 (wd (x + y) k : Int))
        have hset : Below (w.heap.size + 3) wr (wr.setCell ⟨w.heap.size + 3, k, none⟩ (.int .u64 (wd (x + y) k : Int))) := (Below.refl (w.heap.size + 3) wr).setCell (Nat.le_refl (w.heap.size + 3)) _
        refine ⟨k + 1, by omega, by go_num, by go_num, (rx.keep hset).drew, (ry.keep hset).drew, (oz.keepAt hset).drew, ?_, (hb.trans (hset.mono (by omega))).drew⟩
        exact (os'.congr fun j _ => fw_set _ _ _).drew
      case measure => simp [intOf]; omega
    · have hk' : k = 4 := by omega
      subst hk'
      have c0 := os.cell (k := 0) (by decide)
      have c1 := os.cell (k := 1) (by decide)
      have c2 := os.cell (k := 2) (by decide)
      have c3 := os.cell (k := 3) (by decide)
      rw [fw_in (by decide)] at c0 c1 c2 c3
      have d0 := oz.cell (k := 0) (by decide)
      have d1 := oz.cell (k := 1) (by decide)
      have d2 := oz.cell (k := 2) (by decide)
      have d3 := oz.cell (k := 3) (by decide)
      have f0 := oz.free 0
      have f1 := oz.free 1
      have f2 := oz.free 2
      have f3 := oz.free 3
      obtain ⟨wz, ez, r0, r1, r2, r3, rb⟩ := set4 oz (.int .u64 (wd (x + y) 0 : Int)) (.int .u64 (wd (x + y) 1 : Int)) (.int .u64 (wd (x + y) 2 : Int)) (.int .u64 (wd (x + y) 3 : Int))
      have hbb := hb.trans rb
      go_wp2
      rw [← ez]
      clear c0 c1 c2 c3 d0 d1 d2 d3 f0 f1 f2 f3 ez
      refine bodyPost_ret (v := .tuple #[.agg #[.int .u64 (wd (x + y) 0 : Int), .int .u64 (wd (x + y) 1 : Int), .int .u64 (wd (x + y) 2 : Int), .int .u64 (wd (x + y) 3 : Int)], .int .u64 (cw x y 4 : Int)]) (by simp [results, Tryd.results48, go_sem, r0, r1, r2, r3]) rfl ⟨rfl, hb.trans rb⟩
theorem sub_any (x y : Nat) (hy : y < W4) (w : World) :
    Calls Tryd.prog 61 #[nv x, nv y] w fun e w' => e = .returned (.tuple #[nv (x + W4 - y), .int .u64 (bw x y 4 : Int)]) ∧ Below w.heap.size w w' := by
  obtain ⟨irx, iry, ioz, ios, bb⟩ := start4 x y w
  unfold nv
  go_enter Tryd.func61, Tryd.ntmps61
  go_wp2
  go_loopw [7, 9] (fun c i wr => ∃ k : Nat, k ≤ 4 ∧ i = .int .i64 k ∧ c = .int .u64 (bw x y k : Int) ∧ RdF wr (w.heap.size + 3) (some ⟨w.heap.size, 0, none⟩) 4 4 (wv x) ∧ RdF wr (w.heap.size + 3) (some ⟨w.heap.size + 1, 0, none⟩) 4 4 (wv y) ∧
      OwnF wr w.heap.size 65 (some ⟨w.heap.size + 2, 0, none⟩) 4 4 (fun _ => .int .u64 0) ∧ OwnF wr w.heap.size 65 (some ⟨w.heap.size + 3, 0, none⟩) 4 4 (fw (x + W4 - y) k) ∧ Below w.heap.size w wr)
    (fun _ i _ => 4 - (intOf i).toNat)
  case atStart => exact ⟨0, by omega, rfl, by rw [bw_zero]; rfl, irx, iry, ioz, ios.congr (fun j _ => by rw [fw_out (by omega)]), bb⟩
  case round =>
    obtain ⟨k, hk, rfl, rfl, rx, ry, oz, os, hb⟩ := hrel
    clear irx iry ioz ios bb
    by_cases hlt : k < 4
    · have g1 : (k : Int) < 4 := by omega
      have c1 : wr.cell? ⟨w.heap.size, k, none⟩ = some (.int .u64 (wd x k : Int)) := rx.cell0 hlt
      have c2 : wr.cell? ⟨w.heap.size + 1, k, none⟩ = some (.int .u64 (wd y k : Int)) := ry.cell0 hlt
      have c3 := os.cell hlt
      rw [fw_out (by omega)] at c3
      have f3 := os.free k
      have hadd := sub64_wd x y hlt hy
      go_wp2
      go_region
      go_wp2
      go_roundw
      case rel =>
        have os' := os.set_ k (.int .u64 (wd (x + W4 - y) k : Int))
        have hset : Below (w.heap.size + 3) wr (wr.setCell ⟨w.heap.size + 3, k, none⟩ (.int .u64 (wd (x + W4 - y) k : Int))) := (Below.refl (w.heap.size + 3) wr).setCell (Nat.le_refl (w.heap.size + 3)) _
        refine ⟨k + 1, by omega, by go_num, by go_num, (rx.keep hset).drew, (ry.keep hset).drew, (oz.keepAt hset).drew, ?_, (hb.trans (hset.mono (by omega))).drew⟩
        exact (os'.congr fun j _ => fw_set _ _ _).drew
      case measure => simp [intOf]; omega
    · have hk' : k = 4 := by omega
      subst hk'
      have c0 := os.cell (k := 0) (by decide)
      have c1 := os.cell (k := 1) (by decide)
      have c2 := os.cell (k := 2) (by decide)
      have c3 := os.cell (k := 3) (by decide)
      rw [fw_in (by decide)] at c0 c1 c2 c3
      have d0 := oz.cell (k := 0) (by decide)
      have d1 := oz.cell (k := 1) (by decide)
      have d2 := oz.cell (k := 2) (by decide)
      have d3 := oz.cell (k := 3) (by decide)
      have f0 := oz.free 0
      have f1 := oz.free 1
      have f2 := oz.free 2
      have f3 := oz.free 3
      obtain ⟨wz, ez, r0, r1, r2, r3, rb⟩ := set4 oz (.int .u64 (wd (x + W4 - y) 0 : Int)) (.int .u64 (wd (x + W4 - y) 1 : Int)) (.int .u64 (wd (x + W4 - y) 2 : Int)) (.int .u64 (wd (x + W4 - y) 3 : Int))
      have hbb := hb.trans rb
      go_wp2
      rw [← ez]
      clear c0 c1 c2 c3 d0 d1 d2 d3 f0 f1 f2 f3 ez
      refine bodyPost_ret (v := .tuple #[.agg #[.int .u64 (wd (x + W4 - y) 0 : Int), .int .u64 (wd (x + W4 - y) 1 : Int), .int .u64 (wd (x + W4 - y) 2 : Int), .int .u64 (wd (x + W4 - y) 3 : Int)], .int .u64 (bw x y 4 : Int)]) (by simp [results, Tryd.results61, go_sem, r0, r1, r2, r3]) rfl ⟨rfl, hb.trans rb⟩
end Go.Proofs.YtmhfkabpfkoocaaDoor

namespace Go.Proofs.YtmhfkabpfkoocaaDoor
open Go Go.RowKit

def adl (x y : Nat) : Nat := (x + y) % 18446744073709551616
def adc (x y : Nat) : Nat := (x + y) / 18446744073709551616
def mhi (x y : Nat) : Nat := x * y / 18446744073709551616
def mlo (x y : Nat) : Nat := x * y % 18446744073709551616
theorem mul64_hl (x y : Nat) (hx : x < 18446744073709551616) (hy : y < 18446744073709551616) (w : World) :
    Calls Tryd.prog 66 #[.int .u64 x, .int .u64 y] w fun e w' => e = .returned (.tuple #[.int .u64 (mhi x y : Int), .int .u64 (mlo x y : Int)]) ∧ w' = w := mul64_any x y hx hy w
theorem add64_lc (x y : Nat) (w : World) : (callFunc 60 #[.int .u64 (x : Int), .int .u64 (y : Int), .int .u64 0]).run Tryd.prog w =
    .ok (.value (.tuple #[.int .u64 (adl x y : Int), .int .u64 (adc x y : Int)])) w := run_add64' x y 0 (by omega) w
/-- The high word and the low one of a b + c + d. -/
def mah (a b c d : Nat) : Nat := (a * b + c + d) / 18446744073709551616
def mal (a b c d : Nat) : Nat := (a * b + c + d) % 18446744073709551616
theorem mah_lt {a b c d : Nat} (ha : a < 18446744073709551616) (hb : b < 18446744073709551616) (hc : c < 18446744073709551616) (hd : d < 18446744073709551616) : mah a b c d < 18446744073709551616 := by
  have : a * b ≤ 18446744073709551615 * 18446744073709551615 := Nat.mul_le_mul (by omega) (by omega)
  unfold mah
  generalize a * b = p at *
  omega
theorem madd_any (a b c d : Nat) (ha : a < 18446744073709551616) (hb : b < 18446744073709551616) (hc : c < 18446744073709551616) (hd : d < 18446744073709551616) (w : World) :
    Calls Tryd.prog 64 #[.int .u64 (a : Int), .int .u64 (b : Int), .int .u64 (c : Int), .int .u64 (d : Int)] w fun e w' => e = .returned (.tuple #[.int .u64 (mah a b c d : Int), .int .u64 (mal a b c d : Int)]) ∧ w' = w := by
  have hab : a * b ≤ 18446744073709551615 * 18446744073709551615 := Nat.mul_le_mul (by omega) (by omega)
  go_enter Tryd.func64, Tryd.ntmps64
  go_wp2_with (first | (go_at_call 66; refine (mul64_hl a b ha hb _).mono ?_; rintro e w' ⟨rfl, rfl⟩) | simp only [add64_lc])
  go_ret2
  refine ⟨?_, rfl⟩
  have e1 : adl (adl (mlo a b) c) d = mal a b c d := by unfold adl mlo mal; generalize a * b = p at *; omega
  have e2 : mhi a b + adc (mlo a b) c + adc (adl (mlo a b) c) d = mah a b c d := by unfold adl adc mlo mhi mah; generalize a * b = p at *; omega
  have e3 := mah_lt ha hb hc hd
  rw [e1, ← e2]
  rw [← e2] at e3
  have e4 : IntKind.u64.wrap (IntKind.u64.wrap ((mhi a b : Int) + (adc (mlo a b) c : Int)) + (adc (adl (mlo a b) c) d : Int)) = ((mhi a b + adc (mlo a b) c + adc (adl (mlo a b) c) d : Nat) : Int) := by
    rw [IntKind.wrap_u64, IntKind.wrap_u64]; omega
  rw [e4]
  rfl

def mt (x y i : Nat) : Nat := mT 18446744073709551616 x y i
def ms (x y i k : Nat) : Nat := mS 18446744073709551616 x y i k
def mo (x y i k : Nat) : Nat := mO 18446744073709551616 x y i k
/-- Word j, when i words of x and k of y have been reckoned. -/
def mc (x y i k j : Nat) : Value := .int .u64 ((if j < i + k then wd (ms x y i k) j else wd (mt x y i) j : Nat) : Int)
theorem mc_start (x y i j : Nat) : mc x y i 0 j = wv (mt x y i) j := by
  unfold mc wv
  by_cases h : j < i + 0
  · rw [if_pos h]
    unfold ms wd; rw [mS_zero, dgt_mod (n := i) _ h]; rfl
  · rw [if_neg h]
theorem mc_at (x y i k : Nat) : mc x y i k (i + k) = .int .u64 (wd (mt x y i) (i + k) : Int) := by
  unfold mc; rw [if_neg (by omega)]
theorem mo_lt (x y i k : Nat) : mo x y i k < 18446744073709551616 := mO_lt (by decide)
theorem mo_succ (x y i k : Nat) : mo x y i (k + 1) = mah (wd x i) (wd y k) (wd (mt x y i) (i + k)) (mo x y i k) := mO_succ (by decide)
theorem mc_set (x y i k j : Nat) : (if j = i + k then .int .u64 (mal (wd x i) (wd y k) (wd (mt x y i) (i + k)) (mo x y i k) : Int) else mc x y i k j) = mc x y i (k + 1) j := by
  by_cases h : j = i + k
  · subst h
    rw [if_pos rfl]
    unfold mc
    rw [if_pos (by omega), show mal (wd x i) (wd y k) (wd (mt x y i) (i + k)) (mo x y i k) = wd (ms x y i (k + 1)) (i + k) from (mS_new (b := 18446744073709551616) (by decide)).symm]
  · rw [if_neg h]
    unfold mc
    by_cases h2 : j < i + k
    · rw [if_pos h2, if_pos (by omega), show wd (ms x y i (k + 1)) j = wd (ms x y i k) j from mS_old h2]
    · rw [if_neg h2, if_neg (by omega)]
theorem mc_end {x y i j : Nat} (hy : y < W4) : (if j = i + 4 then .int .u64 (mo x y i 4 : Int) else mc x y i 4 j) = wv (mt x y (i + 1)) j := by
  have hS : ms x y i 4 = mt x y (i + 1) := mS_full (by decide) hy
  have hl : mt x y i < 18446744073709551616 ^ (i + 4) := mT_lt (by decide) hy
  have hl' : mt x y (i + 1) < 18446744073709551616 ^ (i + 1 + 4) := mT_lt (by decide) hy
  by_cases h : j = i + 4
  · subst h
    rw [if_pos rfl]
    unfold wv wd dgt
    rw [show mo x y i 4 = ms x y i 4 / 18446744073709551616 ^ (i + 4) from rfl, hS, Nat.mod_eq_of_lt]
    refine Nat.div_lt_of_lt_mul ?_
    rw [← Nat.pow_succ]
    exact Nat.lt_of_lt_of_le hl' (Nat.le_of_eq (by congr 1))
  · rw [if_neg h]
    unfold mc wv
    by_cases h2 : j < i + 4
    · rw [if_pos h2, hS]
    · rw [if_neg h2]
      unfold wd
      rw [dgt_zero_of_lt (Nat.lt_of_lt_of_le hl (Nat.pow_le_pow_right (by decide) (by omega))), dgt_zero_of_lt (Nat.lt_of_lt_of_le hl' (Nat.pow_le_pow_right (by decide) (by omega)))]
theorem mt_zero (x y : Nat) : mt x y 0 = 0 := mT_zero _ _ _
theorem mt_four {x : Nat} (y : Nat) (hx : x < W4) : mt x y 4 = x * y := mT_full hx

abbrev Z8 : Obj := .cells #[.int .u64 0, .int .u64 0, .int .u64 0, .int .u64 0, .int .u64 0, .int .u64 0, .int .u64 0, .int .u64 0] 83
theorem own_Z8 {w : World} {B : Nat} (hB : B ≤ w.heap.size) : OwnF (w.alloc Z8) B 83 (some ⟨w.heap.size, 0, none⟩) 8 8 (fun _ => .int .u64 0) :=
  OwnF.lit _ hB _ 8 _ (by decide) rfl
theorem start8 (x y : Nat) (w : World) : RdF ((((w.alloc (A4 x)).alloc (A4 y)).alloc Z8).alloc Z8) (w.heap.size + 3) (some ⟨w.heap.size, 0, none⟩) 4 4 (wv x) ∧
    RdF ((((w.alloc (A4 x)).alloc (A4 y)).alloc Z8).alloc Z8) (w.heap.size + 3) (some ⟨w.heap.size + 1, 0, none⟩) 4 4 (wv y) ∧
    OwnF ((((w.alloc (A4 x)).alloc (A4 y)).alloc Z8).alloc Z8) w.heap.size 83 (some ⟨w.heap.size + 2, 0, none⟩) 8 8 (fun _ => .int .u64 0) ∧
    OwnF ((((w.alloc (A4 x)).alloc (A4 y)).alloc Z8).alloc Z8) w.heap.size 83 (some ⟨w.heap.size + 3, 0, none⟩) 8 8 (fun _ => .int .u64 0) ∧
    Below w.heap.size w ((((w.alloc (A4 x)).alloc (A4 y)).alloc Z8).alloc Z8) := by
  have s1 : (w.alloc (A4 x)).heap.size = w.heap.size + 1 := by simp
  have s2 : ((w.alloc (A4 x)).alloc (A4 y)).heap.size = w.heap.size + 2 := by simp
  have s3 : (((w.alloc (A4 x)).alloc (A4 y)).alloc Z8).heap.size = w.heap.size + 3 := by simp
  have b1 := (Below.refl (w.heap.size + 1) (w.alloc (A4 x))).alloc (by omega) (A4 y)
  have b2 := (Below.refl (w.heap.size + 2) ((w.alloc (A4 x)).alloc (A4 y))).alloc (by omega) Z8
  have b3 := (Below.refl (w.heap.size + 3) (((w.alloc (A4 x)).alloc (A4 y)).alloc Z8)).alloc (by omega) Z8
  have irx := (((own_A4 (w := w) (Nat.le_refl _) x).rd.mono (B' := w.heap.size + 1) (by omega)).keep ((b1.trans (b2.mono (by omega))).trans (b3.mono (by omega)))).mono (B' := w.heap.size + 3) (by omega)
  have iry := (((own_A4 (w := w.alloc (A4 x)) (B := w.heap.size) (by omega) y).rd.mono (B' := w.heap.size + 2) (by omega)).keep (b2.trans (b3.mono (by omega)))).mono (B' := w.heap.size + 3) (by omega)
  have ioz := (own_Z8 (w := (w.alloc (A4 x)).alloc (A4 y)) (B := w.heap.size) (by omega)).keepAt (by rw [s2]; exact b3)
  have ios := own_Z8 (w := ((w.alloc (A4 x)).alloc (A4 y)).alloc Z8) (B := w.heap.size) (by omega)
  have bb : Below w.heap.size w ((((w.alloc (A4 x)).alloc (A4 y)).alloc Z8).alloc Z8) := ((((Below.refl _ w).alloc (by omega) _).alloc (by omega) _).alloc (by omega) _).alloc (by omega) _
  rw [s1] at iry
  rw [s2] at ioz
  rw [s3] at ios
  exact ⟨irx, iry, ioz, ios, bb⟩
theorem set8 {w : World} {B g : Nat} {e : TypeId} {f : Nat → Value} (h : OwnF w B e (some ⟨g, 0, none⟩) 8 8 f) (v0 v1 v2 v3 v4 v5 v6 v7 : Value) :
    ∃ w', w' = ((((((((w.setCell ⟨g, 0, none⟩ v0).setCell ⟨g, 1, none⟩ v1).setCell ⟨g, 2, none⟩ v2).setCell ⟨g, 3, none⟩ v3).setCell ⟨g, 4, none⟩ v4).setCell ⟨g, 5, none⟩ v5).setCell ⟨g, 6, none⟩ v6).setCell ⟨g, 7, none⟩ v7) ∧
    w'.cell? ⟨g, 0, none⟩ = some v0 ∧ w'.cell? ⟨g, 1, none⟩ = some v1 ∧ w'.cell? ⟨g, 2, none⟩ = some v2 ∧ w'.cell? ⟨g, 3, none⟩ = some v3 ∧
    w'.cell? ⟨g, 4, none⟩ = some v4 ∧ w'.cell? ⟨g, 5, none⟩ = some v5 ∧ w'.cell? ⟨g, 6, none⟩ = some v6 ∧ w'.cell? ⟨g, 7, none⟩ = some v7 ∧ Below B w w' := by
  have h8 := (((((((h.set_ 0 v0).set_ 1 v1).set_ 2 v2).set_ 3 v3).set_ 4 v4).set_ 5 v5).set_ 6 v6).set_ 7 v7
  have hg := h.ge
  exact ⟨_, rfl, by rw [h8.cell (by decide)]; simp, by rw [h8.cell (by decide)]; simp, by rw [h8.cell (by decide)]; simp, by rw [h8.cell (by decide)]; simp,
    by rw [h8.cell (by decide)]; simp, by rw [h8.cell (by decide)]; simp, by rw [h8.cell (by decide)]; simp, by rw [h8.cell (by decide)]; simp,
    ((((((((Below.refl _ w).setCell hg _).setCell hg _).setCell hg _).setCell hg _).setCell hg _).setCell hg _).setCell hg _).setCell hg _⟩
theorem arith_ik {i k : Nat} (h : i < 4) (h' : k < 5) : IntKind.i64.wrap ((i : Int) + (k : Int)) = ((i + k : Nat) : Int) := by rw [IntKind.wrap_i64]; omega
end Go.Proofs.YtmhfkabpfkoocaaDoor

namespace Go.Proofs.YtmhfkabpfkoocaaDoor
open Go Go.RowKit
set_option maxHeartbeats 400000 in
set_option maxRecDepth 20000 in
theorem mul_any (x y : Nat) (hx : x < W4) (hy : y < W4) (w : World) :
    Calls Tryd.prog 58 #[nv x, nv y] w fun e w' => e = .returned (dv (x * y)) ∧ Below w.heap.size w w' := by
  obtain ⟨irx, iry, ioz, ios, bb⟩ := start8 x y w
  unfold nv dv
  go_enter Tryd.func58, Tryd.ntmps58
  go_wp2
  go_loopw [9] (fun i wr => ∃ k : Nat, k ≤ 4 ∧ i = .int .i64 k ∧ RdF wr (w.heap.size + 3) (some ⟨w.heap.size, 0, none⟩) 4 4 (wv x) ∧ RdF wr (w.heap.size + 3) (some ⟨w.heap.size + 1, 0, none⟩) 4 4 (wv y) ∧
      OwnF wr w.heap.size 83 (some ⟨w.heap.size + 2, 0, none⟩) 8 8 (fun _ => .int .u64 0) ∧ OwnF wr w.heap.size 83 (some ⟨w.heap.size + 3, 0, none⟩) 8 8 (wv (mt x y k)) ∧ Below w.heap.size w wr)
    (fun i _ => 4 - (intOf i).toNat)
  case atStart => exact ⟨0, by omega, rfl, irx, iry, ioz, ios.congr (fun j _ => by rw [mt_zero]; unfold wv wd dgt; simp), bb⟩
  case round =>
    obtain ⟨i, hi, rfl, rx, ry, oz, os, hb⟩ := hrel
    clear irx iry ioz ios bb
    by_cases hlt : i < 4
    · have g1 : (i : Int) < 4 := by omega
      go_wp2
      obtain ⟨w0, e0⟩ : ∃ w0 : World, w0 = wr := ⟨_, rfl⟩
      subst e0
      go_loopw [7, 12] (fun c kk wr => ∃ k : Nat, k ≤ 4 ∧ kk = .int .i64 k ∧ c = .int .u64 (mo x y i k : Int) ∧ RdF wr (w.heap.size + 3) (some ⟨w.heap.size, 0, none⟩) 4 4 (wv x) ∧ RdF wr (w.heap.size + 3) (some ⟨w.heap.size + 1, 0, none⟩) 4 4 (wv y) ∧
          OwnF wr w.heap.size 83 (some ⟨w.heap.size + 2, 0, none⟩) 8 8 (fun _ => .int .u64 0) ∧ OwnF wr w.heap.size 83 (some ⟨w.heap.size + 3, 0, none⟩) 8 8 (mc x y i k) ∧ Below w.heap.size w wr)
        (fun _ kk _ => 4 - (intOf kk).toNat)
      case atStart => exact ⟨0, by omega, rfl, by rw [show mo x y i 0 = 0 from mO_zero (by decide)]; rfl, rx, ry, oz, os.congr (fun j _ => (mc_start _ _ _ _).symm), hb⟩
      case round =>
        clear rx ry oz os hb
        obtain ⟨k, hk, rfl, rfl, rx, ry, oz, os, hb⟩ := hrel
        by_cases hlt2 : k < 4
        · have g2 : (k : Int) < 4 := by omega
          have c1 : wr.cell? ⟨w.heap.size, i, none⟩ = some (.int .u64 (wd x i : Int)) := rx.cell0 hlt
          have c2 : wr.cell? ⟨w.heap.size + 1, k, none⟩ = some (.int .u64 (wd y k : Int)) := ry.cell0 hlt2
          have c3 := os.cell (k := i + k) (by omega)
          rw [mc_at] at c3
          have f3 := os.free (i + k)
          have hw : IntKind.i64.wrap ((i : Int) + (k : Int)) = (i : Int) + (k : Int) := by rw [IntKind.wrap_i64]; omega
          have h8 : (i : Int) + (k : Int) < 8 := by omega
          have h0 : 0 ≤ (i : Int) + (k : Int) := by omega
          have tn : ((i : Int) + (k : Int)).toNat = i + k := by omega
          go_wp2
          refine wp_region_still_tail 21 (by kernel_rfl) (by kernel_rfl) ?_
          simp only [List.take_succ_cons, List.take_zero, List.drop_succ_cons, List.drop_zero]
          repeat (first | still_step | still_call (madd_any _ _ _ _ (wd_lt _ _) (wd_lt _ _) (wd_lt _ _) (mo_lt _ _ _ _) _))
          refine wpStill_nil ?_
          change wpList _ _ _ _ _ wr.drew
          go_wp2
          have hset : Below (w.heap.size + 3) wr (wr.setCell ⟨w.heap.size + 3, i + k, none⟩ (.int .u64 (mal (wd x i) (wd y k) (wd (mt x y i) (i + k)) (mo x y i k) : Int))) := (Below.refl (w.heap.size + 3) wr).setCell (Nat.le_refl (w.heap.size + 3)) _
          have os' := os.set_ (i + k) (.int .u64 (mal (wd x i) (wd y k) (wd (mt x y i) (i + k)) (mo x y i k) : Int))
          refine ⟨⟨k + 1, by omega, by go_num, by rw [mo_succ], (rx.keep hset).drew, (ry.keep hset).drew, (oz.keepAt hset).drew, ?_, (hb.trans (hset.mono (by omega))).drew⟩, by simp [intOf]; omega⟩
          exact (os'.congr fun j _ => mc_set _ _ _ _ _).drew
        · have hk' : k = 4 := by omega
          subst hk'
          have hw : IntKind.i64.wrap ((i : Int) + 4) = (i : Int) + 4 := by rw [IntKind.wrap_i64]; omega
          have h8 : (i : Int) + 4 < 8 := by omega
          have h0 : 0 ≤ (i : Int) + 4 := by omega
          have tn : ((i : Int) + 4).toNat = i + 4 := by omega
          have c3 := os.cell (k := i + 4) (by omega)
          have f3 := os.free (i + 4)
          go_wp2
          have hset : Below (w.heap.size + 3) wr (wr.setCell ⟨w.heap.size + 3, i + 4, none⟩ (.int .u64 (mo x y i 4 : Int))) := (Below.refl (w.heap.size + 3) wr).setCell (Nat.le_refl (w.heap.size + 3)) _
          have os' := os.set_ (i + 4) (.int .u64 (mo x y i 4 : Int))
          go_roundw
          case rel =>
            refine ⟨i + 1, by omega, by go_num, rx.keep hset, ry.keep hset, oz.keepAt hset, ?_, hb.trans (hset.mono (by omega))⟩
            exact os'.congr fun j _ => mc_end hy
          case measure => simp [intOf]; omega
    · have hk' : i = 4 := by omega
      subst hk'
      rw [mt_four y hx] at os
      have c0 := os.cell (k := 0) (by decide)
      have c1 := os.cell (k := 1) (by decide)
      have c2 := os.cell (k := 2) (by decide)
      have c3 := os.cell (k := 3) (by decide)
      have c4 := os.cell (k := 4) (by decide)
      have c5 := os.cell (k := 5) (by decide)
      have c6 := os.cell (k := 6) (by decide)
      have c7 := os.cell (k := 7) (by decide)
      unfold wv at c0 c1 c2 c3 c4 c5 c6 c7
      have d0 := oz.cell (k := 0) (by decide)
      have d1 := oz.cell (k := 1) (by decide)
      have d2 := oz.cell (k := 2) (by decide)
      have d3 := oz.cell (k := 3) (by decide)
      have d4 := oz.cell (k := 4) (by decide)
      have d5 := oz.cell (k := 5) (by decide)
      have d6 := oz.cell (k := 6) (by decide)
      have d7 := oz.cell (k := 7) (by decide)
      have f0 := oz.free 0
      have f1 := oz.free 1
      have f2 := oz.free 2
      have f3 := oz.free 3
      have f4 := oz.free 4
      have f5 := oz.free 5
      have f6 := oz.free 6
      have f7 := oz.free 7
      obtain ⟨wz, ez, r0, r1, r2, r3, r4, r5, r6, r7, rb⟩ := set8 oz (.int .u64 (wd (x * y) 0 : Int)) (.int .u64 (wd (x * y) 1 : Int)) (.int .u64 (wd (x * y) 2 : Int)) (.int .u64 (wd (x * y) 3 : Int)) (.int .u64 (wd (x * y) 4 : Int)) (.int .u64 (wd (x * y) 5 : Int)) (.int .u64 (wd (x * y) 6 : Int)) (.int .u64 (wd (x * y) 7 : Int))
      go_wp2
      rw [← ez]
      refine bodyPost_ret (v := .agg #[.int .u64 (wd (x * y) 0 : Int), .int .u64 (wd (x * y) 1 : Int), .int .u64 (wd (x * y) 2 : Int), .int .u64 (wd (x * y) 3 : Int), .int .u64 (wd (x * y) 4 : Int), .int .u64 (wd (x * y) 5 : Int), .int .u64 (wd (x * y) 6 : Int), .int .u64 (wd (x * y) 7 : Int)]) (by simp [results, Tryd.results58, go_sem, r0, r1, r2, r3, r4, r5, r6, r7]) rfl ⟨rfl, hb.trans rb⟩
end Go.Proofs.YtmhfkabpfkoocaaDoor

namespace Go.Proofs.YtmhfkabpfkoocaaDoor
open Go Go.RowKit
def mask (b : Nat) : Nat := if b = 0 then 0 else 18446744073709551615
theorem mask_eq (b : Nat) (hb : b < 18446744073709551616) : IntKind.u64.wrap (-(bits .or .u64 (b : Int) (IntKind.u64.wrap (-(b : Int))) / 9223372036854775808)) = (mask b : Int) := by
  by_cases h : b = 0
  · subst h; decide
  · have e : IntKind.u64.wrap (-(b : Int)) = ((18446744073709551616 - b : Nat) : Int) := by rw [IntKind.wrap_u64]; omega
    rw [e, bits_or_u64_nat _ _ hb (by omega)]
    have h1 : b ≤ b ||| (18446744073709551616 - b) := Nat.left_le_or
    have h2 : 18446744073709551616 - b ≤ b ||| (18446744073709551616 - b) := Nat.right_le_or
    have h3 : b ||| (18446744073709551616 - b) < 2 ^ 64 := Nat.or_lt_two_pow (by omega) (by omega)
    generalize b ||| (18446744073709551616 - b) = z at *
    have hz : (z : Int) / 9223372036854775808 = 1 := by omega
    rw [hz]
    unfold mask
    rw [if_neg h]
    decide
theorem sel_eq (b a c : Nat) (ha : a < 18446744073709551616) (hc : c < 18446744073709551616) :
    bits .xor .u64 (a : Int) (bits .and .u64 (mask b : Int) (bits .xor .u64 (a : Int) (c : Int))) = ((if b = 0 then a else c : Nat) : Int) := by
  have hx : a ^^^ c < 2 ^ 64 := Nat.xor_lt_two_pow (by omega) (by omega)
  rw [bits_xor_u64_nat _ _ ha hc]
  unfold mask
  by_cases h : b = 0
  · rw [if_pos h, if_pos h, bits_and_u64_nat _ _ (by omega) (by omega), Nat.zero_and, bits_xor_u64_nat _ _ ha (by omega), Nat.xor_zero]
  · rw [if_neg h, if_neg h, bits_and_u64_nat _ _ (by omega) (by omega), Nat.and_comm, show (18446744073709551615 : Nat) = 2 ^ 64 - 1 from rfl, Nat.and_two_pow_sub_one_eq_mod, Nat.mod_eq_of_lt hx,
      bits_xor_u64_nat _ _ ha (by omega), ← Nat.xor_assoc, Nat.xor_self, Nat.zero_xor]
theorem sel_wd (b x y k : Nat) : bits .xor .u64 (wd x k : Int) (bits .and .u64 (mask b : Int) (bits .xor .u64 (wd x k : Int) (wd y k : Int))) = (wd (if b = 0 then x else y) k : Int) := by
  rw [sel_eq _ _ _ (wd_lt _ _) (wd_lt _ _)]
  split <;> rfl
theorem pick_any (b x y : Nat) (hb : b < 18446744073709551616) (w : World) :
    Calls Tryd.prog 62 #[.int .u64 (b : Int), nv x, nv y] w fun e w' => e = .returned (nv (if b = 0 then x else y)) ∧ Below w.heap.size w w' := by
  obtain ⟨irx, iry, ioz, ios, bb⟩ := start4 x y w
  have hm := mask_eq b hb
  obtain ⟨p, hp⟩ : ∃ p, p = if b = 0 then x else y := ⟨_, rfl⟩
  have hs : ∀ k, bits .xor .u64 (wd x k : Int) (bits .and .u64 (mask b : Int) (bits .xor .u64 (wd x k : Int) (wd y k : Int))) = (wd p k : Int) := fun k => by rw [hp]; exact sel_wd b x y k
  rw [← hp]
  clear hp
  unfold nv
  go_enter Tryd.func62, Tryd.ntmps62
  go_wp2
  go_loopw [16] (fun i wr => ∃ k : Nat, k ≤ 4 ∧ i = .int .i64 k ∧ RdF wr (w.heap.size + 3) (some ⟨w.heap.size, 0, none⟩) 4 4 (wv x) ∧ RdF wr (w.heap.size + 3) (some ⟨w.heap.size + 1, 0, none⟩) 4 4 (wv y) ∧
      OwnF wr w.heap.size 65 (some ⟨w.heap.size + 2, 0, none⟩) 4 4 (fun _ => .int .u64 0) ∧ OwnF wr w.heap.size 65 (some ⟨w.heap.size + 3, 0, none⟩) 4 4 (fw p k) ∧ Below w.heap.size w wr)
    (fun i _ => 4 - (intOf i).toNat)
  case atStart => exact ⟨0, by omega, rfl, irx, iry, ioz, ios.congr (fun j _ => by rw [fw_out (by omega)]), bb⟩
  case round =>
    obtain ⟨k, hk, rfl, rx, ry, oz, os, hb⟩ := hrel
    clear irx iry ioz ios bb
    by_cases hlt : k < 4
    · have g1 : (k : Int) < 4 := by omega
      have c1 : wr.cell? ⟨w.heap.size, k, none⟩ = some (.int .u64 (wd x k : Int)) := rx.cell0 hlt
      have c2 : wr.cell? ⟨w.heap.size + 1, k, none⟩ = some (.int .u64 (wd y k : Int)) := ry.cell0 hlt
      have c3 := os.cell hlt
      rw [fw_out (by omega)] at c3
      have f3 := os.free k
      go_wp2
      go_region
      go_wp2
      go_roundw
      case rel =>
        have os' := os.set_ k (.int .u64 (wd p k : Int))
        have hset : Below (w.heap.size + 3) wr (wr.setCell ⟨w.heap.size + 3, k, none⟩ (.int .u64 (wd p k : Int))) := (Below.refl (w.heap.size + 3) wr).setCell (Nat.le_refl (w.heap.size + 3)) _
        refine ⟨k + 1, by omega, by go_num, (rx.keep hset).drew, (ry.keep hset).drew, (oz.keepAt hset).drew, ?_, (hb.trans (hset.mono (by omega))).drew⟩
        exact (os'.congr fun j _ => fw_set _ _ _).drew
      case measure => simp [intOf]; omega
    · have hk' : k = 4 := by omega
      subst hk'
      replace os := os.congr (g := wv p) fun j hj => by rw [fw_in hj]; rfl
      have c0 := (os).cell (k := 0) (by decide)
      have c1 := (os).cell (k := 1) (by decide)
      have c2 := (os).cell (k := 2) (by decide)
      have c3 := (os).cell (k := 3) (by decide)
      have d0 := (oz).cell (k := 0) (by decide)
      have d1 := (oz).cell (k := 1) (by decide)
      have d2 := (oz).cell (k := 2) (by decide)
      have d3 := (oz).cell (k := 3) (by decide)
      have f0 := (oz).free 0
      have f1 := (oz).free 1
      have f2 := (oz).free 2
      have f3 := (oz).free 3
      unfold wv at c0 c1 c2 c3
      obtain ⟨wz, ez, r0, r1, r2, r3, rb⟩ := set4 oz (.int .u64 (wd p 0 : Int)) (.int .u64 (wd p 1 : Int)) (.int .u64 (wd p 2 : Int)) (.int .u64 (wd p 3 : Int))
      go_wp2
      rw [← ez]
      refine bodyPost_ret (v := .agg #[.int .u64 (wd p 0 : Int), .int .u64 (wd p 1 : Int), .int .u64 (wd p 2 : Int), .int .u64 (wd p 3 : Int)]) (by simp [results, Tryd.results62, go_sem, r0, r1, r2, r3]) rfl ⟨rfl, hb.trans rb⟩
end Go.Proofs.YtmhfkabpfkoocaaDoor

namespace Go.Proofs.YtmhfkabpfkoocaaDoor
open Go Go.RowKit
theorem part_u64 (xs : Array Value) (i : Nat) (v : Value) (h : xs[i]? = some v) (w : World) : (part 38 xs (i * Tryd.prog.cellsOf 38)).run Tryd.prog w = .ok v w := by
  have e : Tryd.prog.cellsOf 38 = 1 := by kernel_rfl
  rw [e, Nat.mul_one]
  simp [part, go_sem, h]
theorem items_u64 (xs ys : Array Value) (a b : Nat → Int) (w : World) : ∀ is : List Nat, (∀ i ∈ is, xs[i]? = some (.int .u64 (a i)) ∧ ys[i]? = some (.int .u64 (b i))) →
    (Op.eqItems 9999 38 (Tryd.prog.cellsOf 38) xs ys is).run Tryd.prog w = .ok (is.all fun i => a i == b i) w
  | [], _ => rfl
  | i :: is, h => by
    have h0 := h i (by simp)
    have ih := items_u64 xs ys a b w is (fun j hj => h j (by simp [hj]))
    simp only [Op.eqItems, Sem.run_bind, part_u64 _ _ _ h0.1, part_u64 _ _ _ h0.2, Result.andThen_ok, run_equalIn_int w 9998 38 .u64 .u64 (a i) (b i) Tryd.underlying38, List.all_cons]
    cases he : (a i == b i)
    · simp
    · simpa using ih
theorem eqw (x y n : Nat) (hx : x < 18446744073709551616 ^ n) (hy : y < 18446744073709551616 ^ n) : ((List.range n).all fun i => ((wd x i : Nat) : Int) == ((wd y i : Nat) : Int)) = decide (x = y) := by
  by_cases h : x = y
  · subst h; simp
  · rw [decide_eq_false h]
    cases hb : (List.range n).all fun i => ((wd x i : Nat) : Int) == ((wd y i : Nat) : Int)
    · rfl
    · refine absurd (dgt_ext hx hy fun i hi => ?_) h
      have := List.all_eq_true.1 hb i (by simpa using hi)
      have : ((wd x i : Nat) : Int) = ((wd y i : Nat) : Int) := by simpa using this
      exact Int.ofNat.inj this
theorem eq4 (x y : Nat) (hx : x < W4) (hy : y < W4) (w : World) : (Op.equalIn 10000 65 (nv x) (nv y)).run Tryd.prog w = .ok (decide (x = y)) w := by
  obtain ⟨i0, hi⟩ : ∃ i, Tryd.prog.info? 38 = some i := by
    have := infoU64
    cases h : Tryd.prog.info? 38 with
    | none => rw [h] at this; simp at this
    | some i => exact ⟨i, rfl⟩
  rw [run_equalIn_array (P := Tryd.prog) (w := w) 9999 _ _ Tryd.underlying65 hi, items_u64 _ _ (fun i => (wd x i : Int)) (fun i => (wd y i : Int)) w (List.range 4), eqw x y 4 hx hy]
  intro i hi
  have : i = 0 ∨ i = 1 ∨ i = 2 ∨ i = 3 := by have hi' : i < 4 := (by simpa using hi); omega
  rcases this with rfl | rfl | rfl | rfl <;> exact ⟨rfl, rfl⟩
theorem eq8 (x y : Nat) (hx : x < W8) (hy : y < W8) (w : World) : (Op.equalIn 10000 83 (dv x) (dv y)).run Tryd.prog w = .ok (decide (x = y)) w := by
  obtain ⟨i0, hi⟩ : ∃ i, Tryd.prog.info? 38 = some i := by
    have := infoU64
    cases h : Tryd.prog.info? 38 with
    | none => rw [h] at this; simp at this
    | some i => exact ⟨i, rfl⟩
  rw [run_equalIn_array (P := Tryd.prog) (w := w) 9999 _ _ Tryd.underlying83 hi, items_u64 _ _ (fun i => (wd x i : Int)) (fun i => (wd y i : Int)) w (List.range 8), eqw x y 8 hx hy]
  intro i hi
  have : i = 0 ∨ i = 1 ∨ i = 2 ∨ i = 3 ∨ i = 4 ∨ i = 5 ∨ i = 6 ∨ i = 7 := by have hi' : i < 8 := (by simpa using hi); omega
  rcases this with rfl | rfl | rfl | rfl | rfl | rfl | rfl | rfl <;> exact ⟨rfl, rfl⟩
end Go.Proofs.YtmhfkabpfkoocaaDoor

namespace Go.Proofs.YtmhfkabpfkoocaaDoor
open Go Go.RowKit
theorem own_pair (x y : Nat) (w : World) : OwnF ((w.alloc (A4 x)).alloc (A4 y)) w.heap.size 65 (some ⟨w.heap.size, 0, none⟩) 4 4 (wv x) ∧ OwnF ((w.alloc (A4 x)).alloc (A4 y)) w.heap.size 65 (some ⟨w.heap.size + 1, 0, none⟩) 4 4 (wv y) ∧ Below w.heap.size w ((w.alloc (A4 x)).alloc (A4 y)) := by
  have s1 : (w.alloc (A4 x)).heap.size = w.heap.size + 1 := by simp
  have h1 := (own_A4 (w := w) (B := w.heap.size) (Nat.le_refl _) x).keepAt ((Below.refl (w.heap.size + 1) (w.alloc (A4 x))).alloc (by omega) (A4 y))
  have h2 := own_A4 (w := w.alloc (A4 x)) (B := w.heap.size) (by omega) y
  rw [s1] at h2
  exact ⟨h1, h2, ((Below.refl _ w).alloc (Nat.le_refl _) _).alloc (by omega) _⟩
end Go.Proofs.YtmhfkabpfkoocaaDoor

namespace Go.Proofs.YtmhfkabpfkoocaaDoor
open Go Go.RowKit
/-- The i-th bit. -/
def bt (x i : Nat) : Nat := x / 2 ^ i % 2
theorem bt_wd (x i : Nat) : wd x (i / 64) / 2 ^ (i % 64) % 2 = bt x i := by
  have h : ∀ y s, s < 64 → (y % 18446744073709551616) / 2 ^ s % 2 = y / 2 ^ s % 2 := fun y s hs => dgt_mod (b := 2) (n := 64) y hs
  unfold wd dgt bt
  rw [h _ _ (by omega), Nat.div_div_eq_div_mul, show (18446744073709551616 : Nat) = 2 ^ 64 from rfl, ← Nat.pow_mul, ← Nat.pow_add, Nat.div_add_mod]
theorem and_one (a s : Nat) (ha : a < 18446744073709551616) : bits .and .u64 ((a : Int) / 2 ^ s) 1 = ((a / 2 ^ s % 2 : Nat) : Int) := by
  have e : (a : Int) / 2 ^ s = ((a / 2 ^ s : Nat) : Int) := by rw [Int.natCast_ediv, Int.natCast_pow]; rfl
  have hl : a / 2 ^ s < 18446744073709551616 := Nat.lt_of_le_of_lt (Nat.div_le_self _ _) ha
  rw [e]
  have := bits_and_u64_nat (a / 2 ^ s) 1 hl (by omega)
  rw [Nat.and_one_is_mod] at this
  exact this
end Go.Proofs.YtmhfkabpfkoocaaDoor

namespace Go.Proofs.YtmhfkabpfkoocaaDoor
open Go Go.RowKit
/-- What the first k bytes are worth, the lowest first. -/
def vk (bs : List UInt8) : Nat → Nat
  | 0 => 0
  | k + 1 => vk bs k + nth bs k * 256 ^ k
theorem vk_lt (bs : List UInt8) : ∀ k, vk bs k < 256 ^ k
  | 0 => by simp [vk]
  | k + 1 => by
    have h := vk_lt bs k
    have h2 : nth bs k * 256 ^ k ≤ 255 * 256 ^ k := Nat.mul_le_mul_right _ (by have := nth_lt bs k; omega)
    simp only [vk, Nat.pow_succ]
    omega
theorem pow_split (k : Nat) : 256 ^ k = 18446744073709551616 ^ (k / 8) * 256 ^ (k % 8) := by
  rw [show (18446744073709551616 : Nat) = 256 ^ 8 from rfl, ← Nat.pow_mul, ← Nat.pow_add, Nat.div_add_mod]
theorem vk_word (bs : List UInt8) (k : Nat) : wd (vk bs k) (k / 8) < 256 ^ (k % 8) := by
  have h := vk_lt bs k
  rw [pow_split] at h
  exact Nat.lt_of_le_of_lt (Nat.mod_le _ _) (Nat.div_lt_of_lt_mul h)
theorem pow_r (r : Nat) (h : r < 8) : 256 ^ r * 256 ≤ 18446744073709551616 := by
  rw [← Nat.pow_succ]
  exact Nat.pow_le_pow_right (n := 256) (by decide) (show r + 1 ≤ 8 by omega)
theorem vk_here (bs : List UInt8) (k : Nat) : wd (vk bs (k + 1)) (k / 8) = wd (vk bs k) (k / 8) + nth bs k * 256 ^ (k % 8) := by
  have h := vk_lt bs k
  have hn := nth_lt bs k
  have hr := pow_r (k % 8) (by omega)
  rw [show vk bs (k + 1) = vk bs k + 18446744073709551616 ^ (k / 8) * (nth bs k * 256 ^ (k % 8)) by rw [vk, pow_split, Nat.mul_left_comm]]
  rw [pow_split] at h
  have h1 : vk bs k / 18446744073709551616 ^ (k / 8) < 256 ^ (k % 8) := Nat.div_lt_of_lt_mul h
  have h2 : nth bs k * 256 ^ (k % 8) ≤ 255 * 256 ^ (k % 8) := Nat.mul_le_mul_right _ (by omega)
  unfold wd dgt
  rw [Nat.add_mul_div_left _ _ (Nat.pow_pos (by decide))]
  generalize vk bs k / 18446744073709551616 ^ (k / 8) = X at *
  generalize nth bs k * 256 ^ (k % 8) = Y at *
  generalize 256 ^ (k % 8) = Z at *
  rw [Nat.mod_eq_of_lt (show X + Y < 18446744073709551616 by omega), Nat.mod_eq_of_lt (show X < 18446744073709551616 by omega)]
theorem vk_there (bs : List UInt8) (k j : Nat) (h : j ≠ k / 8) : wd (vk bs (k + 1)) j = wd (vk bs k) j := by
  by_cases h1 : j < k / 8
  · rw [show vk bs (k + 1) = vk bs k + 18446744073709551616 ^ (k / 8) * (nth bs k * 256 ^ (k % 8)) by rw [vk, pow_split, Nat.mul_left_comm]]
    exact dgt_add_mul _ _ h1
  · have l : ∀ m, m ≤ k + 1 → vk bs m < 18446744073709551616 ^ j := fun m hm => by
      refine Nat.lt_of_lt_of_le (vk_lt bs m) ?_
      rw [show (18446744073709551616 : Nat) = 256 ^ 8 from rfl, ← Nat.pow_mul]
      exact Nat.pow_le_pow_right (by decide) (by omega)
    unfold wd
    rw [dgt_zero_of_lt (l _ (by omega)), dgt_zero_of_lt (l _ (by omega))]
theorem or_add (a b r : Nat) (ha : a < 256 ^ r) (hb : b < 256) (hr : r < 8) : bits .or .u64 (a : Int) (IntKind.u64.wrap ((b : Int) * 2 ^ (8 * r))) = ((a + b * 256 ^ r : Nat) : Int) := by
  have e : (2 : Nat) ^ (8 * r) = 256 ^ r := by rw [Nat.pow_mul]
  have hp := pow_r r hr
  have h2 : b * 256 ^ r ≤ 255 * 256 ^ r := Nat.mul_le_mul_right _ (by omega)
  have e2 : (b : Int) * 2 ^ (8 * r) = ((b * 256 ^ r : Nat) : Int) := by rw [← e, Int.natCast_mul, Int.natCast_pow]; rfl
  have e3 : a ||| b * 256 ^ r = a + b * 256 ^ r := by
    rw [← e, Nat.or_comm, ← Nat.shiftLeft_eq, ← Nat.shiftLeft_add_eq_or_of_lt (by rw [e]; exact ha), Nat.add_comm]
  rw [e2]
  generalize b * 256 ^ r = y at *
  generalize 256 ^ r = z at *
  have e4 : IntKind.u64.wrap ((y : Nat) : Int) = (y : Int) := by rw [IntKind.wrap_u64]; omega
  rw [e4, bits_or_u64_nat _ _ (by omega) (by omega), e3]
set_option maxRecDepth 20000 in
theorem fill_any (w : World) {B B' g N c : Nat} {e : TypeId} {A : Option Addr} {bs : List UInt8} (hw : OwnF w B e (some ⟨g, 0, none⟩) N N (fun _ => .int .u64 0)) (hr : Rd w B' A c bs) (hB : B' ≤ g) (hl : bs.length ≤ 8 * N) (hN : N ≤ 1000) :
    Calls Tryd.prog 57 #[.slice (some ⟨g, 0, none⟩) N N, .slice A bs.length c] w fun e' w' => e' = .returned (.tuple #[]) ∧ OwnF w' B e (some ⟨g, 0, none⟩) N N (wv (vk bs bs.length)) ∧ Below g w w' := by
  go_enter Tryd.func57, Tryd.ntmps57
  go_wp2
  go_loopw [7] (fun i wr => ∃ k : Nat, k ≤ bs.length ∧ i = .int .i64 k ∧ OwnF wr B e (some ⟨g, 0, none⟩) N N (wv (vk bs k)) ∧ Below g w wr)
    (fun i _ => bs.length - (intOf i).toNat)
  case atStart => exact ⟨0, by omega, rfl, hw.congr (fun j _ => by rw [show vk bs 0 = 0 from rfl]; unfold wv wd dgt; simp), Below.refl _ _⟩
  case round =>
    obtain ⟨k, hk, rfl, os, hb⟩ := hrel
    by_cases hlt : k < bs.length
    · have g1 : (k : Int) < (bs.length : Int) := by omega
      obtain ⟨b1, o1, rfl, hb1, cc1⟩ := hr.at_ hlt
      have c1 : wr.cell? ⟨b1, o1 + k, none⟩ = some (.int .u8 (nth bs k : Int)) := (hb.cell (p := ⟨b1, o1 + k, none⟩) (Nat.lt_of_lt_of_le hb1 hB)).trans cc1
      have c2 := os.cell (k := k / 8) (by omega)
      unfold wv at c2
      have f2 := os.free (k / 8)
      have g2 : IntKind.i64.wrap ((k : Int) / 8) = (k : Int) / 8 := by rw [IntKind.wrap_i64]; omega
      have g3 : (k : Int).tmod 8 = (k : Int) % 8 := Int.tmod_eq_emod_of_nonneg (by omega)
      have ga : IntKind.u64.wrap (nth bs k : Int) = (nth bs k : Int) := by have := nth_lt bs k; rw [IntKind.wrap_u64]; omega
      have g4 : (k : Int) / 8 < (N : Int) := by omega
      have g5 : IntKind.i64.wrap (8 * ((k : Int) % 8)) = 8 * ((k : Int) % 8) := by rw [IntKind.wrap_i64]; omega
      have g6 : 0 ≤ (k : Int) / 8 := by omega
      have g7 : ((k : Int) / 8).toNat = k / 8 := by omega
      have g8 : 0 ≤ 8 * ((k : Int) % 8) := by omega
      have g9 : (8 * ((k : Int) % 8)).toNat = 8 * (k % 8) := by omega
      have gb : bits .or .u64 (wd (vk bs k) (k / 8) : Int) (IntKind.u64.wrap ((nth bs k : Int) * 2 ^ (8 * (k % 8)))) = (wd (vk bs (k + 1)) (k / 8) : Int) := by
        rw [or_add _ _ _ (vk_word bs k) (nth_lt _ _) (by omega), vk_here]
      clear cc1
      go_wp2
      refine wp_region_still_tail 16 (by kernel_rfl) (by kernel_rfl) ?_
      simp only [List.take_succ_cons, List.take_zero, List.drop_succ_cons, List.drop_zero]
      repeat still_step
      refine wpStill_nil ?_
      change wpList _ _ _ _ _ wr.drew
      go_wp2
      have os' := os.set_ (k / 8) (.int .u64 (wd (vk bs (k + 1)) (k / 8) : Int))
      have hset : Below g wr (wr.setCell ⟨g, k / 8, none⟩ (.int .u64 (wd (vk bs (k + 1)) (k / 8) : Int))) := (Below.refl g wr).setCell (Nat.le_refl g) _
      refine ⟨⟨k + 1, by omega, by go_num, ?_, (hb.trans hset).drew⟩, by simp [intOf]; omega⟩
      refine (os'.congr fun j _ => ?_).drew
      unfold wv
      by_cases h : j = k / 8
      · rw [if_pos h, h]
      · rw [if_neg h, vk_there _ _ _ h]
    · have hk' : k = bs.length := by omega
      subst hk'
      go_wp2
      go_returns
      exact ⟨rfl, os, hb⟩
end Go.Proofs.YtmhfkabpfkoocaaDoor

namespace Go.Proofs.YtmhfkabpfkoocaaDoor
open Go Go.RowKit
theorem nv_zero : nv 0 = .agg #[.int .u64 0, .int .u64 0, .int .u64 0, .int .u64 0] := by simp [wd, dgt]
theorem dv_zero : dv 0 = .agg #[.int .u64 0, .int .u64 0, .int .u64 0, .int .u64 0, .int .u64 0, .int .u64 0, .int .u64 0, .int .u64 0] := by simp [wd, dgt]
theorem own_ZZ4 (w : World) : OwnF ((w.alloc Z4).alloc Z4) w.heap.size 65 (some ⟨w.heap.size, 0, none⟩) 4 4 (fun _ => .int .u64 0) ∧ OwnF ((w.alloc Z4).alloc Z4) w.heap.size 65 (some ⟨w.heap.size + 1, 0, none⟩) 4 4 (fun _ => .int .u64 0) ∧ Below w.heap.size w ((w.alloc Z4).alloc Z4) := by
  have s1 : (w.alloc Z4).heap.size = w.heap.size + 1 := by simp
  have h1 := (own_Z4 (w := w) (B := w.heap.size) (Nat.le_refl _)).keepAt ((Below.refl (w.heap.size + 1) (w.alloc Z4)).alloc (by omega) Z4)
  have h2 := own_Z4 (w := w.alloc Z4) (B := w.heap.size) (by omega)
  rw [s1] at h2
  exact ⟨h1, h2, ((Below.refl _ w).alloc (Nat.le_refl _) _).alloc (by omega) _⟩
theorem own_ZZ8 (w : World) : OwnF ((w.alloc Z8).alloc Z8) w.heap.size 83 (some ⟨w.heap.size, 0, none⟩) 8 8 (fun _ => .int .u64 0) ∧ OwnF ((w.alloc Z8).alloc Z8) w.heap.size 83 (some ⟨w.heap.size + 1, 0, none⟩) 8 8 (fun _ => .int .u64 0) ∧ Below w.heap.size w ((w.alloc Z8).alloc Z8) := by
  have s1 : (w.alloc Z8).heap.size = w.heap.size + 1 := by simp
  have h1 := (own_Z8 (w := w) (B := w.heap.size) (Nat.le_refl _)).keepAt ((Below.refl (w.heap.size + 1) (w.alloc Z8)).alloc (by omega) Z8)
  have h2 := own_Z8 (w := w.alloc Z8) (B := w.heap.size) (by omega)
  rw [s1] at h2
  exact ⟨h1, h2, ((Below.refl _ w).alloc (Nat.le_refl _) _).alloc (by omega) _⟩
/-- What the bytes are worth. -/
def vb (bs : List UInt8) : Nat := vk bs bs.length

theorem from_good (w : World) {B c : Nat} {A : Option Addr} {bs : List UInt8} (hr : Rd w B A c bs) (hB : B ≤ w.heap.size) (hl : bs.length ≤ 32) :
    Calls Tryd.prog 45 #[.slice A bs.length c] w fun e w' => e = .returned (.tuple #[nv (vb bs), .int .i64 0]) ∧ Below w.heap.size w w' := by
  obtain ⟨hz, ho, hb⟩ := own_ZZ4 w
  have g1 : ¬ (32 : Int) < (bs.length : Int) := by omega
  unfold nv
  go_enter Tryd.func45, Tryd.ntmps45
  go_wp2_with fail
  go_at_call 57
  refine (fill_any _ ho (hr.keep (hb.mono hB)) (by omega) (by omega) (by omega)).mono ?_
  rintro e w1 ⟨rfl, os, hb1⟩
  rw [show vk bs bs.length = vb bs from rfl] at os
  have oz := hz.keepAt hb1
  have c0 := (os).cell (k := 0) (by decide)
  have c1 := (os).cell (k := 1) (by decide)
  have c2 := (os).cell (k := 2) (by decide)
  have c3 := (os).cell (k := 3) (by decide)
  have d0 := (oz).cell (k := 0) (by decide)
  have d1 := (oz).cell (k := 1) (by decide)
  have d2 := (oz).cell (k := 2) (by decide)
  have d3 := (oz).cell (k := 3) (by decide)
  have f0 := (oz).free 0
  have f1 := (oz).free 1
  have f2 := (oz).free 2
  have f3 := (oz).free 3
  unfold wv at c0 c1 c2 c3
  obtain ⟨wz, ez, r0, r1, r2, r3, rb⟩ := set4 oz (.int .u64 (wd (vb bs) 0 : Int)) (.int .u64 (wd (vb bs) 1 : Int)) (.int .u64 (wd (vb bs) 2 : Int)) (.int .u64 (wd (vb bs) 3 : Int))
  go_wp2
  rw [← ez]
  refine bodyPost_ret (v := .tuple #[.agg #[.int .u64 (wd (vb bs) 0 : Int), .int .u64 (wd (vb bs) 1 : Int), .int .u64 (wd (vb bs) 2 : Int), .int .u64 (wd (vb bs) 3 : Int)], .int .i64 0]) (by simp [results, Tryd.results45, go_sem, r0, r1, r2, r3]) rfl ⟨rfl, (hb.trans (hb1.mono (by omega))).trans rb⟩
theorem from_bad (w : World) {c n : Nat} {A : Option Addr} (hl : 32 < n) :
    Calls Tryd.prog 45 #[.slice A n c] w fun e w' => e = .returned (.tuple #[nv 0, .int .i64 2]) ∧ Below w.heap.size w w' := by
  have hb := (Below.refl w.heap.size w).alloc (Nat.le_refl _) Z4
  have g1 : (32 : Int) < (n : Int) := by omega
  rw [nv_zero]
  go_enter Tryd.func45, Tryd.ntmps45
  go_wp2_with fail
  refine bodyPost_ret (v := .tuple #[.agg #[.int .u64 0, .int .u64 0, .int .u64 0, .int .u64 0], .int .i64 2]) (by simp [results, Tryd.results45, go_sem]) rfl ⟨rfl, hb⟩
end Go.Proofs.YtmhfkabpfkoocaaDoor

namespace Go.Proofs.YtmhfkabpfkoocaaDoor
open Go Go.RowKit
theorem infoByte : (Tryd.prog.info? 5).map (fun i => (i.zero, i.size, i.bytes)) = some (some (.int .u8 0), 1, 1) := by kernel_rfl
theorem info_parts {t : TypeId} {z : Option Value} {s b : Nat} (h : (Tryd.prog.info? t).map (fun i => (i.zero, i.size, i.bytes)) = some (z, s, b)) : ∃ i, Tryd.prog.info? t = some i ∧ i.zero = z ∧ i.size = s ∧ i.bytes = b := by
  cases hi : Tryd.prog.info? t with
  | none => rw [hi] at h; simp at h
  | some i => rw [hi] at h; simp at h; exact ⟨i, rfl, h.1, h.2.1, h.2.2⟩
theorem by_wd (x i : Nat) : wd x (i / 8) / 2 ^ (8 * (i % 8)) % 256 = by8 x i := by
  have h : ∀ y s, s < 8 → (y % 18446744073709551616) / 256 ^ s % 256 = y / 256 ^ s % 256 := fun y s hs => dgt_mod (b := 256) (n := 8) y hs
  unfold wd by8 dgt
  rw [Nat.pow_mul, show (2 : Nat) ^ 8 = 256 from rfl, h _ _ (by omega), Nat.div_div_eq_div_mul, show (18446744073709551616 : Nat) = 256 ^ 8 from rfl, ← Nat.pow_mul, ← Nat.pow_add, Nat.div_add_mod]
theorem wrap_by (x i : Nat) : IntKind.u8.wrap ((wd x (i / 8) : Int) / 2 ^ (8 * (i % 8))) = (by8 x i : Int) := by
  have e : (wd x (i / 8) : Int) / 2 ^ (8 * (i % 8)) = ((wd x (i / 8) / 2 ^ (8 * (i % 8)) : Nat) : Int) := by rw [Int.natCast_ediv, Int.natCast_pow]; rfl
  rw [e, ← by_wd, IntKind.wrap_u8]
  omega
/-- The i-th byte. -/
def bf (x i : Nat) : UInt8 := UInt8.ofNat (by8 x i)
theorem bf_nat (x i : Nat) : (bf x i).toNat = by8 x i := by
  have := by8_lt x i
  simp only [bf, UInt8.toNat_ofNat']
  omega
theorem bytes_any (x : Nat) (w : World) :
    Calls Tryd.prog 50 #[nv x] w fun e w' => ∃ A c, e = .returned (.slice A 32 c) ∧ Own w' w.heap.size 5 A c (gen (bf x) 32) ∧ Below w.heap.size w w' := by
  obtain ⟨i0, hi, hz0, hz1, hz2⟩ := info_parts infoByte
  have ha := own_A4 (w := w) (Nat.le_refl _) x
  have s1 : (w.alloc (A4 x)).heap.size = w.heap.size + 1 := by simp
  have b1 := (Below.refl w.heap.size w).alloc (Nat.le_refl _) (A4 x)
  have hmk := run_mk (P := Tryd.prog) 22 5 i0 Tryd.underlying22 hi hz0 hz1 hz2 (l := 32) (n := 32) rfl (by omega)
  have hm : Own ((w.alloc (A4 x)).alloc (.cells (madeCells #[.int .u8 0] 32) 5)) w.heap.size 5 (some ⟨w.heap.size + 1, 0, none⟩) 32 (List.replicate 32 0) := by
    have := Own.made (w := w.alloc (A4 x)) (B := w.heap.size) (n := 32) 5 (by omega) (by decide)
    rw [s1] at this
    exact this
  have b2 := (Below.refl (w.heap.size + 1) (w.alloc (A4 x))).alloc (by omega) (.cells (madeCells #[.int .u8 0] 32) 5)
  have hra := (ha.rd.mono (B' := w.heap.size + 1) (by omega)).keep b2
  have hb0 := b1.trans (b2.mono (by omega))
  unfold nv
  go_enter Tryd.func50, Tryd.ntmps50
  go_wp2
  go_loopw [8] (fun i wr => ∃ k : Nat, k ≤ 32 ∧ i = .int .i64 k ∧ RdF wr (w.heap.size + 1) (some ⟨w.heap.size, 0, none⟩) 4 4 (wv x) ∧ Own wr w.heap.size 5 (some ⟨w.heap.size + 1, 0, none⟩) 32 (fill (bf x) 32 k) ∧ Below w.heap.size w wr)
    (fun i _ => 32 - (intOf i).toNat)
  case atStart => exact ⟨0, by omega, rfl, hra, by rw [fill_zero]; exact hm, hb0⟩
  case round =>
    obtain ⟨k, hk, rfl, ra, os, hb⟩ := hrel
    clear hmk hm b1 b2 hra hb0 ha
    by_cases hlt : k < 32
    · have g1 : (k : Int) < 32 := by omega
      have c1 := ra.cell0 (k := k / 8) (by omega)
      unfold wv at c1
      have c2 := os.cell (k := k) (by rw [fill_length]; exact hlt)
      have f2 := os.free k
      have g2 : IntKind.i64.wrap ((k : Int) / 8) = (k : Int) / 8 := by rw [IntKind.wrap_i64]; omega
      have g3 : (k : Int).tmod 8 = (k : Int) % 8 := Int.tmod_eq_emod_of_nonneg (by omega)
      have g4 : (k : Int) / 8 < 4 := by omega
      have g5 : IntKind.i64.wrap (8 * ((k : Int) % 8)) = 8 * ((k : Int) % 8) := by rw [IntKind.wrap_i64]; omega
      have g6 : 0 ≤ (k : Int) / 8 := by omega
      have g7 : ((k : Int) / 8).toNat = k / 8 := by omega
      have g8 : 0 ≤ 8 * ((k : Int) % 8) := by omega
      have g9 : (8 * ((k : Int) % 8)).toNat = 8 * (k % 8) := by omega
      have gb := wrap_by x k
      rw [← bf_nat] at gb
      go_wp2
      have hset : Below (w.heap.size + 1) wr (wr.setCell ⟨w.heap.size + 1, k, none⟩ (.int .u8 ((bf x k).toNat : Int))) := (Below.refl (w.heap.size + 1) wr).setCell (Nat.le_refl (w.heap.size + 1)) _
      refine ⟨⟨k + 1, by omega, by go_num, ra.keep hset, ?_, hb.trans (hset.mono (by omega))⟩, by simp [intOf]; omega⟩
      rw [← fill_set _ _ k rfl]
      exact os.set_ k _
    · have hk' : k = 32 := by omega
      subst hk'
      rw [fill_full] at os
      go_wp2
      go_ret
      exact ⟨_, _, rfl, os, hb⟩
abbrev A8 (x : Nat) : Obj := .cells #[.int .u64 (wd x 0 : Int), .int .u64 (wd x 1 : Int), .int .u64 (wd x 2 : Int), .int .u64 (wd x 3 : Int), .int .u64 (wd x 4 : Int), .int .u64 (wd x 5 : Int), .int .u64 (wd x 6 : Int), .int .u64 (wd x 7 : Int)] 83
theorem own_A8 {w : World} {B : Nat} (hB : B ≤ w.heap.size) (x : Nat) : OwnF (w.alloc (A8 x)) B 83 (some ⟨w.heap.size, 0, none⟩) 8 8 (wv x) :=
  OwnF.lit _ hB _ 8 _ (by decide) rfl
theorem nv_mod (x : Nat) : nv (x % W4) = nv x := by
  unfold nv wd
  rw [show W4 = 18446744073709551616 ^ 4 from rfl, dgt_mod x (by decide), dgt_mod x (by decide), dgt_mod x (by decide), dgt_mod x (by decide)]
end Go.Proofs.YtmhfkabpfkoocaaDoor
