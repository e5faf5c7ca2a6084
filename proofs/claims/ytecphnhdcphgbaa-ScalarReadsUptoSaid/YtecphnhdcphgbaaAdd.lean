import Derived.Test.YtecphnhdcphgbaaBits
import Derived.StillTailTactics
import Derived.RegionTactic
import Derived.Deep.RegionHeld3
import Derived.Laws.Pointers
import Derived.RowKit3
namespace Go.Proofs.Ytecphnhdcphgbaa
open Go Go.RowKit

def wv (x j : Nat) : Value := .int .u64 (wd x j : Int)
def fw (x k j : Nat) : Value := .int .u64 ((if j < k then wd x j else 0 : Nat) : Int)
theorem fw_in {x k j : Nat} (h : j < k) : fw x k j = .int .u64 (wd x j : Int) := by simp [fw, h]
theorem fw_out {x k j : Nat} (h : ¬ j < k) : fw x k j = .int .u64 0 := by simp [fw, h]
theorem fw_set (x k j : Nat) : (if j = k then .int .u64 (wd x k : Int) else fw x k j) = fw x (k + 1) j := by
  by_cases h : j = k
  · subst h; rw [if_pos rfl, fw_in (by omega)]
  · rw [if_neg h]
    by_cases h2 : j < k
    · rw [fw_in h2, fw_in (by omega)]
    · rw [fw_out h2, fw_out (by omega)]
abbrev A4 (x : Nat) : Obj := .cells #[.int .u64 (wd x 0 : Int), .int .u64 (wd x 1 : Int), .int .u64 (wd x 2 : Int), .int .u64 (wd x 3 : Int)] 35
abbrev Z4 : Obj := .cells #[.int .u64 0, .int .u64 0, .int .u64 0, .int .u64 0] 35
theorem own_A4 {w : World} {B : Nat} (hB : B ≤ w.heap.size) (x : Nat) : OwnF (w.alloc (A4 x)) B 35 (some ⟨w.heap.size, 0, none⟩) 4 4 (wv x) :=
  OwnF.lit _ hB _ 4 _ (by decide) rfl
theorem own_Z4 {w : World} {B : Nat} (hB : B ≤ w.heap.size) : OwnF (w.alloc Z4) B 35 (some ⟨w.heap.size, 0, none⟩) 4 4 (fun _ => .int .u64 0) :=
  OwnF.lit _ hB _ 4 _ (by decide) rfl

theorem set4 {w : World} {B g : Nat} {e : TypeId} {f : Nat → Value} (h : OwnF w B e (some ⟨g, 0, none⟩) 4 4 f) (v0 v1 v2 v3 : Value) :
    ∃ w', w' = ((((w.setCell ⟨g, 0, none⟩ v0).setCell ⟨g, 1, none⟩ v1).setCell ⟨g, 2, none⟩ v2).setCell ⟨g, 3, none⟩ v3) ∧
    w'.cell? ⟨g, 0, none⟩ = some v0 ∧ w'.cell? ⟨g, 1, none⟩ = some v1 ∧ w'.cell? ⟨g, 2, none⟩ = some v2 ∧ w'.cell? ⟨g, 3, none⟩ = some v3 ∧ Below B w w' := by
  have h1 := h.set_ 0 v0
  have h2 := h1.set_ 1 v1
  have h3 := h2.set_ 2 v2
  have h4 := h3.set_ 3 v3
  have hg := h.ge
  exact ⟨_, rfl, by rw [h4.cell (by decide)]; simp, by rw [h4.cell (by decide)]; simp, by rw [h4.cell (by decide)]; simp, by rw [h4.cell (by decide)]; simp,
    ((((Below.refl _ w).setCell hg _).setCell hg _).setCell hg _).setCell hg _⟩
/-- Two numbers and two new ones, in four blocks. -/
theorem start4 (x y : Nat) (w : World) : RdF ((((w.alloc (A4 x)).alloc (A4 y)).alloc Z4).alloc Z4) (w.heap.size + 3) (some ⟨w.heap.size, 0, none⟩) 4 4 (wv x) ∧
    RdF ((((w.alloc (A4 x)).alloc (A4 y)).alloc Z4).alloc Z4) (w.heap.size + 3) (some ⟨w.heap.size + 1, 0, none⟩) 4 4 (wv y) ∧
    OwnF ((((w.alloc (A4 x)).alloc (A4 y)).alloc Z4).alloc Z4) w.heap.size 35 (some ⟨w.heap.size + 2, 0, none⟩) 4 4 (fun _ => .int .u64 0) ∧
    OwnF ((((w.alloc (A4 x)).alloc (A4 y)).alloc Z4).alloc Z4) w.heap.size 35 (some ⟨w.heap.size + 3, 0, none⟩) 4 4 (fun _ => .int .u64 0) ∧
    Below w.heap.size w ((((w.alloc (A4 x)).alloc (A4 y)).alloc Z4).alloc Z4) := by
  have s1 : (w.alloc (A4 x)).heap.size = w.heap.size + 1 := by simp
  have s2 : ((w.alloc (A4 x)).alloc (A4 y)).heap.size = w.heap.size + 2 := by simp
  have s3 : (((w.alloc (A4 x)).alloc (A4 y)).alloc Z4).heap.size = w.heap.size + 3 := by simp
  have b1 := (Below.refl (w.heap.size + 1) (w.alloc (A4 x))).alloc (by omega) (A4 y)
  have b2 := (Below.refl (w.heap.size + 2) ((w.alloc (A4 x)).alloc (A4 y))).alloc (by omega) Z4
  have b3 := (Below.refl (w.heap.size + 3) (((w.alloc (A4 x)).alloc (A4 y)).alloc Z4)).alloc (by omega) Z4
  have irx := (((own_A4 (w := w) (Nat.le_refl _) x).rd.mono (B' := w.heap.size + 1) (by omega)).keep ((b1.trans (b2.mono (by omega))).trans (b3.mono (by omega)))).mono (B' := w.heap.size + 3) (by omega)
  have iry := (((own_A4 (w := w.alloc (A4 x)) (B := w.heap.size) (by omega) y).rd.mono (B' := w.heap.size + 2) (by omega)).keep (b2.trans (b3.mono (by omega)))).mono (B' := w.heap.size + 3) (by omega)
  have ioz := (own_Z4 (w := (w.alloc (A4 x)).alloc (A4 y)) (B := w.heap.size) (by omega)).keepAt (by rw [s2]; exact b3)
  have ios := own_Z4 (w := ((w.alloc (A4 x)).alloc (A4 y)).alloc Z4) (B := w.heap.size) (by omega)
  have bb : Below w.heap.size w ((((w.alloc (A4 x)).alloc (A4 y)).alloc Z4).alloc Z4) := ((((Below.refl _ w).alloc (by omega) _).alloc (by omega) _).alloc (by omega) _).alloc (by omega) _
  rw [s1] at iry
  rw [s2] at ioz
  rw [s3] at ios
  exact ⟨irx, iry, ioz, ios, bb⟩

theorem add_any (x y : Nat) (w : World) :
    Calls Try.prog 44 #[nv x, nv y] w fun e w' => e = .returned (.tuple #[nv (x + y), .int .u64 (cw x y 4 : Int)]) ∧ Below w.heap.size w w' := by
  obtain ⟨irx, iry, ioz, ios, bb⟩ := start4 x y w
  unfold nv
  go_enter Try.func44, Try.ntmps44
  go_wp2
  go_loopw [7, 9] (fun c i wr => ∃ k : Nat, k ≤ 4 ∧ i = .int .i64 k ∧ c = .int .u64 (cw x y k : Int) ∧ RdF wr (w.heap.size + 3) (some ⟨w.heap.size, 0, none⟩) 4 4 (wv x) ∧ RdF wr (w.heap.size + 3) (some ⟨w.heap.size + 1, 0, none⟩) 4 4 (wv y) ∧
      OwnF wr w.heap.size 35 (some ⟨w.heap.size + 2, 0, none⟩) 4 4 (fun _ => .int .u64 0) ∧ OwnF wr w.heap.size 35 (some ⟨w.heap.size + 3, 0, none⟩) 4 4 (fw (x + y) k) ∧ Below w.heap.size w wr)
    (fun _ i _ => 4 - (intOf i).toNat)
  case atStart => exact ⟨0, by omega, rfl, by rw [cw_zero]; rfl, irx, iry, ioz, ios.congr (fun j _ => by rw [fw_out (by omega)]), bb⟩
  case round =>
    obtain ⟨k, hk, rfl, rfl, rx, ry, oz, os, hb⟩ := hrel
    clear irx iry ioz ios bb
    by_cases hlt : k < 4
    · have g1 : (k : Int) < 4 := by omega
      have c1 : wr.cell? ⟨w.heap.size, k, none⟩ = some (.int .u64 (wd x k : Int)) := rx.cell0 hlt
      have c2 : wr.cell? ⟨w.heap.size + 1, k, none⟩ = some (.int .u64 (wd y k : Int)) := ry.cell0 hlt
      have c3 := os.cell hlt
      rw [fw_out (by omega)] at c3
      have f3 := os.free k
      have hadd := add64_wd x y k
      go_wp2
      go_region
      go_wp2
      go_roundw
      case rel =>
        have os' := os.set_ k (.int .u64 (wd (x + y) k : Int))
        have hset : Below (w.heap.size + 3) wr (wr.setCell ⟨w.heap.size + 3, k, none⟩ (.int .u64 (wd (x + y) k : Int))) := (Below.refl (w.heap.size + 3) wr).setCell (Nat.le_refl (w.heap.size + 3)) _
        refine ⟨k + 1, by omega, by go_num, by go_num, (rx.keep hset).drew, (ry.keep hset).drew, (oz.keepAt hset).drew, ?_, (hb.trans (hset.mono (by omega))).drew⟩
        exact (os'.congr fun j _ => fw_set _ _ _).drew
      case measure => simp [intOf]; omega
    · have hk' : k = 4 := by omega
      subst hk'
      have c0 := os.cell (k := 0) (by decide)
      have c1 := os.cell (k := 1) (by decide)
      have c2 := os.cell (k := 2) (by decide)
      have c3 := os.cell (k := 3) (by decide)
      rw [fw_in (by decide)] at c0 c1 c2 c3
      have d0 := oz.cell (k := 0) (by decide)
      have d1 := oz.cell (k := 1) (by decide)
      have d2 := oz.cell (k := 2) (by decide)
      have d3 := oz.cell (k := 3) (by decide)
      have f0 := oz.free 0
      have f1 := oz.free 1
      have f2 := oz.free 2
      have f3 := oz.free 3
      obtain ⟨wz, ez, r0, r1, r2, r3, rb⟩ := set4 oz (.int .u64 (wd (x + y) 0 : Int)) (.int .u64 (wd (x + y) 1 : Int)) (.int .u64 (wd (x + y) 2 : Int)) (.int .u64 (wd (x + y) 3 : Int))
      have hbb := hb.trans rb
      go_wp2
      rw [← ez]
      clear c0 c1 c2 c3 d0 d1 d2 d3 f0 f1 f2 f3 ez
      refine bodyPost_ret (v := .tuple #[.agg #[.int .u64 (wd (x + y) 0 : Int), .int .u64 (wd (x + y) 1 : Int), .int .u64 (wd (x + y) 2 : Int), .int .u64 (wd (x + y) 3 : Int)], .int .u64 (cw x y 4 : Int)]) (by simp [results, Try.results44, go_sem, r0, r1, r2, r3]) rfl ⟨rfl, hb.trans rb⟩
theorem sub_any (x y : Nat) (hy : y < W4) (w : World) :
    Calls Try.prog 37 #[nv x, nv y] w fun e w' => e = .returned (.tuple #[nv (x + W4 - y), .int .u64 (bw x y 4 : Int)]) ∧ Below w.heap.size w w' := by
  obtain ⟨irx, iry, ioz, ios, bb⟩ := start4 x y w
  unfold nv
  go_enter Try.func37, Try.ntmps37
  go_wp2
  go_loopw [7, 9] (fun c i wr => ∃ k : Nat, k ≤ 4 ∧ i = .int .i64 k ∧ c = .int .u64 (bw x y k : Int) ∧ RdF wr (w.heap.size + 3) (some ⟨w.heap.size, 0, none⟩) 4 4 (wv x) ∧ RdF wr (w.heap.size + 3) (some ⟨w.heap.size + 1, 0, none⟩) 4 4 (wv y) ∧
      OwnF wr w.heap.size 35 (some ⟨w.heap.size + 2, 0, none⟩) 4 4 (fun _ => .int .u64 0) ∧ OwnF wr w.heap.size 35 (some ⟨w.heap.size + 3, 0, none⟩) 4 4 (fw (x + W4 - y) k) ∧ Below w.heap.size w wr)
    (fun _ i _ => 4 - (intOf i).toNat)
  case atStart => exact ⟨0, by omega, rfl, by rw [bw_zero]; rfl, irx, iry, ioz, ios.congr (fun j _ => by rw [fw_out (by omega)]), bb⟩
  case round =>
    obtain ⟨k, hk, rfl, rfl, rx, ry, oz, os, hb⟩ := hrel
    clear irx iry ioz ios bb
    by_cases hlt : k < 4
    · have g1 : (k : Int) < 4 := by omega
      have c1 : wr.cell? ⟨w.heap.size, k, none⟩ = some (.int .u64 (wd x k : Int)) := rx.cell0 hlt
      have c2 : wr.cell? ⟨w.heap.size + 1, k, none⟩ = some (.int .u64 (wd y k : Int)) := ry.cell0 hlt
      have c3 := os.cell hlt
      rw [fw_out (by omega)] at c3
      have f3 := os.free k
      have hadd := sub64_wd x y hlt hy
      go_wp2
      go_region
      go_wp2
      go_roundw
      case rel =>
        have os' := os.set_ k (.int .u64 (wd (x + W4 - y) k : Int))
        have hset : Below (w.heap.size + 3) wr (wr.setCell ⟨w.heap.size + 3, k, none⟩ (.int .u64 (wd (x + W4 - y) k : Int))) := (Below.refl (w.heap.size + 3) wr).setCell (Nat.le_refl (w.heap.size + 3)) _
        refine ⟨k + 1, by omega, by go_num, by go_num, (rx.keep hset).drew, (ry.keep hset).drew, (oz.keepAt hset).drew, ?_, (hb.trans (hset.mono (by omega))).drew⟩
        exact (os'.congr fun j _ => fw_set _ _ _).drew
      case measure => simp [intOf]; omega
    · have hk' : k = 4 := by omega
      subst hk'
      have c0 := os.cell (k := 0) (by decide)
      have c1 := os.cell (k := 1) (by decide)
      have c2 := os.cell (k := 2) (by decide)
      have c3 := os.cell (k := 3) (by decide)
      rw [fw_in (by decide)] at c0 c1 c2 c3
      have d0 := oz.cell (k := 0) (by decide)
      have d1 := oz.cell (k := 1) (by decide)
      have d2 := oz.cell (k := 2) (by decide)
      have d3 := oz.cell (k := 3) (by decide)
      have f0 := oz.free 0
      have f1 := oz.free 1
      have f2 := oz.free 2
      have f3 := oz.free 3
      obtain ⟨wz, ez, r0, r1, r2, r3, rb⟩ := set4 oz (.int .u64 (wd (x + W4 - y) 0 : Int)) (.int .u64 (wd (x + W4 - y) 1 : Int)) (.int .u64 (wd (x + W4 - y) 2 : Int)) (.int .u64 (wd (x + W4 - y) 3 : Int))
      have hbb := hb.trans rb
      go_wp2
      rw [← ez]
      clear c0 c1 c2 c3 d0 d1 d2 d3 f0 f1 f2 f3 ez
      refine bodyPost_ret (v := .tuple #[.agg #[.int .u64 (wd (x + W4 - y) 0 : Int), .int .u64 (wd (x + W4 - y) 1 : Int), .int .u64 (wd (x + W4 - y) 2 : Int), .int .u64 (wd (x + W4 - y) 3 : Int)], .int .u64 (bw x y 4 : Int)]) (by simp [results, Try.results37, go_sem, r0, r1, r2, r3]) rfl ⟨rfl, hb.trans rb⟩
end Go.Proofs.Ytecphnhdcphgbaa
