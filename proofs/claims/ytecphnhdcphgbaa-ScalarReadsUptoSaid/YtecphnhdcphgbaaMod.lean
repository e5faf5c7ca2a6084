import Derived.Test.YtecphnhdcphgbaaBring2
namespace Go.Proofs.Ytecphnhdcphgbaa
open Go Go.RowKit
/-- x without its lowest e bits. -/
def shr (x e : Nat) : Nat := x / 2 ^ e
theorem shr_step (x e : Nat) : shr x e = 2 * shr x (e + 1) + bt x e := by
  unfold shr bt
  rw [Nat.pow_succ, ← Nat.div_div_eq_div_mul]
  omega
theorem shr_zero (x : Nat) : shr x 0 = x := by simp [shr]
theorem shr_all {x : Nat} (h : x < W8) : shr x 512 = 0 := Nat.div_eq_of_lt (by rw [show (2 : Nat) ^ 512 = W8 from by decide +kernel]; exact h)
theorem mod_step (x m e : Nat) : (2 * (shr x (e + 1) % m) + bt x e) % m = shr x e % m := by
  rw [shr_step x e, Nat.add_mod, Nat.mul_mod, Nat.mod_mod, ← Nat.mul_mod, ← Nat.add_mod]
theorem bt_wd8 (x i k : Nat) (hi : i < 8) (hk : k < 64) : wd x (7 - i) / 2 ^ (63 - k) % 2 = bt x (64 * (7 - i) + (63 - k)) := by
  rw [← bt_wd x (64 * (7 - i) + (63 - k))]
  rw [show (64 * (7 - i) + (63 - k)) / 64 = 7 - i by omega, show (64 * (7 - i) + (63 - k)) % 64 = 63 - k by omega]
theorem bt_le (x i : Nat) : bt x i ≤ 1 := by unfold bt; omega
abbrev A8 (x : Nat) : Obj := .cells #[.int .u64 (wd x 0 : Int), .int .u64 (wd x 1 : Int), .int .u64 (wd x 2 : Int), .int .u64 (wd x 3 : Int), .int .u64 (wd x 4 : Int), .int .u64 (wd x 5 : Int), .int .u64 (wd x 6 : Int), .int .u64 (wd x 7 : Int)] 55
theorem own_A8 {w : World} {B : Nat} (hB : B ≤ w.heap.size) (x : Nat) : OwnF (w.alloc (A8 x)) B 55 (some ⟨w.heap.size, 0, none⟩) 8 8 (wv x) :=
  OwnF.lit _ hB _ 8 _ (by decide) rfl
theorem startM (x y : Nat) (w : World) : RdF ((((w.alloc (A8 x)).alloc (A4 y)).alloc Z4).alloc Z4) (w.heap.size + 2) (some ⟨w.heap.size, 0, none⟩) 8 8 (wv x) ∧
    RdF ((((w.alloc (A8 x)).alloc (A4 y)).alloc Z4).alloc Z4) (w.heap.size + 2) (some ⟨w.heap.size + 1, 0, none⟩) 4 4 (wv y) ∧
    OwnF ((((w.alloc (A8 x)).alloc (A4 y)).alloc Z4).alloc Z4) w.heap.size 35 (some ⟨w.heap.size + 2, 0, none⟩) 4 4 (fun _ => .int .u64 0) ∧
    OwnF ((((w.alloc (A8 x)).alloc (A4 y)).alloc Z4).alloc Z4) w.heap.size 35 (some ⟨w.heap.size + 3, 0, none⟩) 4 4 (fun _ => .int .u64 0) ∧
    Below w.heap.size w ((((w.alloc (A8 x)).alloc (A4 y)).alloc Z4).alloc Z4) := by
  have s1 : (w.alloc (A8 x)).heap.size = w.heap.size + 1 := by simp
  have s2 : ((w.alloc (A8 x)).alloc (A4 y)).heap.size = w.heap.size + 2 := by simp
  have s3 : (((w.alloc (A8 x)).alloc (A4 y)).alloc Z4).heap.size = w.heap.size + 3 := by simp
  have b1 := (Below.refl (w.heap.size + 1) (w.alloc (A8 x))).alloc (by omega) (A4 y)
  have b2 := (Below.refl (w.heap.size + 2) ((w.alloc (A8 x)).alloc (A4 y))).alloc (by omega) Z4
  have b3 := (Below.refl (w.heap.size + 3) (((w.alloc (A8 x)).alloc (A4 y)).alloc Z4)).alloc (by omega) Z4
  have irx := (((own_A8 (w := w) (Nat.le_refl _) x).rd.mono (B' := w.heap.size + 1) (by omega)).keep ((b1.trans (b2.mono (by omega))).trans (b3.mono (by omega)))).mono (B' := w.heap.size + 2) (by omega)
  have iry := (((own_A4 (w := w.alloc (A8 x)) (B := w.heap.size) (by omega) y).rd.mono (B' := w.heap.size + 2) (by omega)).keep (b2.trans (b3.mono (by omega))))
  have ioz := (own_Z4 (w := (w.alloc (A8 x)).alloc (A4 y)) (B := w.heap.size) (by omega)).keepAt (by rw [s2]; exact b3)
  have ios := own_Z4 (w := ((w.alloc (A8 x)).alloc (A4 y)).alloc Z4) (B := w.heap.size) (by omega)
  have bb : Below w.heap.size w ((((w.alloc (A8 x)).alloc (A4 y)).alloc Z4).alloc Z4) := ((((Below.refl _ w).alloc (by omega) _).alloc (by omega) _).alloc (by omega) _).alloc (by omega) _
  rw [s1] at iry
  rw [s2] at ioz
  rw [s3] at ios
  exact ⟨irx, iry, ioz, ios, bb⟩
theorem put4 {w : World} {B g : Nat} {e : TypeId} {f : Nat → Value} (h : OwnF w B e (some ⟨g, 0, none⟩) 4 4 f) (z : Nat) :
    OwnF ((((w.setCell ⟨g, 0, none⟩ (.int .u64 (wd z 0 : Int))).setCell ⟨g, 1, none⟩ (.int .u64 (wd z 1 : Int))).setCell ⟨g, 2, none⟩ (.int .u64 (wd z 2 : Int))).setCell ⟨g, 3, none⟩ (.int .u64 (wd z 3 : Int))) B e (some ⟨g, 0, none⟩) 4 4 (wv z) ∧
    Below g w ((((w.setCell ⟨g, 0, none⟩ (.int .u64 (wd z 0 : Int))).setCell ⟨g, 1, none⟩ (.int .u64 (wd z 1 : Int))).setCell ⟨g, 2, none⟩ (.int .u64 (wd z 2 : Int))).setCell ⟨g, 3, none⟩ (.int .u64 (wd z 3 : Int))) := by
  have h4 := (((h.set_ 0 (.int .u64 (wd z 0 : Int))).set_ 1 (.int .u64 (wd z 1 : Int))).set_ 2 (.int .u64 (wd z 2 : Int))).set_ 3 (.int .u64 (wd z 3 : Int))
  refine ⟨h4.congr fun j hj => ?_, ((((Below.refl g w).setCell (Nat.le_refl g) _).setCell (Nat.le_refl g) _).setCell (Nat.le_refl g) _).setCell (Nat.le_refl g) _⟩
  have : j = 0 ∨ j = 1 ∨ j = 2 ∨ j = 3 := by omega
  rcases this with rfl | rfl | rfl | rfl <;> rfl
theorem eq4z (y : Nat) (hy : y < W4) (w : World) : (Op.equalIn 10000 35 (nv y) (.agg #[.int .u64 0, .int .u64 0, .int .u64 0, .int .u64 0])).run Try.prog w = .ok (decide (y = 0)) w := by
  rw [← nv_zero]
  exact eq4 y 0 hy W4_pos w
theorem mod_zero (a : Nat) (w : World) :
    Calls Try.prog 50 #[dv a, nv 0] w fun e w' => e = .returned (.tuple #[nv 0, .int .i64 8]) ∧ Below w.heap.size w w' := by
  obtain ⟨-, -, oz, -, -⟩ := startM a 0 w
  have hb : Below w.heap.size w (((w.alloc (A8 a)).alloc (A4 0)).alloc Z4) := (((Below.refl _ w).alloc (by omega) _).alloc (by simp) _).alloc (by simp; omega) _
  have heq := eq4z 0 W4_pos
  rw [nv_zero] at heq ⊢
  have hd : decide ((0 : Nat) = 0) = true := rfl
  have ha : A4 0 = Z4 := congrArg (Obj.cells · 35) (by simp [wd, dgt])
  rw [ha] at hb
  unfold dv
  go_enter Try.func50, Try.ntmps50
  go_wp2_with fail
  refine bodyPost_ret (v := .tuple #[.agg #[.int .u64 0, .int .u64 0, .int .u64 0, .int .u64 0], .int .i64 8]) (by simp [results, Try.results50, go_sem]) rfl ⟨rfl, hb⟩
end Go.Proofs.Ytecphnhdcphgbaa
