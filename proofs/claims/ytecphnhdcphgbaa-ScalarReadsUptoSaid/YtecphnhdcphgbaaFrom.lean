import Derived.Test.YtecphnhdcphgbaaFill
namespace Go.Proofs.Ytecphnhdcphgbaa
open Go Go.RowKit
theorem nv_zero : nv 0 = .agg #[.int .u64 0, .int .u64 0, .int .u64 0, .int .u64 0] := by simp [wd, dgt]
theorem dv_zero : dv 0 = .agg #[.int .u64 0, .int .u64 0, .int .u64 0, .int .u64 0, .int .u64 0, .int .u64 0, .int .u64 0, .int .u64 0] := by simp [wd, dgt]
theorem own_ZZ4 (w : World) : OwnF ((w.alloc Z4).alloc Z4) w.heap.size 35 (some ⟨w.heap.size, 0, none⟩) 4 4 (fun _ => .int .u64 0) ∧ OwnF ((w.alloc Z4).alloc Z4) w.heap.size 35 (some ⟨w.heap.size + 1, 0, none⟩) 4 4 (fun _ => .int .u64 0) ∧ Below w.heap.size w ((w.alloc Z4).alloc Z4) := by
  have s1 : (w.alloc Z4).heap.size = w.heap.size + 1 := by simp
  have h1 := (own_Z4 (w := w) (B := w.heap.size) (Nat.le_refl _)).keepAt ((Below.refl (w.heap.size + 1) (w.alloc Z4)).alloc (by omega) Z4)
  have h2 := own_Z4 (w := w.alloc Z4) (B := w.heap.size) (by omega)
  rw [s1] at h2
  exact ⟨h1, h2, ((Below.refl _ w).alloc (Nat.le_refl _) _).alloc (by omega) _⟩
theorem own_ZZ8 (w : World) : OwnF ((w.alloc Z8).alloc Z8) w.heap.size 55 (some ⟨w.heap.size, 0, none⟩) 8 8 (fun _ => .int .u64 0) ∧ OwnF ((w.alloc Z8).alloc Z8) w.heap.size 55 (some ⟨w.heap.size + 1, 0, none⟩) 8 8 (fun _ => .int .u64 0) ∧ Below w.heap.size w ((w.alloc Z8).alloc Z8) := by
  have s1 : (w.alloc Z8).heap.size = w.heap.size + 1 := by simp
  have h1 := (own_Z8 (w := w) (B := w.heap.size) (Nat.le_refl _)).keepAt ((Below.refl (w.heap.size + 1) (w.alloc Z8)).alloc (by omega) Z8)
  have h2 := own_Z8 (w := w.alloc Z8) (B := w.heap.size) (by omega)
  rw [s1] at h2
  exact ⟨h1, h2, ((Below.refl _ w).alloc (Nat.le_refl _) _).alloc (by omega) _⟩
/-- What the bytes are worth. -/
def vb (bs : List UInt8) : Nat := vk bs bs.length

theorem from_good (w : World) {B c : Nat} {A : Option Addr} {bs : List UInt8} (hr : Rd w B A c bs) (hB : B ≤ w.heap.size) (hl : bs.length ≤ 32) :
    Calls Try.prog 36 #[.slice A bs.length c] w fun e w' => e = .returned (.tuple #[nv (vb bs), .int .i64 0]) ∧ Below w.heap.size w w' := by
  obtain ⟨hz, ho, hb⟩ := own_ZZ4 w
  have g1 : ¬ (32 : Int) < (bs.length : Int) := by omega
  unfold nv
  go_enter Try.func36, Try.ntmps36
  go_wp2_with fail
  go_at_call 49
  refine (fill_any _ ho (hr.keep (hb.mono hB)) (by omega) (by omega) (by omega)).mono ?_
  rintro e w1 ⟨rfl, os, hb1⟩
  rw [show vk bs bs.length = vb bs from rfl] at os
  have oz := hz.keepAt hb1
  have c0 := (os).cell (k := 0) (by decide)
  have c1 := (os).cell (k := 1) (by decide)
  have c2 := (os).cell (k := 2) (by decide)
  have c3 := (os).cell (k := 3) (by decide)
  have d0 := (oz).cell (k := 0) (by decide)
  have d1 := (oz).cell (k := 1) (by decide)
  have d2 := (oz).cell (k := 2) (by decide)
  have d3 := (oz).cell (k := 3) (by decide)
  have f0 := (oz).free 0
  have f1 := (oz).free 1
  have f2 := (oz).free 2
  have f3 := (oz).free 3
  unfold wv at c0 c1 c2 c3
  obtain ⟨wz, ez, r0, r1, r2, r3, rb⟩ := set4 oz (.int .u64 (wd (vb bs) 0 : Int)) (.int .u64 (wd (vb bs) 1 : Int)) (.int .u64 (wd (vb bs) 2 : Int)) (.int .u64 (wd (vb bs) 3 : Int))
  go_wp2
  rw [← ez]
  refine bodyPost_ret (v := .tuple #[.agg #[.int .u64 (wd (vb bs) 0 : Int), .int .u64 (wd (vb bs) 1 : Int), .int .u64 (wd (vb bs) 2 : Int), .int .u64 (wd (vb bs) 3 : Int)], .int .i64 0]) (by simp [results, Try.results36, go_sem, r0, r1, r2, r3]) rfl ⟨rfl, (hb.trans (hb1.mono (by omega))).trans rb⟩
theorem from_bad (w : World) {c n : Nat} {A : Option Addr} (hl : 32 < n) :
    Calls Try.prog 36 #[.slice A n c] w fun e w' => e = .returned (.tuple #[nv 0, .int .i64 2]) ∧ Below w.heap.size w w' := by
  have hb := (Below.refl w.heap.size w).alloc (Nat.le_refl _) Z4
  have g1 : (32 : Int) < (n : Int) := by omega
  rw [nv_zero]
  go_enter Try.func36, Try.ntmps36
  go_wp2_with fail
  refine bodyPost_ret (v := .tuple #[.agg #[.int .u64 0, .int .u64 0, .int .u64 0, .int .u64 0], .int .i64 2]) (by simp [results, Try.results36, go_sem]) rfl ⟨rfl, hb⟩
theorem double_good (w : World) {B c : Nat} {A : Option Addr} {bs : List UInt8} (hr : Rd w B A c bs) (hB : B ≤ w.heap.size) (hl : bs.length ≤ 64) :
    Calls Try.prog 33 #[.slice A bs.length c] w fun e w' => e = .returned (.tuple #[dv (vb bs), .int .i64 0]) ∧ Below w.heap.size w w' := by
  obtain ⟨hz, ho, hb⟩ := own_ZZ8 w
  have g1 : ¬ (64 : Int) < (bs.length : Int) := by omega
  unfold dv
  go_enter Try.func33, Try.ntmps33
  go_wp2_with fail
  go_at_call 49
  refine (fill_any _ ho (hr.keep (hb.mono hB)) (by omega) (by omega) (by omega)).mono ?_
  rintro e w1 ⟨rfl, os, hb1⟩
  rw [show vk bs bs.length = vb bs from rfl] at os
  have oz := hz.keepAt hb1
  have c0 := (os).cell (k := 0) (by decide)
  have c1 := (os).cell (k := 1) (by decide)
  have c2 := (os).cell (k := 2) (by decide)
  have c3 := (os).cell (k := 3) (by decide)
  have c4 := (os).cell (k := 4) (by decide)
  have c5 := (os).cell (k := 5) (by decide)
  have c6 := (os).cell (k := 6) (by decide)
  have c7 := (os).cell (k := 7) (by decide)
  have d0 := (oz).cell (k := 0) (by decide)
  have d1 := (oz).cell (k := 1) (by decide)
  have d2 := (oz).cell (k := 2) (by decide)
  have d3 := (oz).cell (k := 3) (by decide)
  have d4 := (oz).cell (k := 4) (by decide)
  have d5 := (oz).cell (k := 5) (by decide)
  have d6 := (oz).cell (k := 6) (by decide)
  have d7 := (oz).cell (k := 7) (by decide)
  have f0 := (oz).free 0
  have f1 := (oz).free 1
  have f2 := (oz).free 2
  have f3 := (oz).free 3
  have f4 := (oz).free 4
  have f5 := (oz).free 5
  have f6 := (oz).free 6
  have f7 := (oz).free 7
  unfold wv at c0 c1 c2 c3 c4 c5 c6 c7
  obtain ⟨wz, ez, r0, r1, r2, r3, r4, r5, r6, r7, rb⟩ := set8 oz (.int .u64 (wd (vb bs) 0 : Int)) (.int .u64 (wd (vb bs) 1 : Int)) (.int .u64 (wd (vb bs) 2 : Int)) (.int .u64 (wd (vb bs) 3 : Int)) (.int .u64 (wd (vb bs) 4 : Int)) (.int .u64 (wd (vb bs) 5 : Int)) (.int .u64 (wd (vb bs) 6 : Int)) (.int .u64 (wd (vb bs) 7 : Int))
  go_wp2
  rw [← ez]
  refine bodyPost_ret (v := .tuple #[.agg #[.int .u64 (wd (vb bs) 0 : Int), .int .u64 (wd (vb bs) 1 : Int), .int .u64 (wd (vb bs) 2 : Int), .int .u64 (wd (vb bs) 3 : Int), .int .u64 (wd (vb bs) 4 : Int), .int .u64 (wd (vb bs) 5 : Int), .int .u64 (wd (vb bs) 6 : Int), .int .u64 (wd (vb bs) 7 : Int)], .int .i64 0]) (by simp [results, Try.results33, go_sem, r0, r1, r2, r3, r4, r5, r6, r7]) rfl ⟨rfl, (hb.trans (hb1.mono (by omega))).trans rb⟩
theorem double_bad (w : World) {c n : Nat} {A : Option Addr} (hl : 64 < n) :
    Calls Try.prog 33 #[.slice A n c] w fun e w' => e = .returned (.tuple #[dv 0, .int .i64 2]) ∧ Below w.heap.size w w' := by
  obtain ⟨-, -, hb⟩ := own_ZZ8 w
  have g1 : (64 : Int) < (n : Int) := by omega
  rw [dv_zero]
  go_enter Try.func33, Try.ntmps33
  go_wp2_with fail
  refine bodyPost_ret (v := .tuple #[.agg #[.int .u64 0, .int .u64 0, .int .u64 0, .int .u64 0, .int .u64 0, .int .u64 0, .int .u64 0, .int .u64 0], .int .i64 2]) (by simp [results, Try.results33, go_sem]) rfl ⟨rfl, hb⟩
end Go.Proofs.Ytecphnhdcphgbaa
