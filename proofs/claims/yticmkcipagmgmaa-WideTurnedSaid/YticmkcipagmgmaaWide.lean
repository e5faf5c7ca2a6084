import Derived.Test.YticmkcipagmgmaaWord
namespace Go.Proofs.Yticmkcipagmgmaa
open Go Go.RowKit
theorem rwide_any {A : Option Addr} {B c n x : Nat} (w : World) (h : Dig w B A c n x) (hB : B ≤ w.heap.size) :
    Calls Try.prog 15 #[.slice A n c] w fun e w' => e = .returned (dv x) ∧ Below w.heap.size w w' := by
  obtain ⟨iz, io, bb⟩ := own_ZZ8 w
  have ih := h.keep (bb.mono hB)
  clear h
  unfold dv
  go_enter Try.func15, Try.ntmps15
  go_wp2_with fail
  go_loopw [4] (fun i wr => ∃ k : Nat, k ≤ 8 ∧ i = .int .i64 k ∧ Dig wr B A c n x ∧ OwnF wr w.heap.size 29 (some ⟨w.heap.size, 0, none⟩) 8 8 (fun _ => .int .u64 0) ∧ OwnF wr w.heap.size 29 (some ⟨w.heap.size + 1, 0, none⟩) 8 8 (fw x k) ∧ Below w.heap.size w wr)
    (fun i _ => 8 - (intOf i).toNat)
  case atStart => exact ⟨0, by omega, rfl, ih, iz, io.congr (fun j _ => by rw [fw_out (by omega)]), bb⟩
  case round =>
    obtain ⟨k, hk, rfl, h, oz, os, hb⟩ := hrel
    clear ih iz io bb
    by_cases hlt : k < 8
    · have g1 : (k : Int) < 8 := by omega
      have c3 := os.cell hlt
      rw [fw_out (by omega)] at c3
      have f3 := os.free k
      go_wp2_with (go_at_call 36; refine (word_any _ h (i := k) (by omega)).mono ?_; rintro e w' ⟨rfl, rfl⟩)
      have hset : Below (w.heap.size + 1) w' (w'.setCell ⟨w.heap.size + 1, k, none⟩ (.int .u64 (wd x k : Int))) := (Below.refl (w.heap.size + 1) w').setCell (Nat.le_refl (w.heap.size + 1)) _
      have os' := os.set_ k (.int .u64 (wd x k : Int))
      refine ⟨⟨k + 1, by omega, by go_num, h.keep (hset.mono (by omega)), oz.keepAt hset, os'.congr fun j _ => fw_set _ _ _, hb.trans (hset.mono (by omega))⟩, by simp [intOf]; omega⟩
    · have hk' : k = 8 := by omega
      subst hk'
      replace os := os.congr (g := wv x) fun j hj => by rw [fw_in hj]; rfl
      have c0 := (os).cell (k := 0) (by decide)
      have c1 := (os).cell (k := 1) (by decide)
      have c2 := (os).cell (k := 2) (by decide)
      have c3 := (os).cell (k := 3) (by decide)
      have c4 := (os).cell (k := 4) (by decide)
      have c5 := (os).cell (k := 5) (by decide)
      have c6 := (os).cell (k := 6) (by decide)
      have c7 := (os).cell (k := 7) (by decide)
      have d0 := (oz).cell (k := 0) (by decide)
      have d1 := (oz).cell (k := 1) (by decide)
      have d2 := (oz).cell (k := 2) (by decide)
      have d3 := (oz).cell (k := 3) (by decide)
      have d4 := (oz).cell (k := 4) (by decide)
      have d5 := (oz).cell (k := 5) (by decide)
      have d6 := (oz).cell (k := 6) (by decide)
      have d7 := (oz).cell (k := 7) (by decide)
      have f0 := (oz).free 0
      have f1 := (oz).free 1
      have f2 := (oz).free 2
      have f3 := (oz).free 3
      have f4 := (oz).free 4
      have f5 := (oz).free 5
      have f6 := (oz).free 6
      have f7 := (oz).free 7
      unfold wv at c0 c1 c2 c3 c4 c5 c6 c7
      obtain ⟨wz, ez, r0, r1, r2, r3, r4, r5, r6, r7, rb⟩ := set8 oz (.int .u64 (wd x 0 : Int)) (.int .u64 (wd x 1 : Int)) (.int .u64 (wd x 2 : Int)) (.int .u64 (wd x 3 : Int)) (.int .u64 (wd x 4 : Int)) (.int .u64 (wd x 5 : Int)) (.int .u64 (wd x 6 : Int)) (.int .u64 (wd x 7 : Int))
      go_wp2
      rw [← ez]
      refine bodyPost_ret (v := .agg #[.int .u64 (wd x 0 : Int), .int .u64 (wd x 1 : Int), .int .u64 (wd x 2 : Int), .int .u64 (wd x 3 : Int), .int .u64 (wd x 4 : Int), .int .u64 (wd x 5 : Int), .int .u64 (wd x 6 : Int), .int .u64 (wd x 7 : Int)]) (by simp [results, Try.results15, go_sem, r0, r1, r2, r3, r4, r5, r6, r7]) rfl ⟨rfl, hb.trans rb⟩
end Go.Proofs.Yticmkcipagmgmaa
