/-
  Layer 14's code: Bucket by the program's table, seek. By an AI agent.
-/
import Derived.Test.YthamhpgjjbiplaaDoorPd4
import Derived.WalkMore
namespace Go.Proofs.YthamhpgjjbiplaaDoor
open Go Go.RowKit
set_option maxRecDepth 20000
/-- The buckets, as the program's text lays them. -/
structure GlbB (w : World) : Prop where
  c0 : w.cell? ⟨0, 0, none⟩ = some (.int .i64 64)
  c1 : w.cell? ⟨0, 1, none⟩ = some (.int .i64 128)
  c2 : w.cell? ⟨0, 2, none⟩ = some (.int .i64 256)
  c3 : w.cell? ⟨0, 3, none⟩ = some (.int .i64 512)
  c4 : w.cell? ⟨0, 4, none⟩ = some (.int .i64 1024)
  c5 : w.cell? ⟨0, 5, none⟩ = some (.int .i64 2048)
  c6 : w.cell? ⟨0, 6, none⟩ = some (.int .i64 4096)
theorem GlbB.lt {w : World} (h : GlbB w) : 0 < w.heap.size := World.block_lt_of_cell? w ⟨0, 0, none⟩ h.c0
theorem GlbB.next {w w' : World} (h : GlbB w) (hb : Below w.heap.size w w') : GlbB w' :=
  have k (j : Nat) : w'.cell? ⟨0, j, none⟩ = w.cell? ⟨0, j, none⟩ := hb.cell (p := ⟨0, j, none⟩) h.lt
  ⟨(k 0).trans h.c0, (k 1).trans h.c1, (k 2).trans h.c2, (k 3).trans h.c3, (k 4).trans h.c4, (k 5).trans h.c5, (k 6).trans h.c6⟩
set_option maxHeartbeats 1600000 in
theorem cbkt_any (n : Int) (w : World) (hG : GlbB w) :
    Calls Tryd.prog 8 #[.int .i64 n] w fun e w' => e = .returned (.tuple #[.int .i64 (bktA n : Int), .int .i64 (bktE n : Int)]) ∧ Below w.heap.size w w' := by
  by_cases h1 : n < 0
  · have e1 : bktA n = 0 := by unfold bktA; rw [if_pos h1]
    have e2 : bktE n = 1 := by unfold bktE; rw [if_pos h1]
    rw [e1, e2]
    clear e1 e2 hG
    go_enter Tryd.func8, Tryd.ntmps8
    go_wp2_with fail
    go_returns
    exact ⟨rfl, Below.refl _ _⟩
  · obtain ⟨x, ex⟩ : ∃ x, x = bktA n := ⟨_, rfl⟩
    obtain ⟨y, ey⟩ : ∃ y, y = bktE n := ⟨_, rfl⟩
    rw [← ex, ← ey]
    have HX : ∀ t u : Nat, (t = 0 ∨ (t : Int) ≤ n) → n < u → (t = 0 ∧ u = 64 ∨ t = 64 ∧ u = 128 ∨ t = 128 ∧ u = 256 ∨ t = 256 ∧ u = 512 ∨ t = 512 ∧ u = 1024 ∨ t = 1024 ∧ u = 2048 ∨ t = 2048 ∧ u = 4096) → x = u ∧ y = 0 := by
      intro t u ht hu h
      have h2 : ¬ 4095 < n := by omega
      rw [ex, ey]
      unfold bktA bktE
      rw [if_neg h1, if_neg h2, if_neg h1, if_neg h2]
      refine ⟨?_, rfl⟩
      unfold bkt
      repeat (first | omega | split)
    have HY : 4096 ≤ n → x = 0 ∧ y = 2 := by
      intro h2
      rw [ex, ey]
      unfold bktA bktE
      rw [if_neg h1, if_pos (by omega), if_neg h1, if_pos (by omega)]
      exact ⟨rfl, rfl⟩
    have I0 : ∀ v : World, (Instr.index 33 (.agg #[.int .i64 64, .int .i64 128, .int .i64 256, .int .i64 512, .int .i64 1024, .int .i64 2048, .int .i64 4096]) (.int .i64 0)).run Tryd.prog v = .ok (.int .i64 64) v := fun v => rfl
    have I1 : ∀ v : World, (Instr.index 33 (.agg #[.int .i64 64, .int .i64 128, .int .i64 256, .int .i64 512, .int .i64 1024, .int .i64 2048, .int .i64 4096]) (.int .i64 1)).run Tryd.prog v = .ok (.int .i64 128) v := fun v => rfl
    have I2 : ∀ v : World, (Instr.index 33 (.agg #[.int .i64 64, .int .i64 128, .int .i64 256, .int .i64 512, .int .i64 1024, .int .i64 2048, .int .i64 4096]) (.int .i64 2)).run Tryd.prog v = .ok (.int .i64 256) v := fun v => rfl
    have I3 : ∀ v : World, (Instr.index 33 (.agg #[.int .i64 64, .int .i64 128, .int .i64 256, .int .i64 512, .int .i64 1024, .int .i64 2048, .int .i64 4096]) (.int .i64 3)).run Tryd.prog v = .ok (.int .i64 512) v := fun v => rfl
    have I4 : ∀ v : World, (Instr.index 33 (.agg #[.int .i64 64, .int .i64 128, .int .i64 256, .int .i64 512, .int .i64 1024, .int .i64 2048, .int .i64 4096]) (.int .i64 4)).run Tryd.prog v = .ok (.int .i64 1024) v := fun v => rfl
    have I5 : ∀ v : World, (Instr.index 33 (.agg #[.int .i64 64, .int .i64 128, .int .i64 256, .int .i64 512, .int .i64 1024, .int .i64 2048, .int .i64 4096]) (.int .i64 5)).run Tryd.prog v = .ok (.int .i64 2048) v := fun v => rfl
    have I6 : ∀ v : World, (Instr.index 33 (.agg #[.int .i64 64, .int .i64 128, .int .i64 256, .int .i64 512, .int .i64 1024, .int .i64 2048, .int .i64 4096]) (.int .i64 6)).run Tryd.prog v = .ok (.int .i64 4096) v := fun v => rfl
    replace HX := Lib.hid HX
    replace HY := Lib.hid HY
    clear ex ey
    obtain ⟨c0, c1, c2, c3, c4, c5, c6⟩ := hG
    go_enter Tryd.func8, Tryd.ntmps8
    go_wp2_with fail
    clear c0 c1 c2 c3 c4 c5 c6
    obtain ⟨T, eT⟩ : ∃ T : Value, T = .agg #[.int .i64 64, .int .i64 128, .int .i64 256, .int .i64 512, .int .i64 1024, .int .i64 2048, .int .i64 4096] := ⟨_, rfl⟩
    rw [← eT] at I0 I1 I2 I3 I4 I5 I6 ⊢
    clear eT
    replace I0 := Lib.hid I0
    replace I1 := Lib.hid I1
    replace I2 := Lib.hid I2
    replace I3 := Lib.hid I3
    replace I4 := Lib.hid I4
    replace I5 := Lib.hid I5
    replace I6 := Lib.hid I6
    go_loopw [9] (fun i wr => ∃ t : Nat, i = .int .i64 (t : Int) ∧ (t = 0 ∨ t = 1 ∧ 64 ≤ n ∨ t = 2 ∧ 128 ≤ n ∨ t = 3 ∧ 256 ≤ n ∨ t = 4 ∧ 512 ≤ n ∨ t = 5 ∧ 1024 ≤ n ∨ t = 6 ∧ 2048 ≤ n ∨ t = 7 ∧ 4096 ≤ n) ∧ Below w.heap.size w wr)
      (fun i _ => 8 - (intOf i).toNat)
    case atStart => exact ⟨0, rfl, .inl rfl, Below.refl _ _⟩
    case round =>
      obtain ⟨t, rfl, ht, hc⟩ := hrel
      rcases ht with rfl | ⟨rfl, hn⟩ | ⟨rfl, hn⟩ | ⟨rfl, hn⟩ | ⟨rfl, hn⟩ | ⟨rfl, hn⟩ | ⟨rfl, hn⟩ | ⟨rfl, hn⟩
      · simp only [Int.cast_ofNat_Int]
        by_cases hlt : n < 64
        · obtain ⟨rx, ry⟩ := HX.out 0 64 (by omega) (by omega) (by omega)
          clear h1
          have hix := I0.out wr
          go_wp2_with fail
          go_returns
          rw [rx, ry]
          exact ⟨rfl, hc⟩
        · clear h1
          have hix := I0.out wr
          go_wp2_with fail
          go_roundw
          case rel => exact ⟨1, rfl, by omega, hc⟩
          case measure => simp [intOf]
      · simp only [Int.cast_ofNat_Int]
        by_cases hlt : n < 128
        · obtain ⟨rx, ry⟩ := HX.out 64 128 (by omega) (by omega) (by omega)
          clear hn h1
          have hix := I1.out wr
          go_wp2_with fail
          go_returns
          rw [rx, ry]
          exact ⟨rfl, hc⟩
        · clear hn h1
          have hix := I1.out wr
          go_wp2_with fail
          go_roundw
          case rel => exact ⟨2, rfl, by omega, hc⟩
          case measure => simp [intOf]
      · simp only [Int.cast_ofNat_Int]
        by_cases hlt : n < 256
        · obtain ⟨rx, ry⟩ := HX.out 128 256 (by omega) (by omega) (by omega)
          clear hn h1
          have hix := I2.out wr
          go_wp2_with fail
          go_returns
          rw [rx, ry]
          exact ⟨rfl, hc⟩
        · clear hn h1
          have hix := I2.out wr
          go_wp2_with fail
          go_roundw
          case rel => exact ⟨3, rfl, by omega, hc⟩
          case measure => simp [intOf]
      · simp only [Int.cast_ofNat_Int]
        by_cases hlt : n < 512
        · obtain ⟨rx, ry⟩ := HX.out 256 512 (by omega) (by omega) (by omega)
          clear hn h1
          have hix := I3.out wr
          go_wp2_with fail
          go_returns
          rw [rx, ry]
          exact ⟨rfl, hc⟩
        · clear hn h1
          have hix := I3.out wr
          go_wp2_with fail
          go_roundw
          case rel => exact ⟨4, rfl, by omega, hc⟩
          case measure => simp [intOf]
      · simp only [Int.cast_ofNat_Int]
        by_cases hlt : n < 1024
        · obtain ⟨rx, ry⟩ := HX.out 512 1024 (by omega) (by omega) (by omega)
          clear hn h1
          have hix := I4.out wr
          go_wp2_with fail
          go_returns
          rw [rx, ry]
          exact ⟨rfl, hc⟩
        · clear hn h1
          have hix := I4.out wr
          go_wp2_with fail
          go_roundw
          case rel => exact ⟨5, rfl, by omega, hc⟩
          case measure => simp [intOf]
      · simp only [Int.cast_ofNat_Int]
        by_cases hlt : n < 2048
        · obtain ⟨rx, ry⟩ := HX.out 1024 2048 (by omega) (by omega) (by omega)
          clear hn h1
          have hix := I5.out wr
          go_wp2_with fail
          go_returns
          rw [rx, ry]
          exact ⟨rfl, hc⟩
        · clear hn h1
          have hix := I5.out wr
          go_wp2_with fail
          go_roundw
          case rel => exact ⟨6, rfl, by omega, hc⟩
          case measure => simp [intOf]
      · simp only [Int.cast_ofNat_Int]
        by_cases hlt : n < 4096
        · obtain ⟨rx, ry⟩ := HX.out 2048 4096 (by omega) (by omega) (by omega)
          clear hn h1
          have hix := I6.out wr
          go_wp2_with fail
          go_returns
          rw [rx, ry]
          exact ⟨rfl, hc⟩
        · clear hn h1
          have hix := I6.out wr
          go_wp2_with fail
          go_roundw
          case rel => exact ⟨7, rfl, by omega, hc⟩
          case measure => simp [intOf]
      · simp only [Int.cast_ofNat_Int]
        obtain ⟨rx, ry⟩ := HY.out hn
        clear hn h1
        go_wp2_with fail
        go_returns
        rw [rx, ry]
        exact ⟨rfl, hc⟩
end Go.Proofs.YthamhpgjjbiplaaDoor
