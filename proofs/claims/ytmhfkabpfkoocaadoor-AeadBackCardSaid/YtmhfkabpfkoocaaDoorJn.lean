/-
  octet.Join (layer 1): any lists, one behind the other. By an AI agent.
-/
import Derived.Test.YtmhfkabpfkoocaaDoorTS
import Derived.Test.YtmhfkabpfkoocaaDoorRds
namespace Go.Proofs.YtmhfkabpfkoocaaDoor
open Go Go.RowKit
/-- 'make([]byte, 0, n)'. -/
theorem run_mk0 {P : Program} (t e : TypeId) (i : TypeInfo) (ht : P.underlying t = some (.slice e)) (hi : P.info? e = some i) (hz : i.zero = some (.int .u8 0))
    (hsize : i.size = 1) (hby : i.bytes = 1) {n : Nat} (hn : n ≤ 281474976710656) (w : World) :
    (Instr.makeSlice t (.int .i64 0) (.int .i64 (n : Int))).run P w = .ok (.slice (some ⟨w.heap.size, 0, none⟩) 0 n) (w.alloc (.cells (madeCells #[.int .u8 0] n) e)) := by
  have h := run_make (P := P) w t e i (.int .u8 0) ht hi hz .i64 .i64 0 n (by omega) (by omega) (by rw [hby]; omega) (by omega)
  simpa [hsize, Value.cells] using h
theorem Own.made0 {w : World} {B n : Nat} (e : TypeId) (hB : B ≤ w.heap.size) (hn : n ≤ maxLen) : Own (w.alloc (.cells (madeCells #[.int .u8 0] n) e)) B e (some ⟨w.heap.size, 0, none⟩) n [] :=
  World.ownsRow_made w _ n hB hn (by simp [madeCells])
set_option maxHeartbeats 800000 in
theorem join_code {A : Option Addr} {c B : Nat} {L : List (List UInt8)} (w : World) (h1 : Rds w B A c L) (hB : B ≤ w.heap.size) (hs : (joinL L).length ≤ 1048576) (hn : L.length ≤ 1048576) :
    Calls Tryd.prog 17 #[.slice A L.length c] w fun e w' => ∃ A' c', e = .returned (.slice A' (joinL L).length c') ∧ Own w' w.heap.size 5 A' c' (joinL L) ∧ Below w.heap.size w w' := by
  obtain ⟨i0, hi, hz0, hz1, hz2⟩ := info_parts infoU8
  go_enter Tryd.func17, Tryd.ntmps17
  go_wp2
  go_loop [3, 11] (fun n i => ∃ k : Nat, k ≤ L.length ∧ i = .int .i64 k ∧ n = .int .i64 ((joinK L k).length : Int)) (fun _ i => L.length - (intOf i).toNat)
  case atStart => exact ⟨0, Nat.zero_le _, rfl, by rw [joinK_zero]; rfl⟩
  case round =>
    obtain ⟨k, hk, rfl, rfl⟩ := hrel
    by_cases hlt : k < L.length
    · obtain ⟨b1, o1, rfl, hb1, Ak, ck, cc, rk⟩ := (h1.mono hB).at_ hlt
      have g1 : (k : Int) < (L.length : Int) := by omega
      have rl := row_le hlt
      go_wp2_with fail
      go_round
      case rel => exact ⟨k + 1, by omega, by go_num, by rw [joinK_succ hlt, List.length_append]; go_num⟩
      case measure => simp [intOf]; omega
    · have g1 : ¬ (k : Int) < (L.length : Int) := by omega
      have hk' : k = L.length := by omega
      subst hk'
      rw [joinK_full] at *
      have hmk := run_mk0 (P := Tryd.prog) 22 5 i0 Tryd.underlying22 hi hz0 hz1 hz2 (n := (joinL L).length) (by omega)
      have hm : Own (w.alloc (.cells (madeCells #[.int .u8 0] (joinL L).length) 5)) w.heap.size 5 (some ⟨w.heap.size, 0, none⟩) (joinL L).length [] := Own.made0 5 (Nat.le_refl _) (by unfold maxLen; omega)
      have hb0 : Below w.heap.size w (w.alloc (.cells (madeCells #[.int .u8 0] (joinL L).length) 5)) := (Below.refl _ w).alloc (Nat.le_refl _) _
      go_wp2_with fail
      clear hmk
      go_loopw [6, 24] (fun v i wr => ∃ k : Nat, k ≤ L.length ∧ i = .int .i64 k ∧ (∃ A c, v = .slice A (joinK L k).length c ∧ Own wr w.heap.size 5 A c (joinK L k)) ∧ Below w.heap.size w wr)
        (fun _ i _ => L.length - (intOf i).toNat)
      case atStart => exact ⟨0, Nat.zero_le _, rfl, ⟨_, _, by rw [joinK_zero]; rfl, by rw [joinK_zero]; exact hm⟩, hb0⟩
      case round =>
        obtain ⟨k, hk, rfl, ⟨Av, cv, rfl, ho⟩, hb⟩ := hrel
        clear hm hb0 g1
        by_cases hlt : k < L.length
        · obtain ⟨b1, o1, rfl, hb1, Ak, ck, cc, rk⟩ := (h1.mono hB).at_ hlt
          have g1 : (k : Int) < (L.length : Int) := by omega
          have rl := row_le hlt
          have cc2 : wr.cell? ⟨b1, o1 + k, none⟩ = some (.slice Ak (row L k).length ck) := (hb.cell (p := ⟨b1, o1 + k, none⟩) hb1).trans cc
          have rk2 := rk.keep hb
          clear cc rk
          go_wp2_with (at_builtin; refine wpList_app _ rfl (.tmp 28) (.tmp 29) _ rfl w.heap.size 5 i0 _ Tryd.underlying22 hi hz0 hz1 hz2 rfl rfl ho rfl rk2 (by omega) hb.size ?_; intro A' c' w' ho' hb')
          go_roundw
          case rel =>
            exact ⟨k + 1, by omega, by go_num, ⟨A', c', by rw [joinK_succ hlt, List.length_append], by rw [joinK_succ hlt]; exact ho'⟩, hb.trans hb'⟩
          case measure => simp [intOf]; omega
        · have g1 : ¬ (k : Int) < (L.length : Int) := by omega
          have hk' : k = L.length := by omega
          subst hk'
          rw [joinK_full] at *
          go_wp2_with fail
          go_ret
          exact ⟨Av, cv, rfl, ho, hb⟩
end Go.Proofs.YtmhfkabpfkoocaaDoor
