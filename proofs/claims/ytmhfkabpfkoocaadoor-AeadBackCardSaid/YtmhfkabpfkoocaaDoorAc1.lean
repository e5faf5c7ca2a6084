/-
  The code's filler and length (layer 12); two lists and six, laid for Join. By an AI agent.
-/
import Derived.Test.YtmhfkabpfkoocaaDoorAe1
import Derived.Test.YtmhfkabpfkoocaaDoorOb
import Derived.Test.YtmhfkabpfkoocaaDoorJn
namespace Go.Proofs.YtmhfkabpfkoocaaDoor
open Go Go.RowKit
set_option maxRecDepth 20000
theorem rd_nil0 (w : World) (B : Nat) : Rd w B none 0 [] := ⟨Nat.le_refl _, fun _ => ⟨rfl, rfl⟩, fun h => absurd rfl h⟩
theorem cfiller {A : Option Addr} {c n : Nat} (hl : n ≤ 1000000) (w : World) :
    Calls Tryd.prog 28 #[.slice A n c] w fun e w' => ∃ A' c', e = .returned (.slice A' (pad16 n) c') ∧ Rd w' w'.heap.size A' c' (List.replicate (pad16 n) 0) ∧ Below w.heap.size w w' := by
  obtain ⟨i0, hi, hz0, hz1, hz2⟩ := info_parts infoByte
  have t1 : (n : Int).tmod 16 = ((n % 16 : Nat) : Int) := by rw [Int.tmod_eq_emod_of_nonneg (by omega)]; omega
  have w1 : IntKind.i64.wrap ((n % 16 : Nat) : Int) = ((n % 16 : Nat) : Int) := by rw [IntKind.wrap_i64]; omega
  obtain ⟨p, ep⟩ : ∃ p, p = pad16 n := ⟨_, rfl⟩
  rw [← ep]
  by_cases h : n % 16 = 0
  · have hp : p = 0 := by rw [ep]; unfold pad16; omega
    subst hp
    rw [h] at t1 w1
    clear h ep
    go_enter Tryd.func28, Tryd.ntmps28
    go_wp2_with fail
    go_ret
    exact ⟨none, 0, rfl, rd_nil0 _ _, Below.refl _ _⟩
  · have hp : p = 16 - n % 16 := by rw [ep]; unfold pad16; omega
    obtain ⟨r, er⟩ : ∃ r, r = n % 16 := ⟨_, rfl⟩
    rw [← er] at t1 w1 h hp
    have g1 : ((r : Int) == 0) = false := by simp; omega
    have hr16 : r < 16 := by rw [er]; omega
    have w2 : IntKind.i64.wrap (16 - (r : Int)) = (p : Int) := by rw [IntKind.wrap_i64]; omega
    have hp16 : p ≤ 16 := by omega
    have hmk := run_mk (P := Tryd.prog) 22 5 i0 Tryd.underlying22 hi hz0 hz1 hz2 (l := (p : Int)) (n := p) rfl (by omega)
    have hm : Own (w.alloc (.cells (madeCells #[.int .u8 0] p) 5)) w.heap.size 5 (some ⟨w.heap.size, 0, none⟩) p (List.replicate p 0) := Own.made 5 (Nat.le_refl _) (by unfold maxLen; omega)
    have hb0 : Below w.heap.size w (w.alloc (.cells (madeCells #[.int .u8 0] p) 5)) := (Below.refl _ w).alloc (Nat.le_refl _) _
    clear er ep hp h hr16
    go_enter Tryd.func28, Tryd.ntmps28
    go_wp2_with fail
    go_ret
    exact ⟨_, _, rfl, hm.rd, hb0⟩
theorem clength {A : Option Addr} {c n : Nat} (hn : n < 18446744073709551616) (w : World) :
    Calls Tryd.prog 29 #[.slice A n c] w fun e w' => ∃ A' c', e = .returned (.slice A' 8 c') ∧ Own w' w.heap.size 5 A' c' (gen (bf n) 8) ∧ Below w.heap.size w w' := by
  have w1 : IntKind.u64.wrap (n : Int) = (n : Int) := by rw [IntKind.wrap_u64]; omega
  have HN := Lib.hid hn
  clear hn
  go_enter Tryd.func29, Tryd.ntmps29
  go_wp2_with fail
  go_at_call 43
  refine (octBytes8 HN.out w).mono ?_
  rintro e v1 ⟨A1, c1, rfl, o, hc⟩
  go_wp2_with fail
  go_ret
  exact ⟨_, _, rfl, o, hc⟩
theorem join_2 (xs ys : List UInt8) : joinL [xs, ys] = xs ++ ys := by simp [joinL]
theorem join_6 (a b c d e f : List UInt8) : joinL [a, b, c, d, e, f] = (a ++ b) ++ (c ++ d) ++ e ++ f := by simp [joinL]
theorem rds_2 {w : World} {A A' : Option Addr} {n m c c' : Nat} {xs ys : List UInt8} (hx : xs.length = n) (hy : ys.length = m) (h1 : Rd w w.heap.size A c xs) (h2 : Rd w w.heap.size A' c' ys) :
    Rds (w.alloc (.cells #[.slice A n c, .slice A' m c'] 22)) (w.alloc (.cells #[.slice A n c, .slice A' m c'] 22)).heap.size (some ⟨w.heap.size, 0, none⟩) 2 [xs, ys] := by
  subst hx hy
  have hb := (Below.refl w.heap.size w).alloc (Nat.le_refl _) (.cells #[.slice A xs.length c, .slice A' ys.length c'] 22)
  have k1 := (h1.keep hb).mono hb.size
  have k2 := (h2.keep hb).mono hb.size
  refine ⟨Nat.le_refl _, fun h => by simp at h, fun _ => ⟨w.heap.size, 0, rfl, by simp, fun k hk => ?_⟩⟩
  rw [Nat.zero_add, World.cell?_alloc_new]
  have : k = 0 ∨ k = 1 := by simp at hk; omega
  rcases this with rfl | rfl
  · exact ⟨A, c, rfl, k1⟩
  · exact ⟨A', c', rfl, k2⟩
theorem rds_6 {w : World} {A1 A2 A3 A4 A5 A6 : Option Addr} {n1 n2 n3 n4 n5 n6 c1 c2 c3 c4 c5 c6 : Nat} {x1 x2 x3 x4 x5 x6 : List UInt8} (e1 : x1.length = n1) (e2 : x2.length = n2) (e3 : x3.length = n3) (e4 : x4.length = n4) (e5 : x5.length = n5) (e6 : x6.length = n6)
    (h1 : Rd w w.heap.size A1 c1 x1) (h2 : Rd w w.heap.size A2 c2 x2) (h3 : Rd w w.heap.size A3 c3 x3) (h4 : Rd w w.heap.size A4 c4 x4) (h5 : Rd w w.heap.size A5 c5 x5) (h6 : Rd w w.heap.size A6 c6 x6) (v : World) (hv : v = w.alloc (.cells #[.slice A1 n1 c1, .slice A2 n2 c2, .slice A3 n3 c3, .slice A4 n4 c4, .slice A5 n5 c5, .slice A6 n6 c6] 22)) :
    Rds v v.heap.size (some ⟨w.heap.size, 0, none⟩) 6 [x1, x2, x3, x4, x5, x6] := by
  subst e1 e2 e3 e4 e5 e6
  have hb := (Below.refl w.heap.size w).alloc (Nat.le_refl _) (.cells #[.slice A1 x1.length c1, .slice A2 x2.length c2, .slice A3 x3.length c3, .slice A4 x4.length c4, .slice A5 x5.length c5, .slice A6 x6.length c6] 22)
  rw [← hv] at hb
  have k1 := (h1.keep hb).mono hb.size
  have k2 := (h2.keep hb).mono hb.size
  have k3 := (h3.keep hb).mono hb.size
  have k4 := (h4.keep hb).mono hb.size
  have k5 := (h5.keep hb).mono hb.size
  have k6 := (h6.keep hb).mono hb.size
  refine ⟨Nat.le_refl _, fun h => by simp at h, fun _ => ⟨w.heap.size, 0, rfl, by rw [hv]; simp, fun k hk => ?_⟩⟩
  rw [Nat.zero_add, show v.cell? ⟨w.heap.size, k, none⟩ = (#[Value.slice A1 x1.length c1, .slice A2 x2.length c2, .slice A3 x3.length c3, .slice A4 x4.length c4, .slice A5 x5.length c5, .slice A6 x6.length c6])[k]? by rw [hv, World.cell?_alloc_new]]
  have : k = 0 ∨ k = 1 ∨ k = 2 ∨ k = 3 ∨ k = 4 ∨ k = 5 := by simp at hk; omega
  rcases this with rfl | rfl | rfl | rfl | rfl | rfl
  · exact ⟨_, _, rfl, k1⟩
  · exact ⟨_, _, rfl, k2⟩
  · exact ⟨_, _, rfl, k3⟩
  · exact ⟨_, _, rfl, k4⟩
  · exact ⟨_, _, rfl, k5⟩
  · exact ⟨_, _, rfl, k6⟩
theorem join_two {A A' : Option Addr} {n m c c' : Nat} {xs ys : List UInt8} (hx : xs.length = n) (hy : ys.length = m) (hl : n + m ≤ 1048576) (w v : World) (hv : v = w.alloc (.cells #[.slice A n c, .slice A' m c'] 22)) (h1 : Rd w w.heap.size A c xs) (h2 : Rd w w.heap.size A' c' ys) :
    Calls Tryd.prog 17 #[.slice (some ⟨w.heap.size, 0, none⟩) 2 2] v fun e w' => ∃ A c, e = .returned (.slice A (n + m) c) ∧ Own w' v.heap.size 5 A c (xs ++ ys) ∧ Below v.heap.size v w' := by
  subst hv
  have hs : (joinL [xs, ys]).length = n + m := by rw [join_2, List.length_append, hx, hy]
  have h := join_code (L := [xs, ys]) _ (rds_2 hx hy h1 h2) (Nat.le_refl _) (by rw [hs]; omega) (show 2 ≤ 1048576 by decide)
  rw [hs, join_2] at h
  exact h
theorem join_six {w : World} {A1 A2 A3 A4 A5 A6 : Option Addr} {n1 n2 n3 n4 n5 n6 l c1 c2 c3 c4 c5 c6 : Nat} {x1 x2 x3 x4 x5 x6 M : List UInt8} (e1 : x1.length = n1) (e2 : x2.length = n2) (e3 : x3.length = n3) (e4 : x4.length = n4) (e5 : x5.length = n5) (e6 : x6.length = n6)
    (h1 : Rd w w.heap.size A1 c1 x1) (h2 : Rd w w.heap.size A2 c2 x2) (h3 : Rd w w.heap.size A3 c3 x3) (h4 : Rd w w.heap.size A4 c4 x4) (h5 : Rd w w.heap.size A5 c5 x5) (h6 : Rd w w.heap.size A6 c6 x6) (v : World) (hv : v = w.alloc (.cells #[.slice A1 n1 c1, .slice A2 n2 c2, .slice A3 n3 c3, .slice A4 n4 c4, .slice A5 n5 c5, .slice A6 n6 c6] 22))
    (hM : M = (x1 ++ x2) ++ (x3 ++ x4) ++ x5 ++ x6) (hl : M.length = l) (hll : l ≤ 1048576) :
    Calls Tryd.prog 17 #[.slice (some ⟨w.heap.size, 0, none⟩) 6 6] v fun e w' => ∃ A c, e = .returned (.slice A l c) ∧ Own w' v.heap.size 5 A c M ∧ Below v.heap.size v w' := by
  have hj : joinL [x1, x2, x3, x4, x5, x6] = M := by rw [join_6, hM]
  have h := join_code (L := [x1, x2, x3, x4, x5, x6]) v (rds_6 e1 e2 e3 e4 e5 e6 h1 h2 h3 h4 h5 h6 v hv) (Nat.le_refl _) (by rw [hj, hl]; exact hll) (show 6 ≤ 1048576 by decide)
  rw [hj, hl] at h
  exact h
end Go.Proofs.YtmhfkabpfkoocaaDoor
