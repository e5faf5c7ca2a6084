/-
  The ladder's swap (layer 5), over letters. Written by tools/gen_k4.py. By an AI agent.
-/
import Derived.Test.YtojggpiolgcjeaaK1
import Derived.Test.YtojggpiolgcjeaaLate
namespace Go.Proofs.Ytojggpiolgcjeaa
open Go Go.RowKit
/-- The eight words of a pair, as numbers. -/
def wq (x z k : Nat) : Nat := if k < 4 then wd x k else wd z (k - 4)
theorem pw_wq (x z k : Nat) : pw x z k = .int .u64 (wq x z k : Int) := by unfold pw wq wv; split <;> rfl
theorem wq_lt (x z k : Nat) : wq x z k < 18446744073709551616 := by unfold wq; split <;> exact wd_lt _ _
/-- The words that have changed places already. -/
def mid (A A' : Nat → Nat) (i k : Nat) : Value := .int .u64 ((if k % 4 < i then A' k else A k : Nat) : Int)
theorem mid_at (A A' : Nat → Nat) {i k : Nat} (h : ¬ k % 4 < i) : mid A A' i k = .int .u64 (A k : Int) := by unfold mid; rw [if_neg h]
theorem mid_step (A A' : Nat → Nat) {i : Nat} (hi : i < 4) {k : Nat} (hk : k < 8) :
    (if k = 4 + i then .int .u64 (A' (4 + i) : Int) else if k = i then .int .u64 (A' i : Int) else mid A A' i k) = mid A A' (i + 1) k := by
  unfold mid
  by_cases h1 : k = 4 + i
  · subst h1; rw [if_pos rfl, if_pos (by omega)]
  · rw [if_neg h1]
    by_cases h2 : k = i
    · subst h2; rw [if_pos rfl, if_pos (by omega)]
    · rw [if_neg h2]
      by_cases h3 : k % 4 < i
      · rw [if_pos h3, if_pos (by omega)]
      · rw [if_neg h3, if_neg (by omega)]
def sk (bit a b : Nat) : Nat := if bit = 1 then a ^^^ b else 0
theorem sk_lt {bit a b : Nat} (ha : a < 18446744073709551616) (hb : b < 18446744073709551616) : sk bit a b < 18446744073709551616 := by
  unfold sk; split
  · exact Nat.xor_lt_two_pow (n := 64) ha hb
  · decide
theorem sk_left (bit a b : Nat) : a ^^^ sk bit a b = if bit = 1 then b else a := by
  unfold sk; split
  · rw [← Nat.xor_assoc, Nat.xor_self, Nat.zero_xor]
  · exact Nat.xor_zero a
theorem sk_right (bit a b : Nat) : b ^^^ sk bit a b = if bit = 1 then a else b := by
  unfold sk; split
  · rw [Nat.xor_comm a b, ← Nat.xor_assoc, Nat.xor_self, Nat.zero_xor]
  · exact Nat.xor_zero b
def msk (bit : Nat) : Nat := if bit = 1 then 18446744073709551615 else 0
theorem msk_neg {bit : Nat} (h : bit ≤ 1) : IntKind.u64.wrap (-(bit : Int)) = (msk bit : Int) := by
  have : bit = 0 ∨ bit = 1 := by omega
  rcases this with rfl | rfl <;> decide
theorem msk_and {bit x : Nat} (hx : x < 18446744073709551616) : bits .and .u64 (msk bit : Int) (x : Int) = ((if bit = 1 then x else 0 : Nat) : Int) := by
  unfold msk
  split
  · rw [bits_and_u64_nat _ _ (by decide) hx, Nat.and_comm, show (18446744073709551615 : Nat) = 2 ^ 64 - 1 from rfl, Nat.and_two_pow_sub_one_eq_mod, Nat.mod_eq_of_lt hx]
  · rw [bits_and_u64_nat _ _ (by decide) hx, Nat.zero_and]
theorem msk_sk {bit a b : Nat} (ha : a < 18446744073709551616) (hb : b < 18446744073709551616) : bits .and .u64 (msk bit : Int) ((a ^^^ b : Nat) : Int) = (sk bit a b : Int) := by
  rw [msk_and (Nat.xor_lt_two_pow (n := 64) ha hb)]; rfl
set_option maxRecDepth 20000
set_option maxHeartbeats 3200000 in
theorem swap_gen {bit M g h B : Nat} {A A' E E' X : Nat → Nat} (hM : IntKind.u64.wrap (-(bit : Int)) = (M : Int))
    (e1 : ∀ k, k < 8 → bits .xor .u64 (A k : Int) (E k : Int) = ((A k ^^^ E k : Nat) : Int)) (e2 : ∀ k, k < 8 → bits .and .u64 (M : Int) ((A k ^^^ E k : Nat) : Int) = (X k : Int))
    (e3 : ∀ k, k < 8 → bits .xor .u64 (A k : Int) (X k : Int) = (A' k : Int)) (e4 : ∀ k, k < 8 → bits .xor .u64 (E k : Int) (X k : Int) = (E' k : Int))
    (hgh : g ≠ h) (w : World) (og : OwnF w B 54 (some ⟨g, 0, none⟩) 8 8 (fun k => .int .u64 (A k : Int))) (oh : OwnF w B 54 (some ⟨h, 0, none⟩) 8 8 (fun k => .int .u64 (E k : Int))) :
    Calls Try.prog 37 #[.int .u64 (bit : Int), .pointer (some ⟨g, 0, none⟩), .pointer (some ⟨h, 0, none⟩)] w fun e w' => e = .returned (.tuple #[]) ∧ OwnF w' B 54 (some ⟨g, 0, none⟩) 8 8 (fun k => .int .u64 (A' k : Int)) ∧ OwnF w' B 54 (some ⟨h, 0, none⟩) 8 8 (fun k => .int .u64 (E' k : Int)) ∧ Below B w w' := by
  have E1 := Lib.hid e1
  have E2 := Lib.hid e2
  have E3 := Lib.hid e3
  have E4 := Lib.hid e4
  clear e1 e2 e3 e4
  have gg : B ≤ g := OwnF.ge og
  have gh : B ≤ h := OwnF.ge oh
  go_enter Try.func37, Try.ntmps37
  go_wp2_with fail
  go_loopw [12] (fun i wr => ∃ k : Nat, k ≤ 4 ∧ i = .int .i64 (k : Int) ∧ OwnF wr B 54 (some ⟨g, 0, none⟩) 8 8 (mid A A' k) ∧ OwnF wr B 54 (some ⟨h, 0, none⟩) 8 8 (mid E E' k) ∧ Below B w wr)
    (fun i _ => 4 - (intOf i).toNat)
  case atStart => exact ⟨0, by omega, rfl, og.congr fun k _ => by simp [mid], oh.congr fun k _ => by simp [mid], Below.refl _ _⟩
  case round =>
    clear og oh
    obtain ⟨k, hk, rfl, og, oh, hb⟩ := hrel
    by_cases hlt : k < 4
    · have g1 : (k : Int) < 4 := by omega
      have g0 : (0 : Int) ≤ (k : Int) := by omega
      have m0 : ¬ k % 4 < k := by omega
      have m4 : ¬ (4 + k) % 4 < k := by omega
      have cg := og.cell (k := k) (by omega)
      have ch := oh.cell (k := k) (by omega)
      have cg4 := og.cell (k := 4 + k) (by omega)
      have ch4 := oh.cell (k := 4 + k) (by omega)
      rw [mid_at _ _ m0] at cg ch
      rw [mid_at _ _ m4] at cg4 ch4
      have x1 := E1.out k (by omega)
      have x2 := E2.out k (by omega)
      have y1 := E1.out (4 + k) (by omega)
      have y2 := E2.out (4 + k) (by omega)
      have x3 := E3.out k (by omega)
      have x4 := E4.out k (by omega)
      have y3 := E3.out (4 + k) (by omega)
      have y4 := E4.out (4 + k) (by omega)
      have hst : ∀ F F' : Nat → Nat, ∀ j, j < 8 → (if j = 4 + k then .int .u64 (F' (4 + k) : Int) else if j = k then .int .u64 (F' k : Int) else mid F F' k j) = mid F F' (k + 1) j := fun F F' j hj => mid_step F F' hlt hj
      have HA := Lib.hid (hst A A')
      have HE := Lib.hid (hst E E')
      have mA := mid_at A A' m4
      have mE := mid_at E E' m4
      clear hst m0 m4
      have n4 : ¬ 4 + k = k := by omega
      generalize A k = a0 at *
      generalize E k = b0 at *
      generalize X k = x0 at *
      generalize A' k = a1 at *
      generalize E' k = b1 at *
      generalize A (4 + k) = c0 at *
      generalize E (4 + k) = d0 at *
      generalize X (4 + k) = x5 at *
      generalize A' (4 + k) = c1 at *
      generalize E' (4 + k) = d1 at *
      go_upto_region 4 with fail
      refine wp_region_still_tail 31 (by kernel_rfl) (by kernel_rfl) ?_
      simp only [List.take_succ_cons, List.take_zero, List.drop_succ_cons, List.drop_zero]
      repeat still_step
      refine wpStill_nil ?_
      change wpList _ _ _ _ _ wr.drew
      have fg := og.free k
      have fh := oh.free k
      go_upto_region 5 with fail
      obtain ⟨w4, e4⟩ : ∃ v, v = wr.drew := ⟨_, rfl⟩
      replace og := og.drew
      replace oh := oh.drew
      replace hb := hb.drew
      replace cg : wr.drew.cell? ⟨g, k, none⟩ = some (.int .u64 (a0 : Int)) := cg
      replace ch : wr.drew.cell? ⟨h, k, none⟩ = some (.int .u64 (b0 : Int)) := ch
      replace fg : wr.drew.frozen? ⟨g, k, none⟩ = false := fg
      replace fh : wr.drew.frozen? ⟨h, k, none⟩ = false := fh
      rw [← e4] at og oh hb cg ch fg fh ⊢
      clear e4 x1 x2 y1 y2 cg4 ch4
      obtain ⟨w5, e5⟩ : ∃ v, v = w4.drew := ⟨_, rfl⟩
      replace og := og.drew
      replace oh := oh.drew
      replace hb := hb.drew
      replace cg : w4.drew.cell? ⟨g, k, none⟩ = some (.int .u64 (a0 : Int)) := cg
      replace ch : w4.drew.cell? ⟨h, k, none⟩ = some (.int .u64 (b0 : Int)) := ch
      replace fg : w4.drew.frozen? ⟨g, k, none⟩ = false := fg
      replace fh : w4.drew.frozen? ⟨h, k, none⟩ = false := fh
      rw [← e5] at og oh hb cg ch fg fh
      have E5 := Lib.hid e5
      clear e5
      refine wp_region_late 27 23 [some 45, some 46, some 47, some 48, some 49, some 50, some 51, some 52, some 53, some 54, some 55, some 56, some 57, some 58, some 59, some 60, some 61, some 62, some 63, some 64, some 65, some 66, some 67, none, some 68, some 69, some 70] [.pointer (some ⟨g, 0, none⟩), .int .i64 (k : Int), .pointer (some ⟨h, 0, none⟩), .int .i64 (k : Int), .pointer (some ⟨g, 0, none⟩), .int .i64 (k : Int), .pointer (some ⟨g, 0, none⟩), .pointer (some ⟨g, 0, none⟩), .pointer (some ⟨g, k, none⟩), .int .u64 (a0 : Int), .int .u64 (x0 : Int), .int .u64 (a1 : Int), .pointer (some ⟨h, 0, none⟩), .int .i64 (k : Int), .pointer (some ⟨h, 0, none⟩), .pointer (some ⟨h, 0, none⟩), .pointer (some ⟨h, k, none⟩), .int .u64 (b0 : Int), .int .u64 (x0 : Int), .int .u64 (b1 : Int), .pointer (some ⟨g, 0, none⟩), .pointer (some ⟨g, 0, none⟩), .pointer (some ⟨g, k, none⟩), undef, .pointer (some ⟨h, 0, none⟩), .pointer (some ⟨h, 0, none⟩), .pointer (some ⟨h, k, none⟩)] [2, 3, 12, 13, 14, 15, 16, 18, 19, 20, 21, 24, 25, 26] (fun b => cond b (w5.setCell ⟨g, k, none⟩ (.int .u64 (a1 : Int))) w5) (by kernel_rfl) (by kernel_rfl) E5.out (fun u => by simp only [List.filterMap_cons, List.filterMap_nil, id, puts, List.foldl_cons, List.foldl_nil]; go_simp; exact rfl) ?_ ?_
      · simp only [List.take_succ_cons, List.take_zero]
        refine ObsL.cons (fun u hd => ?_) ?_
        · exact ⟨rfl, fun b _ => by generalize (cond b _ _ : World) = W; go_simp⟩
        refine ObsL.cons (fun u hd => ?_) ?_
        · exact ⟨rfl, fun b _ => by generalize (cond b _ _ : World) = W; go_simp⟩
        refine ObsL.cons (fun u hd => ?_) ?_
        · exact ⟨rfl, fun b _ => by generalize (cond b _ _ : World) = W; go_simp⟩
        refine ObsL.cons (fun u hd => ?_) ?_
        · exact ⟨rfl, fun b _ => by generalize (cond b _ _ : World) = W; go_simp⟩
        refine ObsL.cons (fun u hd => ?_) ?_
        · exact ⟨rfl, fun b _ => by generalize (cond b _ _ : World) = W; go_simp⟩
        refine ObsL.cons (fun u hd => ?_) ?_
        · exact ⟨rfl, fun b _ => by generalize (cond b _ _ : World) = W; go_simp⟩
        refine ObsL.cons (fun u hd => ?_) ?_
        · have d49 : u 49 = .pointer (some ⟨g, 0, none⟩) := depL hd 4 rfl 49 rfl
          rw [d49]
          exact ⟨rfl, fun b _ => by generalize (cond b _ _ : World) = W; go_simp⟩
        refine ObsL.cons (fun u hd => ?_) ?_
        · have d51 : u 51 = .pointer (some ⟨g, 0, none⟩) := depL hd 6 rfl 51 rfl
          rw [d51]
          exact ⟨rfl, fun b _ => by generalize (cond b _ _ : World) = W; go_simp⟩
        refine ObsL.cons (fun u hd => ?_) ?_
        · have d52 : u 52 = .pointer (some ⟨g, 0, none⟩) := depL hd 7 rfl 52 rfl
          have d50 : u 50 = .int .i64 (k : Int) := depL hd 5 rfl 50 rfl
          rw [d52, d50]
          exact ⟨rfl, fun b _ => by generalize (cond b _ _ : World) = W; go_simp⟩
        refine ObsL.cons (fun u hd => ?_) ?_
        · have d53 : u 53 = .pointer (some ⟨g, k, none⟩) := depL hd 8 rfl 53 rfl
          rw [d53]
          exact ⟨rfl, fun b hb => match b, hb with | false, _ => by go_simp | true, hb => absurd (hb rfl) (by decide)⟩
        refine ObsL.cons (fun u hd => ?_) ?_
        · exact ⟨rfl, fun b _ => by generalize (cond b _ _ : World) = W; go_simp⟩
        refine ObsL.cons (fun u hd => ?_) ?_
        · have d54 : u 54 = .int .u64 (a0 : Int) := depL hd 9 rfl 54 rfl
          have d55 : u 55 = .int .u64 (x0 : Int) := depL hd 10 rfl 55 rfl
          rw [d54, d55]
          exact ⟨rfl, fun b _ => by generalize (cond b _ _ : World) = W; go_simp⟩
        refine ObsL.cons (fun u hd => ?_) ?_
        · exact ⟨rfl, fun b _ => by generalize (cond b _ _ : World) = W; go_simp⟩
        refine ObsL.cons (fun u hd => ?_) ?_
        · exact ⟨rfl, fun b _ => by generalize (cond b _ _ : World) = W; go_simp⟩
        refine ObsL.cons (fun u hd => ?_) ?_
        · have d57 : u 57 = .pointer (some ⟨h, 0, none⟩) := depL hd 12 rfl 57 rfl
          rw [d57]
          exact ⟨rfl, fun b _ => by generalize (cond b _ _ : World) = W; go_simp⟩
        refine ObsL.cons (fun u hd => ?_) ?_
        · have d59 : u 59 = .pointer (some ⟨h, 0, none⟩) := depL hd 14 rfl 59 rfl
          rw [d59]
          exact ⟨rfl, fun b _ => by generalize (cond b _ _ : World) = W; go_simp⟩
        refine ObsL.cons (fun u hd => ?_) ?_
        · have d60 : u 60 = .pointer (some ⟨h, 0, none⟩) := depL hd 15 rfl 60 rfl
          have d58 : u 58 = .int .i64 (k : Int) := depL hd 13 rfl 58 rfl
          rw [d60, d58]
          exact ⟨rfl, fun b _ => by generalize (cond b _ _ : World) = W; go_simp⟩
        refine ObsL.cons (fun u hd => ?_) ?_
        · have d61 : u 61 = .pointer (some ⟨h, k, none⟩) := depL hd 16 rfl 61 rfl
          rw [d61]
          exact ⟨rfl, fun b hb => match b, hb with | false, _ => by go_simp | true, hb => absurd (hb rfl) (by decide)⟩
        refine ObsL.cons (fun u hd => ?_) ?_
        · exact ⟨rfl, fun b _ => by generalize (cond b _ _ : World) = W; go_simp⟩
        refine ObsL.cons (fun u hd => ?_) ?_
        · have d62 : u 62 = .int .u64 (b0 : Int) := depL hd 17 rfl 62 rfl
          have d63 : u 63 = .int .u64 (x0 : Int) := depL hd 18 rfl 63 rfl
          rw [d62, d63]
          exact ⟨rfl, fun b _ => by generalize (cond b _ _ : World) = W; go_simp⟩
        refine ObsL.cons (fun u hd => ?_) ?_
        · have d45 : u 45 = .pointer (some ⟨g, 0, none⟩) := depL hd 0 rfl 45 rfl
          rw [d45]
          exact ⟨rfl, fun b _ => by generalize (cond b _ _ : World) = W; go_simp⟩
        refine ObsL.cons (fun u hd => ?_) ?_
        · have d65 : u 65 = .pointer (some ⟨g, 0, none⟩) := depL hd 20 rfl 65 rfl
          rw [d65]
          exact ⟨rfl, fun b _ => by generalize (cond b _ _ : World) = W; go_simp⟩
        refine ObsL.cons (fun u hd => ?_) ?_
        · have d66 : u 66 = .pointer (some ⟨g, 0, none⟩) := depL hd 21 rfl 66 rfl
          have d46 : u 46 = .int .i64 (k : Int) := depL hd 1 rfl 46 rfl
          rw [d66, d46]
          exact ⟨rfl, fun b _ => by generalize (cond b _ _ : World) = W; go_simp⟩
        refine ObsL.cons (fun u hd => ?_) ?_
        · have d67 : u 67 = .pointer (some ⟨g, k, none⟩) := depL hd 22 rfl 67 rfl
          have d56 : u 56 = .int .u64 (a1 : Int) := depL hd 11 rfl 56 rfl
          rw [d67, d56]
          exact ⟨rfl, by go_simp⟩
        refine ObsL.cons (fun u hd => ?_) ?_
        · have d47 : u 47 = .pointer (some ⟨h, 0, none⟩) := depL hd 2 rfl 47 rfl
          rw [d47]
          exact ⟨rfl, fun b _ => by generalize (cond b _ _ : World) = W; go_simp⟩
        refine ObsL.cons (fun u hd => ?_) ?_
        · have d68 : u 68 = .pointer (some ⟨h, 0, none⟩) := depL hd 24 rfl 68 rfl
          rw [d68]
          exact ⟨rfl, fun b _ => by generalize (cond b _ _ : World) = W; go_simp⟩
        refine ObsL.cons (fun u hd => ?_) ?_
        · have d69 : u 69 = .pointer (some ⟨h, 0, none⟩) := depL hd 25 rfl 69 rfl
          have d48 : u 48 = .int .i64 (k : Int) := depL hd 3 rfl 48 rfl
          rw [d69, d48]
          exact ⟨rfl, fun b _ => by generalize (cond b _ _ : World) = W; go_simp⟩
        exact ObsL.nil
      intro u hd
      have d70 : u 70 = .pointer (some ⟨h, k, none⟩) := hd 26 (by decide) 70 rfl
      have d64 : u 64 = .int .u64 (b1 : Int) := hd 19 (by decide) 64 rfl
      rw [d70, d64]
      clear hd d70 d64
      simp only [List.drop_succ_cons, List.drop_zero]
      show wpList _ _ _ _ _ (w5.setCell ⟨g, k, none⟩ (.int .u64 (a1 : Int)))
      clear cg ch fg fh E5
      replace oh := oh.other (p := ⟨g, k, none⟩) hgh (.int .u64 (a1 : Int))
      replace hb := hb.setCell (p := ⟨g, k, none⟩) gg (.int .u64 (a1 : Int))
      replace og := og.set_ k (.int .u64 (a1 : Int))
      have ch := oh.cell (k := k) (by omega)
      have fh := oh.free k
      obtain ⟨w6, e6⟩ : ∃ v, v = w5.setCell ⟨g, k, none⟩ (.int .u64 (a1 : Int)) := ⟨_, rfl⟩
      rw [← e6] at og oh hb ch fh ⊢
      clear e6 x3 x4
      go_upto_region 6 with fail
      replace og := og.other (p := ⟨h, k, none⟩) (Ne.symm hgh) (.int .u64 (b1 : Int))
      replace hb := hb.setCell (p := ⟨h, k, none⟩) gh (.int .u64 (b1 : Int))
      replace oh := oh.set_ k (.int .u64 (b1 : Int))
      obtain ⟨w7, e7⟩ : ∃ v, v = w6.setCell ⟨h, k, none⟩ (.int .u64 (b1 : Int)) := ⟨_, rfl⟩
      rw [← e7] at og oh hb ⊢
      clear e7 ch fh w4 w5
      obtain ⟨w8, e8⟩ : ∃ v, v = w7.drew := ⟨_, rfl⟩
      replace og : OwnF w7.drew B 54 (some ⟨g, 0, none⟩) 8 8 _ := og.drew
      replace oh : OwnF w7.drew B 54 (some ⟨h, 0, none⟩) 8 8 _ := oh.drew
      replace hb := hb.drew
      rw [← e8] at og oh hb
      have E8 := Lib.hid e8
      clear e8
      have cg := og.cell (k := 4 + k) (by omega)
      have ch := oh.cell (k := 4 + k) (by omega)
      simp only [if_neg n4, mA, mE] at cg ch
      have fg := og.free (4 + k)
      have fh := oh.free (4 + k)
      refine wp_region_late 27 23 [some 71, some 72, some 73, some 74, some 75, some 76, some 77, some 78, some 79, some 80, some 81, some 82, some 83, some 84, some 85, some 86, some 87, some 88, some 89, some 90, some 91, some 92, some 93, none, some 94, some 95, some 96] [.pointer (some ⟨g, 0, none⟩), .int .i64 (k : Int), .pointer (some ⟨h, 0, none⟩), .int .i64 (k : Int), .pointer (some ⟨g, 0, none⟩), .int .i64 (k : Int), .pointer (some ⟨g, 0, none⟩), .pointer (some ⟨g, 4, none⟩), .pointer (some ⟨g, 4 + k, none⟩), .int .u64 (c0 : Int), .int .u64 (x5 : Int), .int .u64 (c1 : Int), .pointer (some ⟨h, 0, none⟩), .int .i64 (k : Int), .pointer (some ⟨h, 0, none⟩), .pointer (some ⟨h, 4, none⟩), .pointer (some ⟨h, 4 + k, none⟩), .int .u64 (d0 : Int), .int .u64 (x5 : Int), .int .u64 (d1 : Int), .pointer (some ⟨g, 0, none⟩), .pointer (some ⟨g, 4, none⟩), .pointer (some ⟨g, 4 + k, none⟩), undef, .pointer (some ⟨h, 0, none⟩), .pointer (some ⟨h, 4, none⟩), .pointer (some ⟨h, 4 + k, none⟩)] [2, 3, 12, 13, 14, 15, 16, 18, 19, 20, 21, 24, 25, 26] (fun b => cond b (w8.setCell ⟨g, 4 + k, none⟩ (.int .u64 (c1 : Int))) w8) (by kernel_rfl) (by kernel_rfl) E8.out (fun u => by simp only [List.filterMap_cons, List.filterMap_nil, id, puts, List.foldl_cons, List.foldl_nil]; go_simp; exact rfl) ?_ ?_
      · simp only [List.take_succ_cons, List.take_zero]
        refine ObsL.cons (fun u hd => ?_) ?_
        · exact ⟨rfl, fun b _ => by generalize (cond b _ _ : World) = W; go_simp⟩
        refine ObsL.cons (fun u hd => ?_) ?_
        · exact ⟨rfl, fun b _ => by generalize (cond b _ _ : World) = W; go_simp⟩
        refine ObsL.cons (fun u hd => ?_) ?_
        · exact ⟨rfl, fun b _ => by generalize (cond b _ _ : World) = W; go_simp⟩
        refine ObsL.cons (fun u hd => ?_) ?_
        · exact ⟨rfl, fun b _ => by generalize (cond b _ _ : World) = W; go_simp⟩
        refine ObsL.cons (fun u hd => ?_) ?_
        · exact ⟨rfl, fun b _ => by generalize (cond b _ _ : World) = W; go_simp⟩
        refine ObsL.cons (fun u hd => ?_) ?_
        · exact ⟨rfl, fun b _ => by generalize (cond b _ _ : World) = W; go_simp⟩
        refine ObsL.cons (fun u hd => ?_) ?_
        · have d75 : u 75 = .pointer (some ⟨g, 0, none⟩) := depL hd 4 rfl 75 rfl
          rw [d75]
          exact ⟨rfl, fun b _ => by generalize (cond b _ _ : World) = W; go_simp⟩
        refine ObsL.cons (fun u hd => ?_) ?_
        · have d77 : u 77 = .pointer (some ⟨g, 0, none⟩) := depL hd 6 rfl 77 rfl
          rw [d77]
          exact ⟨rfl, fun b _ => by generalize (cond b _ _ : World) = W; go_simp⟩
        refine ObsL.cons (fun u hd => ?_) ?_
        · have d78 : u 78 = .pointer (some ⟨g, 4, none⟩) := depL hd 7 rfl 78 rfl
          have d76 : u 76 = .int .i64 (k : Int) := depL hd 5 rfl 76 rfl
          rw [d78, d76]
          exact ⟨rfl, fun b _ => by generalize (cond b _ _ : World) = W; go_simp⟩
        refine ObsL.cons (fun u hd => ?_) ?_
        · have d79 : u 79 = .pointer (some ⟨g, 4 + k, none⟩) := depL hd 8 rfl 79 rfl
          rw [d79]
          exact ⟨rfl, fun b hb => match b, hb with | false, _ => by go_simp | true, hb => absurd (hb rfl) (by decide)⟩
        refine ObsL.cons (fun u hd => ?_) ?_
        · exact ⟨rfl, fun b _ => by generalize (cond b _ _ : World) = W; go_simp⟩
        refine ObsL.cons (fun u hd => ?_) ?_
        · have d80 : u 80 = .int .u64 (c0 : Int) := depL hd 9 rfl 80 rfl
          have d81 : u 81 = .int .u64 (x5 : Int) := depL hd 10 rfl 81 rfl
          rw [d80, d81]
          exact ⟨rfl, fun b _ => by generalize (cond b _ _ : World) = W; go_simp⟩
        refine ObsL.cons (fun u hd => ?_) ?_
        · exact ⟨rfl, fun b _ => by generalize (cond b _ _ : World) = W; go_simp⟩
        refine ObsL.cons (fun u hd => ?_) ?_
        · exact ⟨rfl, fun b _ => by generalize (cond b _ _ : World) = W; go_simp⟩
        refine ObsL.cons (fun u hd => ?_) ?_
        · have d83 : u 83 = .pointer (some ⟨h, 0, none⟩) := depL hd 12 rfl 83 rfl
          rw [d83]
          exact ⟨rfl, fun b _ => by generalize (cond b _ _ : World) = W; go_simp⟩
        refine ObsL.cons (fun u hd => ?_) ?_
        · have d85 : u 85 = .pointer (some ⟨h, 0, none⟩) := depL hd 14 rfl 85 rfl
          rw [d85]
          exact ⟨rfl, fun b _ => by generalize (cond b _ _ : World) = W; go_simp⟩
        refine ObsL.cons (fun u hd => ?_) ?_
        · have d86 : u 86 = .pointer (some ⟨h, 4, none⟩) := depL hd 15 rfl 86 rfl
          have d84 : u 84 = .int .i64 (k : Int) := depL hd 13 rfl 84 rfl
          rw [d86, d84]
          exact ⟨rfl, fun b _ => by generalize (cond b _ _ : World) = W; go_simp⟩
        refine ObsL.cons (fun u hd => ?_) ?_
        · have d87 : u 87 = .pointer (some ⟨h, 4 + k, none⟩) := depL hd 16 rfl 87 rfl
          rw [d87]
          exact ⟨rfl, fun b hb => match b, hb with | false, _ => by go_simp | true, hb => absurd (hb rfl) (by decide)⟩
        refine ObsL.cons (fun u hd => ?_) ?_
        · exact ⟨rfl, fun b _ => by generalize (cond b _ _ : World) = W; go_simp⟩
        refine ObsL.cons (fun u hd => ?_) ?_
        · have d88 : u 88 = .int .u64 (d0 : Int) := depL hd 17 rfl 88 rfl
          have d89 : u 89 = .int .u64 (x5 : Int) := depL hd 18 rfl 89 rfl
          rw [d88, d89]
          exact ⟨rfl, fun b _ => by generalize (cond b _ _ : World) = W; go_simp⟩
        refine ObsL.cons (fun u hd => ?_) ?_
        · have d71 : u 71 = .pointer (some ⟨g, 0, none⟩) := depL hd 0 rfl 71 rfl
          rw [d71]
          exact ⟨rfl, fun b _ => by generalize (cond b _ _ : World) = W; go_simp⟩
        refine ObsL.cons (fun u hd => ?_) ?_
        · have d91 : u 91 = .pointer (some ⟨g, 0, none⟩) := depL hd 20 rfl 91 rfl
          rw [d91]
          exact ⟨rfl, fun b _ => by generalize (cond b _ _ : World) = W; go_simp⟩
        refine ObsL.cons (fun u hd => ?_) ?_
        · have d92 : u 92 = .pointer (some ⟨g, 4, none⟩) := depL hd 21 rfl 92 rfl
          have d72 : u 72 = .int .i64 (k : Int) := depL hd 1 rfl 72 rfl
          rw [d92, d72]
          exact ⟨rfl, fun b _ => by generalize (cond b _ _ : World) = W; go_simp⟩
        refine ObsL.cons (fun u hd => ?_) ?_
        · have d93 : u 93 = .pointer (some ⟨g, 4 + k, none⟩) := depL hd 22 rfl 93 rfl
          have d82 : u 82 = .int .u64 (c1 : Int) := depL hd 11 rfl 82 rfl
          rw [d93, d82]
          exact ⟨rfl, by go_simp⟩
        refine ObsL.cons (fun u hd => ?_) ?_
        · have d73 : u 73 = .pointer (some ⟨h, 0, none⟩) := depL hd 2 rfl 73 rfl
          rw [d73]
          exact ⟨rfl, fun b _ => by generalize (cond b _ _ : World) = W; go_simp⟩
        refine ObsL.cons (fun u hd => ?_) ?_
        · have d94 : u 94 = .pointer (some ⟨h, 0, none⟩) := depL hd 24 rfl 94 rfl
          rw [d94]
          exact ⟨rfl, fun b _ => by generalize (cond b _ _ : World) = W; go_simp⟩
        refine ObsL.cons (fun u hd => ?_) ?_
        · have d95 : u 95 = .pointer (some ⟨h, 4, none⟩) := depL hd 25 rfl 95 rfl
          have d74 : u 74 = .int .i64 (k : Int) := depL hd 3 rfl 74 rfl
          rw [d95, d74]
          exact ⟨rfl, fun b _ => by generalize (cond b _ _ : World) = W; go_simp⟩
        exact ObsL.nil
      intro u hd
      have d96 : u 96 = .pointer (some ⟨h, 4 + k, none⟩) := hd 26 (by decide) 96 rfl
      have d90 : u 90 = .int .u64 (d1 : Int) := hd 19 (by decide) 90 rfl
      rw [d96, d90]
      clear hd d96 d90
      simp only [List.drop_succ_cons, List.drop_zero]
      show wpList _ _ _ _ _ (w8.setCell ⟨g, 4 + k, none⟩ (.int .u64 (c1 : Int)))
      clear cg ch fg fh E8
      replace oh := oh.other (p := ⟨g, 4 + k, none⟩) hgh (.int .u64 (c1 : Int))
      replace hb := hb.setCell (p := ⟨g, 4 + k, none⟩) gg (.int .u64 (c1 : Int))
      replace og := og.set_ (4 + k) (.int .u64 (c1 : Int))
      have ch := oh.cell (k := 4 + k) (by omega)
      have fh := oh.free (4 + k)
      obtain ⟨w9, e9⟩ : ∃ v, v = w8.setCell ⟨g, 4 + k, none⟩ (.int .u64 (c1 : Int)) := ⟨_, rfl⟩
      rw [← e9] at og oh hb ch fh ⊢
      clear e9 y3 y4
      go_wp2_with fail
      replace og := og.other (p := ⟨h, 4 + k, none⟩) (Ne.symm hgh) (.int .u64 (d1 : Int))
      replace hb := hb.setCell (p := ⟨h, 4 + k, none⟩) gh (.int .u64 (d1 : Int))
      replace oh := oh.set_ (4 + k) (.int .u64 (d1 : Int))
      refine ⟨⟨k + 1, by omega, by go_num, og.congr fun j hj => HA.out j hj, oh.congr fun j hj => HE.out j hj, hb⟩, by simp [intOf]; omega⟩
    · obtain rfl : k = 4 := by omega
      have fin : ∀ F F' : Nat → Nat, ∀ j, j < 8 → mid F F' 4 j = .int .u64 (F' j : Int) := fun F F' j _ => by unfold mid; rw [if_pos (by omega)]
      go_wp2_with fail
      go_returns
      exact ⟨rfl, og.congr (fin A A'), oh.congr (fin E E'), hb⟩
theorem wq_if (bit p1 p2 q1 q2 k : Nat) : (if bit = 1 then wq q1 q2 k else wq p1 p2 k) = wq (if bit = 1 then q1 else p1) (if bit = 1 then q2 else p2) k := by split <;> rfl
theorem swap_any {bit g h B p1 p2 q1 q2 : Nat} (hb : bit ≤ 1) (hgh : g ≠ h) (w : World) (og : O8 w B g p1 p2) (oh : O8 w B h q1 q2) :
    Calls Try.prog 37 #[.int .u64 (bit : Int), .pointer (some ⟨g, 0, none⟩), .pointer (some ⟨h, 0, none⟩)] w fun e w' => e = .returned (.tuple #[]) ∧
      O8 w' B g (if bit = 1 then q1 else p1) (if bit = 1 then q2 else p2) ∧ O8 w' B h (if bit = 1 then p1 else q1) (if bit = 1 then p2 else q2) ∧ Below B w w' := by
  refine (swap_gen (M := msk bit) (A := wq p1 p2) (E := wq q1 q2) (X := fun k => sk bit (wq p1 p2 k) (wq q1 q2 k)) (A' := fun k => if bit = 1 then wq q1 q2 k else wq p1 p2 k) (E' := fun k => if bit = 1 then wq p1 p2 k else wq q1 q2 k)
    (msk_neg hb) (fun k _ => bits_xor_u64_nat _ _ (wq_lt _ _ _) (wq_lt _ _ _)) (fun k _ => msk_sk (wq_lt _ _ _) (wq_lt _ _ _)) (fun k _ => ?_) (fun k _ => ?_) hgh w (OwnF.congr og fun k _ => pw_wq _ _ k) (OwnF.congr oh fun k _ => pw_wq _ _ k)).mono ?_
  · rw [bits_xor_u64_nat _ _ (wq_lt _ _ _) (sk_lt (wq_lt _ _ _) (wq_lt _ _ _)), sk_left]
  · rw [bits_xor_u64_nat _ _ (wq_lt _ _ _) (sk_lt (wq_lt _ _ _) (wq_lt _ _ _)), sk_right]
  · rintro e w' ⟨he, o1, o2, h0⟩
    exact ⟨he, OwnF.congr o1 fun k _ => by rw [pw_wq, wq_if], OwnF.congr o2 fun k _ => by rw [pw_wq, wq_if], h0⟩
end Go.Proofs.Ytojggpiolgcjeaa
