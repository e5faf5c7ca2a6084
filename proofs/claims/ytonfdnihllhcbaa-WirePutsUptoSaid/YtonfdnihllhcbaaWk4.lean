/-
  The landed reader of layer 13: a number's bytes, one by one; so many bytes taken. By an AI agent.
-/
import Derived.Test.YtonfdnihllhcbaaWk3
import Derived.Test.YtonfdnihllhcbaaCp
namespace Go.Proofs.Ytonfdnihllhcbaa
open Go Go.RowKit
set_option maxRecDepth 20000
/-- A number's bytes read, in whatever range: the number, how many bytes, the error. -/
def rawF : Nat → Nat → Nat → List UInt8 → Nat × Nat × Nat
  | 0, k, _, _ => (0, k, 5)
  | _ + 1, k, _, [] => (0, k, 3)
  | f + 1, k, n, x :: r => if 128 ≤ x.toNat then rawF f (k + 1) (n + x.toNat % 128 * 128 ^ k) r else if 0 < k ∧ x.toNat = 0 then (0, k + 1, 5) else (n + x.toNat % 128 * 128 ^ k, k + 1, 0)
def rawL (b : List UInt8) : Nat × Nat × Nat := rawF 6 0 0 b
theorem fst_raw : ∀ (f k n : Nat) (b : List UInt8), fstF f k n b = if (rawF f k n b).2.2 ≠ 0 then (0, 0, (rawF f k n b).2.2) else if Far < (rawF f k n b).1 then (0, 0, 6) else (rawF f k n b).1 |> fun v => (v, (rawF f k n b).2.1, 0)
  | 0, k, n, b => by simp [fstF, rawF]
  | f + 1, k, n, [] => by simp [fstF, rawF]
  | f + 1, k, n, x :: r => by
    unfold fstF rawF
    by_cases h1 : 128 ≤ x.toNat
    · rw [if_pos h1, if_pos h1]
      exact fst_raw f (k + 1) _ r
    · rw [if_neg h1, if_neg h1]
      by_cases h2 : 0 < k ∧ x.toNat = 0
      · rw [if_pos h2, if_pos h2]
        simp
      · rw [if_neg h2, if_neg h2]
        simp
theorem raw_step {all : List UInt8} {p f k n : Nat} (hp : p < all.length) : rawF (f + 1) k n (all.drop p) = if 128 ≤ nth all p then rawF f (k + 1) (n + nth all p % 128 * 128 ^ k) (all.drop (p + 1)) else if 0 < k ∧ nth all p = 0 then (0, k + 1, 5) else (n + nth all p % 128 * 128 ^ k, k + 1, 0) := by
  rw [List.drop_eq_getElem_cons hp, nth_get hp, rawF]
theorem or_put {m r k : Nat} (hm : m < 128 ^ k) (hr : r < 128) (hk : k ≤ 5) : bits .or .i64 (m : Int) (wrap64 ((r : Int) * 2 ^ (7 * k))) = ((m + r * 128 ^ k : Nat) : Int) := by
  have hp : (2 : Nat) ^ (7 * k) = 128 ^ k := by rw [show (128 : Nat) = 2 ^ 7 from rfl, ← Nat.pow_mul]
  have h5 : (128 : Nat) ^ k ≤ 128 ^ 5 := Nat.pow_le_pow_right (by decide) hk
  have hy : r * 128 ^ k ≤ 127 * 128 ^ k := Nat.mul_le_mul_right _ (by omega)
  have h2 : (r : Int) * 2 ^ (7 * k) = ((r * 128 ^ k : Nat) : Int) := by rw [← hp]; simp
  have h3 : m ||| r * 128 ^ k = m + r * 128 ^ k := by
    have h := Nat.two_pow_add_eq_or_of_lt (i := 7 * k) (show m < 2 ^ (7 * k) by rw [hp]; exact hm) r
    rw [hp, Nat.mul_comm (128 ^ k) r] at h
    rw [Nat.or_comm, ← h, Nat.add_comm]
  rw [h2]
  generalize 128 ^ k = E at *
  generalize r * E = y at *
  have h4 : wrap64 ((y : Nat) : Int) = (y : Int) := by
    have : (128 : Nat) ^ 5 = 34359738368 := by decide
    simp only [wrap64]
    omega
  rw [h4, (bits_nat .i64 62 (by decide) wraps_62 m y (by omega) (by omega)).2, h3]
theorem wrap_next {p p1 n : Nat} (h : p < n) (hn : n ≤ 140737488355328) (e : p1 = p + 1) : wrap64 ((p : Int) + 1) = (p1 : Int) := by
  subst e
  simp only [wrap64]
  omega
theorem wrap_byte {x : Nat} (h : x < 256) : wrap64 (x : Int) = (x : Int) := by
  simp only [wrap64]
  omega
theorem put_lt {m r k m2 : Nat} (hm : m < 128 ^ k) (hr : r < 128) (e : m2 = m + r * 128 ^ k) : m2 < 128 ^ (k + 1) := by
  have hy : r * 128 ^ k ≤ 127 * 128 ^ k := Nat.mul_le_mul_right _ (by omega)
  rw [e, Nat.pow_succ]
  generalize 128 ^ k = E at *
  omega
set_option maxHeartbeats 3200000 in
theorem number_code {w : World} {B C g c a : Nat} {A : Option Addr} {all : List UInt8} {e : Int} (h : RdAt w B C g A c all a e) :
    Calls Try.prog 37 #[.pointer (some ⟨g, 0, none⟩)] w fun x w' => ∃ a2 : Nat, x = .returned (.tuple #[.int .i64 ((rawL (all.drop a)).1 : Int), .int .i64 ((rawL (all.drop a)).2.2 : Int)]) ∧ RdAt w' B C g A c all a2 e ∧ OutB B C w w' ∧ ((rawL (all.drop a)).2.2 = 0 → a2 = a + (rawL (all.drop a)).2.1) := by
  obtain ⟨N, eN⟩ : ∃ N, N = rawL (all.drop a) := ⟨_, rfl⟩
  rw [← eN]
  have HN := Lib.hid eN
  have HW := Lib.hid h
  clear eN h
  go_enter Try.func37, Try.ntmps37
  go_wp2_with fail
  refine wp_scope_back 0 (fun a' w' => ∃ (k m : Nat) (u6 u7 u8 u9 u10 u11 u12 u13 u14 u15 u16 u17 u18 u19 u20 u21 u22 u23 u24 u25 u26 u27 u28 u29 u30 u31 u32 u33 u34 u35 u36 u37 u38 u39 u40 u41 u42 u43 u44 u45 u46 u47 u48 u49 u50 u51 u52 u53 : Value), a' = { tmps := #[.pointer (some ⟨g, 0, none⟩), undef, .int .i64 0, .int .i64 0, .int .i64 (m : Int), .int .i64 (k : Int), u6, u7, u8, u9, u10, u11, u12, u13, u14, u15, u16, u17, u18, u19, u20, u21, u22, u23, u24, u25, u26, u27, u28, u29, u30, u31, u32, u33, u34, u35, u36, u37, u38, u39, u40, u41, u42, u43, u44, u45, u46, u47, u48, u49, u50, u51, u52, u53], defers := [] } ∧ RdAt w' B C g A c all (a + k) e ∧ OutB B C w w' ∧ k ≤ 5 ∧ m < 128 ^ k ∧ N = rawF (6 - k) k m (all.drop (a + k))) (fun a' _ => 6 - (intV (a'.tmps.getD 5 undef)).toNat) rfl ?_ ?_
  · rintro a' w' ⟨k, m, u6, u7, u8, u9, u10, u11, u12, u13, u14, u15, u16, u17, u18, u19, u20, u21, u22, u23, u24, u25, u26, u27, u28, u29, u30, u31, u32, u33, u34, u35, u36, u37, u38, u39, u40, u41, u42, u43, u44, u45, u46, u47, u48, u49, u50, u51, u52, u53, rfl, hr, ho, hk, hm, hN⟩
    have KL := Lib.hid (left_code hr)
    by_cases hl : a + k = all.length
    · have e1 : all.length - (a + k) = 0 := by omega
      rw [e1] at KL
      have e2 : N = (0, k, 3) := by rw [hN, hl, List.drop_length, show 6 - k = (5 - k) + 1 by omega, rawF]
      have H2 := Lib.hid (And.intro e2 (And.intro hr ho))
      clear hl hm hk e1 e2 hN hr ho
      go_wp2_with fail
      go_at_call 36
      refine KL.out.mono ?_
      rintro z v1 ⟨rfl, h1⟩
      go_wp2_with fail
      simp only [Exit.jump]
      go_returns
      obtain ⟨e2, hr, ho⟩ := H2.out
      rw [e2]
      exact ⟨a + k, rfl, hr.next h1, ho.trans (OutB.of h1), fun h => by simp at h⟩
    · obtain ⟨h0, o0, rfl, hlt, hx⟩ := hr.row.rd.at_ (k := a + k) (by have := hr.at_; omega)
      obtain ⟨q, hq⟩ : ∃ q, q = all.length - (a + k) := ⟨_, rfl⟩
      have hx0 : nth all (a + k) < 256 := nth_lt all (a + k)
      have hlt2 : a + k < all.length := by have := hr.at_; omega
      have hfew := hr.few
      obtain ⟨f, ef⟩ : ∃ f, f = 5 - k := ⟨_, rfl⟩
      rw [show 6 - k = f + 1 by omega, raw_step hlt2] at hN
      obtain ⟨x, ex⟩ : ∃ x, x = nth all (a + k) := ⟨_, rfl⟩
      obtain ⟨p, ep⟩ : ∃ p, p = a + k := ⟨_, rfl⟩
      have hk1 : ¬ (7 * (k : Int)) < 0 := by omega
      have hor := or_put hm (Nat.mod_lt x (show 0 < 128 by decide)) hk
      obtain ⟨r, er⟩ : ∃ r, r = x % 128 := ⟨_, rfl⟩
      rw [← er] at hor
      obtain ⟨m2, em2⟩ : ∃ m2, m2 = m + r * 128 ^ k := ⟨_, rfl⟩
      rw [← em2] at hor
      obtain ⟨p1, ep1⟩ : ∃ p1, p1 = p + 1 := ⟨_, rfl⟩
      have hp1 : wrap64 ((p : Int) + 1) = (p1 : Int) := wrap_next (n := all.length) (by rw [ep]; exact hlt2) hfew ep1
      have g1 : (0 : Int) < (q : Int) := Int.ofNat_lt.2 (by rw [hq]; exact Nat.sub_pos_of_lt hlt2)
      have g2 : (p : Int) < (all.length : Int) := Int.ofNat_lt.2 (by rw [ep]; exact hlt2)
      have hm2 : m2 < 128 ^ (k + 1) := put_lt hm (by rw [er]; exact Nat.mod_lt _ (by decide)) em2
      rw [← ex, ← er, ← em2, ← ep, ← ep1] at hN
      rw [← hq] at KL
      rw [← ex, ← ep] at hx
      rw [← ep] at hr
      rw [← ex] at hx0
      have HX := Lib.hid hx
      have HR := Lib.hid (And.intro hr ho)
      have HL := Lib.hid (And.intro hfew (And.intro hm2 (And.intro ep ep1)))
      have h127 : bits .and .i64 (x : Int) 127 = (r : Int) := by rw [er]; exact and_127 (Nat.lt_trans hx0 (by decide))
      have hN2 := Lib.hid (And.intro hN (And.intro ef (And.intro hlt2 hx0)))
      clear hx hr ho hl hm ep ex hq er em2 ep1 hm2 hfew ef hN hlt2
      have HK := Lib.hid hk
      go_wp2_with fail
      go_at_call 36
      refine KL.out.mono ?_
      rintro z v1 ⟨rfl, h1⟩
      have hr1 := HR.out.1.next h1
      have c0 := ORd.c0 hr1.cells
      have c1 := ORd.c1 hr1.cells
      have f1 := OwnF.free hr1.cells 1
      have hx1 : v1.cell? ⟨h0, o0 + p, none⟩ = some (.int .u8 (x : Int)) := (h1.cell (p := ⟨h0, o0 + p, none⟩) hlt).trans HX.out
      have H1 := Lib.hid h1
      clear hr1 h1
      go_upto_region 4 with fail
      go_quiet (fail)
      rename_i hK
      refine hK _ _ ?_
      go_upto_region 8 with fail
      clear hor hp1 h127 hk1
      have HQ : RdAt ((v1.drewN nq).setCell ⟨g, 1, none⟩ (.int .i64 (p1 : Int))) B C g (some ⟨h0, o0, none⟩) c all p1 e ∧ OutB B C w ((v1.drewN nq).setCell ⟨g, 1, none⟩ (.int .i64 (p1 : Int))) := by
        have h2 := H1.out.trans (below_drewN (w := v1) w'.heap.size nq)
        have h3 := (HR.out.1.next h2).setAt (a2 := p1) (by have := HL.out; have := hN2.out; omega)
        exact ⟨h3.1, (HR.out.2.trans (OutB.of h2)).trans h3.2⟩
      have HQ := Lib.hid HQ
      clear c0 c1 f1 hx1 H1 HX HR
      by_cases hx2 : 128 ≤ x
      · have g3 : (128 : Int) ≤ (x : Int) := by omega
        by_cases hk5 : k = 5
        · have e2 : N = (0, 6, 5) := by
            obtain ⟨h1, h2, _⟩ := hN2.out
            rw [h1, if_pos hx2, h2, hk5]
            rfl
          have g4 : ¬ ((k : Int) + 1 < 6) := by omega
          have HE := Lib.hid e2
          clear hk5 e2 hx2 hk hx0
          go_wp2_with fail
          simp only [Exit.jump]
          go_returns
          rw [HE.out]
          exact ⟨p1, rfl, HQ.out.1, HQ.out.2, fun h => by simp at h⟩
        · have g4 : ((k : Int) + 1 < 6) := by have := HK.out; omega
          have HE := Lib.hid (And.intro hx2 hk5)
          clear hk5 hx2 hk hx0
          go_wp2_with fail
          go_step3
          refine ⟨rfl, ⟨k + 1, m2, _, _, _, _, _, _, _, _, _, _, _, _, _, _, _, _, _, _, _, _, _, _, _, _, _, _, _, _, _, _, _, _, _, _, _, _, _, _, _, _, _, _, _, _, _, _, _, _, rfl, ?_, HQ.out.2, by have := HE.out; have := HK.out; omega, HL.out.2.1, ?_⟩, ?_⟩
          · rw [show a + (k + 1) = p1 by have := HL.out; omega]
            exact HQ.out.1
          · obtain ⟨h1, h2, _⟩ := hN2.out
            rw [h1, if_pos HE.out.1, show 6 - (k + 1) = f by omega, show a + (k + 1) = p1 by have := HL.out; omega]
          · have := HK.out
            have := HE.out
            simp [intV]
            omega
      · have g3 : ¬ (128 : Int) ≤ (x : Int) := by omega
        by_cases hx3 : 0 < k ∧ x = 0
        · have e2 : N = (0, k + 1, 5) := by
            obtain ⟨h1, h2, _⟩ := hN2.out
            rw [h1, if_neg hx2, if_pos hx3]
          obtain ⟨hk3, hx4⟩ := hx3
          subst hx4
          have g4 : (1 : Int) < (k : Int) + 1 := by omega
          have HE := Lib.hid e2
          clear hx2 e2 hk3 hk hx0
          go_wp2_with fail
          simp only [Exit.jump]
          go_returns
          rw [HE.out]
          exact ⟨p1, rfl, HQ.out.1, HQ.out.2, fun h => by simp at h⟩
        · have e2 : N = (m2, k + 1, 0) := by
            obtain ⟨h1, h2, _⟩ := hN2.out
            rw [h1, if_neg hx2, if_neg hx3]
          have HE := Lib.hid (And.intro e2 (show p1 = a + (k + 1) by have := HL.out; omega))
          clear e2 hx2
          by_cases hx4 : x = 0
          · obtain rfl : k = 0 := by omega
            subst hx4
            clear hx3 hk hx0
            go_wp2_with fail
            simp only [Exit.jump]
            go_returns
            rw [HE.out.1]
            exact ⟨p1, rfl, HQ.out.1, HQ.out.2, fun _ => HE.out.2⟩
          · have g5 : ((x : Int) == 0) = false := by simp; omega
            clear hx3 hx4 hk hx0
            go_wp2_with fail
            simp only [Exit.jump]
            go_returns
            rw [HE.out.1]
            exact ⟨p1, rfl, HQ.out.1, HQ.out.2, fun _ => HE.out.2⟩
  · intro H
    have h2 : ∀ (a' : Act) (w' : World), w' = w → (∃ (u6 u7 u8 u9 u10 u11 u12 u13 u14 u15 u16 u17 u18 u19 u20 u21 u22 u23 u24 u25 u26 u27 u28 u29 u30 u31 u32 u33 u34 u35 u36 u37 u38 u39 u40 u41 u42 u43 u44 u45 u46 u47 u48 u49 u50 u51 u52 u53 : Value), a' = { tmps := #[.pointer (some ⟨g, 0, none⟩), undef, .int .i64 0, .int .i64 0, .int .i64 0, .int .i64 0, u6, u7, u8, u9, u10, u11, u12, u13, u14, u15, u16, u17, u18, u19, u20, u21, u22, u23, u24, u25, u26, u27, u28, u29, u30, u31, u32, u33, u34, u35, u36, u37, u38, u39, u40, u41, u42, u43, u44, u45, u46, u47, u48, u49, u50, u51, u52, u53], defers := [] }) → _ := fun a' w' e1 ⟨u6, u7, u8, u9, u10, u11, u12, u13, u14, u15, u16, u17, u18, u19, u20, u21, u22, u23, u24, u25, u26, u27, u28, u29, u30, u31, u32, u33, u34, u35, u36, u37, u38, u39, u40, u41, u42, u43, u44, u45, u46, u47, u48, u49, u50, u51, u52, u53, h⟩ => H a' w' ⟨0, 0, u6, u7, u8, u9, u10, u11, u12, u13, u14, u15, u16, u17, u18, u19, u20, u21, u22, u23, u24, u25, u26, u27, u28, u29, u30, u31, u32, u33, u34, u35, u36, u37, u38, u39, u40, u41, u42, u43, u44, u45, u46, u47, u48, u49, u50, u51, u52, u53, h, by rw [e1]; exact HW.out, by rw [e1]; exact OutB.refl _ _ _, by decide, by decide, HN.out⟩
    have HH := Lib.hid h2
    clear H h2
    go_wp2_with fail
    rename_i hK
    go_step3
    exact hK _ _ (HH.out _ _ rfl ⟨_, _, _, _, _, _, _, _, _, _, _, _, _, _, _, _, _, _, _, _, _, _, _, _, _, _, _, _, _, _, _, _, _, _, _, _, _, _, _, _, _, _, _, _, _, _, _, _, rfl⟩)
end Go.Proofs.Ytonfdnihllhcbaa
