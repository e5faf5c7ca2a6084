/-
  The document's Nine, and the reverse of a number of layer 3 (Invert). By an AI agent.
-/
import Derived.Test.YtojggpiolgcjeaaMU
import Derived.Test.YtojggpiolgcjeaaMT
namespace Go.Proofs.Ytojggpiolgcjeaa
open Go Go.RowKit
theorem set16w_eq (w : World) (g y : Nat) : w.setCells g 0 (fl y) = set16w w g y := rfl
attribute [local irreducible] wd by8 d16 set16w fl
set_option maxRecDepth 20000
theorem rnine_any (w : World) :
    Calls Try.prog 16 #[] w fun e w' => ∃ A c, e = .returned (.slice A 32 c) ∧ Own w' w.heap.size 5 A c (gen (bf 9) 32) ∧ Below w.heap.size w w' := by
  have hc := (Below.refl _ w).alloc (Nat.le_refl _) (.cells #[.int .i64 9] 3)
  have p1 : Dig (w.alloc (.cells #[.int .i64 9] 3)) (w.alloc (.cells #[.int .i64 9] 3)).heap.size (some ⟨w.heap.size, 0, none⟩) 1 1 9 := lit_dig (by decide)
  go_enter Try.func16, Try.ntmps16
  go_wp2_with fail
  go_at_call 33
  refine (told_any _ p1 (Nat.le_refl _)).mono ?_
  rintro e v2 ⟨A2, c2, rfl, ot, h0⟩
  go_wp2_with fail
  go_ret
  exact ⟨A2, c2, rfl, ot.mono hc.size, hc.trans (h0.mono hc.size)⟩
set_option maxHeartbeats 1600000 in
theorem rinvert_any {a : Nat} (ha : a < P25) (w : World) :
    Calls Try.prog 32 #[fv a] w fun e w' => e = .returned (fv (a ^ (P25 - 2) % P25)) ∧ Below w.heap.size w w' := by
  have hE : (P25 - 2) / 1 = P25 - 2 := Nat.div_one _
  have k1 := fun w => rless_any (n := 2) (b := 1) (by decide) (by decide) (by decide) w
  rw [hE] at k1
  have k1' : ∀ w, Calls Try.prog 51 #[.int .i64 2, .int .i64 1] w fun e w' => ∃ A c m, e = .returned (.slice A m c) ∧ DOwn w' w.heap.size A c m (P25 - 2) ∧ Below w.heap.size w w' := k1
  have hEW : P25 - 2 < W4 := Nat.lt_of_le_of_lt (Nat.sub_le _ _) P25_W4
  have K1 := Lib.hid k1'
  have KL := Lib.hid (fun n (hn : Can n (P25 - 2)) => Can.le32 hn hEW)
  have K2 : Hid (∀ (A : Option Addr) (c n : Nat) (w : World), Dig w w.heap.size A c n (P25 - 2) → n ≤ 32 → Calls Try.prog 50 #[fv a, .slice A n c] w fun r' w' => r' = .returned (fv (a ^ (P25 - 2) % P25)) ∧ Below w.heap.size w w') := Lib.hid (fun A c n w h hn => rpower_any ha (by omega) w h (Nat.le_refl _))
  have hs : (w.alloc (A16 a)).heap.size = w.heap.size + 1 := by simp
  have ox := (O16.new (w := w) (Nat.le_refl _) a).alloc Z16
  have oz := O16.zero (own_Z16 (w := w.alloc (A16 a)) (B := w.heap.size) (by omega))
  rw [hs] at oz
  have hc := ((Below.refl _ w).alloc (Nat.le_refl _) (A16 a)).alloc (by omega) Z16
  clear k1 k1' hE hEW ha hs
  generalize P25 - 2 = E at *
  obtain ⟨r, hr⟩ : ∃ r, r = a ^ E % P25 := ⟨_, rfl⟩
  rw [← hr] at K2 ⊢
  clear hr
  go_enter Try.func32, Try.ntmps32
  go_upto_region 1 with fail
  obtain ⟨v0, e0⟩ : ∃ u, u = (w.alloc (A16 a)).alloc Z16 := ⟨_, rfl⟩
  rw [← e0] at ox oz hc ⊢
  clear e0
  have hs := hc.size
  have finf : (Try.prog.info? 40).map (·.size) = some (fl a).length := by rw [fl_len]; exact f_info
  have farr := f_arr
  have flen := fl_len a
  have fone : ∀ v ∈ fl a, v.oneCell' = true := fun v hv => by
    have h := fl_one a
    rw [Array.all_eq_true_iff_forall_mem] at h
    exact h v (by simpa using hv)
  have hne : w.heap.size + 1 ≠ w.heap.size := by omega
  have finr : (Try.prog.info? 40).map (·.size) = some (fl r).toArray.size := by rw [List.size_toArray, fl_len]; exact f_info
  have foner := fl_one r
  have fonr : ∀ v ∈ fl r, v.oneCell' = true := fun v hv => by
    have h := fl_one r
    rw [Array.all_eq_true_iff_forall_mem] at h
    exact h v (by simpa using hv)
  have flenr := fl_len r
  have HC : ∀ wz, Below v0.heap.size v0 wz → wz.rangeAt w.heap.size 0 (fl a) ∧ wz.there (w.heap.size + 1) 0 16 := fun wz hz => ⟨OwnF.range (ox.keep hz) (by rw [fl_len]; exact Nat.le_refl _) (fun k hk => fl_get (by rwa [fl_len] at hk)), OwnF.there (oz.keep hz)⟩
  have HS := Lib.hid HC
  clear HC
  obtain ⟨sr, st⟩ := HS.out v0 (Below.refl _ _)
  have hd : Below v0.heap.size v0 v0.drew := (Below.refl _ v0).drew
  go_region_held3 (fun wz => wz.rangeAt w.heap.size 0 (fl a) ∧ wz.there (w.heap.size + 1) 0 16)
    (first | exact HS.out _ hd | exact ⟨World.rangeAt_setCells_apart (HS.out _ hd).1 _ _ _ (.inl (by omega)), World.there_setCells (HS.out _ hd).2 _ _ _⟩)
    (first | (go_at_call 51; (with_reducible refine (K1.out _).mono ?_); rintro e' wt ⟨At, ct, nt, rfl, dt, h9⟩; have p1 := dt.dig; have l1 := KL.out _ dt.can; replace hd := hd.trans (h9.mono hd.size); clear dt) | (go_at_call 50; (with_reducible refine (K2.out _ _ _ _ p1 l1).mono ?_); rintro e' wx ⟨rfl, h9⟩; replace hd := hd.trans (h9.mono hd.size)))
  all_goals
    have hop := Lib.hid ((oz.keep hd).put r)
    have hbl := (oz.keep hd).below r
    rw [set16w_eq]
    go_wp2_with fail
    exact bodyPost_ret (fres Try.results32 _ hop.out rfl) rfl ⟨rfl, (hc.trans (hd.mono hs)).trans hbl⟩
end Go.Proofs.Ytojggpiolgcjeaa
