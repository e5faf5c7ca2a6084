/-
  The document's On (layer 8), over letters. Written by tools/gen_e4.py. By an AI agent. The document's Nine, and the reverse of a number of layer 3 (Invert). By an AI agent. The document's D, Nought, plus, Plus, right, Of, Point, On (layer 8) in numbers. By an AI agent.
-/
import Derived.Test.YtkbkalhcdbklkaaGreatDoorE3
import Derived.Test.YtkbkalhcdbklkaaGreatDoorJ09
import Derived.Test.YtkbkalhcdbklkaaGreatDoorJ11
import Derived.Test.YtkbkalhcdbklkaaGreatDoorJ08
import Derived.Test.YtkbkalhcdbklkaaGreatDoorMT
import Derived.Test.YtkbkalhcdbklkaaGreatDoorE4
import Derived.Test.YtkbkalhcdbklkaaGreatDoorJ05
namespace Go.Proofs.YtkbkalhcdbklkaaGreatDoor
open Go Go.RowKit
section
attribute [local irreducible] wd by8 d16 set16w fl rl setA t3f set8p set4w
set_option maxRecDepth 20000
end
end Go.Proofs.YtkbkalhcdbklkaaGreatDoor
namespace Go.Proofs.YtkbkalhcdbklkaaGreatDoor
open Go Go.RowKit
theorem set16w_eq (w : World) (g y : Nat) : w.setCells g 0 (fl y) = set16w w g y := rfl
attribute [local irreducible] wd by8 d16 set16w fl
set_option maxRecDepth 20000
set_option maxHeartbeats 1600000 in
theorem rinvert_any {a : Nat} (ha : a < P25) (w : World) :
    Calls Tryz.prog 84 #[fv a] w fun e w' => e = .returned (fv (a ^ (P25 - 2) % P25)) ∧ Below w.heap.size w w' := by
  have hE : (P25 - 2) / 1 = P25 - 2 := Nat.div_one _
  have k1 := fun w => rless_any (n := 2) (b := 1) (by decide) (by decide) (by decide) w
  rw [hE] at k1
  have k1' : ∀ w, Calls Tryz.prog 116 #[.int .i64 2, .int .i64 1] w fun e w' => ∃ A c m, e = .returned (.slice A m c) ∧ DOwn w' w.heap.size A c m (P25 - 2) ∧ Below w.heap.size w w' := k1
  have hEW : P25 - 2 < W4 := Nat.lt_of_le_of_lt (Nat.sub_le _ _) P25_W4
  have K1 := Lib.hid k1'
  have KL := Lib.hid (fun n (hn : Can n (P25 - 2)) => Can.le32 hn hEW)
  have K2 : Hid (∀ (A : Option Addr) (c n : Nat) (w : World), Dig w w.heap.size A c n (P25 - 2) → n ≤ 32 → Calls Tryz.prog 115 #[fv a, .slice A n c] w fun r' w' => r' = .returned (fv (a ^ (P25 - 2) % P25)) ∧ Below w.heap.size w w') := Lib.hid (fun A c n w h hn => rpower_any ha (by omega) w h (Nat.le_refl _))
  have hs : (w.alloc (A16 a)).heap.size = w.heap.size + 1 := by simp
  have ox := (O16.new (w := w) (Nat.le_refl _) a).alloc Z16
  have oz := O16.zero (own_Z16 (w := w.alloc (A16 a)) (B := w.heap.size) (by omega))
  rw [hs] at oz
  have hc := ((Below.refl _ w).alloc (Nat.le_refl _) (A16 a)).alloc (by omega) Z16
  clear k1 k1' hE hEW ha hs
  generalize P25 - 2 = E at *
  obtain ⟨r, hr⟩ : ∃ r, r = a ^ E % P25 := ⟨_, rfl⟩
  rw [← hr] at K2 ⊢
  clear hr
  go_enter Tryz.func84, Tryz.ntmps84
  go_upto_region 1 with fail
  obtain ⟨v0, e0⟩ : ∃ u, u = (w.alloc (A16 a)).alloc Z16 := ⟨_, rfl⟩
  rw [← e0] at ox oz hc ⊢
  clear e0
  have hs := hc.size
  have finf : (Tryz.prog.info? 68).map (·.size) = some (fl a).length := by rw [fl_len]; exact f_info
  have farr := f_arr
  have flen := fl_len a
  have fone : ∀ v ∈ fl a, v.oneCell' = true := fun v hv => by
    have h := fl_one a
    rw [Array.all_eq_true_iff_forall_mem] at h
    exact h v (by simpa using hv)
  have hne : w.heap.size + 1 ≠ w.heap.size := by omega
  have finr : (Tryz.prog.info? 68).map (·.size) = some (fl r).toArray.size := by rw [List.size_toArray, fl_len]; exact f_info
  have foner := fl_one r
  have fonr : ∀ v ∈ fl r, v.oneCell' = true := fun v hv => by
    have h := fl_one r
    rw [Array.all_eq_true_iff_forall_mem] at h
    exact h v (by simpa using hv)
  have flenr := fl_len r
  have HC : ∀ wz, Below v0.heap.size v0 wz → wz.rangeAt w.heap.size 0 (fl a) ∧ wz.there (w.heap.size + 1) 0 16 := fun wz hz => ⟨OwnF.range (ox.keep hz) (by rw [fl_len]; exact Nat.le_refl _) (fun k hk => fl_get (by rwa [fl_len] at hk)), OwnF.there (oz.keep hz)⟩
  have HS := Lib.hid HC
  clear HC
  obtain ⟨sr, st⟩ := HS.out v0 (Below.refl _ _)
  have hd : Below v0.heap.size v0 v0.drew := (Below.refl _ v0).drew
  go_region_held3 (fun wz => wz.rangeAt w.heap.size 0 (fl a) ∧ wz.there (w.heap.size + 1) 0 16)
    (first | exact HS.out _ hd | exact ⟨World.rangeAt_setCells_apart (HS.out _ hd).1 _ _ _ (.inl (by omega)), World.there_setCells (HS.out _ hd).2 _ _ _⟩)
    (first | (go_at_call 116; (with_reducible refine (K1.out _).mono ?_); rintro e' wt ⟨At, ct, nt, rfl, dt, h9⟩; have p1 := dt.dig; have l1 := KL.out _ dt.can; replace hd := hd.trans (h9.mono hd.size); clear dt) | (go_at_call 115; (with_reducible refine (K2.out _ _ _ _ p1 l1).mono ?_); rintro e' wx ⟨rfl, h9⟩; replace hd := hd.trans (h9.mono hd.size)))
  all_goals
    have hop := Lib.hid ((oz.keep hd).put r)
    have hbl := (oz.keep hd).below r
    rw [set16w_eq]
    go_wp2_with fail
    exact bodyPost_ret (fres Tryz.results84 _ hop.out rfl) rfl ⟨rfl, (hc.trans (hd.mono hs)).trans hbl⟩
end Go.Proofs.YtkbkalhcdbklkaaGreatDoor
namespace Go.Proofs.YtkbkalhcdbklkaaGreatDoor
open Go Go.RowKit
theorem lInv {x : Nat} (hx : x < P25) (w : World) : Calls Tryz.prog 84 #[fv x] w fun e w' => e = .returned (fv (ivN x)) ∧ Below w.heap.size w w' := rinvert_any hx w
theorem lNeg {x : Nat} (hx : x < P25) (w : World) : Calls Tryz.prog 113 #[fv x] w fun e w' => e = .returned (fv ((P25 - x) % P25)) ∧ Below w.heap.size w w' := rneg_any (Nat.le_of_lt hx) w
/-- Three numbers below the prime. -/
def Tr.ok (t : Tr) : Prop := t.x < P25 ∧ t.y < P25 ∧ t.z < P25
theorem ed_lt : ed < P25 := by decide +kernel
theorem lt_W {x : Nat} (h : x < P25) : x < W4 := Nat.lt_trans h P25_W4
theorem adN_is (x y : Nat) : adN x y = (x + y) % P25 := rfl
section
attribute [local irreducible] wd by8 d16 set16w fl rl setA t3f ivN mlN adN sbN
theorem refD_any (w : World) : Calls Tryz.prog 80 #[] w fun e w' => e = .returned (fv ed) ∧ Below w.heap.size w w' := by
  obtain ⟨m1, h1⟩ : ∃ n, n = 65535 := ⟨_, rfl⟩
  obtain ⟨m2, h2⟩ : ∃ n, n = 56130 := ⟨_, rfl⟩
  obtain ⟨nc, h3⟩ : ∃ n, n = 121665 := ⟨_, rfl⟩
  obtain ⟨n1, h4⟩ : ∃ n, n = 1 := ⟨_, rfl⟩
  obtain ⟨sc, h5⟩ : ∃ n, n = 121666 := ⟨_, rfl⟩
  have l1 : m1 < P25 := by rw [h1]; decide +kernel
  have l2 : m2 < P25 := by rw [h2]; decide +kernel
  have l3 : nc < P25 := by rw [h3]; decide +kernel
  have l4 : n1 < P25 := by rw [h4]; decide +kernel
  have l5 : sc < P25 := by rw [h5]; decide +kernel
  have l6 : (P25 - nc) % P25 < P25 := Nat.mod_lt _ P25_pos
  have e3 : adN m1 m2 = nc := by rw [h1, h2, h3, adN_is]; exact Nat.mod_eq_of_lt (by decide +kernel)
  have e5 : adN nc n1 = sc := by rw [h3, h4, h5, adN_is]; exact Nat.mod_eq_of_lt (by decide +kernel)
  have e8 : mlN ((P25 - nc) % P25) (ivN sc) = ed := by rw [h3, h5]; exact d_is2
  refine D_gen (m1 := m1) (m2 := m2) (nc := nc) (ng := (P25 - nc) % P25) (n1 := n1) (sc := sc) (iv := ivN sc) (fun w => by rw [h1]; exact int_any (n := 65535) (by decide) w) (fun w => by rw [h2]; exact int_any (n := 56130) (by decide) w)
    (fun w => e3 ▸ lAdd l1 l2 w) (fun w => lNeg l3 w) (fun w => by rw [h4]; exact int_any (n := 1) (by decide) w) (fun w => e5 ▸ lAdd l3 l4 w) (fun w => lInv l5 w) (fun w => ?_) w
  have h := lMul l6 (show ivN sc < P25 from ivN_lt sc) w
  rwa [e8] at h
theorem refNought_any (w : World) : Calls Tryz.prog 79 #[] w fun e w' => e = .returned (t3v ⟨0, 1, 1⟩) ∧ Below w.heap.size w w' :=
  Nought_gen (n0 := 0) (n1 := 1) (fun w => int_any (n := 0) (by decide) w) (fun w => int_any (n := 1) (by decide) w) w
theorem plus_is (dd : Nat) (p q : Tr) : Tr.plus dd p q = ⟨mlN (mlN p.z q.z) (mlN (sbN (mlN (mlN p.z q.z) (mlN p.z q.z)) (mlN dd (mlN (mlN p.x q.x) (mlN p.y q.y)))) (adN (mlN p.x q.y) (mlN p.y q.x))),
    mlN (mlN p.z q.z) (mlN (adN (mlN (mlN p.z q.z) (mlN p.z q.z)) (mlN dd (mlN (mlN p.x q.x) (mlN p.y q.y)))) (adN (mlN p.y q.y) (mlN p.x q.x))),
    mlN (sbN (mlN (mlN p.z q.z) (mlN p.z q.z)) (mlN dd (mlN (mlN p.x q.x) (mlN p.y q.y)))) (adN (mlN (mlN p.z q.z) (mlN p.z q.z)) (mlN dd (mlN (mlN p.x q.x) (mlN p.y q.y))))⟩ := by with_unfolding_all rfl
theorem plus_ok (dd : Nat) (p q : Tr) : (Tr.plus dd p q).ok := by
  rw [plus_is]
  exact ⟨mlN_lt _ _, mlN_lt _ _, mlN_lt _ _⟩
theorem refplus_any {dd : Nat} (hd : dd < P25) {p q : Tr} (hp : p.ok) (hq : q.ok) (w : World) : Calls Tryz.prog 81 #[fv dd, t3v p, t3v q] w fun e w' => e = .returned (t3v (Tr.plus dd p q)) ∧ Below w.heap.size w w' := by
  obtain ⟨p1, p2, p3⟩ := hp
  obtain ⟨q1, q2, q3⟩ := hq
  have M := fun x y => mlN_lt x y
  have A := fun x y => adN_lt x y
  have S := fun x y => sbN_lt x y
  rw [plus_is]
  exact plus_gen (fun w => lMul p3 q3 w) (fun w => lMul (M _ _) (M _ _) w) (fun w => lMul p1 q1 w) (fun w => lMul p2 q2 w) (fun w => lMul p1 q2 w) (fun w => lMul p2 q1 w) (fun w => lAdd (M _ _) (M _ _) w) (fun w => lMul (M _ _) (M _ _) w) (fun w => lMul hd (M _ _) w)
    (fun w => lSub (M _ _) (M _ _) w) (fun w => lAdd (M _ _) (M _ _) w) (fun w => lMul (S _ _) (A _ _) w) (fun w => lMul (M _ _) (M _ _) w) (fun w => lAdd (M _ _) (M _ _) w) (fun w => lMul (A _ _) (A _ _) w) (fun w => lMul (M _ _) (M _ _) w) (fun w => lMul (S _ _) (A _ _) w) w
theorem lOf {x : Nat} (hx : x < W4) (w : World) : Calls Tryz.prog 93 #[nv x] w fun e w' => e = .returned (fv (x % P25)) ∧ Below w.heap.size w w' := rof_any hx w
theorem refPoint_any {t : Tr} (ht : t.ok) (w : World) : Calls Tryz.prog 42 #[t3v t] w fun e w' => e = .returned (prv (mlN t.x (ivN t.z)) (mlN t.y (ivN t.z))) ∧ Below w.heap.size w w' :=
  Point_gen (fun w => lInv ht.2.2 w) (fun w => lMul ht.1 (ivN_lt _) w) (fun w => rnum_any (lt_W (mlN_lt _ _)) w) (fun w => lMul ht.2.1 (ivN_lt _) w) (fun w => rnum_any (lt_W (mlN_lt _ _)) w) w
/-- Is it a point of the curve? -/
def okN (x y : Nat) : Bool := decide (x < P25) && (decide (y < P25) && onN x y)
end
end Go.Proofs.YtkbkalhcdbklkaaGreatDoor
