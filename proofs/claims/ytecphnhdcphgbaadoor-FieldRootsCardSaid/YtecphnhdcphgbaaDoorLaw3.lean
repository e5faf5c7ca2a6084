import Derived.Test.YtecphnhdcphgbaaDoorEqO
namespace Go.Proofs.YtecphnhdcphgbaaDoor
open Go Go.RowKit
theorem to_eq {F : FuncId} {args : Array Value} {x y : Nat} (e : x = y) {w : World} (h : Calls Tryd.prog F args w fun e w' => e = .returned (nv x) ∧ Below w.heap.size w w') : Calls Tryd.prog F args w fun e w' => e = .returned (nv y) ∧ Below w.heap.size w w' := e ▸ h
theorem three (a b c : Nat) (w : World) : ∃ v, v = ((w.alloc (A4 a)).alloc (A4 b)).alloc (A4 c) ∧ O4 v w.heap.size w.heap.size a ∧ O4 v w.heap.size (w.heap.size + 1) b ∧ O4 v w.heap.size (w.heap.size + 2) c ∧ Below w.heap.size w v := by
  have s1 : (w.alloc (A4 a)).heap.size = w.heap.size + 1 := by simp
  have s2 : ((w.alloc (A4 a)).alloc (A4 b)).heap.size = w.heap.size + 2 := by simp
  have ob := (O4.new (w := w.alloc (A4 a)) (B := w.heap.size) (by omega) b).alloc (A4 c)
  have oc := O4.new (w := (w.alloc (A4 a)).alloc (A4 b)) (B := w.heap.size) (by omega) c
  rw [s1] at ob
  rw [s2] at oc
  exact ⟨_, rfl, ((O4.new (w := w) (Nat.le_refl _) a).alloc (A4 b)).alloc (A4 c), ob, oc, (((Below.refl _ w).alloc (Nat.le_refl _) _).alloc (by omega) _).alloc (by omega) _⟩
theorem two (a b : Nat) (w : World) : ∃ v, v = (w.alloc (A4 a)).alloc (A4 b) ∧ O4 v w.heap.size w.heap.size a ∧ O4 v w.heap.size (w.heap.size + 1) b ∧ Below w.heap.size w v := by
  have s1 : (w.alloc (A4 a)).heap.size = w.heap.size + 1 := by simp
  have ob := O4.new (w := w.alloc (A4 a)) (B := w.heap.size) (by omega) b
  rw [s1] at ob
  exact ⟨_, rfl, (O4.new (w := w) (Nat.le_refl _) a).alloc (A4 b), ob, ((Below.refl _ w).alloc (Nat.le_refl _) _).alloc (by omega) _⟩
theorem keep444 {w : World} {B g x g' x' g'' x'' : Nat} (h : O4 w B g x) (h' : O4 w B g' x') (h'' : O4 w B g'' x'') : ∀ wz, Below w.heap.size w wz → wz.cell? ⟨g, 0, none⟩ = some (.int .u64 (wd x 0 : Int)) ∧ wz.cell? ⟨g, 1, none⟩ = some (.int .u64 (wd x 1 : Int)) ∧ wz.cell? ⟨g, 2, none⟩ = some (.int .u64 (wd x 2 : Int)) ∧ wz.cell? ⟨g, 3, none⟩ = some (.int .u64 (wd x 3 : Int)) ∧ wz.cell? ⟨g', 0, none⟩ = some (.int .u64 (wd x' 0 : Int)) ∧ wz.cell? ⟨g', 1, none⟩ = some (.int .u64 (wd x' 1 : Int)) ∧ wz.cell? ⟨g', 2, none⟩ = some (.int .u64 (wd x' 2 : Int)) ∧ wz.cell? ⟨g', 3, none⟩ = some (.int .u64 (wd x' 3 : Int)) ∧ wz.cell? ⟨g'', 0, none⟩ = some (.int .u64 (wd x'' 0 : Int)) ∧ wz.cell? ⟨g'', 1, none⟩ = some (.int .u64 (wd x'' 1 : Int)) ∧ wz.cell? ⟨g'', 2, none⟩ = some (.int .u64 (wd x'' 2 : Int)) ∧ wz.cell? ⟨g'', 3, none⟩ = some (.int .u64 (wd x'' 3 : Int)) := fun wz hz => by
  obtain ⟨a0, a1, a2, a3⟩ := (h.keep hz).c4
  obtain ⟨b0, b1, b2, b3⟩ := (h'.keep hz).c4
  obtain ⟨c0, c1, c2, c3⟩ := (h''.keep hz).c4
  exact ⟨a0, a1, a2, a3, b0, b1, b2, b3, c0, c1, c2, c3⟩
theorem rt0_pm (a : Nat) : rt0 a = pm P25 256 a RE := (pm_eq P25 256 a RE (by decide +kernel)).symm
theorem l_254 : nv 28948022309329048855892746252171976963317496166410141009864396001978282409984 = lit4 0 0 0 4611686018427387904 := by kernel_rfl
def pt1 (z a : Nat) : Nat := if z * z % P25 = a then z else z * IM % P25
def pt2 (z a : Nat) : Nat := if bt (pt1 z a) 0 = 0 then pt1 z a else fsub 0 (pt1 z a)
def ptq (z a : Nat) : Nat := if pt2 z a * pt2 z a % P25 = a then 1 else 0
def ptr (z a : Nat) : Nat := if pt2 z a * pt2 z a % P25 = a then pt2 z a else 0
theorem rt_pt (a z : Nat) (h : rt0 a = z) : rtr a = ptr z a ∧ rtq a = ptq z a := by
  subst h
  exact ⟨rfl, rfl⟩
def z4 : Nat := pm P25 256 4 RE
def z2 : Nat := pm P25 256 2 RE
theorem rt_four : rtr (4 % P25) = 2 ∧ rtq (4 % P25) = 1 ∧ rtq (2 % P25) = 0 ∧ rtr (2 % P25) = 0 := by
  have h4 : 4 % P25 = 4 := by decide +kernel
  have h2 : 2 % P25 = 2 := by decide +kernel
  obtain ⟨a1, a2⟩ := rt_pt 4 z4 (rt0_pm 4)
  obtain ⟨b1, b2⟩ := rt_pt 2 z2 (rt0_pm 2)
  rw [h4, h2, a1, a2, b1, b2]
  decide +kernel
attribute [local irreducible] wd by8
set_option maxRecDepth 20000
set_option maxHeartbeats 800000 in
theorem awake_any (w : World) (hG : Glb w) : Calls Tryd.prog 17 #[] w fun e w' => e = .returned (.bool true) ∧ Below w.heap.size w w' := by
  have k1 : ∀ w, Glb w → Calls Tryd.prog 18 #[lit4 4 0 0 0] w fun e w' => e = .returned (.tuple #[nv 2, .bool true]) ∧ Below w.heap.size w w' := fun w hG => by
    have h := froot_any (a := 4) (by decide +kernel) w hG
    rw [rt_four.1, rt_four.2.1, nv_small (x := 4) (by decide)] at h
    exact h
  have k2 : ∀ w, Glb w → Calls Tryd.prog 18 #[lit4 2 0 0 0] w fun e w' => e = .returned (.tuple #[nv 0, .bool false]) ∧ Below w.heap.size w w' := fun w hG => by
    have h := froot_any (a := 2) (by decide +kernel) w hG
    rw [rt_four.2.2.1, rt_four.2.2.2, nv_small (x := 2) (by decide)] at h
    exact h
  have k3 : ∀ w, Calls Tryd.prog 33 #[lit4 0 0 0 4611686018427387904, lit4 2 0 0 0] w fun e w' => e = .returned (nv 19) ∧ Below w.heap.size w w' := fun w => by
    have h := fmul_any (x := 28948022309329048855892746252171976963317496166410141009864396001978282409984) (y := 2) (by decide +kernel) (by decide +kernel) w
    rw [nv_small (x := 2) (by decide), l_254, show 28948022309329048855892746252171976963317496166410141009864396001978282409984 * 2 % P25 = 19 by decide +kernel] at h
    exact h
  have q1 := eq4_self 2
  have q2 := eq4_self 19
  rw [nv_small (x := 2) (by decide)] at q1 k1
  rw [nv_small (x := 19) (by decide)] at q2 k3
  rw [nv_small (x := 0) (by decide)] at k2
  have Q1 := Lib.hid q1
  have Q2 := Lib.hid q2
  have K1 := Lib.hid k1
  have K2 := Lib.hid k2
  have K3 := Lib.hid k3
  have HG := Lib.hid hG
  clear q1 q2 k1 k2 k3 hG
  go_enter Tryd.func17, Tryd.ntmps17
  go_wp2_with fail
  go_at_call 18
  refine (K1.out _ HG.out).mono ?_
  rintro e v1 ⟨rfl, h0⟩
  have o2 := OwnF.lit (w := v1) (B := w.heap.size) 24 h0.size #[.int .u64 2, .int .u64 0, .int .u64 0, .int .u64 0] 4 (fun k => if k = 0 then .int .u64 2 else .int .u64 0) (by decide) rfl
  have hc := h0.alloc h0.size (.cells #[.int .u64 2, .int .u64 0, .int .u64 0, .int .u64 0] 24)
  have hG1 := Lib.hid (HG.out.keep hc HG.out.pos)
  clear h0
  go_wp2_with fail
  go_at_call 18
  refine (K2.out _ hG1.out).mono ?_
  rintro e v2 ⟨rfl, h0⟩
  replace o2 := (OwnF.keep o2 h0).keep ((Below.refl _ v2).alloc (Nat.le_refl _) (.cells #[.int .u64 0, .int .u64 0, .int .u64 0, .int .u64 0] 24))
  replace hc := (hc.trans (h0.mono hc.size)).alloc (Nat.le_trans hc.size h0.size) (.cells #[.int .u64 0, .int .u64 0, .int .u64 0, .int .u64 0] 24)
  clear h0 hG1
  go_wp2_with fail
  go_at_call 33
  refine (K3.out _).mono ?_
  rintro e v3 ⟨rfl, h0⟩
  replace o2 := OwnF.keep o2 h0
  replace hc := hc.trans (h0.mono hc.size)
  have c0 := OwnF.cell o2 (k := 0) (by decide)
  have c1 := OwnF.cell o2 (k := 1) (by decide)
  have c2 := OwnF.cell o2 (k := 2) (by decide)
  have c3 := OwnF.cell o2 (k := 3) (by decide)
  simp only [if_true, show (1 : Nat) ≠ 0 by decide, show (2 : Nat) ≠ 0 by decide, show (3 : Nat) ≠ 0 by decide, if_false] at c0 c1 c2 c3
  clear h0 o2
  go_wp2_with (first | ((with_reducible refine gate_list .eql 24 ?_); refine wpList_eqlA 24 _ _ _ rfl rfl rfl rfl (guard4 _ _ _ _ _) (by first | exact Q1.out _ | exact Q2.out _) ?_) | ((with_reducible refine gate_listG .eql 24 ?_); refine wpList_eqlG 24 _ _ _ rfl rfl rfl rfl (guard4 _ _ _ _ _) (by first | exact Q1.out _ | exact Q2.out _) ?_) | ((with_reducible refine gate_wp .eql 24 ?_); refine wp_eqlA 24 _ _ _ rfl rfl rfl (guard4 _ _ _ _ _) (by first | exact Q1.out _ | exact Q2.out _) ?_))
  go_ret
  exact ⟨rfl, hc⟩
end Go.Proofs.YtecphnhdcphgbaaDoor
