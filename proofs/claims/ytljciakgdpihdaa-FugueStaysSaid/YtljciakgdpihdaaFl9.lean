/-
  Layer 15: FugueNobody. By an AI agent.
-/
import Derived.Test.YtljciakgdpihdaaFl6
import Derived.Test.YtljciakgdpihdaaFl8
import Derived.Test.YtljciakgdpihdaaFu17
import Derived.Test.YtljciakgdpihdaaFu4
import Derived.Test.YtljciakgdpihdaaFu6
import Derived.Test.YtljciakgdpihdaaFu9
namespace Go.Proofs.Ytljciakgdpihdaa
open Go Go.RowKit
set_option maxRecDepth 20000
set_option maxHeartbeats 12800000 in
theorem fuguenobody_law {R : TreeP} (K : FugC R) (x : Ins) (n : Int) (w : World) :
    Calls Try.prog 10 #[insV x, .int .i64 n] w fun e w' => e = .returned (.bool true) ∧ Below w.heap.size w w' := by
  obtain ⟨v1, ev⟩ : ∃ v, v = w.alloc (.cells #[.int .i64 x.id.1, .int .i64 x.id.2, .int .i64 x.par.1, .int .i64 x.par.2, .bool x.right, .int .i32 x.rune] 33) := ⟨_, rfl⟩
  obtain ⟨g, eg⟩ : ∃ g, g = w.heap.size := ⟨_, rfl⟩
  have hb : Below w.heap.size w v1 := by rw [ev]; exact (Below.refl _ _).alloc (Nat.le_refl _) _
  have hg : g < v1.heap.size := by rw [ev, eg]; simp
  have hq : v1.cell? ⟨g, 0, none⟩ = some (.int .i64 x.id.1) ∧ v1.cell? ⟨g, 1, none⟩ = some (.int .i64 x.id.2) ∧ v1.cell? ⟨g, 2, none⟩ = some (.int .i64 x.par.1) ∧ v1.cell? ⟨g, 3, none⟩ = some (.int .i64 x.par.2) ∧ v1.cell? ⟨g, 4, none⟩ = some (.bool x.right) ∧ v1.cell? ⟨g, 5, none⟩ = some (.int .i32 x.rune) := by rw [ev, eg]; simp
  have HX := Lib.hid (fun wz (hz : Below v1.heap.size v1 wz) => show wz.cell? ⟨g, 0, none⟩ = some (.int .i64 x.id.1) ∧ wz.cell? ⟨g, 1, none⟩ = some (.int .i64 x.id.2) ∧ wz.cell? ⟨g, 2, none⟩ = some (.int .i64 x.par.1) ∧ wz.cell? ⟨g, 3, none⟩ = some (.int .i64 x.par.2) ∧ wz.cell? ⟨g, 4, none⟩ = some (.bool x.right) ∧ wz.cell? ⟨g, 5, none⟩ = some (.int .i32 x.rune) from by
    obtain ⟨q0, q1, q2, q3, q4, q5⟩ := hq
    exact ⟨(hz.cell (p := ⟨g, 0, none⟩) hg).trans q0, (hz.cell (p := ⟨g, 1, none⟩) hg).trans q1, (hz.cell (p := ⟨g, 2, none⟩) hg).trans q2, (hz.cell (p := ⟨g, 3, none⟩) hg).trans q3, (hz.cell (p := ⟨g, 4, none⟩) hg).trans q4, (hz.cell (p := ⟨g, 5, none⟩) hg).trans q5⟩)
  have HB := Lib.hid hb
  have HV := Lib.hid (And.intro ev eg)
  clear ev eg hb hg hq
  go_enter Try.func10, Try.ntmps10
  go_upto_region 1 with fail
  rw [← HV.out.1, ← HV.out.2]
  clear HV
  go_wp2_with fail
  go_at_call 21
  refine (at_nil n v1).mono ?_
  rintro z va ⟨rfl, h0⟩
  obtain ⟨vb, evb⟩ : ∃ v, v = va.alloc (.cells #[.int .i64 0, .int .i64 0] 31) := ⟨_, rfl⟩
  obtain ⟨ga, ega⟩ : ∃ g, g = va.heap.size := ⟨_, rfl⟩
  have hbb : Below v1.heap.size v1 vb := by rw [evb]; exact h0.alloc h0.size _
  have oa : O2 vb v1.heap.size 31 ga (.int .i64 0) (.int .i64 0) := by rw [evb, ega]; exact O2.newz h0.size _ _ _
  have HA := Lib.hid (And.intro hbb oa)
  have HV := Lib.hid (And.intro evb ega)
  clear evb ega hbb oa h0
  go_upto_region 3 with fail
  rw [← HV.out.1, ← HV.out.2]
  clear HV
  go_wp2_with fail
  go_at_call 23
  refine (plan_nil n vb).mono ?_
  rintro z vc ⟨rfl, h0⟩
  obtain ⟨vd, evd⟩ : ∃ v, v = vc.alloc (.cells #[.int .i64 0, .int .i64 0] 31) := ⟨_, rfl⟩
  obtain ⟨gd, egd⟩ : ∃ g, g = vc.heap.size := ⟨_, rfl⟩
  have hbd : Below vb.heap.size vb vd := by rw [evd]; exact h0.alloc h0.size _
  have od : O2 vd vb.heap.size 31 gd (.int .i64 0) (.int .i64 0) := by rw [evd, egd]; exact O2.newz h0.size _ _ _
  have HD := Lib.hid (And.intro (HA.out.1.trans (hbd.mono HA.out.1.size)) (And.intro (OwnF.keep HA.out.2 hbd : O2 vd v1.heap.size 31 ga (.int .i64 0) (.int .i64 0)) od))
  have HV := Lib.hid (And.intro evd egd)
  clear evd egd hbd od h0 HA
  go_upto_region 4 with fail
  rw [← HV.out.1, ← HV.out.2]
  clear HV
  go_wp2_with fail
  go_at_call 27
  refine (all_nil vd).mono ?_
  rintro z ve ⟨gf, rfl, cf, hgf, h0⟩
  have HE := Lib.hid (And.intro (HD.out.1.trans (h0.mono HD.out.1.size)) (And.intro (OwnF.keep HD.out.2.1 h0 : O2 ve v1.heap.size 31 ga (.int .i64 0) (.int .i64 0)) (And.intro (OwnF.keep HD.out.2.2 h0 : O2 ve vb.heap.size 31 gd (.int .i64 0) (.int .i64 0)) cf)))
  have hmf := hmk
  have hfn := fun (w : World) => func_nil 53 #[] #[pB gf] w
  clear cf hgf h0 HD
  go_upto_region 8 with fail
  obtain ⟨vf, evf⟩ : ∃ v, v = ve.alloc (.cells #[.int .i64 0] 3) := ⟨_, rfl⟩
  obtain ⟨gs, egs⟩ : ∃ g, g = ve.heap.size := ⟨_, rfl⟩
  have hbf : Below ve.heap.size ve vf := by rw [evf]; exact (Below.refl _ _).alloc (Nat.le_refl _) _
  have cs : C1 vf gs 3 (.int .i64 0) := by rw [evf, egs]; exact C1.newz _ _ _
  have HF := Lib.hid (show C1 vf gf 39 (.slice none 0 0) from (hbf.block gf (lt_of_heap HE.out.2.2.2)).trans HE.out.2.2.2)
  have HS := Lib.hid (fun wz (hz : Below vf.heap.size vf wz) => show (wz.cell? ⟨g, 0, none⟩ = some (.int .i64 x.id.1) ∧ wz.cell? ⟨g, 1, none⟩ = some (.int .i64 x.id.2) ∧ wz.cell? ⟨g, 2, none⟩ = some (.int .i64 x.par.1) ∧ wz.cell? ⟨g, 3, none⟩ = some (.int .i64 x.par.2) ∧ wz.cell? ⟨g, 4, none⟩ = some (.bool x.right) ∧ wz.cell? ⟨g, 5, none⟩ = some (.int .i32 x.rune)) ∧ wz.cell? ⟨ga, 0, none⟩ = some (.int .i64 0) ∧ wz.cell? ⟨ga, 1, none⟩ = some (.int .i64 0) ∧ wz.cell? ⟨gd, 0, none⟩ = some (.int .i64 0) ∧ wz.cell? ⟨gd, 1, none⟩ = some (.int .i64 0) ∧ wz.cell? ⟨gs, 0, none⟩ = some (.int .i64 0) from by
    have hez := hbf.trans (hz.mono hbf.size)
    have oa : O2 wz v1.heap.size 31 ga (.int .i64 0) (.int .i64 0) := OwnF.keep HE.out.2.1 hez
    have od : O2 wz vb.heap.size 31 gd (.int .i64 0) (.int .i64 0) := OwnF.keep HE.out.2.2.1 hez
    exact ⟨HX.out wz (HE.out.1.trans (hez.mono HE.out.1.size)), oa.c0, oa.c1, od.c0, od.c1, C1.cell ((hz.block gs (lt_of_heap cs)).trans cs)⟩)
  have HBF := Lib.hid (HB.out.trans ((HE.out.1.trans (hbf.mono HE.out.1.size)).mono HB.out.size))
  have HV := Lib.hid (And.intro evf egs)
  clear evf egs hbf cs hfn HE HX HB
  rw [← HV.out.1, ← HV.out.2]
  clear HV
  go_wp2_with fail
  go_at_call 53
  refine (iter_none _ vf HF.out).mono ?_
  rintro z vg ⟨rfl, evg⟩
  rw [evg]
  clear evg vg HF
  obtain ⟨⟨k0, k1, k2, k3, k4, k5⟩, k6, k7, k8, k9, k10⟩ := HS.out vf (Below.refl _ _)
  have HZ := Lib.hid (Below.refl vf.heap.size vf)
  go_wp2_with fail
  go_at_call 30
  refine (add_nil x vf).mono ?_
  rintro z w1 ⟨rfl, h0⟩
  have HZ' := Lib.hid (HZ.out.trans (h0.mono HZ.out.size))
  clear h0 HZ k0 k1 k2 k3 k4 k5 k6 k7 k8 k9 k10
  have HZ := HZ'
  clear HZ'
  obtain ⟨⟨k0, k1, k2, k3, k4, k5⟩, k6, k7, k8, k9, k10⟩ := HS.out w1 HZ.out
  go_wp2_with fail
  go_at_call 33
  refine (drop_nil x.id w1).mono ?_
  rintro z w2 ⟨rfl, h0⟩
  have HZ' := Lib.hid (HZ.out.trans (h0.mono HZ.out.size))
  clear h0 HZ k0 k1 k2 k3 k4 k5 k6 k7 k8 k9 k10
  have HZ := HZ'
  clear HZ'
  obtain ⟨⟨k0, k1, k2, k3, k4, k5⟩, k6, k7, k8, k9, k10⟩ := HS.out w2 HZ.out
  go_wp2_with fail
  go_at_call 25
  refine (has_nil x.id w2).mono ?_
  rintro z w3 ⟨rfl, h0⟩
  have HZ' := Lib.hid (HZ.out.trans (h0.mono HZ.out.size))
  clear h0 HZ k0 k1 k2 k3 k4 k5 k6 k7 k8 k9 k10
  have HZ := HZ'
  clear HZ'
  obtain ⟨⟨k0, k1, k2, k3, k4, k5⟩, k6, k7, k8, k9, k10⟩ := HS.out w3 HZ.out
  go_wp2_with fail
  go_at_call 19
  refine (len_nil w3).mono ?_
  rintro z vx ⟨rfl, evx⟩
  rw [evx]
  clear evx vx
  go_wp2_with fail
  go_at_call 15
  refine (nodes_nil w3).mono ?_
  rintro z w4 ⟨rfl, h0⟩
  have HZ' := Lib.hid (HZ.out.trans (h0.mono HZ.out.size))
  clear h0 HZ k0 k1 k2 k3 k4 k5 k6 k7 k8 k9 k10
  have HZ := HZ'
  clear HZ'
  obtain ⟨⟨k0, k1, k2, k3, k4, k5⟩, k6, k7, k8, k9, k10⟩ := HS.out w4 HZ.out
  go_wp2_with fail
  go_at_call 17
  refine (text_nil w4).mono ?_
  rintro z w5 ⟨rfl, h0⟩
  have HZ' := Lib.hid (HZ.out.trans (h0.mono HZ.out.size))
  clear h0 HZ k0 k1 k2 k3 k4 k5 k6 k7 k8 k9 k10
  have HZ := HZ'
  clear HZ'
  obtain ⟨⟨k0, k1, k2, k3, k4, k5⟩, k6, k7, k8, k9, k10⟩ := HS.out w5 HZ.out
  go_wp2_with fail
  go_at_call 31
  refine (clone_nil w5).mono ?_
  rintro z vx ⟨rfl, evx⟩
  rw [evx]
  clear evx vx
  go_wp2_with fail
  go_at_call 11
  refine (awake15 K w5).mono ?_
  rintro z v9 ⟨rfl, h0⟩
  have H9 := Lib.hid (HBF.out.trans ((HZ.out.trans (h0.mono HZ.out.size)).mono HBF.out.size))
  clear h0
  go_wp2_with fail
  go_ret
  exact ⟨rfl, H9.out⟩
end Go.Proofs.Ytljciakgdpihdaa
