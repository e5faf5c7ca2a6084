/-
  Layer 15, the document's At; Same. By an AI agent.
-/
import Derived.Test.YtljciakgdpihdaaTD
import Derived.Test.YtljciakgdpihdaaFa1
namespace Go.Proofs.Ytljciakgdpihdaa
open Go Go.RowKit
set_option maxRecDepth 20000
/-- The i-th that is not dropped. -/
def atR (L : List Ins) (G : List IDt) (i : Int) : IDt × Int := if i < 0 ∨ ((liveL G (nodesL L)).length : Int) ≤ i then ((0, 0), 6) else ((((liveL G (nodesL L))[i.toNat]?).map Ins.id).getD (0, 0), 0)
set_option maxHeartbeats 3200000 in
theorem rat_any {v : Value} {B : Nat} {L : List Ins} {G : List IDt} (hok : Ok L) (hl : L.length ≤ 4096) (hg : G.length ≤ 1000000) (i : Int) (w : World) (h : RdT w B v L G) (hB : B ≤ w.heap.size) :
    Calls Try.prog 22 #[v, .int .i64 i] w fun e w' => e = .returned (.tuple #[idV (atR L G i).1, .int .i64 (atR L G i).2]) ∧ Below w.heap.size w w' := by
  obtain ⟨A1, c1, A2, c2, rfl, r1, r2⟩ := h
  obtain ⟨g, eg⟩ : ∃ g, g = w.heap.size := ⟨_, rfl⟩
  obtain ⟨va, eva⟩ : ∃ v, v = w.alloc (.cells #[.slice A1 L.length c1, .slice A2 G.length c2] 29) := ⟨_, rfl⟩
  obtain ⟨v1, ev⟩ : ∃ v, v = va.alloc (.cells #[.int .i64 0, .int .i64 0] 31) := ⟨_, rfl⟩
  have hba : Below w.heap.size w va := by rw [eva]; exact (Below.refl _ _).alloc (Nat.le_refl _) _
  have hsa : va.heap.size = g + 1 := by rw [eva, eg]; simp
  have hqa : va.cell? ⟨g, 0, none⟩ = some (.slice A1 L.length c1) ∧ va.cell? ⟨g, 1, none⟩ = some (.slice A2 G.length c2) := by
    rw [eva, eg]
    simp
  have hb1 : Below va.heap.size va v1 := by rw [ev]; exact (Below.refl _ _).alloc (Nat.le_refl _) _
  have hb : Below w.heap.size w v1 := hba.trans (hb1.mono hba.size)
  have q0 := (hb1.cell (p := ⟨g, 0, none⟩) (show g < va.heap.size by omega)).trans hqa.1
  have q1 := (hb1.cell (p := ⟨g, 1, none⟩) (show g < va.heap.size by omega)).trans hqa.2
  have ho : O2 v1 w.heap.size 31 (g + 1) (.int .i64 0) (.int .i64 0) := by
    have h0 := O2.newz (w := va) (B := w.heap.size) hba.size 31 (.int .i64 0) (.int .i64 0)
    rw [← ev, hsa] at h0
    exact h0
  have KL := rlive_any hok hl hg v1 ⟨A1, c1, A2, c2, rfl, r1.keep (hb.mono hB), r2.keep (hb.mono hB)⟩ (Nat.le_trans hB hb.size)
  obtain ⟨M, eM⟩ : ∃ M, M = liveL G (nodesL L) := ⟨_, rfl⟩
  obtain ⟨m, em⟩ : ∃ m, m = M.length := ⟨_, rfl⟩
  rw [← eM, ← em] at KL
  obtain ⟨R, eR⟩ : ∃ R, R = atR L G i := ⟨_, rfl⟩
  have hR : R = if i < 0 ∨ (m : Int) ≤ i then ((0, 0), 6) else (((M[i.toNat]?).map Ins.id).getD (0, 0), 0) := by rw [eR, em, eM]; rfl
  rw [← eR]
  have hmb : m ≤ 4096 := by rw [em, eM]; exact Nat.le_trans (List.length_filter_le _ _) (Nat.le_trans (nodes_len hok) hl)
  have KL := Lib.hid KL
  have HR := Lib.hid hR
  have HM := Lib.hid (And.intro em hmb)
  have HV := Lib.hid (And.intro (And.intro eva ev) eg)
  have HQ := Lib.hid (And.intro hb ho)
  clear hba hsa hqa hb1 hb ho r1 r2 hok hl hg hB eM em eR hR hmb eva ev eg
  go_enter Try.func22, Try.ntmps22
  go_upto_region 1 with fail
  rw [← HV.out.1.1, ← HV.out.1.2, show (Value.pointer (some ⟨w.heap.size, 0, none⟩)) = .pointer (some ⟨g, 0, none⟩) by rw [HV.out.2], show (Value.pointer (some ⟨w.heap.size + 1, 0, none⟩)) = .pointer (some ⟨g + 1, 0, none⟩) by rw [HV.out.2]]
  clear HV
  go_wp2_with fail
  go_at_call 20
  refine KL.out.mono ?_
  rintro e v2 ⟨A, c, rfl, o2, h2⟩
  have ob : O2 v2 w.heap.size 31 (g + 1) _ _ := OwnF.keep HQ.out.2 h2
  have f0 := ob.f0
  have f1 := ob.f1
  have z0 := ob.c0
  have z1 := ob.c1
  have HB2 := Lib.hid (And.intro (HQ.out.1.trans (h2.mono HQ.out.1.size)) ob)
  have HO2 := Lib.hid o2.rd
  clear q0 q1 h2 o2 ob KL
  by_cases h1 : i < 0
  · have HX := Lib.hid (show R = ((0, 0), 6) by rw [HR.out, if_pos (.inl h1)])
    have o3 := HB2.out.2.set_ (.int .i64 0) (.int .i64 0)
    have HO := Lib.hid (And.intro o3 (HB2.out.1.trans (HB2.out.2.below (.int .i64 0) (.int .i64 0))))
    clear o3
    go_wp2_with fail
    refine bodyPost_ret (id_res2 Try.results22 _ HO.out.1 rfl rfl) rfl ?_
    rw [HX.out]
    exact ⟨rfl, HO.out.2⟩
  obtain ⟨k, rfl⟩ : ∃ k : Nat, i = (k : Int) := ⟨i.toNat, by omega⟩
  have g0 : ¬ (k : Int) < 0 := h1
  by_cases h2 : m ≤ k
  · have HX := Lib.hid (show R = ((0, 0), 6) by rw [HR.out, if_pos (.inr (by omega))])
    have g1 : (m : Int) ≤ (k : Int) := by omega
    have o3 := HB2.out.2.set_ (.int .i64 0) (.int .i64 0)
    have HO := Lib.hid (And.intro o3 (HB2.out.1.trans (HB2.out.2.below (.int .i64 0) (.int .i64 0))))
    clear o3 h1 h2
    go_wp2_with fail
    refine bodyPost_ret (id_res2 Try.results22 _ HO.out.1 rfl rfl) rfl ?_
    rw [HX.out]
    exact ⟨rfl, HO.out.2⟩
  obtain ⟨y, hy⟩ : ∃ y, M[k]? = some y := getD_of (by rw [← HM.out.1]; omega)
  have hy2 : (M.map (nodeOf G))[k]? = some (nodeOf G y) := by rw [List.getElem?_map, hy]; rfl
  obtain ⟨b, o, rfl, hbB, y0, y1, _, _⟩ := nod_at HO2.out hy2
  have HX := Lib.hid (show R = (y.id, 0) by rw [HR.out, if_neg (by omega), Int.toNat_natCast, hy]; rfl)
  have g1 : (k : Int) < (m : Int) := by omega
  have g2 : m ≤ 4096 := HM.out.2
  have y0' : v2.cell? ⟨b, o + k * 4, none⟩ = some (.int .i64 y.id.1) := y0
  have y1' : v2.cell? ⟨b, o + k * 4 + 1, none⟩ = some (.int .i64 y.id.2) := y1
  have o3 := HB2.out.2.set_ (.int .i64 y.id.1) (.int .i64 y.id.2)
  have HO := Lib.hid (And.intro o3 (HB2.out.1.trans (HB2.out.2.below (.int .i64 y.id.1) (.int .i64 y.id.2))))
  clear o3 h1 h2 hy hy2 hbB y0 y1
  go_wp2_with fail
  refine bodyPost_ret (id_res2 Try.results22 _ HO.out.1 rfl rfl) rfl ?_
  rw [HX.out]
  exact ⟨rfl, HO.out.2⟩
end Go.Proofs.Ytljciakgdpihdaa
