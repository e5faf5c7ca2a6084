/-
  Layer 16: MarksGrow. By an AI agent.
-/
import Derived.Test.YtpjeggbkhbghaaaTP
import Derived.Test.YtpjeggbkhbghaaaMg1
import Derived.Test.YtpjeggbkhbghaaaMq1
import Derived.Test.YtpjeggbkhbghaaaTN
namespace Go.Proofs.Ytpjeggbkhbghaaa
open Go Go.RowKit
set_option maxRecDepth 20000
section
variable {R : TreeP} (K : FugC R) {B : BookP} (M : MarkC B)
include K M
set_option maxHeartbeats 6400000 in
theorem marksgrow_law {A1 A2 A3 : Option Addr} {n1 c1 n2 c2 n3 c3 : Nat} {es : List Ins} {ds : List IDt} {ms : List Mrk} (i : Int) (id : IDt) (w : World) (pg : PgR w A1 n1 c1 A2 n2 c2 A3 n3 c3 es ds ms) :
    Calls Try.prog 8 #[pageV A1 n1 c1 A2 n2 c2 A3 n3 c3, .int .i64 i, idV id] w fun e w' => e = .returned (.bool true) ∧ Below w.heap.size w w' := by
  obtain ⟨v0, ev0⟩ : ∃ v, v = w.alloc (.cells #[.slice A1 n1 c1, .slice A2 n2 c2, .slice A3 n3 c3] 45) := ⟨_, rfl⟩
  obtain ⟨g, eg⟩ : ∃ g, g = w.heap.size := ⟨_, rfl⟩
  obtain ⟨v1, ev⟩ : ∃ v, v = v0.alloc (.cells #[.int .i64 id.1, .int .i64 id.2] 27) := ⟨_, rfl⟩
  obtain ⟨gi, egm0⟩ : ∃ g, g = w.heap.size + 1 := ⟨_, rfl⟩
  have egm : gi = v0.heap.size := by rw [egm0, ev0]; simp
  have hb0 : Below w.heap.size w v0 := by rw [ev0]; exact (Below.refl _ _).alloc (Nat.le_refl _) _
  have hb1 : Below v0.heap.size v0 v1 := by rw [ev]; exact (Below.refl _ _).alloc (Nat.le_refl _) _
  have hb : Below w.heap.size w v1 := hb0.trans (hb1.mono hb0.size)
  have hq0 : v0.cell? ⟨g, 0, none⟩ = some (.slice A1 n1 c1) ∧ v0.cell? ⟨g, 1, none⟩ = some (.slice A2 n2 c2) ∧ v0.cell? ⟨g, 2, none⟩ = some (.slice A3 n3 c3) := by
    rw [ev0, eg]
    simp
  have hg0 : g < v0.heap.size := by rw [ev0, eg]; simp
  have hq : v1.cell? ⟨g, 0, none⟩ = some (.slice A1 n1 c1) ∧ v1.cell? ⟨g, 1, none⟩ = some (.slice A2 n2 c2) ∧ v1.cell? ⟨g, 2, none⟩ = some (.slice A3 n3 c3) := ⟨(hb1.cell (p := ⟨g, 0, none⟩) hg0).trans hq0.1, (hb1.cell (p := ⟨g, 1, none⟩) hg0).trans hq0.2.1, (hb1.cell (p := ⟨g, 2, none⟩) hg0).trans hq0.2.2⟩
  have hg : g < v1.heap.size := Nat.lt_of_lt_of_le hg0 hb1.size
  have oid : O2 v1 w.heap.size 27 gi (.int .i64 id.1) (.int .i64 id.2) := by rw [ev, egm]; exact O2.newz hb0.size _ _ _
  have HGL := Lib.hid (show gi < v1.heap.size from OwnF.lt oid)
  have HID := Lib.hid (fun wz (hz : Below v1.heap.size v1 wz) => (OwnF.keep oid hz : O2 wz w.heap.size 27 gi (.int .i64 id.1) (.int .i64 id.2)))
  have HB := Lib.hid hb
  have HV := Lib.hid (And.intro ev0 (And.intro ev (And.intro egm0 eg)))
  have HQ := Lib.hid (fun wz (hz : Below v1.heap.size v1 wz) => And.intro ((hz.cell (p := ⟨g, 0, none⟩) hg).trans hq.1) (And.intro ((hz.cell (p := ⟨g, 1, none⟩) hg).trans hq.2.1) ((hz.cell (p := ⟨g, 2, none⟩) hg).trans hq.2.2)))
  have HPG := Lib.hid (fun wz (hz : Below v1.heap.size v1 wz) => (pg.next (hb.trans (hz.mono hb.size)) : PgR wz A1 n1 c1 A2 n2 c2 A3 n3 c3 es ds ms))
  have HFW := Lib.hid (few_any v1 (A1 := A1) (n1 := n1) (c1 := c1) (A2 := A2) (n2 := n2) (c2 := c2) (A3 := A3) (n3 := n3) (c3 := c3))
  obtain ⟨fw, efw⟩ : ∃ b, b = fewB n1 n2 n3 := ⟨_, rfl⟩
  rw [← efw] at HFW
  have HE := Lib.hid efw
  obtain ⟨q0, q1, q2⟩ := hq
  clear ev0 eg ev egm egm0 hb0 hb1 hq0 hg0 oid hb hg pg efw
  go_enter Try.func8, Try.ntmps8
  go_upto_region 1 with fail
  rw [← HV.out.1, ← HV.out.2.1, ← HV.out.2.2.1, ← HV.out.2.2.2]
  clear HV
  go_wp2_with fail
  go_at_call 21
  refine HFW.out.mono ?_
  rintro e v2 ⟨rfl, h2⟩
  have HB2 := Lib.hid h2
  clear h2 HFW q0 q1 q2
  cases fw with
  | false =>
    go_wp2_with fail
    go_at_call 10
    refine (awake16 K M v2).mono ?_
    rintro e v3 ⟨rfl, h3⟩
    have H3 := Lib.hid (HB.out.trans ((HB2.out.trans (h3.mono HB2.out.size)).mono HB.out.size))
    clear h3
    go_wp2_with fail
    go_ret
    exact ⟨rfl, H3.out⟩
  | true =>
  have hfew := few_parts HE.out.symm
  have HF := Lib.hid hfew
  clear hfew
  obtain ⟨q0, q1, q2⟩ := HQ.out v2 HB2.out
  have HTX := Lib.hid (text16_any K v2 (A3 := A3) (n3 := n3) (c3 := c3) (HPG.out v2 HB2.out).r1 (HPG.out v2 HB2.out).r2 (HPG.out v2 HB2.out).l1 (HPG.out v2 HB2.out).l2 HF.out.1 HF.out.2.1)
  go_wp2_with fail
  go_at_call 22
  refine HTX.out.mono ?_
  rintro e v3 ⟨p, FT, A4, c4, rfl, hT, hFT, rN, h3⟩
  have HNT := Lib.hid (show ∀ k, FT k → v2.heap.size ≤ k from hFT)
  have HGI := Lib.hid (show gi < v2.heap.size from Nat.lt_of_lt_of_le HGL.out HB2.out.size)
  have HB3 := Lib.hid (HB2.out.trans (h3.mono HB2.out.size))
  have HT3 := Lib.hid (And.intro hT (And.intro (show ∀ k, FT k → w.heap.size ≤ k from fun k hk => Nat.le_trans HB.out.size (Nat.le_trans HB2.out.size (hFT k hk))) rN))
  clear hT hFT rN h3 HTX q0 q1 q2
  obtain ⟨q0, q1, q2⟩ := HQ.out v3 HB3.out
  have HBK := Lib.hid (book16_any M v3 (A1 := A1) (n1 := n1) (c1 := c1) (A2 := A2) (n2 := n2) (c2 := c2) (HPG.out v3 HB3.out).r3 (HPG.out v3 HB3.out).l3 HF.out.2.2)
  go_wp2_with fail
  go_at_call 23
  refine HBK.out.mono ?_
  rintro e v4 ⟨b, A5, c5, rfl, FB, bB, rL, hA5, hFB, h4⟩
  obtain ⟨T, eT⟩ : ∃ t, t = pageT es ds := ⟨_, rfl⟩
  obtain ⟨L, eL⟩ : ∃ l, l = maddsL [] ms := ⟨_, rfl⟩
  rw [← eT] at HT3
  rw [← eL] at bB rL
  rw [← eT, ← eL]
  have hok := page_ok (es := es) (ds := ds) (by rw [(HPG.out v3 HB3.out).l1]; exact HF.out.1) (by rw [(HPG.out v3 HB3.out).l2]; exact HF.out.2.1) (es.length + ds.length)
  rw [show txtK (pageD es ds) (es.length + ds.length) = T from eT.symm] at hok
  have hgl := maddsL_good ms [] Good.nil (by decide)
  rw [← eL, (HPG.out v3 HB3.out).l3, List.length_nil] at hgl
  have HOK := Lib.hid (And.intro hok.1 (And.intro (show T.L.length ≤ 4096 by omega) (And.intro hok.2.2.2 (And.intro hgl.1 (show L.length ≤ n3 by omega)))))
  have HB4 := Lib.hid (HB3.out.trans (h4.mono HB3.out.size))
  have HW4 := Lib.hid h4
  have HFB := Lib.hid hFB
  have HGO := Lib.hid (show ∀ i ∈ T.G, hasL T.L i by rw [eT]; exact txtK_gone (pageD es ds) (es.length + ds.length))
  have H4 := Lib.hid (And.intro (K.next HT3.out.1 h4) (And.intro (HT3.out.2.2.next h4) (And.intro bB (And.intro rL (And.intro hA5 (And.intro hFB h4))))))
  have HEND := Lib.hid (HB.out.trans (HB4.out.mono HB.out.size))
  clear bB rL hA5 hFB h4 hok hgl HBK q0 q1 q2
  obtain ⟨n, en⟩ : ∃ q, q = (nodesL T.L).length := ⟨_, rfl⟩
  obtain ⟨nl, enl⟩ : ∃ q, q = L.length := ⟨_, rfl⟩
  obtain ⟨V, eV⟩ : ∃ q, q = liveL T.G (nodesL T.L) := ⟨_, rfl⟩
  obtain ⟨q, eq⟩ : ∃ q, q = V.length := ⟨_, rfl⟩
  obtain ⟨lc, elc⟩ : ∃ q, q = lastM L := ⟨_, rfl⟩
  have hq9 : q ≤ 4096 := by rw [eq, eV]; exact Nat.le_trans (List.length_filter_le _ _) (Nat.le_trans (nodes_len HOK.out.1) HOK.out.2.1)
  have HLN := Lib.hid (And.intro hq9 (And.intro eV (And.intro (show (nl : Int) ≤ (n3 : Int) by rw [enl]; have := HOK.out.2.2.2.2; omega) (And.intro eq elc))))
  rw [← en, ← enl]
  have HLA := Lib.hid (M.last v4 H4.out.2.2.1)
  rw [← elc] at HLA
  clear en enl eV eq hq9 elc
  go_wp2_with fail
  go_at_call 20
  refine HLA.out.mono ?_
  rintro e v5 ⟨rfl, h0⟩
  have HW5 := Lib.hid (HW4.out.trans (h0.mono HW4.out.size))
  have HB5 := Lib.hid (M.next H4.out.2.2.1 h0)
  clear h0 HLA
  by_cases hA : (1099511627776 : Int) ≤ lc
  · skip
    obtain ⟨q0, q1, q2⟩ := HQ.out v5 (HB3.out.trans (HW5.out.mono HB3.out.size))
    have HE9 := Lib.hid (HB.out.trans ((HB3.out.trans (HW5.out.mono HB3.out.size)).mono HB.out.size))
    have hnl := HLN.out.2.2.1
    go_wp2_with fail
    go_at_call 10
    refine (awake16 K M v5).mono ?_
    rintro e v9 ⟨rfl, h9⟩
    have H9 := Lib.hid (HE9.out.trans (h9.mono HE9.out.size))
    clear h9
    go_wp2_with fail
    go_ret
    exact ⟨rfl, H9.out⟩
  by_cases hB : i < 1
  · skip
    obtain ⟨q0, q1, q2⟩ := HQ.out v5 (HB3.out.trans (HW5.out.mono HB3.out.size))
    have HE9 := Lib.hid (HB.out.trans ((HB3.out.trans (HW5.out.mono HB3.out.size)).mono HB.out.size))
    have hnl := HLN.out.2.2.1
    go_wp2_with fail
    go_at_call 10
    refine (awake16 K M v5).mono ?_
    rintro e v9 ⟨rfl, h9⟩
    have H9 := Lib.hid (HE9.out.trans (h9.mono HE9.out.size))
    clear h9
    go_wp2_with fail
    go_ret
    exact ⟨rfl, H9.out⟩
  have HLE := Lib.hid (K.len v5 (K.next HT3.out.1 HW5.out) HOK.out.1 HOK.out.2.1)
  rw [← HLN.out.2.1, ← HLN.out.2.2.2.1] at HLE
  go_wp2_with fail
  go_at_call 30
  refine HLE.out.mono ?_
  rintro e v6 ⟨rfl, h0⟩
  have HW6 := Lib.hid (HW5.out.trans (h0.mono HW5.out.size))
  have HB6 := Lib.hid (M.next HB5.out h0)
  clear h0 HLE HB5
  by_cases hC : (q : Int) ≤ i
  · skip
    obtain ⟨q0, q1, q2⟩ := HQ.out v6 (HB3.out.trans (HW6.out.mono HB3.out.size))
    have HE9 := Lib.hid (HB.out.trans ((HB3.out.trans (HW6.out.mono HB3.out.size)).mono HB.out.size))
    have hnl := HLN.out.2.2.1
    go_wp2_with fail
    go_at_call 10
    refine (awake16 K M v6).mono ?_
    rintro e v9 ⟨rfl, h9⟩
    have H9 := Lib.hid (HE9.out.trans (h9.mono HE9.out.size))
    clear h9
    go_wp2_with fail
    go_ret
    exact ⟨rfl, H9.out⟩
  obtain ⟨k1, hk1⟩ : ∃ k1 : Nat, i = ((k1 + 1 : Nat) : Int) := ⟨(i - 1).toNat, by omega⟩
  have hq2 : k1 + 1 < V.length := by rw [← HLN.out.2.2.2.1]; omega
  obtain ⟨a, ha⟩ := getD_of (L := V) (k := k1) (by omega)
  obtain ⟨b2, hb2⟩ := getD_of (L := V) (k := k1 + 1) hq2
  have hq9 := HLN.out.1
  have g6 : IntKind.i64.wrap (i - 1) = (k1 : Int) := by rw [IntKind.wrap_i64]; omega
  have e1 : atR T.L T.G (k1 : Int) = (a.id, 0) := atR_of (by rw [← HLN.out.2.1]; exact ha)
  have e2 : atR T.L T.G i = (b2.id, 0) := by rw [hk1]; exact atR_of (by rw [← HLN.out.2.1]; exact hb2)
  have hmem : ∀ y ∈ V, rightB y = true := fun y hy => by
    rw [HLN.out.2.1] at hy
    exact HOK.out.2.2.1 y ((nodes_mem HOK.out.1).1 (List.mem_filter.1 hy).1)
  have ra := rightB_id (hmem a (List.mem_of_getElem? ha))
  have rb := rightB_id (hmem b2 (List.mem_of_getElem? hb2))
  have hPL : planR T.L T.G i = ((planL T.L T.G (k1 + 1)).1, (planL T.L T.G (k1 + 1)).2, 0) := by
    unfold planR
    rw [if_neg (by rw [← HLN.out.2.1, ← HLN.out.2.2.2.1]; omega), hk1]
    rfl
  have hge : ¬ i < 0 ∧ i ≤ (q : Int) := by omega
  have HAT1 := Lib.hid (K.at_ (k1 : Int) v6 (K.next HT3.out.1 HW6.out) HOK.out.1 HOK.out.2.1)
  rw [e1] at HAT1
  have HPT := Lib.hid (And.intro ha (And.intro hb2 (And.intro ra (And.intro rb (And.intro hPL (And.intro e2 hk1))))))
  clear ha hb2 ra rb hPL e1 e2 hmem hk1 hq2 hge
  go_wp2_with fail
  go_at_call 31
  refine HAT1.out.mono ?_
  rintro z v7 ⟨rfl, h0⟩
  obtain ⟨v8, e8⟩ : ∃ v, v = v7.alloc (.cells #[.int .i64 a.id.1, .int .i64 a.id.2] 27) := ⟨_, rfl⟩
  obtain ⟨g8, eg8⟩ : ∃ g, g = v7.heap.size := ⟨_, rfl⟩
  have hb8 : Below v6.heap.size v6 v8 := by rw [e8]; exact h0.alloc h0.size _
  have o8 : O2 v8 v6.heap.size 27 g8 (.int .i64 a.id.1) (.int .i64 a.id.2) := by rw [e8, eg8]; exact O2.newz h0.size _ _ _
  have HW8 := Lib.hid (HW6.out.trans (hb8.mono HW6.out.size))
  have HB8 := Lib.hid (M.next HB6.out hb8)
  have HO8 := Lib.hid o8
  have E8 := Lib.hid (And.intro e8 eg8)
  clear h0 e8 eg8 hb8 o8 HAT1 HB6
  go_upto_region 9 with fail
  rw [← E8.out.1, ← E8.out.2]
  clear E8 g6
  have HAT2 := Lib.hid (K.at_ i v8 (K.next HT3.out.1 HW8.out) HOK.out.1 HOK.out.2.1)
  rw [HPT.out.2.2.2.2.2.1] at HAT2
  go_wp2_with fail
  go_at_call 31
  refine HAT2.out.mono ?_
  rintro z v9 ⟨rfl, h0⟩
  obtain ⟨va, ea⟩ : ∃ v, v = v9.alloc (.cells #[.int .i64 b2.id.1, .int .i64 b2.id.2] 27) := ⟨_, rfl⟩
  obtain ⟨ga, ega⟩ : ∃ g, g = v9.heap.size := ⟨_, rfl⟩
  have hba : Below v8.heap.size v8 va := by rw [ea]; exact h0.alloc h0.size _
  have oa : O2 va v8.heap.size 27 ga (.int .i64 b2.id.1) (.int .i64 b2.id.2) := by rw [ea, ega]; exact O2.newz h0.size _ _ _
  have HWA := Lib.hid (HW8.out.trans (hba.mono HW8.out.size))
  have HBA := Lib.hid (M.next HB8.out hba)
  have HOA := Lib.hid (And.intro (OwnF.keep HO8.out hba : O2 va v6.heap.size 27 g8 (.int .i64 a.id.1) (.int .i64 a.id.2)) oa)
  have EA := Lib.hid (And.intro ea ega)
  clear h0 ea ega hba oa HAT2 HB8 HO8
  go_upto_region 10 with fail
  rw [← EA.out.1, ← EA.out.2]
  clear EA
  have hmk := M.add (mkG L a.id b2.id) va HBA.out
  rw [mkG_add HOK.out.2.2.2.1 (Nat.le_trans HOK.out.2.2.2.2 HF.out.2.2) HPT.out.2.2.1.2 HPT.out.2.2.2.1.2 (by rw [← HLN.out.2.2.2.2]; omega)] at hmk
  have hv : mrkV (mkG L a.id b2.id) = .agg #[.int .i64 (lc + 1), .int .i64 0, .int .i64 a.id.1, .int .i64 a.id.2, .bool false, .int .i64 b2.id.1, .int .i64 b2.id.2, .bool true, .int .i64 2, .int .i64 9] := by rw [HLN.out.2.2.2.2]; rfl
  rw [hv] at hmk
  have HMK := Lib.hid hmk
  have g6 : IntKind.i64.wrap (lc + 1) = lc + 1 := by
    have := lastM_pos HOK.out.2.2.2.1
    rw [← HLN.out.2.2.2.2] at this
    rw [IntKind.wrap_i64]
    omega
  have y0 := O2.c0 HOA.out.1
  have y1 := O2.c1 HOA.out.1
  have z0 := O2.c0 HOA.out.2
  have z1 := O2.c1 HOA.out.2
  clear hmk hv
  go_wp2_with fail
  go_at_call 15
  refine HMK.out.mono ?_
  rintro z vb ⟨rfl, F9, r9, hF9, o9⟩
  clear y0 y1 z0 z1 g6 HMK HOA HBA
  have hlow : ∀ k, F9 k → v3.heap.size ≤ k := fun k hk => by
    rcases hF9 k hk with h9 | h9
    · exact HFB.out k h9
    · exact Nat.le_trans HWA.out.size h9
  have HWB := Lib.hid (HWA.out.trans (OutF.below o9 HFB.out HWA.out.size))
  have HBB := Lib.hid (And.intro r9 hlow)
  have HPN := Lib.hid (K.plan i vb (K.next HT3.out.1 HWB.out) HOK.out.1 HOK.out.2.1)
  rw [HPT.out.2.2.2.2.1] at HPN
  obtain ⟨PA, ePA⟩ : ∃ q, q = planL T.L T.G (k1 + 1) := ⟨_, rfl⟩
  rw [← ePA] at HPN
  have HPA := Lib.hid ePA
  clear r9 hF9 o9 hlow ePA
  go_wp2_with fail
  go_at_call 32
  refine HPN.out.mono ?_
  rintro z vc ⟨rfl, h0⟩
  obtain ⟨vd, ed⟩ : ∃ v, v = vc.alloc (.cells #[.int .i64 PA.1.1, .int .i64 PA.1.2] 27) := ⟨_, rfl⟩
  obtain ⟨gd, egd⟩ : ∃ g, g = vc.heap.size := ⟨_, rfl⟩
  have hbd : Below vb.heap.size vb vd := by rw [ed]; exact h0.alloc h0.size _
  have od : O2 vd vb.heap.size 27 gd (.int .i64 PA.1.1) (.int .i64 PA.1.2) := by rw [ed, egd]; exact O2.newz h0.size _ _ _
  have HWD := Lib.hid (HWB.out.trans (hbd.mono HWB.out.size))
  have HBD := Lib.hid (M.next HBB.out.1 hbd)
  have HOD := Lib.hid od
  have ED := Lib.hid (And.intro ed egd)
  clear h0 ed egd hbd od HPN
  go_upto_region 13 with fail
  rw [← ED.out.1, ← ED.out.2]
  clear ED
  obtain ⟨x, ex⟩ : ∃ x : Ins, x = ⟨id, PA.1, PA.2, 110⟩ := ⟨_, rfl⟩
  obtain ⟨ra, era⟩ : ∃ r, r = (addR T.L x).2 := ⟨_, rfl⟩
  have hadd := K.add x vd (K.next HT3.out.1 HWD.out) HOK.out.1 HOK.out.2.1
  have hxv : insV x = .agg #[.int .i64 id.1, .int .i64 id.2, .int .i64 PA.1.1, .int .i64 PA.1.2, .bool PA.2, .int .i32 110] := by rw [ex]
  rw [← era, hxv] at hadd
  have HADD := Lib.hid hadd
  have HX0 := Lib.hid (And.intro ex era)
  have oid := HID.out vd (HB3.out.trans (HWD.out.mono HB3.out.size))
  have y0 := O2.c0 oid
  have y1 := O2.c1 oid
  have z0 := O2.c0 HOD.out
  have z1 := O2.c1 HOD.out
  clear hadd hxv ex era oid
  go_wp2_with fail
  go_at_call 33
  refine HADD.out.mono ?_
  rintro z ve ⟨rfl, F8, r8, hF8, o8⟩
  clear y0 y1 z0 z1 HADD HOD
  have hdis : ∀ k, F9 k → ¬ FT k := fun k hk hf => by
    have h1 := HBB.out.2 k hk
    have h2 := K.le HT3.out.1 k hf
    omega
  have HBE := Lib.hid (M.beside HBD.out o8 hdis)
  have HWW := Lib.hid ((HB.out.trans ((HB3.out.trans (HWD.out.mono HB3.out.size)).mono HB.out.size)).trans (OutF.below o8 HT3.out.2.1 (HB.out.trans ((HB3.out.trans (HWD.out.mono HB3.out.size)).mono HB.out.size)).size))
  have hng : ¬ FT gi := fun hf => by
    have h1 := HT3.out.2.1 gi hf
    have h2 := HNT.out gi hf
    have h3 := HGI.out
    omega
  have oid : O2 ve w.heap.size 27 gi (.int .i64 id.1) (.int .i64 id.2) := by
    have o := HID.out vd (HB3.out.trans (HWD.out.mono HB3.out.size))
    exact OwnF.same_ o (o8.block gi (OwnF.lt o) hng)
  have HOI := Lib.hid oid
  by_cases hra : ra = 0
  case neg =>
    clear r8 hF8 o8 hdis hng oid
    go_wp2_with fail
    go_at_call 10
    refine (awake16 K M ve).mono ?_
    rintro e v9 ⟨rfl, h9⟩
    have H9 := Lib.hid (HWW.out.trans (h9.mono HWW.out.size))
    clear h9
    go_wp2_with fail
    go_ret
    exact ⟨rfl, H9.out⟩
  case pos =>
  obtain ⟨_, _, eL2, ok', hl', _⟩ := plan_add (x := x) (j := i) HOK.out.1 HOK.out.2.1 HGO.out (by rw [HPT.out.2.2.2.2.1]) (by rw [HPT.out.2.2.2.2.1, HX0.out.1, HPA.out]) (by rw [HPT.out.2.2.2.2.1, HX0.out.1, HPA.out]) (by rw [← HX0.out.2]; exact hra)
  rw [eL2] at r8
  obtain ⟨kk, hkk, hcov⟩ := grow_at (m := mkG L a.id b2.id) (G := T.G) (i := k1 + 1) ok' (Nat.le_add_left 1 k1) (by rw [Nat.add_sub_cancel, ← HLN.out.2.1]; exact HPT.out.1) (by rw [← HLN.out.2.1]; exact HPT.out.2.1) (by rw [← HPA.out, HX0.out.1]) HPT.out.2.2.1.1 HPT.out.2.2.2.1.1 rfl rfl
  have hsty := grow_style _ L hcov
  have hd9 := nodes_distinct ok'
  obtain ⟨n5, en5⟩ : ∃ q, q = (nodesL (T.L ++ [x])).length := ⟨_, rfl⟩
  have hkn : kk < n5 := by rw [en5]; exact (List.getElem?_eq_some_iff.1 hkk).1
  have hn5 : n5 ≤ 4096 := by rw [en5]; exact Nat.le_trans (nodes_len ok') hl'
  have hsat := styL_at (nodL (T.L ++ [x]) T.G) (L ++ [mkG L a.id b2.id]) (t := kk) (by rw [List.length_map, ← en5]; exact hkn)
  have HSS := Lib.hid (M.styles K ve HBE.out r8 ok' hl')
  have HNO := Lib.hid (fun wz (hz : Below ve.heap.size ve wz) => K.nodes wz (K.next r8 hz) ok' hl')
  rw [← en5] at HSS HNO
  have HXI := Lib.hid (show x.id = id by rw [HX0.out.1])
  have HKK := Lib.hid (And.intro hkk (And.intro hkn (And.intro hsat (And.intro hsty (And.intro hd9 en5)))))
  rw [hra]
  clear hra r8 hF8 o8 hdis hng oid eL2 ok' hl' hkk hcov hsty hd9 en5 hkn hsat
  go_wp2_with fail
  go_at_call 24
  refine HSS.out.mono ?_
  rintro z vf ⟨A6, c6, rfl, rS, h0⟩
  have HBF := Lib.hid h0
  have HRS := Lib.hid rS
  have HNF := Lib.hid (HNO.out vf h0)
  clear h0 rS HSS HNO
  go_wp2_with fail
  go_at_call 34
  refine HNF.out.mono ?_
  rintro z vg ⟨A7, c7, rfl, rN, _, h0⟩
  have HBG := Lib.hid (HBF.out.trans (h0.mono HBF.out.size))
  have HRG := Lib.hid (And.intro (HRS.out.next h0) rN)
  have HOG := Lib.hid (OwnF.keep HOI.out HBG.out : O2 vg w.heap.size 27 gi (.int .i64 id.1) (.int .i64 id.2))
  have HWG := Lib.hid (HWW.out.trans (HBG.out.mono HWW.out.size))
  clear h0 rN HNF HBF HRS HOI HWW
  go_wp2_with fail
  go_loopw [119] (fun i wr => ∃ j : Nat, j ≤ kk ∧ i = .int .i64 (j : Int) ∧ Below vg.heap.size vg wr) (fun i _ => n5 - (intF i).toNat)
  case atStart => exact ⟨0, Nat.zero_le _, rfl, Below.refl _ _⟩
  case round =>
    obtain ⟨j, hj, rfl, hbr⟩ := hrel
    have hjn : j < n5 := Nat.lt_of_le_of_lt hj HKK.out.2.1
    have g3 : (j : Int) < (n5 : Int) := by omega
    obtain ⟨y, hy⟩ := getD_of (L := nodesL (T.L ++ [x])) (k := j) (by rw [← HKK.out.2.2.2.2.2]; exact hjn)
    obtain ⟨b7, o7, rfl, hb7, m0, m1, m2, m3⟩ := nod_at (HRG.out.2.next hbr) (k := j) (x := nodeOf T.G y) (by rw [List.getElem?_map, hy]; rfl)
    obtain ⟨rn, ern⟩ : ∃ r, r = (nodeOf T.G y).rune := ⟨_, rfl⟩
    obtain ⟨gn, egn⟩ : ∃ r, r = (nodeOf T.G y).gone := ⟨_, rfl⟩
    rw [show (nodeOf T.G y).id = y.id from rfl] at m0 m1
    rw [← ern] at m2
    rw [← egn] at m3
    obtain ⟨v5', e5⟩ : ∃ v, v = wr.alloc (.cells #[.int .i64 y.id.1, .int .i64 y.id.2, .int .i32 rn, .bool gn] 77) := ⟨_, rfl⟩
    obtain ⟨g5, eg5⟩ : ∃ g, g = wr.heap.size := ⟨_, rfl⟩
    have hb5 : Below wr.heap.size wr v5' := by rw [e5]; exact (Below.refl _ _).alloc (Nat.le_refl _) _
    have hcx : v5'.cell? ⟨g5, 0, none⟩ = some (.int .i64 y.id.1) ∧ v5'.cell? ⟨g5, 1, none⟩ = some (.int .i64 y.id.2) := by
      rw [e5, eg5]
      simp
    have HBR := Lib.hid (hbr.trans (hb5.mono hbr.size))
    have HCX := Lib.hid (And.intro hcx (And.intro hy (And.intro hj hjn)))
    have E5 := Lib.hid (And.intro e5 eg5)
    clear hcx hy hj hjn hb5 e5 eg5 hbr ern egn hb7
    go_upto_region 19 with fail
    rw [← E5.out.1, ← E5.out.2]
    clear E5 m0 m1 m2 m3
    obtain ⟨m0, m1⟩ := HCX.out.1
    have oid := OwnF.keep HOG.out HBR.out
    have y0 := OwnF.cell oid (k := 0) (by decide)
    have y1 := OwnF.cell oid (k := 1) (by decide)
    replace y0 : v5'.cell? ⟨gi, 0, none⟩ = some (.int .i64 id.1) := y0
    replace y1 : v5'.cell? ⟨gi, 1, none⟩ = some (.int .i64 id.2) := y1
    clear oid
    by_cases h1 : y.id.1 = id.1
    · by_cases h2 : y.id.2 = id.2
      · have hjk : j = kk := grow_one HKK.out.2.2.2.2.1 HCX.out.2.1 HKK.out.1 (by rw [HXI.out]; exact Prod.ext h1 h2)
        subst hjk
        obtain ⟨b6, o6, rfl, hb6, s0, s1, s2, s3, s4⟩ := sty_at (HRG.out.1.next HBR.out) HKK.out.2.2.1
        rw [HKK.out.2.2.2.1] at s2
        have HE9 := Lib.hid (HWG.out.trans (HBR.out.mono HWG.out.size))
        clear hb6 s0 s1 s3 s4
        go_wp2_with fail
        go_at_call 10
        refine (awake16 K M v5').mono ?_
        rintro e v9 ⟨rfl, h9⟩
        have H9 := Lib.hid (HE9.out.trans (h9.mono HE9.out.size))
        clear h9
        go_wp2_with fail
        go_ret
        exact ⟨rfl, H9.out⟩
      · have hjk : j ≠ kk := fun e => by
          subst e
          have := HCX.out.2.1.symm.trans HKK.out.1
          rw [Option.some.injEq] at this
          exact h2 (by rw [this, HXI.out])
        have HJ := Lib.hid (show j + 1 ≤ kk by have := HCX.out.2.2.1; omega)
        clear hjk
        go_wp2_with fail
        go_roundw
        case rel => exact ⟨j + 1, HJ.out, by go_num, HBR.out⟩
        case measure => simp [intF]; have := HCX.out.2.2.2; omega
    · have hjk : j ≠ kk := fun e => by
        subst e
        have := HCX.out.2.1.symm.trans HKK.out.1
        rw [Option.some.injEq] at this
        exact h1 (by rw [this, HXI.out])
      have HJ := Lib.hid (show j + 1 ≤ kk by have := HCX.out.2.2.1; omega)
      clear hjk
      go_wp2_with fail
      go_roundw
      case rel => exact ⟨j + 1, HJ.out, by go_num, HBR.out⟩
      case measure => simp [intF]; have := HCX.out.2.2.2; omega
end
end Go.Proofs.Ytpjeggbkhbghaaa
