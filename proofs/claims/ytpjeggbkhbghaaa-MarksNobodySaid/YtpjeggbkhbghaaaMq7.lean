/-
  Layer 16: MarksNobody. By an AI agent.
-/
import Derived.Test.YtpjeggbkhbghaaaTP
import Derived.Test.YtpjeggbkhbghaaaTQ
import Derived.Test.YtpjeggbkhbghaaaTR
import Derived.Test.YtpjeggbkhbghaaaTR
import Derived.Test.YtpjeggbkhbghaaaMq1
namespace Go.Proofs.Ytpjeggbkhbghaaa
open Go Go.RowKit
set_option maxRecDepth 20000
section
variable {R : TreeP} (K : FugC R) {B : BookP} (M : MarkC B) (N : NobM B)
include K M N
set_option maxHeartbeats 6400000 in
theorem marksnobody_law {A1 A2 A3 : Option Addr} {n1 c1 n2 c2 n3 c3 : Nat} {es : List Ins} {ds : List IDt} {ms : List Mrk} (m : Mrk) (w : World) (pg : PgR w A1 n1 c1 A2 n2 c2 A3 n3 c3 es ds ms) :
    Calls Try.prog 9 #[pageV A1 n1 c1 A2 n2 c2 A3 n3 c3, mrkV m] w fun e w' => e = .returned (.bool true) ∧ Below w.heap.size w w' := by
  obtain ⟨v0, ev0⟩ : ∃ v, v = w.alloc (.cells #[.slice A1 n1 c1, .slice A2 n2 c2, .slice A3 n3 c3] 45) := ⟨_, rfl⟩
  obtain ⟨g, eg⟩ : ∃ g, g = w.heap.size := ⟨_, rfl⟩
  obtain ⟨v1, ev⟩ : ∃ v, v = v0.alloc (.cells #[.int .i64 m.clock, .int .i64 m.author, .int .i64 m.from_.id.1, .int .i64 m.from_.id.2, .bool m.from_.behind, .int .i64 m.upto.id.1, .int .i64 m.upto.id.2, .bool m.upto.behind, .int .i64 m.name, .int .i64 m.value] 31) := ⟨_, rfl⟩
  obtain ⟨gm, egm0⟩ : ∃ g, g = w.heap.size + 1 := ⟨_, rfl⟩
  have egm : gm = v0.heap.size := by rw [egm0, ev0]; simp
  have hb0 : Below w.heap.size w v0 := by rw [ev0]; exact (Below.refl _ _).alloc (Nat.le_refl _) _
  have hb1 : Below v0.heap.size v0 v1 := by rw [ev]; exact (Below.refl _ _).alloc (Nat.le_refl _) _
  have hb : Below w.heap.size w v1 := hb0.trans (hb1.mono hb0.size)
  have hq0 : v0.cell? ⟨g, 0, none⟩ = some (.slice A1 n1 c1) ∧ v0.cell? ⟨g, 1, none⟩ = some (.slice A2 n2 c2) ∧ v0.cell? ⟨g, 2, none⟩ = some (.slice A3 n3 c3) := by
    rw [ev0, eg]
    simp
  have hg0 : g < v0.heap.size := by rw [ev0, eg]; simp
  have hq : v1.cell? ⟨g, 0, none⟩ = some (.slice A1 n1 c1) ∧ v1.cell? ⟨g, 1, none⟩ = some (.slice A2 n2 c2) ∧ v1.cell? ⟨g, 2, none⟩ = some (.slice A3 n3 c3) := ⟨(hb1.cell (p := ⟨g, 0, none⟩) hg0).trans hq0.1, (hb1.cell (p := ⟨g, 1, none⟩) hg0).trans hq0.2.1, (hb1.cell (p := ⟨g, 2, none⟩) hg0).trans hq0.2.2⟩
  have hg : g < v1.heap.size := Nat.lt_of_lt_of_le hg0 hb1.size
  have hmb : MrkB v1 gm m := by rw [ev, egm]; exact mrk_box v0 m
  have hgm : gm < v1.heap.size := by rw [ev, egm]; simp
  have HMB := Lib.hid (fun wz (hz : Below v1.heap.size v1 wz) => (hmb.keep hz hgm : MrkB wz gm m))
  have HB := Lib.hid hb
  have HV := Lib.hid (And.intro ev0 (And.intro ev (And.intro egm0 eg)))
  have HQ := Lib.hid (fun wz (hz : Below v1.heap.size v1 wz) => And.intro ((hz.cell (p := ⟨g, 0, none⟩) hg).trans hq.1) (And.intro ((hz.cell (p := ⟨g, 1, none⟩) hg).trans hq.2.1) ((hz.cell (p := ⟨g, 2, none⟩) hg).trans hq.2.2)))
  have HPG := Lib.hid (fun wz (hz : Below v1.heap.size v1 wz) => (pg.next (hb.trans (hz.mono hb.size)) : PgR wz A1 n1 c1 A2 n2 c2 A3 n3 c3 es ds ms))
  have HFW := Lib.hid (few_any v1 (A1 := A1) (n1 := n1) (c1 := c1) (A2 := A2) (n2 := n2) (c2 := c2) (A3 := A3) (n3 := n3) (c3 := c3))
  obtain ⟨fw, efw⟩ : ∃ b, b = fewB n1 n2 n3 := ⟨_, rfl⟩
  rw [← efw] at HFW
  have HE := Lib.hid efw
  obtain ⟨q0, q1, q2⟩ := hq
  clear ev0 eg ev egm egm0 hb0 hb1 hq0 hg0 hmb hgm hb hg pg efw
  go_enter Try.func9, Try.ntmps9
  go_upto_region 1 with fail
  rw [← HV.out.1, ← HV.out.2.1, ← HV.out.2.2.1, ← HV.out.2.2.2]
  clear HV
  go_wp2_with fail
  go_at_call 21
  refine HFW.out.mono ?_
  rintro e v2 ⟨rfl, h2⟩
  have HB2 := Lib.hid h2
  clear h2 HFW q0 q1 q2
  cases fw with
  | false =>
    go_wp2_with fail
    go_at_call 10
    refine (awake16 K M v2).mono ?_
    rintro e v3 ⟨rfl, h3⟩
    have H3 := Lib.hid (HB.out.trans ((HB2.out.trans (h3.mono HB2.out.size)).mono HB.out.size))
    clear h3
    go_wp2_with fail
    go_ret
    exact ⟨rfl, H3.out⟩
  | true =>
  have hfew := few_parts HE.out.symm
  have HF := Lib.hid hfew
  clear hfew
  obtain ⟨q0, q1, q2⟩ := HQ.out v2 HB2.out
  have HTX := Lib.hid (text16_any K v2 (A3 := A3) (n3 := n3) (c3 := c3) (HPG.out v2 HB2.out).r1 (HPG.out v2 HB2.out).r2 (HPG.out v2 HB2.out).l1 (HPG.out v2 HB2.out).l2 HF.out.1 HF.out.2.1)
  go_wp2_with fail
  go_at_call 22
  refine HTX.out.mono ?_
  rintro e v3 ⟨p, FT, A4, c4, rfl, hT, hFT, rN, h3⟩
  have HB3 := Lib.hid (HB2.out.trans (h3.mono HB2.out.size))
  have HT3 := Lib.hid (And.intro hT (And.intro (show ∀ k, FT k → w.heap.size ≤ k from fun k hk => Nat.le_trans HB.out.size (Nat.le_trans HB2.out.size (hFT k hk))) rN))
  clear hT hFT rN h3 HTX q0 q1 q2
  obtain ⟨q0, q1, q2⟩ := HQ.out v3 HB3.out
  have HBK := Lib.hid (book16_any M v3 (A1 := A1) (n1 := n1) (c1 := c1) (A2 := A2) (n2 := n2) (c2 := c2) (HPG.out v3 HB3.out).r3 (HPG.out v3 HB3.out).l3 HF.out.2.2)
  go_wp2_with fail
  go_at_call 23
  refine HBK.out.mono ?_
  rintro e v4 ⟨b, A5, c5, rfl, FB, bB, rL, hA5, hFB, h4⟩
  obtain ⟨T, eT⟩ : ∃ t, t = pageT es ds := ⟨_, rfl⟩
  obtain ⟨L, eL⟩ : ∃ l, l = maddsL [] ms := ⟨_, rfl⟩
  rw [← eT] at HT3
  rw [← eL] at bB rL
  rw [← eT, ← eL]
  have hok := page_ok (es := es) (ds := ds) (by rw [(HPG.out v3 HB3.out).l1]; exact HF.out.1) (by rw [(HPG.out v3 HB3.out).l2]; exact HF.out.2.1) (es.length + ds.length)
  rw [show txtK (pageD es ds) (es.length + ds.length) = T from eT.symm] at hok
  have hgl := maddsL_good ms [] Good.nil (by decide)
  rw [← eL, (HPG.out v3 HB3.out).l3, List.length_nil] at hgl
  have HOK := Lib.hid (And.intro hok.1 (And.intro (show T.L.length ≤ 4096 by omega) (And.intro hok.2.2.2 (And.intro hgl.1 (show L.length ≤ n3 by omega)))))
  have HB4 := Lib.hid (HB3.out.trans (h4.mono HB3.out.size))
  have H4 := Lib.hid (And.intro (K.next HT3.out.1 h4) (And.intro (HT3.out.2.2.next h4) (And.intro bB (And.intro rL (And.intro hA5 (And.intro hFB h4))))))
  have HEND := Lib.hid (HB.out.trans (HB4.out.mono HB.out.size))
  clear bB rL hA5 hFB h4 hok hgl HBK q0 q1 q2
  obtain ⟨n, en⟩ : ∃ q, q = (nodesL T.L).length := ⟨_, rfl⟩
  obtain ⟨nl, enl⟩ : ∃ q, q = L.length := ⟨_, rfl⟩
  have hn9 : n ≤ 4096 := by rw [en]; exact Nat.le_trans (nodes_len HOK.out.1) HOK.out.2.1
  have hl9 : nl ≤ 20 := by rw [enl]; exact Nat.le_trans HOK.out.2.2.2.2 HF.out.2.2
  have HLN := Lib.hid (And.intro en.symm (And.intro enl.symm (And.intro hn9 hl9)))
  rw [← en, ← enl]
  clear en enl hn9 hl9
  have HC := Lib.hid (M.clone v4 H4.out.2.2.1)
  have HMB4 := Lib.hid (fun wz (hz : Below v4.heap.size v4 wz) => HMB.out wz (HB4.out.trans (hz.mono HB4.out.size)))
  clear HMB
  go_wp2_with fail
  go_at_call 35
  refine HC.out.mono ?_
  rintro e v5 ⟨pc, FC, rfl, bC, hFC, h0⟩
  obtain ⟨gc, rfl⟩ := M.ptr bC
  have HBC := Lib.hid (And.intro bC hFC)
  have HW5 := Lib.hid h0
  clear bC hFC h0 HC
  go_wp2_with fail
  go_at_call 24
  refine (N.stylesT v5 (M.next H4.out.2.2.1 HW5.out)).mono ?_
  rintro e v6 ⟨A9, c9, rfl, h0⟩
  have HW6 := Lib.hid (HW5.out.trans (h0.mono HW5.out.size))
  have HD6 := Lib.hid h0
  clear h0
  go_wp2_with fail
  go_at_call 27
  refine (N.runsT v6 (M.next H4.out.2.2.1 HW6.out)).mono ?_
  rintro e v7 ⟨A10, c10, rfl, h0⟩
  have HW7 := Lib.hid (HW6.out.trans (h0.mono HW6.out.size))
  have HD7 := Lib.hid (HD6.out.trans (h0.mono HD6.out.size))
  have hmb := HMB4.out v7 HW7.out
  obtain ⟨m0, m1, m2, m3, m4, m5, m6, m7, m8, m9⟩ := hmb
  clear h0
  go_wp2_with fail
  go_at_call 15
  refine (N.add m v7).mono ?_
  rintro e v8 ⟨rfl, h0⟩
  have HW8 := Lib.hid (HW7.out.trans (h0.mono HW7.out.size))
  have HD8 := Lib.hid (HD7.out.trans (h0.mono HD7.out.size))
  clear m0 m1 m2 m3 m4 m5 m6 m7 m8 m9
  have hmb := HMB4.out v8 HW8.out
  obtain ⟨m0, m1, m2, m3, m4, m5, m6, m7, m8, m9⟩ := hmb
  clear h0
  go_wp2_with fail
  go_at_call 18
  refine (N.has m.clock m.author v8).mono ?_
  rintro e v9 ⟨rfl, h0⟩
  have HW9 := Lib.hid (HW8.out.trans (h0.mono HW8.out.size))
  have HD9 := Lib.hid (HD8.out.trans (h0.mono HD8.out.size))
  clear m0 m1 m2 m3 m4 m5 m6 m7 m8 m9
  clear h0
  go_wp2_with fail
  go_at_call 20
  refine (N.last v9).mono ?_
  rintro e v10 ⟨rfl, h0⟩
  have HW10 := Lib.hid (HW9.out.trans (h0.mono HW9.out.size))
  have HD10 := Lib.hid (HD9.out.trans (h0.mono HD9.out.size))
  clear h0
  go_wp2_with fail
  go_at_call 17
  refine (N.list v10).mono ?_
  rintro e v11 ⟨A11, c11, rfl, h0⟩
  have HW11 := Lib.hid (HW10.out.trans (h0.mono HW10.out.size))
  have HD11 := Lib.hid (HD10.out.trans (h0.mono HD10.out.size))
  clear h0
  go_wp2_with fail
  go_at_call 35
  refine (N.clone v11).mono ?_
  rintro e v12 ⟨rfl, h0⟩
  have HW12 := Lib.hid (HW11.out.trans (h0.mono HW11.out.size))
  have HD12 := Lib.hid (HD11.out.trans (h0.mono HD11.out.size))
  have HBC2 := Lib.hid (M.next HBC.out.1 HD12.out)
  have hmb := HMB4.out v12 HW12.out
  obtain ⟨m0, m1, m2, m3, m4, m5, m6, m7, m8, m9⟩ := hmb
  clear h0
  have HAD := Lib.hid (M.add m v12 HBC2.out)
  go_wp2_with fail
  go_at_call 15
  refine HAD.out.mono ?_
  rintro e v13 ⟨rfl, F9, r9, hF9, o9⟩
  have HW13 := Lib.hid (HW12.out.trans (OutF.below o9 HBC.out.2 HW12.out.size))
  have HBC3 := Lib.hid r9
  have HRA := Lib.hid (madd_any m v13 ((H4.out.2.2.2.1.keep HW13.out).mono HW13.out.size) (Nat.le_refl _) HLN.out.2.1 (by have := HLN.out.2.2.2; omega))
  have hmb := HMB4.out v13 HW13.out
  clear r9 hF9 o9 HAD HBC2 m0 m1 m2 m3 m4 m5 m6 m7 m8 m9
  obtain ⟨m0, m1, m2, m3, m4, m5, m6, m7, m8, m9⟩ := hmb
  obtain ⟨L2, eL2⟩ : ∃ q, q = (maddR L m).1 := ⟨_, rfl⟩
  obtain ⟨er, eer⟩ : ∃ q, q = (maddR L m).2 := ⟨_, rfl⟩
  obtain ⟨nw, enw⟩ : ∃ q, q = L2.length := ⟨_, rfl⟩
  have hg2 := (maddR_good HOK.out.2.2.2.1 (Nat.le_trans HOK.out.2.2.2.2 (Nat.le_trans HF.out.2.2 (by decide))) m).2.1
  rw [← eL2] at HBC3 HRA hg2
  rw [← eer, ← enw] at HRA
  rw [← eer]
  have HNW := Lib.hid (And.intro enw.symm (show L2.length ≤ 1000000 by have := HLN.out.2.1; have := HLN.out.2.2.2; omega))
  clear eL2 eer enw hg2
  go_wp2_with fail
  go_at_call 12
  refine HRA.out.mono ?_
  rintro e v14 ⟨A12, c12, rfl, r12, _, h0⟩
  have HW14 := Lib.hid (HW13.out.trans (h0.mono HW13.out.size))
  have HR12 := Lib.hid (And.intro r12 (M.next HBC3.out h0))
  clear r12 h0 HRA HBC3 m0 m1 m2 m3 m4 m5 m6 m7 m8 m9
  have HLI := Lib.hid (M.list v14 (M.next H4.out.2.2.1 HW14.out))
  rw [HLN.out.2.1] at HLI
  go_wp2_with fail
  go_at_call 17
  refine HLI.out.mono ?_
  rintro e v15 ⟨A13, c13, rfl, r13, h0⟩
  have HW15 := Lib.hid (HW14.out.trans (h0.mono HW14.out.size))
  have HR13 := Lib.hid (And.intro (HR12.out.1.next h0) (M.next HR12.out.2 h0))
  have HSA := Lib.hid (msame_any v15 r13 (H4.out.2.2.2.1.keep HW15.out) (Nat.le_refl _) HW15.out.size (by have := HLN.out.2.1; have := HLN.out.2.2.2; omega))
  rw [oneB_yes rfl, HLN.out.2.1] at HSA
  clear r13 h0 HR12 HLI
  go_wp2_with fail
  go_at_call 16
  refine HSA.out.mono ?_
  rintro e v16 ⟨rfl, h0⟩
  have HW16 := Lib.hid (HW15.out.trans (h0.mono HW15.out.size))
  have HR14 := Lib.hid (And.intro (HR13.out.1.next h0) (M.next HR13.out.2 h0))
  have HLI := Lib.hid (M.list v16 HR14.out.2)
  rw [HNW.out.1] at HLI
  clear h0 HR13 HSA
  go_wp2_with fail
  go_at_call 17
  refine HLI.out.mono ?_
  rintro e v17 ⟨A14, c14, rfl, r14, h0⟩
  have HW17 := Lib.hid (HW16.out.trans (h0.mono HW16.out.size))
  have HSA := Lib.hid (msame_any v17 r14 (HR14.out.1.next h0) (Nat.le_refl _) (Nat.le_refl _) HNW.out.2)
  rw [oneB_yes rfl, HNW.out.1] at HSA
  clear r14 h0 HR14 HLI
  go_wp2_with fail
  go_at_call 16
  refine HSA.out.mono ?_
  rintro e v18 ⟨rfl, h0⟩
  have HW18 := Lib.hid (HW17.out.trans (h0.mono HW17.out.size))
  have HRS := Lib.hid (N.runs K v18 (K.next H4.out.1 HW18.out) HOK.out.1 HOK.out.2.1)
  obtain ⟨RN, eRN⟩ : ∃ r, r = runsR (nodL T.L T.G) [] := ⟨_, rfl⟩
  obtain ⟨rl, erl⟩ : ∃ r, r = RN.length := ⟨_, rfl⟩
  have hRN : RN.length ≤ 1000000 := by
    rw [eRN]
    exact Nat.le_trans (runsV_len _ _ rfl) (Nat.le_trans (visL_len _ _) (by rw [List.length_map]; have := HLN.out.1; have := HLN.out.2.2.1; omega))
  have HRR := Lib.hid (fun wz (hz : Below v4.heap.size v4 wz) => rruns_any wz (RdR.nothing mrkE wz wz.heap.size) ((H4.out.2.1.keep hz).mono hz.size) (Nat.le_refl _) (Nat.le_refl _) rfl (Nat.zero_le _) (show (nodL T.L T.G).length = n by rw [List.length_map]; exact HLN.out.1) (by have := HLN.out.2.2.1; omega) Good.nil)
  rw [← eRN, ← erl] at HRS HRR
  have HRN := Lib.hid (And.intro hRN erl.symm)
  clear h0 HSA eRN erl hRN
  go_wp2_with fail
  go_at_call 27
  refine HRS.out.mono ?_
  rintro e v19 ⟨A15, c15, rfl, r15, h0⟩
  have HW19 := Lib.hid (HW18.out.trans (h0.mono HW18.out.size))
  have HR15 := Lib.hid r15
  have HRR2 := Lib.hid (HRR.out v19 HW19.out)
  clear r15 h0 HRS HRR
  go_wp2_with fail
  go_at_call 28
  refine HRR2.out.mono ?_
  rintro e v20 ⟨A16, c16, rfl, o16, h0⟩
  have HW20 := Lib.hid (HW19.out.trans (h0.mono HW19.out.size))
  have HSR := Lib.hid (rsruns_any v20 (HR15.out.next h0) o16.rd (Nat.le_refl _) (Nat.le_refl _) HRN.out.1)
  rw [oneB_yes rfl, HRN.out.2] at HSR
  clear o16 h0 HRR2
  go_wp2_with fail
  go_at_call 26
  refine HSR.out.mono ?_
  rintro e v21 ⟨rfl, h0⟩
  have HE9 := Lib.hid (HEND.out.trans ((HW20.out.trans (h0.mono HW20.out.size)).mono HEND.out.size))
  clear h0 HSR
  go_wp2_with fail
  go_at_call 10
  refine (awake16 K M v21).mono ?_
  rintro e v9 ⟨rfl, h9⟩
  have H9 := Lib.hid (HE9.out.trans (h9.mono HE9.out.size))
  clear h9
  go_wp2_with fail
  go_ret
  exact ⟨rfl, H9.out⟩
end
end Go.Proofs.Ytpjeggbkhbghaaa
