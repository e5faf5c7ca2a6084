/-
  Layer 16: MarksRuns. By an AI agent.
-/
import Derived.Test.YtpjeggbkhbghaaaMq1
import Derived.Test.YtpjeggbkhbghaaaTR
namespace Go.Proofs.Ytpjeggbkhbghaaa
open Go Go.RowKit
set_option maxRecDepth 20000
section
variable {R : TreeP} (K : FugC R) {B : BookP} (M : MarkC B)
include K M
set_option maxHeartbeats 6400000 in
theorem marksruns_law {A1 A2 A3 : Option Addr} {n1 c1 n2 c2 n3 c3 : Nat} {es : List Ins} {ds : List IDt} {ms : List Mrk} (w : World) (pg : PgR w A1 n1 c1 A2 n2 c2 A3 n3 c3 es ds ms) :
    Calls Try.prog 5 #[pageV A1 n1 c1 A2 n2 c2 A3 n3 c3] w fun e w' => e = .returned (.bool true) ∧ Below w.heap.size w w' := by
  obtain ⟨v1, ev⟩ : ∃ v, v = w.alloc (.cells #[.slice A1 n1 c1, .slice A2 n2 c2, .slice A3 n3 c3] 45) := ⟨_, rfl⟩
  obtain ⟨g, eg⟩ : ∃ g, g = w.heap.size := ⟨_, rfl⟩
  have hb : Below w.heap.size w v1 := by rw [ev]; exact (Below.refl _ _).alloc (Nat.le_refl _) _
  have hq : v1.cell? ⟨g, 0, none⟩ = some (.slice A1 n1 c1) ∧ v1.cell? ⟨g, 1, none⟩ = some (.slice A2 n2 c2) ∧ v1.cell? ⟨g, 2, none⟩ = some (.slice A3 n3 c3) := by
    rw [ev, eg]
    simp
  have hg : g < v1.heap.size := by rw [ev, eg]; simp
  have HB := Lib.hid hb
  have HV := Lib.hid (And.intro ev eg)
  have HQ := Lib.hid (fun wz (hz : Below v1.heap.size v1 wz) => And.intro ((hz.cell (p := ⟨g, 0, none⟩) hg).trans hq.1) (And.intro ((hz.cell (p := ⟨g, 1, none⟩) hg).trans hq.2.1) ((hz.cell (p := ⟨g, 2, none⟩) hg).trans hq.2.2)))
  have HPG := Lib.hid (fun wz (hz : Below v1.heap.size v1 wz) => (pg.next (hb.trans (hz.mono hb.size)) : PgR wz A1 n1 c1 A2 n2 c2 A3 n3 c3 es ds ms))
  have HFW := Lib.hid (few_any v1 (A1 := A1) (n1 := n1) (c1 := c1) (A2 := A2) (n2 := n2) (c2 := c2) (A3 := A3) (n3 := n3) (c3 := c3))
  obtain ⟨fw, efw⟩ : ∃ b, b = fewB n1 n2 n3 := ⟨_, rfl⟩
  rw [← efw] at HFW
  have HE := Lib.hid efw
  obtain ⟨q0, q1, q2⟩ := hq
  clear ev eg hb hg pg efw
  go_enter Try.func5, Try.ntmps5
  go_upto_region 1 with fail
  rw [← HV.out.1, ← HV.out.2]
  clear HV
  go_wp2_with fail
  go_at_call 21
  refine HFW.out.mono ?_
  rintro e v2 ⟨rfl, h2⟩
  have HB2 := Lib.hid h2
  clear h2 HFW q0 q1 q2
  cases fw with
  | false =>
    go_wp2_with fail
    go_at_call 10
    refine (awake16 K M v2).mono ?_
    rintro e v3 ⟨rfl, h3⟩
    have H3 := Lib.hid (HB.out.trans ((HB2.out.trans (h3.mono HB2.out.size)).mono HB.out.size))
    clear h3
    go_wp2_with fail
    go_ret
    exact ⟨rfl, H3.out⟩
  | true =>
  have hfew := few_parts HE.out.symm
  have HF := Lib.hid hfew
  clear hfew
  obtain ⟨q0, q1, q2⟩ := HQ.out v2 HB2.out
  have HTX := Lib.hid (text16_any K v2 (A3 := A3) (n3 := n3) (c3 := c3) (HPG.out v2 HB2.out).r1 (HPG.out v2 HB2.out).r2 (HPG.out v2 HB2.out).l1 (HPG.out v2 HB2.out).l2 HF.out.1 HF.out.2.1)
  go_wp2_with fail
  go_at_call 22
  refine HTX.out.mono ?_
  rintro e v3 ⟨p, FT, A4, c4, rfl, hT, hFT, rN, h3⟩
  have HB3 := Lib.hid (HB2.out.trans (h3.mono HB2.out.size))
  have HT3 := Lib.hid (And.intro hT (And.intro (show ∀ k, FT k → w.heap.size ≤ k from fun k hk => Nat.le_trans HB.out.size (Nat.le_trans HB2.out.size (hFT k hk))) rN))
  clear hT hFT rN h3 HTX q0 q1 q2
  obtain ⟨q0, q1, q2⟩ := HQ.out v3 HB3.out
  have HBK := Lib.hid (book16_any M v3 (A1 := A1) (n1 := n1) (c1 := c1) (A2 := A2) (n2 := n2) (c2 := c2) (HPG.out v3 HB3.out).r3 (HPG.out v3 HB3.out).l3 HF.out.2.2)
  go_wp2_with fail
  go_at_call 23
  refine HBK.out.mono ?_
  rintro e v4 ⟨b, A5, c5, rfl, FB, bB, rL, hA5, hFB, h4⟩
  obtain ⟨T, eT⟩ : ∃ t, t = pageT es ds := ⟨_, rfl⟩
  obtain ⟨L, eL⟩ : ∃ l, l = maddsL [] ms := ⟨_, rfl⟩
  rw [← eT] at HT3
  rw [← eL] at bB rL
  rw [← eT, ← eL]
  have hok := page_ok (es := es) (ds := ds) (by rw [(HPG.out v3 HB3.out).l1]; exact HF.out.1) (by rw [(HPG.out v3 HB3.out).l2]; exact HF.out.2.1) (es.length + ds.length)
  rw [show txtK (pageD es ds) (es.length + ds.length) = T from eT.symm] at hok
  have hgl := maddsL_good ms [] Good.nil (by decide)
  rw [← eL, (HPG.out v3 HB3.out).l3, List.length_nil] at hgl
  have HOK := Lib.hid (And.intro hok.1 (And.intro (show T.L.length ≤ 4096 by omega) (And.intro hok.2.2.2 (And.intro hgl.1 (show L.length ≤ n3 by omega)))))
  have HB4 := Lib.hid (HB3.out.trans (h4.mono HB3.out.size))
  have H4 := Lib.hid (And.intro (K.next HT3.out.1 h4) (And.intro (HT3.out.2.2.next h4) (And.intro bB (And.intro rL (And.intro hA5 (And.intro hFB h4))))))
  have HEND := Lib.hid (HB.out.trans (HB4.out.mono HB.out.size))
  clear bB rL hA5 hFB h4 hok hgl HBK q0 q1 q2
  have HRS := Lib.hid (M.runs K v4 H4.out.2.2.1 H4.out.1 HOK.out.1 HOK.out.2.1)
  obtain ⟨n, en⟩ : ∃ q, q = (nodesL T.L).length := ⟨_, rfl⟩
  obtain ⟨nl, enl⟩ : ∃ q, q = L.length := ⟨_, rfl⟩
  have hn9 : n ≤ 4096 := by rw [en]; exact Nat.le_trans (nodes_len HOK.out.1) HOK.out.2.1
  have HRR := Lib.hid (fun wz (hz : Below v4.heap.size v4 wz) => rruns_any wz (H4.out.2.2.2.1.next hz) (H4.out.2.1.next hz) (Nat.le_refl _) (Nat.le_refl _) enl.symm (show nl ≤ 1000000 by rw [enl]; have := HOK.out.2.2.2.2; have := HF.out.2.2; omega) (show (nodL T.L T.G).length = n by rw [en, List.length_map]) (show n ≤ 1000000 by omega) HOK.out.2.2.2.1)
  obtain ⟨RN, eRN⟩ : ∃ r, r = runsR (nodL T.L T.G) L := ⟨_, rfl⟩
  obtain ⟨rl, erl⟩ : ∃ r, r = RN.length := ⟨_, rfl⟩
  have hRN : RN.length ≤ 1000000 := by
    rw [eRN]
    exact Nat.le_trans (runsV_len _ _ rfl) (Nat.le_trans (visL_len _ _) (by rw [List.length_map, ← en]; omega))
  rw [← eRN, ← erl] at HRS HRR
  rw [← en, ← enl]
  have HRN := Lib.hid (And.intro hRN erl)
  clear eRN hRN en enl erl hn9
  go_wp2_with fail
  go_at_call 27
  refine HRS.out.mono ?_
  rintro e v5 ⟨A6, c6, rfl, rS, h5⟩
  have H5 := Lib.hid (And.intro rS h5)
  have HRR5 := Lib.hid (HRR.out v5 h5)
  clear rS h5 HRS HRR
  go_wp2_with fail
  go_at_call 28
  refine HRR5.out.mono ?_
  rintro e v6 ⟨A7, c7, rfl, oS, h6⟩
  have H6 := Lib.hid (And.intro (H5.out.1.next h6) (And.intro oS.rd (HEND.out.trans ((H5.out.2.trans (h6.mono H5.out.2.size)).mono HEND.out.size))))
  have HSR := Lib.hid (rsruns_any v6 H6.out.1 H6.out.2.1 (Nat.le_refl _) (Nat.le_refl _) HRN.out.1)
  rw [← HRN.out.2, oneB_yes rfl] at HSR
  clear oS h6 HRR5
  go_wp2_with fail
  go_at_call 26
  refine HSR.out.mono ?_
  rintro e v7 ⟨rfl, h7⟩
  have HE7 := Lib.hid (H6.out.2.2.trans (h7.mono H6.out.2.2.size))
  clear h7
  go_wp2_with fail
  go_at_call 10
  refine (awake16 K M v7).mono ?_
  rintro e v9 ⟨rfl, h9⟩
  have H9 := Lib.hid (HE7.out.trans (h9.mono HE7.out.size))
  clear h9
  go_wp2_with fail
  go_ret
  exact ⟨rfl, H9.out⟩
end
end Go.Proofs.Ytpjeggbkhbghaaa
