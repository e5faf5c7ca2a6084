/-
  Layer 16: MarksStyles. By an AI agent.
-/
import Derived.Test.YtpjeggbkhbghaaaTP
import Derived.Test.YtpjeggbkhbghaaaTQ
namespace Go.Proofs.Ytpjeggbkhbghaaa
open Go Go.RowKit
set_option maxRecDepth 20000
/-- The rows of a page. -/
structure PgR (w : World) (A1 : Option Addr) (n1 c1 : Nat) (A2 : Option Addr) (n2 c2 : Nat) (A3 : Option Addr) (n3 c3 : Nat) (es : List Ins) (ds : List IDt) (ms : List Mrk) : Prop where
  r1 : RdR insE w w.heap.size A1 c1 es
  r2 : RdR idE w w.heap.size A2 c2 ds
  r3 : RdR mrkE w w.heap.size A3 c3 ms
  l1 : es.length = n1
  l2 : ds.length = n2
  l3 : ms.length = n3
theorem PgR.next {w w' : World} {A1 A2 A3 : Option Addr} {n1 c1 n2 c2 n3 c3 : Nat} {es : List Ins} {ds : List IDt} {ms : List Mrk} (h : PgR w A1 n1 c1 A2 n2 c2 A3 n3 c3 es ds ms) (hb : Below w.heap.size w w') : PgR w' A1 n1 c1 A2 n2 c2 A3 n3 c3 es ds ms := ⟨h.r1.next hb, h.r2.next hb, h.r3.next hb, h.l1, h.l2, h.l3⟩
theorem few_parts {n1 n2 n3 : Nat} (h : fewB n1 n2 n3 = true) : n1 ≤ 40 ∧ n2 ≤ 40 ∧ n3 ≤ 20 := of_decide_eq_true h
section
variable {R : TreeP} (K : FugC R) {B : BookP} (M : MarkC B)
include K M
set_option maxHeartbeats 6400000 in
theorem marksstyles_law {A1 A2 A3 : Option Addr} {n1 c1 n2 c2 n3 c3 : Nat} {es : List Ins} {ds : List IDt} {ms : List Mrk} (w : World) (pg : PgR w A1 n1 c1 A2 n2 c2 A3 n3 c3 es ds ms) :
    Calls Try.prog 4 #[pageV A1 n1 c1 A2 n2 c2 A3 n3 c3] w fun e w' => e = .returned (.bool true) ∧ Below w.heap.size w w' := by
  obtain ⟨v1, ev⟩ : ∃ v, v = w.alloc (.cells #[.slice A1 n1 c1, .slice A2 n2 c2, .slice A3 n3 c3] 45) := ⟨_, rfl⟩
  obtain ⟨g, eg⟩ : ∃ g, g = w.heap.size := ⟨_, rfl⟩
  have hb : Below w.heap.size w v1 := by rw [ev]; exact (Below.refl _ _).alloc (Nat.le_refl _) _
  have hq : v1.cell? ⟨g, 0, none⟩ = some (.slice A1 n1 c1) ∧ v1.cell? ⟨g, 1, none⟩ = some (.slice A2 n2 c2) ∧ v1.cell? ⟨g, 2, none⟩ = some (.slice A3 n3 c3) := by
    rw [ev, eg]
    simp
  have hg : g < v1.heap.size := by rw [ev, eg]; simp
  have HB := Lib.hid hb
  have HV := Lib.hid (And.intro ev eg)
  have HQ := Lib.hid (fun wz (hz : Below v1.heap.size v1 wz) => And.intro ((hz.cell (p := ⟨g, 0, none⟩) hg).trans hq.1) (And.intro ((hz.cell (p := ⟨g, 1, none⟩) hg).trans hq.2.1) ((hz.cell (p := ⟨g, 2, none⟩) hg).trans hq.2.2)))
  have HPG := Lib.hid (fun wz (hz : Below v1.heap.size v1 wz) => (pg.next (hb.trans (hz.mono hb.size)) : PgR wz A1 n1 c1 A2 n2 c2 A3 n3 c3 es ds ms))
  have HFW := Lib.hid (few_any v1 (A1 := A1) (n1 := n1) (c1 := c1) (A2 := A2) (n2 := n2) (c2 := c2) (A3 := A3) (n3 := n3) (c3 := c3))
  obtain ⟨fw, efw⟩ : ∃ b, b = fewB n1 n2 n3 := ⟨_, rfl⟩
  rw [← efw] at HFW
  have HE := Lib.hid efw
  obtain ⟨q0, q1, q2⟩ := hq
  clear ev eg hb hg pg efw
  go_enter Try.func4, Try.ntmps4
  go_upto_region 1 with fail
  rw [← HV.out.1, ← HV.out.2]
  clear HV
  go_wp2_with fail
  go_at_call 21
  refine HFW.out.mono ?_
  rintro e v2 ⟨rfl, h2⟩
  have HB2 := Lib.hid h2
  clear h2 HFW q0 q1 q2
  cases fw with
  | false =>
    go_wp2_with fail
    go_at_call 10
    refine (awake16 K M v2).mono ?_
    rintro e v3 ⟨rfl, h3⟩
    have H3 := Lib.hid (HB.out.trans ((HB2.out.trans (h3.mono HB2.out.size)).mono HB.out.size))
    clear h3
    go_wp2_with fail
    go_ret
    exact ⟨rfl, H3.out⟩
  | true =>
  have hfew := few_parts HE.out.symm
  have HF := Lib.hid hfew
  clear hfew
  obtain ⟨q0, q1, q2⟩ := HQ.out v2 HB2.out
  have HTX := Lib.hid (text16_any K v2 (A3 := A3) (n3 := n3) (c3 := c3) (HPG.out v2 HB2.out).r1 (HPG.out v2 HB2.out).r2 (HPG.out v2 HB2.out).l1 (HPG.out v2 HB2.out).l2 HF.out.1 HF.out.2.1)
  go_wp2_with fail
  go_at_call 22
  refine HTX.out.mono ?_
  rintro e v3 ⟨p, FT, A4, c4, rfl, hT, hFT, rN, h3⟩
  have HB3 := Lib.hid (HB2.out.trans (h3.mono HB2.out.size))
  have HT3 := Lib.hid (And.intro hT (And.intro (show ∀ k, FT k → w.heap.size ≤ k from fun k hk => Nat.le_trans HB.out.size (Nat.le_trans HB2.out.size (hFT k hk))) rN))
  clear hT hFT rN h3 HTX q0 q1 q2
  obtain ⟨q0, q1, q2⟩ := HQ.out v3 HB3.out
  have HBK := Lib.hid (book16_any M v3 (A1 := A1) (n1 := n1) (c1 := c1) (A2 := A2) (n2 := n2) (c2 := c2) (HPG.out v3 HB3.out).r3 (HPG.out v3 HB3.out).l3 HF.out.2.2)
  go_wp2_with fail
  go_at_call 23
  refine HBK.out.mono ?_
  rintro e v4 ⟨b, A5, c5, rfl, FB, bB, rL, hA5, hFB, h4⟩
  obtain ⟨T, eT⟩ : ∃ t, t = pageT es ds := ⟨_, rfl⟩
  obtain ⟨L, eL⟩ : ∃ l, l = maddsL [] ms := ⟨_, rfl⟩
  rw [← eT] at HT3
  rw [← eL] at bB rL
  rw [← eT, ← eL]
  have hok := page_ok (es := es) (ds := ds) (by rw [(HPG.out v3 HB3.out).l1]; exact HF.out.1) (by rw [(HPG.out v3 HB3.out).l2]; exact HF.out.2.1) (es.length + ds.length)
  rw [show txtK (pageD es ds) (es.length + ds.length) = T from eT.symm] at hok
  have hgl := maddsL_good ms [] Good.nil (by decide)
  rw [← eL, (HPG.out v3 HB3.out).l3, List.length_nil] at hgl
  have HOK := Lib.hid (And.intro hok.1 (And.intro (show T.L.length ≤ 4096 by omega) (And.intro hok.2.2.2 (And.intro hgl.1 (show L.length ≤ n3 by omega)))))
  have HB4 := Lib.hid (HB3.out.trans (h4.mono HB3.out.size))
  have H4 := Lib.hid (And.intro (K.next HT3.out.1 h4) (And.intro (HT3.out.2.2.next h4) (And.intro bB (And.intro rL (And.intro hA5 (And.intro hFB h4))))))
  have HEND := Lib.hid (HB.out.trans (HB4.out.mono HB.out.size))
  clear bB rL hA5 hFB h4 hok hgl HBK q0 q1 q2
  have HSS := Lib.hid (M.styles K v4 H4.out.2.2.1 H4.out.1 HOK.out.1 HOK.out.2.1)
  obtain ⟨n, en⟩ : ∃ q, q = (nodesL T.L).length := ⟨_, rfl⟩
  obtain ⟨nl, enl⟩ : ∃ q, q = L.length := ⟨_, rfl⟩
  rw [← en] at HSS ⊢
  rw [← enl]
  have hn9 : n ≤ 4096 := by rw [en]; exact Nat.le_trans (nodes_len HOK.out.1) HOK.out.2.1
  have HNN := Lib.hid (And.intro (show (nodL T.L T.G).length = n by rw [en, List.length_map]) (And.intro enl.symm (show nl ≤ 1000000 by rw [enl]; have := HOK.out.2.2.2.2; have := HF.out.2.2; omega)))
  clear en enl
  go_wp2_with fail
  go_at_call 24
  refine HSS.out.mono ?_
  rintro e v5 ⟨A6, c6, rfl, rS, h5⟩
  have H5 := Lib.hid (And.intro rS h5)
  have HE5 := Lib.hid (HEND.out.trans (h5.mono HEND.out.size))
  clear rS h5 HSS
  go_wp2_with fail
  go_loopw [33] (fun i wr => ∃ k : Nat, k ≤ n ∧ i = .int .i64 (k : Int) ∧ Below v5.heap.size v5 wr) (fun i _ => n - (intF i).toNat)
  case atStart => exact ⟨0, Nat.zero_le _, rfl, Below.refl _ _⟩
  case round =>
    obtain ⟨k, hk, rfl, hbr⟩ := hrel
    by_cases hlt : k < n
    · have g1 : (k : Int) < (n : Int) := by omega
      obtain ⟨s, es_⟩ : ∃ s, s = stR (nodL T.L T.G) L (k : Int) := ⟨_, rfl⟩
      have hs : (styL (nodL T.L T.G) L)[k]? = some s := by rw [es_]; exact styL_at _ _ (by rw [HNN.out.1]; exact hlt)
      obtain ⟨b6, o6, rfl, hb6, s0, s1, s2, s3, s4⟩ := sty_at (H5.out.1.next hbr) hs
      have h45 := H5.out.2.trans (hbr.mono H5.out.2.size)
      have hst := fun wz (hz : Below wr.heap.size wr wz) => rstyle_any (k : Int) wz ((H4.out.2.2.2.1.next h45).keep hz) ((H4.out.2.1.next h45).keep hz) hz.size hz.size HNN.out.2.1 HNN.out.2.2 HNN.out.1 (Nat.le_trans hn9 (by decide)) HOK.out.2.2.2.1
      rw [← es_] at hst
      have HST := Lib.hid hst
      have HS := Lib.hid (fun wz (hz : Below wr.heap.size wr wz) => show (wz.cell? ⟨b6, o6 + k * 5, none⟩ = some (.int .i64 s.a0) ∧ wz.cell? ⟨b6, o6 + k * 5 + 1, none⟩ = some (.int .i64 s.a1) ∧ wz.cell? ⟨b6, o6 + k * 5 + 2, none⟩ = some (.int .i64 s.a2) ∧ wz.cell? ⟨b6, o6 + k * 5 + 3, none⟩ = some (.int .i64 s.a3) ∧ wz.cell? ⟨b6, o6 + k * 5 + 4, none⟩ = some (.int .i64 s.a4)) from ⟨(hz.cell (p := ⟨b6, o6 + k * 5, none⟩) hb6).trans s0, (hz.cell (p := ⟨b6, o6 + k * 5 + 1, none⟩) hb6).trans s1, (hz.cell (p := ⟨b6, o6 + k * 5 + 2, none⟩) hb6).trans s2, (hz.cell (p := ⟨b6, o6 + k * 5 + 3, none⟩) hb6).trans s3, (hz.cell (p := ⟨b6, o6 + k * 5 + 4, none⟩) hb6).trans s4⟩)
      have hq := fun wz => eqSty10000 s s wz
      rw [decide_eq_true rfl] at hq
      have HBR := Lib.hid hbr
      have HK := Lib.hid hlt
      clear es_ hs hb6 s0 s1 s2 s3 s4 h45 hst hbr hlt hk
      go_upto_region 11 with fail
      refine wp_region_inv 8 [36, 37, 38, 39, 40, 41, 42, 43] [.val (.slice (some ⟨b6, o6, none⟩) n c6), .val (.int .i64 (k : Int)), .val (.pointer (some ⟨b6, o6 + k * 5, none⟩)), .val (.agg #[.int .i64 s.a0, .int .i64 s.a1, .int .i64 s.a2, .int .i64 s.a3, .int .i64 s.a4]), .val (.slice A4 n c4), .val (.slice A5 nl c5), .val (.int .i64 (k : Int)), .val (.agg #[.int .i64 s.a0, .int .i64 s.a1, .int .i64 s.a2, .int .i64 s.a3, .int .i64 s.a4])] (fun wz => Below wr.heap.size wr wz) (by kernel_rfl) (by kernel_rfl) (fun wz wz' hz hb => hz.trans (hb.mono hz.size)) ((Below.refl _ _).drew) (fun u => by simp only [puts, List.foldl_cons, List.foldl_nil]; go_simp; exact rfl) ?_ ?_
      · simp only [List.take_succ_cons, List.take_zero]
        refine Obs.cons (fun u w hS hd => ?_) ?_
        · exact Gv.run (.slice (some ⟨b6, o6, none⟩) n c6) rfl (by go_simp) rfl
        refine Obs.cons (fun u w hS hd => ?_) ?_
        · exact Gv.run (.int .i64 (k : Int)) rfl (by go_simp) rfl
        refine Obs.cons (fun u w hS hd => ?_) ?_
        · have d36 : u 36 = .slice (some ⟨b6, o6, none⟩) n c6 := dep hd 0 rfl
          have d37 : u 37 = .int .i64 (k : Int) := dep hd 1 rfl
          rw [d36, d37]
          exact Gv.run (.pointer (some ⟨b6, o6 + k * 5, none⟩)) rfl (by go_simp) rfl
        refine Obs.cons (fun u w hS hd => ?_) ?_
        · have d38 : u 38 = .pointer (some ⟨b6, o6 + k * 5, none⟩) := dep hd 2 rfl
          rw [d38]
          exact Gv.run (.agg #[.int .i64 s.a0, .int .i64 s.a1, .int .i64 s.a2, .int .i64 s.a3, .int .i64 s.a4]) rfl (by obtain ⟨k0, k1, k2, k3, k4⟩ := HS.out w hS; go_simp) rfl
        refine Obs.cons (fun u w hS hd => ?_) ?_
        · exact Gv.run (.slice A4 n c4) rfl (by go_simp) rfl
        refine Obs.cons (fun u w hS hd => ?_) ?_
        · exact Gv.run (.slice A5 nl c5) rfl (by go_simp) rfl
        refine Obs.cons (fun u w hS hd => ?_) ?_
        · exact Gv.run (.int .i64 (k : Int)) rfl (by go_simp) rfl
        refine Obs.cons (fun u w hS hd => ?_) ?_
        · have d40 : u 40 = .slice A4 n c4 := dep hd 4 rfl
          have d41 : u 41 = .slice A5 nl c5 := dep hd 5 rfl
          have d42 : u 42 = .int .i64 (k : Int) := dep hd 6 rfl
          rw [d40, d41, d42]
          refine Gv.call 25 #[.slice A4 n c4, .slice A5 nl c5, .int .i64 (k : Int)] rfl (by go_simp) ((HST.out w hS).mono ?_)
          rintro e w' ⟨rfl, hb⟩
          exact ⟨_, rfl, rfl, hb⟩
        exact Obs.nil
      intro u v8 hS hd
      have d39 : u 39 = .agg #[.int .i64 s.a0, .int .i64 s.a1, .int .i64 s.a2, .int .i64 s.a3, .int .i64 s.a4] := hd 3 (by decide)
      have d43 : u 43 = .agg #[.int .i64 s.a0, .int .i64 s.a1, .int .i64 s.a2, .int .i64 s.a3, .int .i64 s.a4] := hd 7 (by decide)
      rw [d39, d43]
      simp only [List.drop_succ_cons, List.drop_zero]
      have HS8 := Lib.hid (HBR.out.trans (hS.mono HBR.out.size))
      clear hS hd d39 d43
      go_wp2_with fail
      go_roundw
      case rel => exact ⟨k + 1, HK.out, by go_num, HS8.out⟩
      case measure => simp [intF]; have := HK.out; omega
    · obtain rfl : n = k := by omega
      obtain ⟨vo, evo⟩ : ∃ v, v = wr := ⟨_, rfl⟩
      subst evo
      have HE6 := Lib.hid (HE5.out.trans (hbr.mono HE5.out.size))
      clear hbr hlt hk
      go_wp2_with fail
      go_at_call 10
      refine (awake16 K M vo).mono ?_
      rintro e v9 ⟨rfl, h9⟩
      have H9 := Lib.hid (HE6.out.trans (h9.mono HE6.out.size))
      clear h9
      go_wp2_with fail
      go_ret
      exact ⟨rfl, H9.out⟩
end
end Go.Proofs.Ytpjeggbkhbghaaa
