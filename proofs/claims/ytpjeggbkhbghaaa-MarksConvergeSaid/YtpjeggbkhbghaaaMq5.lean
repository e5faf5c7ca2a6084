/-
  Layer 16: MarksConverge. By an AI agent.
-/
import Derived.Test.YtpjeggbkhbghaaaTP
import Derived.Test.YtpjeggbkhbghaaaMv1
import Derived.Test.YtpjeggbkhbghaaaMq1
import Derived.Test.YtpjeggbkhbghaaaTR
import Derived.Test.YtpjeggbkhbghaaaTR
import Derived.Test.YtpjeggbkhbghaaaOp15
import Derived.Test.YtpjeggbkhbghaaaPar
import Derived.Test.YtpjeggbkhbghaaaMs4
namespace Go.Proofs.Ytpjeggbkhbghaaa
open Go Go.RowKit
set_option maxRecDepth 20000
section
variable {R : TreeP} (K : FugC R) {B : BookP} (M : MarkC B)
include K M
set_option maxHeartbeats 12800000 in
theorem marksconverge_law {A1 A2 A3 : Option Addr} {n1 c1 n2 c2 n3 c3 : Nat} {es : List Ins} {ds : List IDt} {ms : List Mrk} {A' : Option Addr} {c' n' : Nat} {ts : List Int} (hn' : ts.length = n') (w : World) (r' : RdR intE w w.heap.size A' c' ts) (pg : PgR w A1 n1 c1 A2 n2 c2 A3 n3 c3 es ds ms) :
    Calls Try.prog 6 #[pageV A1 n1 c1 A2 n2 c2 A3 n3 c3, .slice A' n' c'] w fun e w' => e = .returned (.bool true) ∧ Below w.heap.size w w' := by
  obtain ⟨v1, ev⟩ : ∃ v, v = w.alloc (.cells #[.slice A1 n1 c1, .slice A2 n2 c2, .slice A3 n3 c3] 45) := ⟨_, rfl⟩
  obtain ⟨g, eg⟩ : ∃ g, g = w.heap.size := ⟨_, rfl⟩
  have hb : Below w.heap.size w v1 := by rw [ev]; exact (Below.refl _ _).alloc (Nat.le_refl _) _
  have hq : v1.cell? ⟨g, 0, none⟩ = some (.slice A1 n1 c1) ∧ v1.cell? ⟨g, 1, none⟩ = some (.slice A2 n2 c2) ∧ v1.cell? ⟨g, 2, none⟩ = some (.slice A3 n3 c3) := by
    rw [ev, eg]
    simp
  have hg : g < v1.heap.size := by rw [ev, eg]; simp
  have HB := Lib.hid hb
  have HV := Lib.hid (And.intro ev eg)
  have HQ := Lib.hid (fun wz (hz : Below v1.heap.size v1 wz) => And.intro ((hz.cell (p := ⟨g, 0, none⟩) hg).trans hq.1) (And.intro ((hz.cell (p := ⟨g, 1, none⟩) hg).trans hq.2.1) ((hz.cell (p := ⟨g, 2, none⟩) hg).trans hq.2.2)))
  have HPG := Lib.hid (fun wz (hz : Below v1.heap.size v1 wz) => (pg.next (hb.trans (hz.mono hb.size)) : PgR wz A1 n1 c1 A2 n2 c2 A3 n3 c3 es ds ms))
  have HFW := Lib.hid (few_any v1 (A1 := A1) (n1 := n1) (c1 := c1) (A2 := A2) (n2 := n2) (c2 := c2) (A3 := A3) (n3 := n3) (c3 := c3))
  obtain ⟨fw, efw⟩ : ∃ b, b = fewB n1 n2 n3 := ⟨_, rfl⟩
  rw [← efw] at HFW
  have HE := Lib.hid efw
  obtain ⟨q0, q1, q2⟩ := hq
  have HR' := Lib.hid (fun wz (hz : Below v1.heap.size v1 wz) => (r'.keep (hb.trans (hz.mono hb.size)) : RdR intE wz w.heap.size A' c' ts))
  have HN' := Lib.hid hn'
  clear ev eg hb hg pg efw r' hn'
  go_enter Try.func6, Try.ntmps6
  go_upto_region 1 with fail
  rw [← HV.out.1, ← HV.out.2]
  clear HV
  go_wp2_with fail
  go_at_call 21
  refine HFW.out.mono ?_
  rintro e v2 ⟨rfl, h2⟩
  have HB2 := Lib.hid h2
  clear h2 HFW q0 q1 q2
  cases fw with
  | false =>
    go_wp2_with fail
    go_at_call 10
    refine (awake16 K M v2).mono ?_
    rintro e v3 ⟨rfl, h3⟩
    have H3 := Lib.hid (HB.out.trans ((HB2.out.trans (h3.mono HB2.out.size)).mono HB.out.size))
    clear h3
    go_wp2_with fail
    go_ret
    exact ⟨rfl, H3.out⟩
  | true =>
  by_cases hbig : 100 < n'
  · have g1 : (100 : Int) < (n' : Int) := by omega
    clear hbig
    go_wp2_with fail
    go_at_call 10
    refine (awake16 K M v2).mono ?_
    rintro e v3 ⟨rfl, h3⟩
    have H3 := Lib.hid (HB.out.trans ((HB2.out.trans (h3.mono HB2.out.size)).mono HB.out.size))
    clear h3
    go_wp2_with fail
    go_ret
    exact ⟨rfl, H3.out⟩
  have g1 : ¬ (100 : Int) < (n' : Int) := by omega
  have hn9 : n' ≤ 100 := by omega
  have hfew := few_parts HE.out.symm
  have HF := Lib.hid hfew
  obtain ⟨i0, hi0, hz0, hz1, hz2⟩ := info_parts infoMrk
  have HI := Lib.hid (And.intro hi0 (And.intro hz0 (And.intro hz1 hz2)))
  have HT1 := Lib.hid (fun wz (hz : Below v2.heap.size v2 wz) => (HB2.out.trans (hz.mono HB2.out.size) : Below v1.heap.size v1 wz))
  obtain ⟨q0, q1, q2⟩ := HQ.out v2 HB2.out
  obtain ⟨v3, e3⟩ : ∃ v, v = v2.alloc (.cells #[.slice A1 n1 c1, .slice A2 n2 c2, .slice A3 n3 c3] 45) := ⟨_, rfl⟩
  obtain ⟨gq, egq⟩ : ∃ g, g = v2.heap.size := ⟨_, rfl⟩
  have hb3 : Below v2.heap.size v2 v3 := by rw [e3]; exact (Below.refl _ _).alloc (Nat.le_refl _) _
  have o3 : O3p v3 v2.heap.size 45 gq (.slice A1 n1 c1) (.slice A2 n2 c2) (.slice A3 n3 c3) := by rw [e3, egq]; exact O3p.newz (Nat.le_refl _) _ _ _ _
  have HO3 := Lib.hid (And.intro o3 hb3)
  have E3 := Lib.hid (And.intro e3 egq)
  clear hbig hfew hi0 hz0 hz1 hz2 e3 egq hb3 o3
  go_upto_region 4 with fail
  rw [← E3.out.1, ← E3.out.2]
  clear E3 q0 q1 q2
  have x0 := O3p.c0 HO3.out.1
  have x1 := O3p.c1 HO3.out.1
  have x2 := O3p.c2 HO3.out.1
  have f2 := O3p.f2 HO3.out.1
  obtain ⟨v4, e4⟩ : ∃ v, v = v3.setCell ⟨gq, 2, none⟩ (.slice none 0 0) := ⟨_, rfl⟩
  have hs4 := O3p.set2 HO3.out.1 (.slice none 0 0)
  rw [← e4] at hs4
  have HO4 := Lib.hid (And.intro hs4.1 (And.intro (HO3.out.2.trans hs4.2.1) hs4.2.2.size))
  have HGQ := Lib.hid (And.intro (OwnF.lt HO3.out.1) (OwnF.ge HO3.out.1))
  have E4 := Lib.hid e4
  clear e4 hs4
  go_upto_region 5 with fail
  rw [← E4.out]
  clear E4 x0 x1 x2 f2 HO3
  obtain ⟨q0, q1, q2⟩ := HQ.out v4 (HT1.out v4 HO4.out.2.1)
  go_wp2_with fail
  clear q0 q1 q2
  go_loopw [33] (fun i wr => ∃ k : Nat, k ≤ n3 ∧ i = .int .i64 (k : Int) ∧ ∃ Ao co, O3p wr v2.heap.size 45 gq (.slice A1 n1 c1) (.slice A2 n2 c2) (.slice Ao (oncM ms k).length co) ∧ OwnR mrkE wr v3.heap.size 31 Ao co (oncM ms k) ∧ v3.heap.size ≤ wr.heap.size ∧ Below v2.heap.size v2 wr) (fun i _ => n3 - (intF i).toNat)
  case atStart => exact ⟨0, Nat.zero_le _, rfl, none, 0, HO4.out.1, OwnR.nothing _ _ _ _, HO4.out.2.2, HO4.out.2.1⟩
  case round =>
    obtain ⟨k, hk, rfl, Ao, co, ob, oo, hsz, hbr⟩ := hrel
    clear HO4
    by_cases hlt : k < n3
    · have g2 : (k : Int) < (n3 : Int) := by omega
      obtain ⟨x, hx⟩ := getD_of (L := ms) (k := k) (by rw [(HPG.out wr (HT1.out wr hbr)).l3]; exact hlt)
      obtain ⟨b, o, rfl, hbB, m0, m1, m2, m3, m4, m5, m6, m7, m8, m9⟩ := mrk_at (HPG.out wr (HT1.out wr hbr)).r3 hx
      obtain ⟨v5, e5⟩ : ∃ v, v = wr.alloc (.cells #[.int .i64 x.clock, .int .i64 x.author, .int .i64 x.from_.id.1, .int .i64 x.from_.id.2, .bool x.from_.behind, .int .i64 x.upto.id.1, .int .i64 x.upto.id.2, .bool x.upto.behind, .int .i64 x.name, .int .i64 x.value] 31) := ⟨_, rfl⟩
      obtain ⟨g5, eg5⟩ : ∃ g, g = wr.heap.size := ⟨_, rfl⟩
      have hb5 : Below wr.heap.size wr v5 := by rw [e5]; exact (Below.refl _ _).alloc (Nat.le_refl _) _
      have hd : MrkB v5 g5 x ∧ g5 < v5.heap.size := ⟨by rw [e5, eg5]; exact mrk_box wr x, by rw [e5, eg5]; simp⟩
      obtain ⟨acc, eacc⟩ : ∃ a, a = oncM ms k := ⟨_, rfl⟩
      have hak : acc.length ≤ k := by rw [eacc]; exact oncM_len ms k
      rw [← eacc] at oo ob
      obtain ⟨m, em⟩ : ∃ m, m = acc.length := ⟨_, rfl⟩
      rw [← em] at ob
      have hm9 : m ≤ 20 := by have := HF.out.2.2; omega
      have HX := Lib.hid (show oncM ms (k + 1) = onceM acc x by rw [eacc]; exact oncM_succ hx)
      obtain ⟨tb, etb⟩ : ∃ t, t = mhasB acc x.clock x.author := ⟨_, rfl⟩
      have HH := mhas_any x.clock x.author v5 (oo.keep hb5).rd (Nat.le_refl _) em.symm (by omega)
      rw [← etb] at HH
      have HHA := Lib.hid HH
      have HOO := Lib.hid (And.intro (oo.keep hb5) (And.intro (OwnF.keep ob hb5 : O3p v5 v2.heap.size 45 gq (.slice A1 n1 c1) (.slice A2 n2 c2) (.slice Ao m co)) (And.intro (Nat.le_trans hsz hb5.size) (hbr.trans (hb5.mono hbr.size)))))
      have HK := Lib.hid (And.intro hlt (And.intro em.symm etb))
      have HD := Lib.hid hd
      have E5 := Lib.hid (And.intro e5 eg5)
      clear hx hbB e5 eg5 hb5 hd hak HH oo ob hsz hbr hlt hk em etb eacc
      go_upto_region 8 with fail
      rw [← E5.out.1, ← E5.out.2]
      clear E5 m0 m1 m2 m3 m4 m5 m6 m7 m8 m9
      have x2 := O3p.c2 HOO.out.2.1
      obtain ⟨⟨m0, m1, m2, m3, m4, m5, m6, m7, m8, m9⟩, _⟩ := HD.out
      go_wp2_with fail
      go_at_call 19
      refine HHA.out.mono ?_
      rintro z v6 ⟨rfl, h6⟩
      clear x2 HHA m0 m1 m2 m3 m4 m5 m6 m7 m8 m9
      have HO6 := Lib.hid (And.intro (HOO.out.1.keep h6) (And.intro (OwnF.keep HOO.out.2.1 h6 : O3p v6 v2.heap.size 45 gq (.slice A1 n1 c1) (.slice A2 n2 c2) (.slice Ao m co)) (And.intro (Nat.le_trans HOO.out.2.2.1 h6.size) (And.intro (HOO.out.2.2.2.trans (h6.mono HOO.out.2.2.2.size)) (HD.out.1.keep h6 HD.out.2)))))
      clear h6 HOO HD
      cases tb with
      | true =>
        have HXX := Lib.hid (show oncM ms (k + 1) = acc by rw [HX.out]; unfold onceM; rw [← HK.out.2.2, if_pos rfl])
        have hn3 := HF.out.2.2
        go_wp2_with fail
        go_roundw
        case rel => exact ⟨k + 1, HK.out.1, by go_num, Ao, co, by rw [HXX.out, HK.out.2.1]; exact HO6.out.2.1, by rw [HXX.out]; exact HO6.out.1, HO6.out.2.2.1, HO6.out.2.2.2.1⟩
        case measure => simp [intF]; have := HK.out.1; omega
      | false =>
        have HXX := Lib.hid (show oncM ms (k + 1) = acc ++ [x] by rw [HX.out]; unfold onceM; rw [← HK.out.2.2, if_neg (by decide)])
        have HLN := Lib.hid (show m + 1 ≤ 140737488355328 ∧ (m + 1) * 80 ≤ 140737488355328 by omega)
        have x0 := O3p.c0 HO6.out.2.1
        have x1 := O3p.c1 HO6.out.2.1
        have x2 := O3p.c2 HO6.out.2.1
        obtain ⟨m0, m1, m2, m3, m4, m5, m6, m7, m8, m9⟩ := HO6.out.2.2.2.2
        have hn3 := HF.out.2.2
        go_wp2_with (at_builtin; refine wpList_appR1 v6 rfl (.tmp 46) (.tmp 48) _ rfl v3.heap.size 31 i0 _ Try.underlying22 HI.out.1 HI.out.2.1 HI.out.2.2.1 HI.out.2.2.2 rfl HK.out.2.1 rfl HO6.out.1 (y := x) rfl rfl HLN.out.1 HLN.out.2 HO6.out.2.2.1 ?_; intro A8 c8 w8 o8 hb8 hg8; have ob8 : O3p w8 v2.heap.size 45 gq (.slice A1 n1 c1) (.slice A2 n2 c2) (.slice Ao m co) := OwnF.same_ HO6.out.2.1 (hb8.block gq HGQ.out.1); have x0 := O3p.c0 ob8; have x1 := O3p.c1 ob8; have x2 := O3p.c2 ob8; have f2 := O3p.f2 ob8; have hs9 := O3p.set2 ob8 (.slice A8 (m + 1) c8); have HW8 := Lib.hid (And.intro (OwnR.keep0 o8 (fun ad e => hs9.2.2.block ad.block (OwnR.blk o8 ad e).2 (fun h => by have h1 := (OwnR.blk o8 ad e).1; have h2 := HGQ.out.1; omega))) (And.intro hs9.1 (And.intro (Nat.le_trans HO6.out.2.2.1 (Nat.le_trans hb8.size hs9.2.2.size)) ((HO6.out.2.2.2.1.trans (hb8.mono (Nat.le_trans HGQ.out.2 (Nat.le_of_lt HGQ.out.1)))).trans hs9.2.1)))); clear o8 hb8 hg8 ob8 hs9 m0 m1 m2 m3 m4 m5 m6 m7 m8 m9)
        go_roundw
        case rel => exact ⟨k + 1, HK.out.1, by go_num, A8, c8, by rw [HXX.out, List.length_append, List.length_singleton, HK.out.2.1]; exact HW8.out.2.1, by rw [HXX.out]; exact HW8.out.1, HW8.out.2.2.1, HW8.out.2.2.2⟩
        case measure => simp [intF]; have := HK.out.1; omega
    · obtain rfl : n3 = k := by omega
      obtain ⟨vo, evo⟩ : ∃ v, v = wr := ⟨_, rfl⟩
      subst evo
      obtain ⟨O_, eO⟩ : ∃ a, a = oncM ms n3 := ⟨_, rfl⟩
      have hun : UnlikeM O_ := by rw [eO]; exact oncM_unlike ms n3
      have hOl : O_.length ≤ 20 := by rw [eO]; exact Nat.le_trans (oncM_len ms n3) HF.out.2.2
      rw [← eO] at oo ob
      obtain ⟨N, eN⟩ : ∃ m, m = O_.length := ⟨_, rfl⟩
      rw [← eN] at ob hOl
      have HAP := Lib.hid (And.intro hun (And.intro eN.symm hOl))
      have HON := Lib.hid (And.intro oo (And.intro ob (And.intro hsz hbr)))
      have HVO := Lib.hid hsz
      have hpg := HPG.out vo (HT1.out vo hbr)
      have HTX := Lib.hid (text16_any K vo (A3 := Ao) (n3 := N) (c3 := co) hpg.r1 hpg.r2 hpg.l1 hpg.l2 HF.out.1 HF.out.2.1)
      have hok := page_ok (es := es) (ds := ds) (by rw [hpg.l1]; exact HF.out.1) (by rw [hpg.l2]; exact HF.out.2.1) (es.length + ds.length)
      obtain ⟨T, eT⟩ : ∃ t, t = pageT es ds := ⟨_, rfl⟩
      rw [show txtK (pageD es ds) (es.length + ds.length) = T from eT.symm] at hok
      rw [← eT] at HTX
      have HOK := Lib.hid (And.intro hok.1 (show T.L.length ≤ 4096 by omega))
      have x0 := O3p.c0 ob
      have x1 := O3p.c1 ob
      have x2 := O3p.c2 ob
      obtain ⟨n, en⟩ : ∃ q, q = (nodesL T.L).length := ⟨_, rfl⟩
      rw [← en] at HTX
      clear hun eN oo ob hsz hbr eO hlt hk hpg hok eT en
      go_wp2_with fail
      go_at_call 22
      refine HTX.out.mono ?_
      rintro e v6 ⟨p, FT, A4, c4, rfl, hT, hFT, _, h6⟩
      have HT6 := Lib.hid (And.intro hT hFT)
      have HO6 := Lib.hid (And.intro (HON.out.1.keep h6) (And.intro (OwnF.keep HON.out.2.1 h6 : O3p v6 v2.heap.size 45 gq (.slice A1 n1 c1) (.slice A2 n2 c2) (.slice Ao N co)) (And.intro (Nat.le_trans HON.out.2.2.1 h6.size) (And.intro (HON.out.2.2.2.trans (h6.mono HON.out.2.2.2.size)) h6.size))))
      have HBK := Lib.hid (book16_any M v6 (A1 := A1) (n1 := n1) (c1 := c1) (A2 := A2) (n2 := n2) (c2 := c2) HO6.out.1.rd HAP.out.2.1 HAP.out.2.2)
      clear hT hFT h6 HTX x0 x1 x2
      have x0 := O3p.c0 HO6.out.2.1
      have x1 := O3p.c1 HO6.out.2.1
      have x2 := O3p.c2 HO6.out.2.1
      go_wp2_with fail
      go_at_call 23
      refine HBK.out.mono ?_
      rintro e v7 ⟨b, A5, c5, rfl, FB, bB, _, _, hFB, h7⟩
      obtain ⟨L, eL⟩ : ∃ l, l = maddsL [] O_ := ⟨_, rfl⟩
      rw [← eL] at bB ⊢
      have HLE := Lib.hid eL
      have HT7 := Lib.hid (And.intro (K.next HT6.out.1 h7) (And.intro bB hFB))
      have HO7 := Lib.hid (And.intro (HO6.out.1.keep h7) (And.intro (OwnF.keep HO6.out.2.1 h7 : O3p v7 v2.heap.size 45 gq (.slice A1 n1 c1) (.slice A2 n2 c2) (.slice Ao N co)) (And.intro (Nat.le_trans HO6.out.2.2.1 h7.size) (HO6.out.2.2.2.1.trans (h7.mono HO6.out.2.2.2.1.size)))))
      have HSZ := Lib.hid (And.intro HO6.out.2.2.2.2 h7.size)
      obtain ⟨nl, enl⟩ : ∃ q, q = L.length := ⟨_, rfl⟩
      rw [← enl]
      clear bB hFB h7 HBK HO6 eL x0 x1 x2 enl
      have HLN := Lib.hid (show 0 + N ≤ 140737488355328 ∧ (0 + N) * 80 ≤ 140737488355328 by omega)
      obtain ⟨ve, eve⟩ : ∃ v, v = v7.alloc (.cells #[] 31) := ⟨_, rfl⟩
      have hbe : Below v7.heap.size v7 ve := by rw [eve]; exact (Below.refl _ _).alloc (Nat.le_refl _) _
      have HOE := Lib.hid (show OwnR mrkE ve v7.heap.size 31 (some ⟨v7.heap.size, 0, none⟩) 0 [] by rw [eve]; exact OwnR.lit _ (Nat.le_refl _) #[] ([] : List Mrk) (Nat.zero_le _) rfl)
      have HO5 := Lib.hid (And.intro (HO7.out.1.keep hbe) hbe.size)
      have xe := O3p.c2 (OwnF.keep HO7.out.2.1 hbe : O3p ve v2.heap.size 45 gq (.slice A1 n1 c1) (.slice A2 n2 c2) (.slice Ao N co))
      have x2 := O3p.c2 HO7.out.2.1
      rw [eve] at xe
      have E := Lib.hid eve
      clear eve hbe
      go_wp2_with (at_builtin; rw [← E.out]; refine wpList_appR ve rfl (.tmp 62) (.tmp 64) _ rfl v7.heap.size 31 i0 _ Try.underlying22 HI.out.1 HI.out.2.1 HI.out.2.2.1 HI.out.2.2.2 rfl (L := []) (n := 0) rfl rfl HOE.out HAP.out.2.1 rfl HO5.out.1.rd HLN.out.1 HLN.out.2 HO5.out.2 ?_; intro A8 c8 w8 o8 hb8 hg8; have HW8 := Lib.hid (And.intro o8 (And.intro hb8 hg8)); clear o8 hb8 hg8 x2 xe)
      have HMX := Lib.hid (show OwnR mrkE w8 v7.heap.size 31 A8 c8 O_ ∧ Below v7.heap.size v7 w8 from ⟨HW8.out.1, (show Below v7.heap.size v7 ve by rw [E.out]; exact (Below.refl _ _).alloc (Nat.le_refl _) _).trans HW8.out.2.1⟩)
      clear HW8 HOE HO5 E HI HLN HON
      go_loopw [68] (fun i wr => ∃ q : Nat, q ≤ n' ∧ i = .int .i64 (q : Int) ∧ ∃ M_ : List Mrk, M_.length = N ∧ M_.Perm O_ ∧ OwnR mrkE wr v7.heap.size 31 A8 c8 M_ ∧ Below v7.heap.size v7 wr) (fun i _ => n' - (intF i).toNat)
      case atStart => exact ⟨0, Nat.zero_le _, rfl, O_, HAP.out.2.1, .refl _, HMX.out.1, HMX.out.2⟩
      case round =>
        obtain ⟨q, hq, rfl, M_, hMN, hMO, hM, hbr⟩ := hrel
        clear HMX
        by_cases hlt : q < n'
        · have g2 : (q : Int) < (n' : Int) := by omega
          obtain ⟨zt, hzt⟩ := getD_of (L := ts) (k := q) (by rw [HN'.out]; exact hlt)
          obtain ⟨b9, o, rfl, hbB, hc⟩ := (HR'.out wr (HT1.out wr (HO7.out.2.2.2.trans (hbr.mono HO7.out.2.2.2.size)))).at_ hzt
          have c0 : wr.cell? ⟨b9, o + q, none⟩ = some (.int .i64 zt) := by
            have h0 := hc 0 _ rfl
            rw [show o + q * intE.size + 0 = o + q by show o + q * 1 + 0 = o + q; omega] at h0
            exact h0
          have HM := Lib.hid (And.intro hM hbr)
          have HQX := Lib.hid (And.intro hlt (And.intro hMN hMO))
          clear hM hbr hlt hMO hc hbB hzt hq
          by_cases hN0 : N = 0
          · have g4 : ¬ (0 : Int) < (N : Int) := by omega
            clear hMN hN0
            go_wp2_with fail
            go_roundw
            case rel => exact ⟨q + 1, HQX.out.1, by go_num, M_, HQX.out.2.1, HQX.out.2.2, HM.out.1, HM.out.2⟩
            case measure => simp [intF]; have := HQX.out.1; omega
          obtain ⟨g8, rfl⟩ := OwnR.ptr HM.out.1 (by omega)
          obtain ⟨P, U, Q, f1, f2, f3, f4, f5, hP, hQ⟩ := mix_nums (q := q) (N := N) (z := zt) (by omega) (by omega)
          obtain ⟨y, hy⟩ := getD_of (L := M_) (k := P) (by omega)
          obtain ⟨z, hz⟩ := getD_of (L := M_) (k := Q) (by omega)
          have HPQ := Lib.hid (And.intro hy (And.intro hz (And.intro (show P < M_.length by omega) (show Q < M_.length by omega))))
          have hPI : (P : Int) < (N : Int) := by omega
          have hQI : (Q : Int) < (N : Int) := by omega
          have g4 : (0 : Int) < (N : Int) := by omega
          have hNI : ¬ (N : Int) = 0 := by omega
          have hN9 := hOl
          obtain ⟨v1x, ev1⟩ : ∃ v, v = wr := ⟨_, rfl⟩
          subst ev1
          clear hy hz hMN
          go_upto_region 18 with fail
          clear c0
          refine wp_region_inv 12 [76, 77, 78, 79, 80, 81, 82, 83, 84, 85, 86, 15] [.val (.int .i64 (q : Int)), .val (.slice (some ⟨g8, 0, none⟩) N c8), .val (.int .i64 (N : Int)), .val (.int .i64 (P : Int)), .val (.int .i64 zt), .val (.int .u64 (U : Int)), .val (.slice (some ⟨g8, 0, none⟩) N c8), .val (.int .i64 (N : Int)), .val (.int .u64 (N : Int)), .val (.int .u64 (Q : Int)), .val (.int .i64 (Q : Int)), .val (.int .i64 (P : Int))] (fun wz => Below v1x.heap.size v1x wz) (by kernel_rfl) (by kernel_rfl) (fun wz wz' hz hb => hz.trans (hb.mono hz.size)) ((Below.refl _ _).drew) (fun u => by simp only [puts, List.foldl_cons, List.foldl_nil]; go_simp; exact rfl) ?_ ?_
          · simp only [List.take_succ_cons, List.take_zero]
            refine Obs.cons (fun u w hS hd => ?_) ?_
            · exact Gv.run (.int .i64 (q : Int)) rfl (by go_simp) rfl
            refine Obs.cons (fun u w hS hd => ?_) ?_
            · exact Gv.run (.slice (some ⟨g8, 0, none⟩) N c8) rfl (by go_simp) rfl
            refine Obs.cons (fun u w hS hd => ?_) ?_
            · have d77 : u 77 = .slice (some ⟨g8, 0, none⟩) N c8 := dep hd 1 rfl
              rw [d77]
              exact Gv.run (.int .i64 (N : Int)) rfl (by go_simp) rfl
            refine Obs.cons (fun u w hS hd => ?_) ?_
            · have d76 : u 76 = .int .i64 (q : Int) := dep hd 0 rfl
              have d78 : u 78 = .int .i64 (N : Int) := dep hd 2 rfl
              rw [d76, d78]
              exact Gv.run (.int .i64 (P : Int)) rfl (by go_simp) rfl
            refine Obs.cons (fun u w hS hd => ?_) ?_
            · exact Gv.run (.int .i64 zt) rfl (by go_simp) rfl
            refine Obs.cons (fun u w hS hd => ?_) ?_
            · have d80 : u 80 = .int .i64 zt := dep hd 4 rfl
              rw [d80]
              exact Gv.run (.int .u64 (U : Int)) rfl (by go_simp) rfl
            refine Obs.cons (fun u w hS hd => ?_) ?_
            · exact Gv.run (.slice (some ⟨g8, 0, none⟩) N c8) rfl (by go_simp) rfl
            refine Obs.cons (fun u w hS hd => ?_) ?_
            · have d82 : u 82 = .slice (some ⟨g8, 0, none⟩) N c8 := dep hd 6 rfl
              rw [d82]
              exact Gv.run (.int .i64 (N : Int)) rfl (by go_simp) rfl
            refine Obs.cons (fun u w hS hd => ?_) ?_
            · have d83 : u 83 = .int .i64 (N : Int) := dep hd 7 rfl
              rw [d83]
              exact Gv.run (.int .u64 (N : Int)) rfl (by go_simp) rfl
            refine Obs.cons (fun u w hS hd => ?_) ?_
            · have d81 : u 81 = .int .u64 (U : Int) := dep hd 5 rfl
              have d84 : u 84 = .int .u64 (N : Int) := dep hd 8 rfl
              rw [d81, d84]
              exact Gv.run (.int .u64 (Q : Int)) rfl (by go_simp) rfl
            refine Obs.cons (fun u w hS hd => ?_) ?_
            · have d85 : u 85 = .int .u64 (Q : Int) := dep hd 9 rfl
              rw [d85]
              exact Gv.run (.int .i64 (Q : Int)) rfl (by go_simp) rfl
            refine Obs.cons (fun u w hS hd => ?_) ?_
            · have d79 : u 79 = .int .i64 (P : Int) := dep hd 3 rfl
              rw [d79]
              exact Gv.run (.int .i64 (P : Int)) rfl (by go_simp) rfl
            exact Obs.nil
          intro u v2x hS hd
          have d86 : u 86 = .int .i64 (Q : Int) := hd 10 (by decide)
          have d15 : u 15 = .int .i64 (P : Int) := hd 11 (by decide)
          rw [d86]
          simp only [List.drop_succ_cons, List.drop_zero]
          have HM' := Lib.hid (And.intro (HM.out.1.keep hS) (HM.out.2.trans (hS.mono HM.out.2.size)))
          clear hS hd HM f1 f2 f3 f4 f5
          have HM := HM'
          clear HM'
          rw [d15]
          clear d86 d15
          go_upto_region 19 with fail
          refine wp_region_par 15 17 [some 87, some 88, some 89, some 90, some 91, some 92, some 93, some 94, some 95, some 96, some 97, some 98, some 99, none, some 100] [13] [some (.slice (some ⟨g8, 0, none⟩) N c8), some (.int .i64 (P : Int)), some (.slice (some ⟨g8, 0, none⟩) N c8), some (.int .i64 (Q : Int)), some (.slice (some ⟨g8, 0, none⟩) N c8), some (.int .i64 (Q : Int)), some (.pointer (some ⟨g8, Q * 10, none⟩)), some (.agg #[.int .i64 z.clock, .int .i64 z.author, .int .i64 z.from_.id.1, .int .i64 z.from_.id.2, .bool z.from_.behind, .int .i64 z.upto.id.1, .int .i64 z.upto.id.2, .bool z.upto.behind, .int .i64 z.name, .int .i64 z.value]), some (.slice (some ⟨g8, 0, none⟩) N c8), some (.int .i64 (P : Int)), some (.pointer (some ⟨g8, P * 10, none⟩)), some (.agg #[.int .i64 y.clock, .int .i64 y.author, .int .i64 y.from_.id.1, .int .i64 y.from_.id.2, .bool y.from_.behind, .int .i64 y.upto.id.1, .int .i64 y.upto.id.2, .bool y.upto.behind, .int .i64 y.name, .int .i64 y.value]), some (.pointer (some ⟨g8, P * 10, none⟩)), none, some (.pointer (some ⟨g8, Q * 10, none⟩))] (fun Lb _ wz => (Lb 13 = false → OwnR mrkE wz v7.heap.size 31 (some ⟨g8, 0, none⟩) c8 M_) ∧ (Lb 13 = true → OwnR mrkE wz v7.heap.size 31 (some ⟨g8, 0, none⟩) c8 (M_.set P z)) ∧ Below v7.heap.size v7 wz) (by kernel_rfl) (by kernel_rfl)
            (fun _ => ⟨fun _ => HM.out.1, fun h => absurd h (by decide), HM.out.2.trans ((Below.refl v7.heap.size v2x).drew)⟩) (fun u => by simp only [List.filterMap_cons, List.filterMap_nil, puts, List.foldl_cons, List.foldl_nil]; go_simp; exact rfl) ?_ ?_
          · simp only [List.take_succ_cons, List.take_zero]
            refine Par.soft rfl rfl (.slice (some ⟨g8, 0, none⟩) N c8) rfl (fun u w Lb Vb hT hh => ⟨rfl, by go_simp⟩) ?_
            refine Par.soft rfl rfl (.int .i64 (P : Int)) rfl (fun u w Lb Vb hT hh => ⟨rfl, by go_simp⟩) ?_
            refine Par.soft rfl rfl (.slice (some ⟨g8, 0, none⟩) N c8) rfl (fun u w Lb Vb hT hh => ⟨rfl, by go_simp⟩) ?_
            refine Par.soft rfl rfl (.int .i64 (Q : Int)) rfl (fun u w Lb Vb hT hh => ⟨rfl, by go_simp⟩) ?_
            refine Par.soft rfl rfl (.slice (some ⟨g8, 0, none⟩) N c8) rfl (fun u w Lb Vb hT hh => ⟨rfl, by go_simp⟩) ?_
            refine Par.soft rfl rfl (.int .i64 (Q : Int)) rfl (fun u w Lb Vb hT hh => ⟨rfl, by go_simp⟩) ?_
            refine Par.soft rfl rfl (.pointer (some ⟨g8, Q * 10, none⟩)) rfl (fun u w Lb Vb hT hh => ⟨rfl, by have d91 : u 91 = .slice (some ⟨g8, 0, none⟩) N c8 := hh.val 4 _ rfl rfl; have d92 : u 92 = .int .i64 (Q : Int) := hh.val 5 _ rfl rfl; rw [d91, d92]; go_simp⟩) ?_
            refine Par.soft rfl rfl (.agg #[.int .i64 z.clock, .int .i64 z.author, .int .i64 z.from_.id.1, .int .i64 z.from_.id.2, .bool z.from_.behind, .int .i64 z.upto.id.1, .int .i64 z.upto.id.2, .bool z.upto.behind, .int .i64 z.name, .int .i64 z.value]) rfl (fun u w Lb Vb hT hh => ⟨rfl, by have d93 : u 93 = .pointer (some ⟨g8, Q * 10, none⟩) := hh.val 6 _ rfl rfl; rw [d93]; obtain ⟨⟨k0, k1, k2, k3, k4, k5, k6, k7, k8, k9⟩, _⟩ := (hT.1 (hh.not_ 13 (by rfl))).ten HPQ.out.2.1; go_simp⟩) ?_
            refine Par.soft rfl rfl (.slice (some ⟨g8, 0, none⟩) N c8) rfl (fun u w Lb Vb hT hh => ⟨rfl, by go_simp⟩) ?_
            refine Par.soft rfl rfl (.int .i64 (P : Int)) rfl (fun u w Lb Vb hT hh => ⟨rfl, by go_simp⟩) ?_
            refine Par.soft rfl rfl (.pointer (some ⟨g8, P * 10, none⟩)) rfl (fun u w Lb Vb hT hh => ⟨rfl, by have d95 : u 95 = .slice (some ⟨g8, 0, none⟩) N c8 := hh.val 8 _ rfl rfl; have d96 : u 96 = .int .i64 (P : Int) := hh.val 9 _ rfl rfl; rw [d95, d96]; go_simp⟩) ?_
            refine Par.soft rfl rfl (.agg #[.int .i64 y.clock, .int .i64 y.author, .int .i64 y.from_.id.1, .int .i64 y.from_.id.2, .bool y.from_.behind, .int .i64 y.upto.id.1, .int .i64 y.upto.id.2, .bool y.upto.behind, .int .i64 y.name, .int .i64 y.value]) rfl (fun u w Lb Vb hT hh => ⟨rfl, by have d97 : u 97 = .pointer (some ⟨g8, P * 10, none⟩) := hh.val 10 _ rfl rfl; rw [d97]; obtain ⟨⟨k0, k1, k2, k3, k4, k5, k6, k7, k8, k9⟩, _⟩ := (hT.1 (hh.not_ 13 (by rfl))).ten HPQ.out.1; go_simp⟩) ?_
            refine Par.soft rfl rfl (.pointer (some ⟨g8, P * 10, none⟩)) rfl (fun u w Lb Vb hT hh => ⟨rfl, by have d87 : u 87 = .slice (some ⟨g8, 0, none⟩) N c8 := hh.val 0 _ rfl rfl; have d88 : u 88 = .int .i64 (P : Int) := hh.val 1 _ rfl rfl; rw [d87, d88]; go_simp⟩) ?_
            refine Par.hard rfl (fun u wz Lb Vb hT hh => ?_) ?_
            · have d99 : u 99 = .pointer (some ⟨g8, P * 10, none⟩) := hh.val 12 _ rfl rfl
              have d94 : u 94 = .agg #[.int .i64 z.clock, .int .i64 z.author, .int .i64 z.from_.id.1, .int .i64 z.from_.id.2, .bool z.from_.behind, .int .i64 z.upto.id.1, .int .i64 z.upto.id.2, .bool z.upto.behind, .int .i64 z.name, .int .i64 z.value] := hh.val 7 _ rfl rfl
              rw [d99, d94]
              have oz := hT.1 (by cases hb : Lb 13 with | false => rfl | true => exact absurd hb (by rw [hh.not_ 13 (by rfl)]; decide))
              obtain ⟨⟨k0, k1, k2, k3, k4, k5, k6, k7, k8, k9⟩, fr⟩ := oz.ten HPQ.out.1
              obtain ⟨oput, bput⟩ := oz.put10o (p := P) HPQ.out.2.2.1 z
              refine StepP.store (set10o wz g8 (P * 10) z) rfl rfl (by unfold set10o; go_simp) ⟨fun c hc => by simp at hc, fun h => absurd h (by simp [lset]), fun _ => oput, hT.2.2.trans (bput.mono (Nat.le_refl _))⟩
            refine Par.soft rfl rfl (.pointer (some ⟨g8, Q * 10, none⟩)) rfl (fun u w Lb Vb hT hh => ⟨rfl, by have d89 : u 89 = .slice (some ⟨g8, 0, none⟩) N c8 := hh.val 2 _ rfl rfl; have d90 : u 90 = .int .i64 (Q : Int) := hh.val 3 _ rfl rfl; rw [d89, d90]; go_simp⟩) Par.nil

          · rintro u v5 hv ⟨Lb, Vb, ⟨_, t1, t2⟩, hl⟩
            have oz := t1 (hl 13 (by decide) rfl).1
            have d100 : u 100 = .pointer (some ⟨g8, Q * 10, none⟩) := hv 14 _ (by decide) rfl
            have d98 : u 98 = .agg #[.int .i64 y.clock, .int .i64 y.author, .int .i64 y.from_.id.1, .int .i64 y.from_.id.2, .bool y.from_.behind, .int .i64 y.upto.id.1, .int .i64 y.upto.id.2, .bool y.upto.behind, .int .i64 y.name, .int .i64 y.value] := hv 11 _ (by decide) rfl
            rw [d100, d98]
            obtain ⟨⟨k0, k1, k2, k3, k4, k5, k6, k7, k8, k9⟩, fr⟩ := oz.ten (p := Q) (x := z) (by
              rw [List.getElem?_set]
              by_cases hPQ : P = Q
              · rw [if_pos hPQ, if_pos HPQ.out.2.2.1]
              · rw [if_neg hPQ]; exact HPQ.out.2.1)
            have HZ := Lib.hid (oz.put10o (p := Q) (by rw [List.length_set]; exact HPQ.out.2.2.2) y)
            have HB2' := Lib.hid t2
            clear hv hl t1 t2 oz d100 d98
            simp only [List.drop_succ_cons, List.drop_zero]
            go_wp2_with fail
            go_roundw
            case rel => exact ⟨q + 1, HQX.out.1, by go_num, swapL M_ P Q y z, by rw [swap_len]; exact HQX.out.2.1, (swap_perm HPQ.out.1 HPQ.out.2.1).trans HQX.out.2.2, HZ.out.1, HB2'.out.trans HZ.out.2⟩
            case measure => simp [intF]; have := HQX.out.1; omega
        · obtain rfl : q = n' := by omega
          obtain ⟨vp, evp⟩ : ∃ v, v = wr := ⟨_, rfl⟩
          subst evp
          have ob : O3p vp v2.heap.size 45 gq (.slice A1 n1 c1) (.slice A2 n2 c2) (.slice Ao N co) := OwnF.keep HO7.out.2.1 hbr
          have x0 := O3p.c0 ob
          have x1 := O3p.c1 ob
          have x2 := O3p.c2 ob
          have f2 := O3p.f2 ob
          obtain ⟨v9, e9⟩ : ∃ v, v = vp.setCell ⟨gq, 2, none⟩ (.slice A8 N c8) := ⟨_, rfl⟩
          have hs9 := O3p.set2 ob (.slice A8 N c8)
          rw [← e9] at hs9
          have hgq : gq < vo.heap.size := Nat.lt_of_lt_of_le HGQ.out.1 HVO.out
          have hgq6 : gq < v6.heap.size := Nat.lt_of_lt_of_le hgq HSZ.out.1
          have hgq7 : gq < v7.heap.size := Nat.lt_of_lt_of_le hgq6 HSZ.out.2
          have hR9 := K.beside (K.next HT7.out.1 hbr) hs9.2.2 (fun k hk e => by have h1 := HT6.out.2 k hk; have h2 : k = gq := e; omega)
          have hB9 := M.beside (M.next HT7.out.2.1 hbr) hs9.2.2 (fun k hk e => by have h1 := HT7.out.2.2 k hk; have h2 : k = gq := e; omega)
          have hM9 : OwnR mrkE v9 v7.heap.size 31 A8 c8 M_ := OwnR.keep0 hM (fun ad e => hs9.2.2.block ad.block (OwnR.blk hM ad e).2 (fun h => by have h1 := (OwnR.blk hM ad e).1; have h2 : ad.block = gq := h; omega))
          have hW9 : Below v2.heap.size v2 v9 := (HO7.out.2.2.2.trans (hbr.mono HO7.out.2.2.2.size)).trans hs9.2.1
          have heq : maddsL [] M_ = L := by rw [HLE.out]; exact conv16 HAP.out.1 hMO (by rw [HAP.out.2.1]; exact HAP.out.2.2)
          have HBK := Lib.hid (book16_any M v9 (A1 := A1) (n1 := n1) (c1 := c1) (A2 := A2) (n2 := n2) (c2 := c2) hM9.rd hMN HAP.out.2.2)
          rw [heq] at HBK
          have HE9 := Lib.hid (HB.out.trans ((HT1.out v9 hW9).mono HB.out.size))
          have HR9 := Lib.hid (And.intro hR9 (And.intro hB9 hs9.1))
          have E9 := Lib.hid e9
          obtain ⟨nl2, enl⟩ : ∃ q, q = L.length := ⟨_, rfl⟩
          have hgl := maddsL_good O_ [] Good.nil (by decide)
          rw [← HLE.out] at hgl
          have HNL := Lib.hid (And.intro enl.symm (show L.length ≤ 1000000 by omega))
          clear ob e9 hs9 hgq hgq6 hgq7 hR9 hB9 hM9 hW9 heq hM hMN hMO hbr hlt hq HR' HO7 enl hgl
          go_upto_region 22 with fail
          rw [← E9.out]
          clear E9 x0 x1 x2 f2
          have x0 := O3p.c0 HR9.out.2.2
          have x1 := O3p.c1 HR9.out.2.2
          have x2 := O3p.c2 HR9.out.2.2
          rw [HNL.out.1] at HBK
          go_wp2_with fail
          go_at_call 23
          refine HBK.out.mono ?_
          rintro e va ⟨b2, A9, c9, rfl, FB2, bB2, _, _, _, ha⟩
          have HRA := Lib.hid (And.intro (K.next HR9.out.1 ha) (And.intro (M.next HR9.out.2.1 ha) bB2))
          have HEA := Lib.hid (HE9.out.trans (ha.mono HE9.out.size))
          clear bB2 ha HBK HE9 HR9 x0 x1 x2
          have hra := fun wz (hz : Below va.heap.size va wz) => M.runs K wz (M.next HRA.out.2.1 hz) (K.next HRA.out.1 hz) HOK.out.1 HOK.out.2
          have hrb := fun wz (hz : Below va.heap.size va wz) => M.runs K wz (M.next HRA.out.2.2 hz) (K.next HRA.out.1 hz) HOK.out.1 HOK.out.2
          obtain ⟨RN, eRN⟩ : ∃ r, r = runsR (nodL T.L T.G) L := ⟨_, rfl⟩
          obtain ⟨rl, erl⟩ : ∃ r, r = RN.length := ⟨_, rfl⟩
          have hRN : RN.length ≤ 1000000 := by
            rw [eRN]
            exact Nat.le_trans (runsV_len _ _ rfl) (Nat.le_trans (visL_len _ _) (by rw [List.length_map]; exact Nat.le_trans (nodes_len HOK.out.1) (Nat.le_trans HOK.out.2 (by decide))))
          rw [← eRN, ← erl] at hra hrb
          have HRA1 := Lib.hid hra
          have HRB1 := Lib.hid hrb
          have HRN := Lib.hid (And.intro hRN erl.symm)
          clear hra hrb eRN erl hRN
          go_wp2_with fail
          go_at_call 27
          refine (HRA1.out va (Below.refl _ _)).mono ?_
          rintro e vb ⟨A10, c10, rfl, r10, h0⟩
          have HWB := Lib.hid h0
          have HR10 := Lib.hid r10
          clear r10 h0 HRA1
          go_wp2_with fail
          go_at_call 27
          refine (HRB1.out vb HWB.out).mono ?_
          rintro e vc ⟨A11, c11, rfl, r11, h0⟩
          have HWC := Lib.hid (HWB.out.trans (h0.mono HWB.out.size))
          have HSR := Lib.hid (rsruns_any vc (HR10.out.next h0) r11 (Nat.le_refl _) (Nat.le_refl _) HRN.out.1)
          rw [oneB_yes rfl, HRN.out.2] at HSR
          clear r11 h0 HRB1 HR10
          go_wp2_with fail
          go_at_call 26
          refine HSR.out.mono ?_
          rintro e vd ⟨rfl, h0⟩
          have HWD := Lib.hid (HWC.out.trans (h0.mono HWC.out.size))
          have HLI := Lib.hid (M.list vd (M.next HRA.out.2.1 HWD.out))
          rw [HNL.out.1] at HLI
          clear h0 HSR
          go_wp2_with fail
          go_at_call 17
          refine HLI.out.mono ?_
          rintro e vf ⟨A12, c12, rfl, r12, h0⟩
          have HWF := Lib.hid (HWD.out.trans (h0.mono HWD.out.size))
          have HR12 := Lib.hid r12
          have HLI2 := Lib.hid (M.list vf (M.next HRA.out.2.2 HWF.out))
          rw [HNL.out.1] at HLI2
          clear h0 r12 HLI
          go_wp2_with fail
          go_at_call 17
          refine HLI2.out.mono ?_
          rintro e vg ⟨A13, c13, rfl, r13, h0⟩
          have HWG := Lib.hid (HWF.out.trans (h0.mono HWF.out.size))
          have HSA := Lib.hid (msame_any vg (HR12.out.next h0) r13 (Nat.le_refl _) (Nat.le_refl _) HNL.out.2)
          rw [oneB_yes rfl, HNL.out.1] at HSA
          clear h0 r13 HLI2 HR12
          go_wp2_with fail
          go_at_call 16
          refine HSA.out.mono ?_
          rintro e vh ⟨rfl, h0⟩
          have HEH := Lib.hid (HEA.out.trans ((HWG.out.trans (h0.mono HWG.out.size)).mono HEA.out.size))
          clear h0 HSA
          go_wp2_with fail
          go_at_call 10
          refine (awake16 K M vh).mono ?_
          rintro e v9 ⟨rfl, h9⟩
          have H9 := Lib.hid (HEH.out.trans (h9.mono HEH.out.size))
          clear h9
          go_wp2_with fail
          go_ret
          exact ⟨rfl, H9.out⟩
end
end Go.Proofs.Ytpjeggbkhbghaaa
