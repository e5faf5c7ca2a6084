/-
  Layer 16: MarksText. By an AI agent.
-/
import Derived.Test.YtpjeggbkhbghaaaMq1
import Derived.Test.YtpjeggbkhbghaaaMs4
namespace Go.Proofs.Ytpjeggbkhbghaaa
open Go Go.RowKit
set_option maxRecDepth 20000
section
variable {R : TreeP} (K : FugC R) {B : BookP} (M : MarkC B)
include K M
set_option maxHeartbeats 6400000 in
theorem markstext_law {A1 A2 A3 : Option Addr} {n1 c1 n2 c2 n3 c3 : Nat} {es : List Ins} {ds : List IDt} {ms : List Mrk} (w : World) (pg : PgR w A1 n1 c1 A2 n2 c2 A3 n3 c3 es ds ms) :
    Calls Try.prog 7 #[pageV A1 n1 c1 A2 n2 c2 A3 n3 c3] w fun e w' => e = .returned (.bool true) ∧ Below w.heap.size w w' := by
  obtain ⟨v1, ev⟩ : ∃ v, v = w.alloc (.cells #[.slice A1 n1 c1, .slice A2 n2 c2, .slice A3 n3 c3] 45) := ⟨_, rfl⟩
  obtain ⟨g, eg⟩ : ∃ g, g = w.heap.size := ⟨_, rfl⟩
  have hb : Below w.heap.size w v1 := by rw [ev]; exact (Below.refl _ _).alloc (Nat.le_refl _) _
  have hq : v1.cell? ⟨g, 0, none⟩ = some (.slice A1 n1 c1) ∧ v1.cell? ⟨g, 1, none⟩ = some (.slice A2 n2 c2) ∧ v1.cell? ⟨g, 2, none⟩ = some (.slice A3 n3 c3) := by
    rw [ev, eg]
    simp
  have hg : g < v1.heap.size := by rw [ev, eg]; simp
  have HB := Lib.hid hb
  have HV := Lib.hid (And.intro ev eg)
  have HQ := Lib.hid (fun wz (hz : Below v1.heap.size v1 wz) => And.intro ((hz.cell (p := ⟨g, 0, none⟩) hg).trans hq.1) (And.intro ((hz.cell (p := ⟨g, 1, none⟩) hg).trans hq.2.1) ((hz.cell (p := ⟨g, 2, none⟩) hg).trans hq.2.2)))
  have HPG := Lib.hid (fun wz (hz : Below v1.heap.size v1 wz) => (pg.next (hb.trans (hz.mono hb.size)) : PgR wz A1 n1 c1 A2 n2 c2 A3 n3 c3 es ds ms))
  have HFW := Lib.hid (few_any v1 (A1 := A1) (n1 := n1) (c1 := c1) (A2 := A2) (n2 := n2) (c2 := c2) (A3 := A3) (n3 := n3) (c3 := c3))
  obtain ⟨fw, efw⟩ : ∃ b, b = fewB n1 n2 n3 := ⟨_, rfl⟩
  rw [← efw] at HFW
  have HE := Lib.hid efw
  obtain ⟨q0, q1, q2⟩ := hq
  clear ev eg hb hg pg efw
  go_enter Try.func7, Try.ntmps7
  go_upto_region 1 with fail
  rw [← HV.out.1, ← HV.out.2]
  clear HV
  go_wp2_with fail
  go_at_call 21
  refine HFW.out.mono ?_
  rintro e v2 ⟨rfl, h2⟩
  have HB2 := Lib.hid h2
  clear h2 HFW q0 q1 q2
  cases fw with
  | false =>
    go_wp2_with fail
    go_at_call 10
    refine (awake16 K M v2).mono ?_
    rintro e v3 ⟨rfl, h3⟩
    have H3 := Lib.hid (HB.out.trans ((HB2.out.trans (h3.mono HB2.out.size)).mono HB.out.size))
    clear h3
    go_wp2_with fail
    go_ret
    exact ⟨rfl, H3.out⟩
  | true =>
  have hfew := few_parts HE.out.symm
  have HF := Lib.hid hfew
  clear hfew
  obtain ⟨q0, q1, q2⟩ := HQ.out v2 HB2.out
  have HTX := Lib.hid (text16_any K v2 (A3 := A3) (n3 := n3) (c3 := c3) (HPG.out v2 HB2.out).r1 (HPG.out v2 HB2.out).r2 (HPG.out v2 HB2.out).l1 (HPG.out v2 HB2.out).l2 HF.out.1 HF.out.2.1)
  go_wp2_with fail
  go_at_call 22
  refine HTX.out.mono ?_
  rintro e v3 ⟨p, FT, A4, c4, rfl, hT, hFT, rN, h3⟩
  have HB3 := Lib.hid (HB2.out.trans (h3.mono HB2.out.size))
  have HT3 := Lib.hid (And.intro hT (And.intro (show ∀ k, FT k → w.heap.size ≤ k from fun k hk => Nat.le_trans HB.out.size (Nat.le_trans HB2.out.size (hFT k hk))) rN))
  clear hT hFT rN h3 HTX q0 q1 q2
  obtain ⟨q0, q1, q2⟩ := HQ.out v3 HB3.out
  have HBK := Lib.hid (book16_any M v3 (A1 := A1) (n1 := n1) (c1 := c1) (A2 := A2) (n2 := n2) (c2 := c2) (HPG.out v3 HB3.out).r3 (HPG.out v3 HB3.out).l3 HF.out.2.2)
  go_wp2_with fail
  go_at_call 23
  refine HBK.out.mono ?_
  rintro e v4 ⟨b, A5, c5, rfl, FB, bB, rL, hA5, hFB, h4⟩
  obtain ⟨T, eT⟩ : ∃ t, t = pageT es ds := ⟨_, rfl⟩
  obtain ⟨L, eL⟩ : ∃ l, l = maddsL [] ms := ⟨_, rfl⟩
  rw [← eT] at HT3
  rw [← eL] at bB rL
  rw [← eT, ← eL]
  have hok := page_ok (es := es) (ds := ds) (by rw [(HPG.out v3 HB3.out).l1]; exact HF.out.1) (by rw [(HPG.out v3 HB3.out).l2]; exact HF.out.2.1) (es.length + ds.length)
  rw [show txtK (pageD es ds) (es.length + ds.length) = T from eT.symm] at hok
  have hgl := maddsL_good ms [] Good.nil (by decide)
  rw [← eL, (HPG.out v3 HB3.out).l3, List.length_nil] at hgl
  have HOK := Lib.hid (And.intro hok.1 (And.intro (show T.L.length ≤ 4096 by omega) (And.intro hok.2.2.2 (And.intro hgl.1 (show L.length ≤ n3 by omega)))))
  have HB4 := Lib.hid (HB3.out.trans (h4.mono HB3.out.size))
  have H4 := Lib.hid (And.intro (K.next HT3.out.1 h4) (And.intro (HT3.out.2.2.next h4) (And.intro bB (And.intro rL (And.intro hA5 (And.intro hFB h4))))))
  have HEND := Lib.hid (HB.out.trans (HB4.out.mono HB.out.size))
  clear bB rL hA5 hFB h4 hok hgl HBK q0 q1 q2
  have HRS := Lib.hid (M.runs K v4 H4.out.2.2.1 H4.out.1 HOK.out.1 HOK.out.2.1)
  have hn9 : (nodL T.L T.G).length ≤ 4096 := by rw [List.length_map]; exact Nat.le_trans (nodes_len HOK.out.1) HOK.out.2.1
  obtain ⟨RN, eRN⟩ : ∃ r, r = runsR (nodL T.L T.G) L := ⟨_, rfl⟩
  obtain ⟨rl, erl⟩ : ∃ r, r = RN.length := ⟨_, rfl⟩
  have hRl : rl ≤ 4096 := by
    rw [erl, eRN]
    exact Nat.le_trans (runsV_len _ _ rfl) (Nat.le_trans (visL_len _ _) hn9)
  have hsh : ∀ r ∈ RN, r.text.size ≤ 16384 := fun r hr => by
    rw [eRN] at hr
    have h1 := runs_short _ _ rfl r hr
    have h2 := visL_len (nodL T.L T.G) (styL (nodL T.L T.G) L)
    omega
  have hare := runs_are _ (visL (nodL T.L T.G) (styL (nodL T.L T.G) L)) rfl
  have hzer := runs_zero (N := nodL T.L T.G) HOK.out.2.2.2.1
  have htx := runs_text T.L T.G L
  rw [show runsV (visL (nodL T.L T.G) (styL (nodL T.L T.G) L)) = RN from eRN.symm] at hare
  rw [← eRN] at hzer htx
  rw [← eRN, ← erl] at HRS
  have HRN := Lib.hid (And.intro erl (And.intro hsh (And.intro hare.full (And.intro hare.apart (And.intro hzer htx)))))
  clear eRN hn9 hsh hare hzer htx erl
  go_wp2_with fail
  go_at_call 27
  refine HRS.out.mono ?_
  rintro e v5 ⟨A6, c6, rfl, rS, h5⟩
  have H5 := Lib.hid (And.intro rS h5)
  have HTX := Lib.hid (fun wz (hz : Below v5.heap.size v5 wz) => K.text wz (K.next H4.out.1 (h5.trans (hz.mono h5.size))) HOK.out.1 HOK.out.2.1)
  have HE5 := Lib.hid (HEND.out.trans (h5.mono HEND.out.size))
  clear rS h5 HRS
  go_wp2_with fail
  go_loopw [7, 30] (fun sv i wr => ∃ k : Nat, k ≤ rl ∧ i = .int .i64 (k : Int) ∧ sv = .string (catR (RN.take k)) ∧ Below v5.heap.size v5 wr) (fun _ i _ => rl - (intF i).toNat)
  case atStart => exact ⟨0, Nat.zero_le _, rfl, rfl, Below.refl _ _⟩
  case round =>
    obtain ⟨k, hk, rfl, rfl, hbr⟩ := hrel
    by_cases hlt : k < rl
    · have g1 : (k : Int) < (rl : Int) := by omega
      obtain ⟨x, hx⟩ : ∃ x, RN[k]? = some x := getD_of (by rw [← HRN.out.1]; exact hlt)
      obtain ⟨b6, o6, rfl, hb6, r0, r1, r2, r3, r4, r5⟩ := run_at (H5.out.1.next hbr) hx
      have hmem := List.mem_of_getElem? hx
      have hz0 := HRN.out.2.2.2.2.1 x hmem
      rw [hz0] at r1
      obtain ⟨v6, e6⟩ : ∃ v, v = wr.alloc (.cells #[.string x.text, .int .i64 0, .int .i64 x.sty.a1, .int .i64 x.sty.a2, .int .i64 x.sty.a3, .int .i64 x.sty.a4] 66) := ⟨_, rfl⟩
      obtain ⟨g10, eg10⟩ : ∃ g, g = wr.heap.size := ⟨_, rfl⟩
      have hb6' : Below wr.heap.size wr v6 := by rw [e6]; exact (Below.refl _ _).alloc (Nat.le_refl _) _
      have hbx : v6.cell? ⟨g10, 0, none⟩ = some (.string x.text) ∧ v6.cell? ⟨g10, 1, none⟩ = some (.int .i64 0) ∧ v6.cell? ⟨g10, 2, none⟩ = some (.int .i64 x.sty.a1) ∧ v6.cell? ⟨g10, 3, none⟩ = some (.int .i64 x.sty.a2) ∧ v6.cell? ⟨g10, 4, none⟩ = some (.int .i64 x.sty.a3) ∧ v6.cell? ⟨g10, 5, none⟩ = some (.int .i64 x.sty.a4) := by
        rw [e6, eg10]
        simp
      have hg10 : g10 < v6.heap.size := by rw [e6, eg10]; simp
      have HBX := Lib.hid (fun wz (hz : Below v6.heap.size v6 wz) => show (wz.cell? ⟨g10, 0, none⟩ = some (.string x.text) ∧ wz.cell? ⟨g10, 1, none⟩ = some (.int .i64 0) ∧ wz.cell? ⟨g10, 2, none⟩ = some (.int .i64 x.sty.a1) ∧ wz.cell? ⟨g10, 3, none⟩ = some (.int .i64 x.sty.a2) ∧ wz.cell? ⟨g10, 4, none⟩ = some (.int .i64 x.sty.a3) ∧ wz.cell? ⟨g10, 5, none⟩ = some (.int .i64 x.sty.a4)) from by
        obtain ⟨q0, q1, q2, q3, q4, q5⟩ := hbx
        exact ⟨(hz.cell (p := ⟨g10, 0, none⟩) hg10).trans q0, (hz.cell (p := ⟨g10, 1, none⟩) hg10).trans q1, (hz.cell (p := ⟨g10, 2, none⟩) hg10).trans q2, (hz.cell (p := ⟨g10, 3, none⟩) hg10).trans q3, (hz.cell (p := ⟨g10, 4, none⟩) hg10).trans q4, (hz.cell (p := ⟨g10, 5, none⟩) hg10).trans q5⟩)
      have HX := Lib.hid (show catR (RN.take (k + 1)) = catR (RN.take k) ++ x.text by rw [take_snoc hx, catR_snoc])
      have hfull := HRN.out.2.2.1 x hmem
      have HNE := Lib.hid (show (x.text.toList == ([] : List UInt8)) = false by
        rw [beq_eq_false_iff_ne]
        intro e
        have h1 : x.text.toList.length = 0 := by rw [e]; rfl
        rw [ByteArray.toList_eq, Array.length_toList] at h1
        have h2 : x.text.size = x.text.data.size := rfl
        omega)
      have hcs := catR_size _ (RN.take k) rfl (fun r hr => HRN.out.2.1 r (List.mem_of_mem_take hr))
      have htk : (RN.take k).length ≤ k := by rw [List.length_take]; exact Nat.min_le_left _ _
      have hxs := HRN.out.2.1 x hmem
      obtain ⟨st, est⟩ : ∃ s, s = catR (RN.take k) := ⟨_, rfl⟩
      rw [← est] at HX hcs ⊢
      have hss : ¬ 9223372036854775807 < st.size + x.text.size := by
        have h1 : (RN.take k).length * 16384 ≤ 4096 * 16384 := Nat.mul_le_mul_right _ (by omega)
        omega
      have HB6 := Lib.hid (hbr.trans (hb6'.mono hbr.size))
      have HK := Lib.hid hlt
      have E6 := Lib.hid (And.intro e6 eg10)
      have HR6 := Lib.hid ((H5.out.1.next hbr).next hb6')
      have HXX := Lib.hid (And.intro hx hz0)
      clear hx hb6 hmem hz0 e6 eg10 hb6' hbx hg10 hfull hcs htk hxs est hbr hlt hk
      go_upto_region 9 with fail
      rw [← E6.out.1, ← E6.out.2]
      clear E6 r0 r1 r2 r3 r4 r5
      obtain ⟨m0, m1, m2, m3, m4, m5⟩ := HBX.out v6 (Below.refl _ _)
      by_cases hk0 : k = 0
      · have G5 := Lib.hid hk0
        have HS := HBX
        clear hk0
        go_upto_region 10 with fail
        refine wp_region_inv 23 [39, 40, 41, 42, 43, 44, 45, 46, 47, 48, 49, 50, 51, 52, 53, 54, 55, 56, 57, 58, 59, 60, 61] [.val (.pointer (some ⟨g10, 0, none⟩)), .val (.string x.text), .val (.bool false), .val (.bool false), .val (.pointer (some ⟨g10, 1, none⟩)), .val (.pointer (some ⟨g10, 1 + 0, none⟩)), .val (.int .i64 0), .val (.bool false), .val (.bool false), .val (.bool false), .val (.int .i64 (k : Int)), .val (.bool false), .val (.bool false), .val undef, .val undef, .val undef, .val undef, .val undef, .val undef, .val undef, .val undef, .val undef, .val (.bool false)] (fun wz => Below v6.heap.size v6 wz) (by kernel_rfl) (by kernel_rfl) (fun wz wz' hz hb => hz.trans (hb.mono hz.size)) ((Below.refl _ _).drew) (fun u => by simp only [puts, List.foldl_cons, List.foldl_nil]; go_simp; exact rfl) ?_ ?_
        · simp only [List.take_succ_cons, List.take_zero]
          refine Obs.cons (fun u w hS hd => ?_) ?_
          · exact Gv.run (.pointer (some ⟨g10, 0, none⟩)) rfl (by go_simp) rfl
          refine Obs.cons (fun u w hS hd => ?_) ?_
          · have d39 : u 39 = .pointer (some ⟨g10, 0, none⟩) := dep hd 0 rfl
            rw [d39]
            exact Gv.run (.string x.text) rfl (by obtain ⟨b0, b1, b2, b3, b4, b5⟩ := HS.out w hS; go_simp) rfl
          refine Obs.cons (fun u w hS hd => ?_) ?_
          · have d40 : u 40 = .string x.text := dep hd 1 rfl
            rw [d40]
            exact Gv.run (.bool false) rfl (by have hne := HNE.out; go_simp) rfl
          refine Obs.cons (fun u w hS hd => ?_) ?_
          · have d41 : u 41 = .bool false := dep hd 2 rfl
            rw [d41]
            exact Gv.run (.bool false) rfl (by go_simp) rfl
          refine Obs.cons (fun u w hS hd => ?_) ?_
          · have d42 : u 42 = .bool false := dep hd 3 rfl
            rw [d42]
            exact Gv.run (.pointer (some ⟨g10, 1, none⟩)) rfl (by go_simp) rfl
          refine Obs.cons (fun u w hS hd => ?_) ?_
          · have d43 : u 43 = .pointer (some ⟨g10, 1, none⟩) := dep hd 4 rfl
            have d42 : u 42 = .bool false := dep hd 3 rfl
            rw [d43, d42]
            exact Gv.run (.pointer (some ⟨g10, 1 + 0, none⟩)) rfl (by go_simp) rfl
          refine Obs.cons (fun u w hS hd => ?_) ?_
          · have d44 : u 44 = .pointer (some ⟨g10, 1 + 0, none⟩) := dep hd 5 rfl
            have d42 : u 42 = .bool false := dep hd 3 rfl
            rw [d44, d42]
            exact Gv.run (.int .i64 0) rfl (by obtain ⟨b0, b1, b2, b3, b4, b5⟩ := HS.out w hS; go_simp) rfl
          refine Obs.cons (fun u w hS hd => ?_) ?_
          · have d45 : u 45 = .int .i64 0 := dep hd 6 rfl
            have d42 : u 42 = .bool false := dep hd 3 rfl
            rw [d45, d42]
            exact Gv.run (.bool false) rfl (by go_simp) rfl
          refine Obs.cons (fun u w hS hd => ?_) ?_
          · have d42 : u 42 = .bool false := dep hd 3 rfl
            have d46 : u 46 = .bool false := dep hd 7 rfl
            rw [d42, d46]
            exact Gv.run (.bool false) rfl (by go_simp) rfl
          refine Obs.cons (fun u w hS hd => ?_) ?_
          · have d47 : u 47 = .bool false := dep hd 8 rfl
            rw [d47]
            exact Gv.run (.bool false) rfl (by go_simp) rfl
          refine Obs.cons (fun u w hS hd => ?_) ?_
          · have d48 : u 48 = .bool false := dep hd 9 rfl
            rw [d48]
            exact Gv.run (.int .i64 (k : Int)) rfl (by go_simp) rfl
          refine Obs.cons (fun u w hS hd => ?_) ?_
          · have d49 : u 49 = .int .i64 (k : Int) := dep hd 10 rfl
            have d48 : u 48 = .bool false := dep hd 9 rfl
            rw [d49, d48]
            exact Gv.run (.bool false) rfl (by go_simp; exact G5.out) rfl
          refine Obs.cons (fun u w hS hd => ?_) ?_
          · have d50 : u 50 = .bool false := dep hd 11 rfl
            have d48 : u 48 = .bool false := dep hd 9 rfl
            rw [d50, d48]
            exact Gv.run (.bool false) rfl (by go_simp) rfl
          refine Obs.cons (fun u w hS hd => ?_) ?_
          · have d51 : u 51 = .bool false := dep hd 12 rfl
            rw [d51]
            exact Gv.skip (by rfl) rfl
          refine Obs.cons (fun u w hS hd => ?_) ?_
          · have d51 : u 51 = .bool false := dep hd 12 rfl
            rw [d51]
            exact Gv.skip (by rfl) rfl
          refine Obs.cons (fun u w hS hd => ?_) ?_
          · have d53 : u 53 = undef := dep hd 14 rfl
            have d51 : u 51 = .bool false := dep hd 12 rfl
            rw [d53, d51]
            exact Gv.skip (by rfl) rfl
          refine Obs.cons (fun u w hS hd => ?_) ?_
          · have d52 : u 52 = undef := dep hd 13 rfl
            have d54 : u 54 = undef := dep hd 15 rfl
            have d51 : u 51 = .bool false := dep hd 12 rfl
            rw [d52, d54, d51]
            exact Gv.skip (by rfl) rfl
          refine Obs.cons (fun u w hS hd => ?_) ?_
          · have d55 : u 55 = undef := dep hd 16 rfl
            have d51 : u 51 = .bool false := dep hd 12 rfl
            rw [d55, d51]
            exact Gv.skip (by rfl) rfl
          refine Obs.cons (fun u w hS hd => ?_) ?_
          · have d56 : u 56 = undef := dep hd 17 rfl
            have d51 : u 51 = .bool false := dep hd 12 rfl
            rw [d56, d51]
            exact Gv.skip (by rfl) rfl
          refine Obs.cons (fun u w hS hd => ?_) ?_
          · have d51 : u 51 = .bool false := dep hd 12 rfl
            rw [d51]
            exact Gv.skip (by rfl) rfl
          refine Obs.cons (fun u w hS hd => ?_) ?_
          · have d58 : u 58 = undef := dep hd 19 rfl
            have d51 : u 51 = .bool false := dep hd 12 rfl
            rw [d58, d51]
            exact Gv.skip (by rfl) rfl
          refine Obs.cons (fun u w hS hd => ?_) ?_
          · have d57 : u 57 = undef := dep hd 18 rfl
            have d59 : u 59 = undef := dep hd 20 rfl
            have d51 : u 51 = .bool false := dep hd 12 rfl
            rw [d57, d59, d51]
            exact Gv.skip (by rfl) rfl
          refine Obs.cons (fun u w hS hd => ?_) ?_
          · have d51 : u 51 = .bool false := dep hd 12 rfl
            have d60 : u 60 = undef := dep hd 21 rfl
            have d48 : u 48 = .bool false := dep hd 9 rfl
            rw [d51, d60, d48]
            exact Gv.run (.bool false) rfl (by go_simp) rfl
          exact Obs.nil
        intro u v8 hS hd
        have d48 : u 48 = .bool false := hd 9 (by decide)
        have d61 : u 61 = .bool false := hd 22 (by decide)
        rw [d48, d61]
        simp only [List.drop_succ_cons, List.drop_zero]
        have HS8 := Lib.hid (HB6.out.trans (hS.mono HB6.out.size))
        clear hS hd d48 d61
        go_wp2_with fail
        go_roundw
        case rel => exact ⟨k + 1, HK.out, by go_num, by rw [HX.out], HS8.out⟩
        case measure => simp [intF]; have := HK.out; omega
      · obtain ⟨lm, elm⟩ : ∃ q, k = q + 1 := ⟨k - 1, by omega⟩
        obtain ⟨y, hy⟩ : ∃ y, RN[lm]? = some y := getD_of (by have := HRN.out.1; have := HK.out; omega)
        have hap := HRN.out.2.2.2.1 lm y x hy (by rw [← elm]; exact HXX.out.1)
        obtain ⟨b8, o8, e8, hb8, l0, l1, l2, l3, l4, l5⟩ := run_at HR6.out hy
        simp only [Option.some.injEq, Addr.mk.injEq, and_true] at e8
        obtain ⟨rfl, rfl⟩ := e8
        have HS := Lib.hid (fun wz (hz : Below v6.heap.size v6 wz) => show (wz.cell? ⟨g10, 0, none⟩ = some (.string x.text) ∧ wz.cell? ⟨g10, 1, none⟩ = some (.int .i64 0) ∧ wz.cell? ⟨g10, 2, none⟩ = some (.int .i64 x.sty.a1) ∧ wz.cell? ⟨g10, 3, none⟩ = some (.int .i64 x.sty.a2) ∧ wz.cell? ⟨g10, 4, none⟩ = some (.int .i64 x.sty.a3) ∧ wz.cell? ⟨g10, 5, none⟩ = some (.int .i64 x.sty.a4)) ∧ wz.cell? ⟨b6, o6 + lm * 6 + 1, none⟩ = some (.int .i64 y.sty.a0) ∧ wz.cell? ⟨b6, o6 + lm * 6 + 2, none⟩ = some (.int .i64 y.sty.a1) ∧ wz.cell? ⟨b6, o6 + lm * 6 + 3, none⟩ = some (.int .i64 y.sty.a2) ∧ wz.cell? ⟨b6, o6 + lm * 6 + 4, none⟩ = some (.int .i64 y.sty.a3) ∧ wz.cell? ⟨b6, o6 + lm * 6 + 5, none⟩ = some (.int .i64 y.sty.a4) from ⟨HBX.out wz hz, (hz.cell (p := ⟨b6, o6 + lm * 6 + 1, none⟩) hb8).trans l1, (hz.cell (p := ⟨b6, o6 + lm * 6 + 2, none⟩) hb8).trans l2, (hz.cell (p := ⟨b6, o6 + lm * 6 + 3, none⟩) hb8).trans l3, (hz.cell (p := ⟨b6, o6 + lm * 6 + 4, none⟩) hb8).trans l4, (hz.cell (p := ⟨b6, o6 + lm * 6 + 5, none⟩) hb8).trans l5⟩)
        have hq := fun wz => eqSty10000 y.sty ⟨0, x.sty.a1, x.sty.a2, x.sty.a3, x.sty.a4⟩ wz
        have hne : ¬ y.sty = ⟨0, x.sty.a1, x.sty.a2, x.sty.a3, x.sty.a4⟩ := fun e => hap (e.trans (by rw [← HXX.out.2]))
        rw [decide_eq_false hne] at hq
        have G5 := Lib.hid (show 0 < k by omega)
        have g6 : IntKind.i64.wrap ((k : Int) - 1) = (lm : Int) := by rw [IntKind.wrap_i64]; omega
        have g7 : (lm : Int) < (rl : Int) := by have := HK.out; omega
        clear hy hap hb8 l0 l1 l2 l3 l4 l5 hne elm hk0
        go_upto_region 10 with fail
        refine wp_region_inv 23 [39, 40, 41, 42, 43, 44, 45, 46, 47, 48, 49, 50, 51, 52, 53, 54, 55, 56, 57, 58, 59, 60, 61] [.val (.pointer (some ⟨g10, 0, none⟩)), .val (.string x.text), .val (.bool false), .val (.bool false), .val (.pointer (some ⟨g10, 1, none⟩)), .val (.pointer (some ⟨g10, 1 + 0, none⟩)), .val (.int .i64 0), .val (.bool false), .val (.bool false), .val (.bool false), .val (.int .i64 (k : Int)), .val (.bool true), .val (.bool true), .val (.slice (some ⟨b6, o6, none⟩) rl c6), .val (.int .i64 (k : Int)), .val (.int .i64 (lm : Int)), .val (.pointer (some ⟨b6, o6 + lm * 6, none⟩)), .val (.pointer (some ⟨b6, o6 + lm * 6 + 1, none⟩)), .val (.agg #[.int .i64 y.sty.a0, .int .i64 y.sty.a1, .int .i64 y.sty.a2, .int .i64 y.sty.a3, .int .i64 y.sty.a4]), .val (.pointer (some ⟨g10, 1, none⟩)), .val (.agg #[.int .i64 0, .int .i64 x.sty.a1, .int .i64 x.sty.a2, .int .i64 x.sty.a3, .int .i64 x.sty.a4]), .val (.bool false), .val (.bool false)] (fun wz => Below v6.heap.size v6 wz) (by kernel_rfl) (by kernel_rfl) (fun wz wz' hz hb => hz.trans (hb.mono hz.size)) ((Below.refl _ _).drew) (fun u => by simp only [puts, List.foldl_cons, List.foldl_nil]; go_simp; exact rfl) ?_ ?_
        · simp only [List.take_succ_cons, List.take_zero]
          refine Obs.cons (fun u w hS hd => ?_) ?_
          · exact Gv.run (.pointer (some ⟨g10, 0, none⟩)) rfl (by go_simp) rfl
          refine Obs.cons (fun u w hS hd => ?_) ?_
          · have d39 : u 39 = .pointer (some ⟨g10, 0, none⟩) := dep hd 0 rfl
            rw [d39]
            exact Gv.run (.string x.text) rfl (by obtain ⟨⟨b0, b1, b2, b3, b4, b5⟩, l1, l2, l3, l4, l5⟩ := HS.out w hS; go_simp) rfl
          refine Obs.cons (fun u w hS hd => ?_) ?_
          · have d40 : u 40 = .string x.text := dep hd 1 rfl
            rw [d40]
            exact Gv.run (.bool false) rfl (by have hne := HNE.out; go_simp) rfl
          refine Obs.cons (fun u w hS hd => ?_) ?_
          · have d41 : u 41 = .bool false := dep hd 2 rfl
            rw [d41]
            exact Gv.run (.bool false) rfl (by go_simp) rfl
          refine Obs.cons (fun u w hS hd => ?_) ?_
          · have d42 : u 42 = .bool false := dep hd 3 rfl
            rw [d42]
            exact Gv.run (.pointer (some ⟨g10, 1, none⟩)) rfl (by go_simp) rfl
          refine Obs.cons (fun u w hS hd => ?_) ?_
          · have d43 : u 43 = .pointer (some ⟨g10, 1, none⟩) := dep hd 4 rfl
            have d42 : u 42 = .bool false := dep hd 3 rfl
            rw [d43, d42]
            exact Gv.run (.pointer (some ⟨g10, 1 + 0, none⟩)) rfl (by go_simp) rfl
          refine Obs.cons (fun u w hS hd => ?_) ?_
          · have d44 : u 44 = .pointer (some ⟨g10, 1 + 0, none⟩) := dep hd 5 rfl
            have d42 : u 42 = .bool false := dep hd 3 rfl
            rw [d44, d42]
            exact Gv.run (.int .i64 0) rfl (by obtain ⟨⟨b0, b1, b2, b3, b4, b5⟩, l1, l2, l3, l4, l5⟩ := HS.out w hS; go_simp) rfl
          refine Obs.cons (fun u w hS hd => ?_) ?_
          · have d45 : u 45 = .int .i64 0 := dep hd 6 rfl
            have d42 : u 42 = .bool false := dep hd 3 rfl
            rw [d45, d42]
            exact Gv.run (.bool false) rfl (by go_simp) rfl
          refine Obs.cons (fun u w hS hd => ?_) ?_
          · have d42 : u 42 = .bool false := dep hd 3 rfl
            have d46 : u 46 = .bool false := dep hd 7 rfl
            rw [d42, d46]
            exact Gv.run (.bool false) rfl (by go_simp) rfl
          refine Obs.cons (fun u w hS hd => ?_) ?_
          · have d47 : u 47 = .bool false := dep hd 8 rfl
            rw [d47]
            exact Gv.run (.bool false) rfl (by go_simp) rfl
          refine Obs.cons (fun u w hS hd => ?_) ?_
          · have d48 : u 48 = .bool false := dep hd 9 rfl
            rw [d48]
            exact Gv.run (.int .i64 (k : Int)) rfl (by go_simp) rfl
          refine Obs.cons (fun u w hS hd => ?_) ?_
          · have d49 : u 49 = .int .i64 (k : Int) := dep hd 10 rfl
            have d48 : u 48 = .bool false := dep hd 9 rfl
            rw [d49, d48]
            exact Gv.run (.bool true) rfl (by go_simp; exact G5.out) rfl
          refine Obs.cons (fun u w hS hd => ?_) ?_
          · have d50 : u 50 = .bool true := dep hd 11 rfl
            have d48 : u 48 = .bool false := dep hd 9 rfl
            rw [d50, d48]
            exact Gv.run (.bool true) rfl (by go_simp) rfl
          refine Obs.cons (fun u w hS hd => ?_) ?_
          · have d51 : u 51 = .bool true := dep hd 12 rfl
            rw [d51]
            exact Gv.run (.slice (some ⟨b6, o6, none⟩) rl c6) rfl (by go_simp) rfl
          refine Obs.cons (fun u w hS hd => ?_) ?_
          · have d51 : u 51 = .bool true := dep hd 12 rfl
            rw [d51]
            exact Gv.run (.int .i64 (k : Int)) rfl (by go_simp) rfl
          refine Obs.cons (fun u w hS hd => ?_) ?_
          · have d53 : u 53 = .int .i64 (k : Int) := dep hd 14 rfl
            have d51 : u 51 = .bool true := dep hd 12 rfl
            rw [d53, d51]
            exact Gv.run (.int .i64 (lm : Int)) rfl (by go_simp) rfl
          refine Obs.cons (fun u w hS hd => ?_) ?_
          · have d52 : u 52 = .slice (some ⟨b6, o6, none⟩) rl c6 := dep hd 13 rfl
            have d54 : u 54 = .int .i64 (lm : Int) := dep hd 15 rfl
            have d51 : u 51 = .bool true := dep hd 12 rfl
            rw [d52, d54, d51]
            exact Gv.run (.pointer (some ⟨b6, o6 + lm * 6, none⟩)) rfl (by go_simp) rfl
          refine Obs.cons (fun u w hS hd => ?_) ?_
          · have d55 : u 55 = .pointer (some ⟨b6, o6 + lm * 6, none⟩) := dep hd 16 rfl
            have d51 : u 51 = .bool true := dep hd 12 rfl
            rw [d55, d51]
            exact Gv.run (.pointer (some ⟨b6, o6 + lm * 6 + 1, none⟩)) rfl (by go_simp) rfl
          refine Obs.cons (fun u w hS hd => ?_) ?_
          · have d56 : u 56 = .pointer (some ⟨b6, o6 + lm * 6 + 1, none⟩) := dep hd 17 rfl
            have d51 : u 51 = .bool true := dep hd 12 rfl
            rw [d56, d51]
            exact Gv.run (.agg #[.int .i64 y.sty.a0, .int .i64 y.sty.a1, .int .i64 y.sty.a2, .int .i64 y.sty.a3, .int .i64 y.sty.a4]) rfl (by obtain ⟨⟨b0, b1, b2, b3, b4, b5⟩, l1, l2, l3, l4, l5⟩ := HS.out w hS; go_simp) rfl
          refine Obs.cons (fun u w hS hd => ?_) ?_
          · have d51 : u 51 = .bool true := dep hd 12 rfl
            rw [d51]
            exact Gv.run (.pointer (some ⟨g10, 1, none⟩)) rfl (by go_simp) rfl
          refine Obs.cons (fun u w hS hd => ?_) ?_
          · have d58 : u 58 = .pointer (some ⟨g10, 1, none⟩) := dep hd 19 rfl
            have d51 : u 51 = .bool true := dep hd 12 rfl
            rw [d58, d51]
            exact Gv.run (.agg #[.int .i64 0, .int .i64 x.sty.a1, .int .i64 x.sty.a2, .int .i64 x.sty.a3, .int .i64 x.sty.a4]) rfl (by obtain ⟨⟨b0, b1, b2, b3, b4, b5⟩, l1, l2, l3, l4, l5⟩ := HS.out w hS; go_simp) rfl
          refine Obs.cons (fun u w hS hd => ?_) ?_
          · have d57 : u 57 = .agg #[.int .i64 y.sty.a0, .int .i64 y.sty.a1, .int .i64 y.sty.a2, .int .i64 y.sty.a3, .int .i64 y.sty.a4] := dep hd 18 rfl
            have d59 : u 59 = .agg #[.int .i64 0, .int .i64 x.sty.a1, .int .i64 x.sty.a2, .int .i64 x.sty.a3, .int .i64 x.sty.a4] := dep hd 20 rfl
            have d51 : u 51 = .bool true := dep hd 12 rfl
            rw [d57, d59, d51]
            exact Gv.run (.bool false) rfl (by go_simp) rfl
          refine Obs.cons (fun u w hS hd => ?_) ?_
          · have d51 : u 51 = .bool true := dep hd 12 rfl
            have d60 : u 60 = .bool false := dep hd 21 rfl
            have d48 : u 48 = .bool false := dep hd 9 rfl
            rw [d51, d60, d48]
            exact Gv.run (.bool false) rfl (by go_simp) rfl
          exact Obs.nil
        intro u v8 hS hd
        have d48 : u 48 = .bool false := hd 9 (by decide)
        have d61 : u 61 = .bool false := hd 22 (by decide)
        rw [d48, d61]
        simp only [List.drop_succ_cons, List.drop_zero]
        have HS8 := Lib.hid (HB6.out.trans (hS.mono HB6.out.size))
        clear hS hd d48 d61
        go_wp2_with fail
        go_roundw
        case rel => exact ⟨k + 1, HK.out, by go_num, by rw [HX.out], HS8.out⟩
        case measure => simp [intF]; have := HK.out; omega
    · obtain rfl : rl = k := by omega
      obtain ⟨vo, evo⟩ : ∃ v, v = wr := ⟨_, rfl⟩
      subst evo
      have htk : RN.take rl = RN := by rw [HRN.out.1, List.take_length]
      rw [htk, HRN.out.2.2.2.2.2]
      have HTX2 := Lib.hid (HTX.out vo hbr)
      have HE6 := Lib.hid (HE5.out.trans (hbr.mono HE5.out.size))
      obtain ⟨tx, etx⟩ : ∃ t, t = textN ((liveL T.G (nodesL T.L)).map (nodeOf T.G)) := ⟨_, rfl⟩
      rw [← etx] at HTX2 ⊢
      clear hbr hlt hk htk HTX etx
      go_wp2_with fail
      go_at_call 29
      refine HTX2.out.mono ?_
      rintro e v7 ⟨rfl, h7⟩
      have HE7 := Lib.hid (HE6.out.trans (h7.mono HE6.out.size))
      clear h7
      go_wp2_with fail
      go_at_call 10
      refine (awake16 K M v7).mono ?_
      rintro e v9 ⟨rfl, h9⟩
      have H9 := Lib.hid (HE7.out.trans (h9.mono HE7.out.size))
      clear h9
      go_wp2_with fail
      go_ret
      exact ⟨rfl, H9.out⟩
end
end Go.Proofs.Ytpjeggbkhbghaaa
