/-
  Layer 15: FugueStays. By an AI agent.
-/
import Derived.Test.YtljciakgdpihdaaFl4
namespace Go.Proofs.Ytljciakgdpihdaa
open Go Go.RowKit
set_option maxRecDepth 20000
theorem fold_do : ∀ (m : List Dot) (s : Txt), Ok s.L → s.L.length + m.length ≤ 4096 → m.foldl stepT s = (m.map actOf).foldl (doT rightB) s
  | [], _, _, _ => rfl
  | x :: r, s, h, hl => by
    rw [List.length_cons] at hl
    obtain ⟨h1, h2, _, _⟩ := stepT_ok (k := x) h (by omega)
    rw [List.map_cons, List.foldl_cons, List.foldl_cons, ← stepT_do (by omega)]
    exact fold_do r _ h1 (by omega)
theorem txtF_found {s : Txt} {m : List Dot} (h : Ok s.L) (hl : s.L.length + m.length ≤ 4096) : foundL s.G (txtF s m m.length).G (nodesL s.L) (nodesL (txtF s m m.length).L) = true := by
  unfold txtF
  rw [List.take_length, fold_do m s h hl]
  exact stays right_fair _ h
theorem found_end {G K : List IDt} {W : List Ins} (h : foundL G K W [] = true) : W = [] := by
  unfold foundL at h
  exact List.isEmpty_iff.1 h
section
variable {R : TreeP} (K : FugC R)
include K
theorem fuguestays_much {A A' : Option Addr} {c c' n n' : Nat} (hn : 60 < n ∨ 60 < n') (w : World) :
    Calls Try.prog 8 #[.slice A n c, .slice A' n' c'] w fun e w' => e = .returned (.bool true) ∧ Below w.heap.size w w' := by
  by_cases h1 : 60 < n
  · have g1 : (60 : Int) < (n : Int) := by omega
    clear hn h1
    go_enter Try.func8, Try.ntmps8
    go_wp2_with fail
    go_at_call 11
    refine (awake15 K w).mono ?_
    rintro z v9 ⟨rfl, h0⟩
    go_wp2_with fail
    go_ret
    exact ⟨rfl, h0⟩
  · have g1 : ¬ (60 : Int) < (n : Int) := by omega
    have g2 : (60 : Int) < (n' : Int) := by have := hn.resolve_left h1; omega
    clear hn h1
    go_enter Try.func8, Try.ntmps8
    go_wp2_with fail
    go_at_call 11
    refine (awake15 K w).mono ?_
    rintro z v9 ⟨rfl, h0⟩
    go_wp2_with fail
    go_ret
    exact ⟨rfl, h0⟩
set_option maxHeartbeats 12800000 in
theorem fuguestays_law {A A' : Option Addr} {c c' n n' : Nat} {l l' : List Dot} (hn : l.length = n) (hl : n ≤ 60) (hn' : l'.length = n') (hl' : n' ≤ 60) (w : World) (r : RdR doE w w.heap.size A c l) (r' : RdR doE w w.heap.size A' c' l') :
    Calls Try.prog 8 #[.slice A n c, .slice A' n' c'] w fun e w' => e = .returned (.bool true) ∧ Below w.heap.size w w' := by
  have g1 : ¬ (60 : Int) < (n : Int) := by omega
  have g1' : ¬ (60 : Int) < (n' : Int) := by omega
  have HN := Lib.hid hn
  have HN' := Lib.hid hn'
  have HL := Lib.hid (show l.length ≤ 4096 by omega)
  have HL' := Lib.hid (And.intro hl hl')
  have HR := Lib.hid (fun wz (hz : Below w.heap.size w wz) => (r.keep hz : RdR doE wz w.heap.size A c l))
  have HR' := Lib.hid (fun wz (hz : Below w.heap.size w wz) => (r'.keep hz : RdR doE wz w.heap.size A' c' l'))
  clear hn r r' hn'
  go_enter Try.func8, Try.ntmps8
  go_wp2_with fail
  go_at_call 12
  refine (play_new K w).mono ?_
  rintro z v2 ⟨p, rfl, hp⟩
  obtain ⟨v3, e3⟩ : ∃ v, v = v2.alloc (.cells #[.slice none 0 0, .slice none 0 0] 29) := ⟨_, rfl⟩
  obtain ⟨gr, egr⟩ : ∃ g, g = v2.heap.size := ⟨_, rfl⟩
  rw [← e3, ← egr] at hp
  have HP := Lib.hid hp
  have HV := Lib.hid (And.intro e3 egr)
  clear hp e3 egr
  go_upto_region 4 with fail
  rw [← HV.out.1, ← HV.out.2]
  clear HV
  go_wp2_with fail
  go_loopw [28] (fun i wr => ∃ k : Nat, k ≤ n ∧ i = .int .i64 (k : Int) ∧ Play R w gr p (txtK l k) wr) (fun i _ => n - (intF i).toNat)
  case atStart => exact ⟨0, Nat.zero_le _, rfl, HP.out⟩
  case round =>
    obtain ⟨k, hk, rfl, hp⟩ := hrel
    clear HP
    by_cases hlt : k < n
    · have g2 : (k : Int) < (n : Int) := by omega
      obtain ⟨x, hx⟩ := getD_of (L := l) (k := k) (by rw [HN.out]; exact hlt)
      obtain ⟨b, o, rfl, hbB, m0, m1, m2, m3, m4, m5, m6, m7, m8⟩ := do_at (HR.out wr hp.base) hx
      obtain ⟨v5, e5⟩ : ∃ v, v = wr.alloc (.cells (doC x) 35) := ⟨_, rfl⟩
      obtain ⟨g5, eg5⟩ : ∃ g, g = wr.heap.size := ⟨_, rfl⟩
      have hd : DoB v5 g5 x := by rw [e5, eg5]; exact do_box wr x
      have hp5 := Play.keep K hp (w' := v5) (by rw [e5]; exact (Below.refl _ _).alloc (Nat.le_refl _) _)
      have ht := txtK_ok (k := k) HL.out
      have HT := Lib.hid (show Ok (txtK l k).L ∧ (txtK l k).L.length ≤ 4096 ∧ (txtK l k).G.length ≤ 1000000 from ⟨ht.1, Nat.le_trans ht.2.1 HL.out, Nat.le_trans ht.2.2 (Nat.le_trans HL.out (by decide))⟩)
      have HX := Lib.hid (txtK_succ hx)
      have HK := Lib.hid hlt
      have HD := Lib.hid (And.intro hd hp5)
      have E5 := Lib.hid (And.intro e5 eg5)
      have hl9 := hl
      clear hd hp5 ht hx hlt hk e5 eg5 hp hbB
      go_upto_region 7 with fail
      rw [← E5.out.1, ← E5.out.2]
      clear E5 m0 m1 m2 m3 m4 m5 m6 m7 m8
      obtain ⟨⟨m0, m1, m2, m3, m4, m5, m6, m7, m8⟩, u1, u2, hPB, o5⟩ := HD.out
      have y0 := o5.c0
      have y1 := o5.c1
      have HQ := Lib.hid (And.intro hPB o5)
      clear hPB o5 HD
      go_wp2_with fail
      go_at_call 13
      refine (play_both K HQ.out.1 HQ.out.2 HT.out.1 HT.out.2.1 HT.out.2.2 x).mono ?_
      rintro z v6 ⟨z1, z2, rfl, hPB, o6⟩
      obtain ⟨A3, n3, c3, A4, n4, c4, rfl, rfl⟩ := hPB.slices
      clear m0 m1 m2 m3 m4 m5 m6 m7 m8 y0 y1
      have y0 := o6.c0
      have y1 := o6.c1
      have f0 := o6.f0
      have f1 := o6.f1
      have HS := Lib.hid (PlayB.store K hPB o6)
      clear hPB o6 HQ
      go_wp2_with fail
      go_roundw
      case rel => exact ⟨k + 1, HK.out, by go_num, by rw [HX.out]; exact HS.out⟩
      case measure => simp [intF]; have := HK.out; omega
    · obtain rfl : k = n := by omega
      obtain ⟨vo, evo⟩ : ∃ v, v = wr := ⟨_, rfl⟩
      subst evo
      obtain ⟨u1, u2, hPB, o⟩ := hp
      obtain ⟨F, hR, hV, hin, hF1, hbo⟩ := hPB
      have ht := txtK_ok (k := k) HL.out
      obtain ⟨t, et⟩ : ∃ t, t = txtK l k := ⟨_, rfl⟩
      rw [← et] at ht hR hV
      rw [HN.out] at ht
      have hok := ht.1
      have hl4 : t.L.length ≤ 4096 := by have := ht.2.1; omega
      obtain ⟨m, em⟩ : ∃ m, m = (nodesL t.L).length := ⟨_, rfl⟩
      have hm4 : m ≤ 60 := by rw [em]; exact Nat.le_trans (nodes_len hok) (Nat.le_trans ht.2.1 hl)
      have HNo := K.nodes vo hR hok hl4
      rw [← em] at HNo
      have HNO := Lib.hid HNo
      have HKT := Lib.hid (And.intro hok (And.intro ht.2.1 (And.intro ht.2.2 em)))
      have HPB := Lib.hid (And.intro hR (And.intro hV (And.intro hin (And.intro hF1 (And.intro hbo o)))))
      clear o et ht hok hl4 em HNo hR hV hin hF1 hbo hlt hk HR
      go_wp2_with fail
      go_at_call 15
      refine HNO.out.mono ?_
      rintro z va ⟨AN, cN, rfl, hrow, hAN, hba⟩
      have HP := Lib.hid (show PlayZ R w gr (fun b => vo.heap.size ≤ b ∧ b < va.heap.size) va p (txtF t l' 0) va from by
        obtain ⟨hR, hV, hin, hF1, hbo, o⟩ := HPB.out
        exact ⟨u1, u2, ⟨F, K.next hR hba, (hV.keep hba).mono hba.size, fun b hb => ⟨Nat.lt_of_lt_of_le (hin b hb).1 hba.size, (hin b hb).2⟩, fun b hb => ⟨(hF1 b hb).1, (hF1 b hb).2, fun hz => by have := K.le hR b hb; omega⟩, hbo.trans (hba.mono hbo.size),
          fun b hz => ⟨hz.2, fun e => by have := OwnF.lt o; omega, rfl⟩, Nat.le_refl _⟩, OwnF.keep o hba⟩)
      have HROW := Lib.hid (And.intro hrow hAN)
      clear hrow hAN hba HNO HPB
      go_wp2_with fail
      go_loopw [44] (fun i wr => ∃ k : Nat, k ≤ n' ∧ i = .int .i64 (k : Int) ∧ PlayZ R w gr (fun b => vo.heap.size ≤ b ∧ b < va.heap.size) va p (txtF t l' k) wr) (fun i _ => n' - (intF i).toNat)
      case atStart => exact ⟨0, Nat.zero_le _, rfl, HP.out⟩
      case round =>
        obtain ⟨k, hk, rfl, hp⟩ := hrel
        clear HP
        by_cases hlt : k < n'
        · have g2 : (k : Int) < (n' : Int) := by omega
          obtain ⟨x, hx⟩ := getD_of (L := l') (k := k) (by rw [HN'.out]; exact hlt)
          obtain ⟨b, o, rfl, hbB, m0, m1, m2, m3, m4, m5, m6, m7, m8⟩ := do_at (HR'.out wr hp.base) hx
          obtain ⟨v5, e5⟩ : ∃ v, v = wr.alloc (.cells (doC x) 35) := ⟨_, rfl⟩
          obtain ⟨g5, eg5⟩ : ∃ g, g = wr.heap.size := ⟨_, rfl⟩
          have hd : DoB v5 g5 x := by rw [e5, eg5]; exact do_box wr x
          have hp5 := PlayZ.keep K hp (w' := v5) (by rw [e5]; exact (Below.refl _ _).alloc (Nat.le_refl _) _)
          have HT := Lib.hid (show Ok (txtF t l' k).L ∧ (txtF t l' k).L.length ≤ 4096 ∧ (txtF t l' k).G.length ≤ 1000000 from txtF_ok HKT.out.1 (by have h1 := HKT.out.2.1; have h2 := HN'.out; have h3 := HL'.out; omega) (by have h1 := HKT.out.2.2.1; have h2 := HN'.out; have h3 := HL'.out; omega))
          have HX := Lib.hid (txtF_succ (s := t) hx)
          have HK := Lib.hid hlt
          have HD := Lib.hid (And.intro hd hp5)
          have E5 := Lib.hid (And.intro e5 eg5)
          have hl9 := hl'
          clear hd hp5 hx hlt hk e5 eg5 hp hbB
          go_upto_region 13 with fail
          rw [← E5.out.1, ← E5.out.2]
          clear E5 m0 m1 m2 m3 m4 m5 m6 m7 m8
          obtain ⟨⟨m0, m1, m2, m3, m4, m5, m6, m7, m8⟩, u1, u2, hPB, o5⟩ := HD.out
          have y0 := o5.c0
          have y1 := o5.c1
          have HQ := Lib.hid (And.intro hPB o5)
          clear hPB o5 HD
          go_wp2_with fail
          go_at_call 13
          refine (playz_both K HQ.out.1 HQ.out.2 HT.out.1 HT.out.2.1 HT.out.2.2 x).mono ?_
          rintro z v6 ⟨z1, z2, rfl, hPB, o6⟩
          obtain ⟨A3, n3, c3, A4, n4, c4, rfl, rfl⟩ := hPB.slices
          clear m0 m1 m2 m3 m4 m5 m6 m7 m8 y0 y1
          have y0 := o6.c0
          have y1 := o6.c1
          have f0 := o6.f0
          have f1 := o6.f1
          have HS := Lib.hid (PlayZB.store K hPB o6)
          clear hPB o6 HQ
          go_wp2_with fail
          go_roundw
          case rel => exact ⟨k + 1, HK.out, by go_num, by rw [HX.out]; exact HS.out⟩
          case measure => simp [intF]; have := HK.out; omega
        · obtain rfl : k = n' := by omega
          obtain ⟨vp, evp⟩ : ∃ v, v = wr := ⟨_, rfl⟩
          subst evp
          obtain ⟨hst, hsz⟩ := hp.stays
          have hrowp := HROW.out.1.stay (w' := vp) (fun _ ad e hlt => hst _ ⟨HROW.out.2 ad e, hlt⟩) hsz
          obtain ⟨u3, u4, ⟨F', hR, _, _, _, hbo, _, _⟩, _⟩ := hp
          have hfd := txtF_found (s := t) (m := l') HKT.out.1 (by have h1 := HKT.out.2.1; have h2 := HN'.out; have h3 := HL'.out; omega)
          have hto := txtF_ok (s := t) HKT.out.1 (l := l') (k := k) (by have h1 := HKT.out.2.1; have h2 := HN'.out; have h3 := HL'.out; omega) (by have h1 := HKT.out.2.2.1; have h2 := HN'.out; have h3 := HL'.out; omega)
          rw [HN'.out] at hfd
          obtain ⟨s, es⟩ : ∃ s, s = txtF t l' k := ⟨_, rfl⟩
          rw [← es] at hfd hto hR
          obtain ⟨q, eq⟩ : ∃ q, q = (nodesL s.L).length := ⟨_, rfl⟩
          have hq : q ≤ 4096 := by rw [eq]; exact Nat.le_trans (nodes_len hto.1) hto.2.1
          have HNo := K.nodes vp hR hto.1 hto.2.1
          obtain ⟨W, eW⟩ : ∃ W, W = nodesL t.L := ⟨_, rfl⟩
          obtain ⟨N, eN⟩ : ∃ N, N = nodesL s.L := ⟨_, rfl⟩
          rw [← eW] at hfd hrowp
          rw [← eN] at hfd eq HNo
          rw [← eq] at HNo
          have HNO := Lib.hid HNo
          have HFD := Lib.hid hfd
          have HW := Lib.hid (show W.length = m by rw [eW]; exact HKT.out.2.2.2.symm)
          have HQ := Lib.hid eq
          have HRP := Lib.hid (And.intro hrowp hbo)
          clear hst hsz hrowp hR hbo hfd hto es eq HNo eW eN HROW HKT HR' hlt hk
          go_wp2_with fail
          go_at_call 15
          refine HNO.out.mono ?_
          rintro z vq ⟨AM, cM, rfl, hrowM, _, hbq⟩
          have HRQ := Lib.hid (And.intro (HRP.out.1.next hbq) (And.intro hrowM (HRP.out.2.trans (hbq.mono HRP.out.2.size))))
          clear hrowM hbq HNO HRP
          go_wp2_with fail
          go_loopw [12, 59] (fun x i wr => ∃ j a : Nat, j ≤ q ∧ i = .int .i64 (j : Int) ∧ x = .int .i64 (a : Int) ∧ a ≤ m ∧ foundL t.G s.G (W.drop a) (N.drop j) = true ∧ Below vq.heap.size vq wr) (fun _ i _ => q - (intF i).toNat)
          case atStart => exact ⟨0, 0, Nat.zero_le _, rfl, rfl, Nat.zero_le _, HFD.out, Below.refl _ _⟩
          case round =>
            obtain ⟨j, a, hj, rfl, rfl, ha, hf, hbr⟩ := hrel
            by_cases hlt : j < q
            · have g2 : (j : Int) < (q : Int) := by omega
              obtain ⟨y, hy⟩ := getD_of (L := N) (k := j) (by rw [← HQ.out]; exact hlt)
              obtain ⟨b2, o2, rfl, hb2, x0', x1', x2', x3'⟩ := nod_at (HRQ.out.2.1.next hbr) (k := j) (x := nodeOf s.G y) (by rw [List.getElem?_map, hy]; rfl)
              have hrow := HRQ.out.1.next hbr
              have hdr : N.drop j = y :: N.drop (j + 1) := by
                obtain ⟨h5, h6⟩ := List.getElem?_eq_some_iff.1 hy
                rw [← h6]; exact List.drop_eq_getElem_cons h5
              rw [hdr] at hf
              have HM := Lib.hid hlt
              obtain ⟨yg, eyg⟩ : ∃ g, g = goneB s.G y.id := ⟨_, rfl⟩
              have x3'' : wr.cell? ⟨b2, o2 + j * 4 + 3, none⟩ = some (.bool yg) := by rw [eyg]; exact x3'
              have x0'' : wr.cell? ⟨b2, o2 + j * 4, none⟩ = some (.int .i64 y.id.1) := x0'
              have x1'' : wr.cell? ⟨b2, o2 + j * 4 + 1, none⟩ = some (.int .i64 y.id.2) := x1'
              have x2'' : wr.cell? ⟨b2, o2 + j * 4 + 2, none⟩ = some (.int .i32 y.rune) := x2'
              obtain ⟨vg, evg⟩ : ∃ v, v = wr.alloc (.cells #[.int .i64 y.id.1, .int .i64 y.id.2, .int .i32 y.rune, .bool yg] 55) := ⟨_, rfl⟩
              obtain ⟨gn, egn⟩ : ∃ g, g = wr.heap.size := ⟨_, rfl⟩
              have hbg : Below wr.heap.size wr vg := by rw [evg]; exact (Below.refl _ _).alloc (Nat.le_refl _) _
              have hcg : vg.cell? ⟨gn, 0, none⟩ = some (.int .i64 y.id.1) ∧ vg.cell? ⟨gn, 1, none⟩ = some (.int .i64 y.id.2) ∧ vg.cell? ⟨gn, 2, none⟩ = some (.int .i32 y.rune) ∧ vg.cell? ⟨gn, 3, none⟩ = some (.bool yg) := by rw [evg, egn]; simp
              have hgn : gn < vg.heap.size := by rw [evg, egn]; simp
              have hbG := hbr.trans (hbg.mono hbr.size)
              have HBG := Lib.hid hbG
              have HRW := Lib.hid (hrow.next hbg)
              have HF := Lib.hid (And.intro hf (And.intro eyg ha))
              have HCG := Lib.hid (And.intro hcg hgn)
              have HVG := Lib.hid (And.intro evg egn)
              have hm9 := hm4
              clear hy hdr x0' x1' x2' x3' hb2 hrow hf eyg evg egn hbg hcg hgn hbG hlt hj hbr ha
              go_upto_region 19 with fail
              rw [← HVG.out.1, ← HVG.out.2]
              clear HVG x0'' x1'' x2'' x3''
              by_cases ham : a < m
              case neg =>
                have hae : a = m := by have := HF.out.2.2; omega
                have hga : ¬ (a : Int) < (m : Int) := by omega
                have HF2 := Lib.hid (show foundL t.G s.G (W.drop a) (N.drop (j + 1)) = true by
                  rw [List.drop_eq_nil_of_le (by rw [HW.out]; omega)]
                  exact found_none _ _ _)
                clear hae ham
                have HS := Lib.hid (fun wz (hz : Below vg.heap.size vg wz) => show (wz.cell? ⟨gn, 0, none⟩ = some (.int .i64 y.id.1) ∧ wz.cell? ⟨gn, 1, none⟩ = some (.int .i64 y.id.2) ∧ wz.cell? ⟨gn, 2, none⟩ = some (.int .i32 y.rune) ∧ wz.cell? ⟨gn, 3, none⟩ = some (.bool yg)) from
                  ⟨(hz.cell (p := ⟨gn, 0, none⟩) HCG.out.2).trans HCG.out.1.1, (hz.cell (p := ⟨gn, 1, none⟩) HCG.out.2).trans HCG.out.1.2.1, (hz.cell (p := ⟨gn, 2, none⟩) HCG.out.2).trans HCG.out.1.2.2.1, (hz.cell (p := ⟨gn, 3, none⟩) HCG.out.2).trans HCG.out.1.2.2.2⟩)
                refine wp_region_inv 13 [63, 64, 65, 66, 67, 68, 69, 70, 71, 72, 73, 74, 75] [.val (.int .i64 (a : Int)), .val (.slice AN m cN), .val (.int .i64 (m : Int)), .val (.bool false), .val (.bool false), .val undef, .val undef, .val undef, .val undef, .val undef, .val undef, .val undef, .val undef] (fun wz => Below vg.heap.size vg wz) (by kernel_rfl) (by kernel_rfl) (fun wz wz' hz hb => hz.trans (hb.mono hz.size)) ((Below.refl _ _).drew) (fun u => by simp only [puts, List.foldl_cons, List.foldl_nil]; go_simp; exact rfl) ?_ ?_
                · simp only [List.take_succ_cons, List.take_zero]
                  refine Obs.cons (fun u w hS hd => ?_) ?_
                  · exact Gv.run (.int .i64 (a : Int)) rfl (by go_simp) rfl
                  refine Obs.cons (fun u w hS hd => ?_) ?_
                  · exact Gv.run (.slice AN m cN) rfl (by go_simp) rfl
                  refine Obs.cons (fun u w hS hd => ?_) ?_
                  · have d64 : u 64 = .slice AN m cN := dep hd 1 rfl
                    rw [d64]
                    exact Gv.run (.int .i64 (m : Int)) rfl (by go_simp) rfl
                  refine Obs.cons (fun u w hS hd => ?_) ?_
                  · have d63 : u 63 = .int .i64 (a : Int) := dep hd 0 rfl
                    have d65 : u 65 = .int .i64 (m : Int) := dep hd 2 rfl
                    rw [d63, d65]
                    exact Gv.run (.bool false) rfl (by go_simp) rfl
                  refine Obs.cons (fun u w hS hd => ?_) ?_
                  · have d66 : u 66 = .bool false := dep hd 3 rfl
                    rw [d66]
                    exact Gv.run (.bool false) rfl (by go_simp) rfl
                  refine Obs.cons (fun u w hS hd => ?_) ?_
                  · have d67 : u 67 = .bool false := dep hd 4 rfl
                    rw [d67]
                    exact Gv.skip (by rfl) rfl
                  refine Obs.cons (fun u w hS hd => ?_) ?_
                  · have d68 : u 68 = undef := dep hd 5 rfl
                    have d67 : u 67 = .bool false := dep hd 4 rfl
                    rw [d68, d67]
                    exact Gv.skip (by rfl) rfl
                  refine Obs.cons (fun u w hS hd => ?_) ?_
                  · have d67 : u 67 = .bool false := dep hd 4 rfl
                    rw [d67]
                    exact Gv.skip (by rfl) rfl
                  refine Obs.cons (fun u w hS hd => ?_) ?_
                  · have d67 : u 67 = .bool false := dep hd 4 rfl
                    rw [d67]
                    exact Gv.skip (by rfl) rfl
                  refine Obs.cons (fun u w hS hd => ?_) ?_
                  · have d70 : u 70 = undef := dep hd 7 rfl
                    have d71 : u 71 = undef := dep hd 8 rfl
                    have d67 : u 67 = .bool false := dep hd 4 rfl
                    rw [d70, d71, d67]
                    exact Gv.skip (by rfl) rfl
                  refine Obs.cons (fun u w hS hd => ?_) ?_
                  · have d72 : u 72 = undef := dep hd 9 rfl
                    have d67 : u 67 = .bool false := dep hd 4 rfl
                    rw [d72, d67]
                    exact Gv.skip (by rfl) rfl
                  refine Obs.cons (fun u w hS hd => ?_) ?_
                  · have d73 : u 73 = undef := dep hd 10 rfl
                    have d67 : u 67 = .bool false := dep hd 4 rfl
                    rw [d73, d67]
                    exact Gv.skip (by rfl) rfl
                  refine Obs.cons (fun u w hS hd => ?_) ?_
                  · have d69 : u 69 = undef := dep hd 6 rfl
                    have d74 : u 74 = undef := dep hd 11 rfl
                    have d67 : u 67 = .bool false := dep hd 4 rfl
                    rw [d69, d74, d67]
                    exact Gv.skip (by rfl) rfl
                  exact Obs.nil
                intro u vh hS hd
                have d67 : u 67 = .bool false := hd 4 (by decide)
                have d75 : u 75 = undef := hd 12 (by decide)
                simp only [List.drop_succ_cons, List.drop_zero]
                have HB9 := Lib.hid (HBG.out.trans (hS.mono HBG.out.size))
                rw [d67, d75]
                clear hS hd d67 d75
                go_wp2_with fail
                go_roundw
                case rel => exact ⟨j + 1, a, HM.out, by go_num, rfl, HF.out.2.2, HF2.out, HB9.out⟩
                case measure => simp [intF]; have := HM.out; omega
              case pos =>
                have hga : (a : Int) < (m : Int) := by omega
                obtain ⟨z, hz⟩ := getD_of (L := W) (k := a) (by rw [HW.out]; exact ham)
                obtain ⟨b, o, rfl, hbB, z0, z1, z2, z3⟩ := nod_at HRW.out (k := a) (x := nodeOf t.G z) (by rw [List.getElem?_map, hz]; rfl)
                have hdw : W.drop a = z :: W.drop (a + 1) := by
                  obtain ⟨h5, h6⟩ := List.getElem?_eq_some_iff.1 hz
                  rw [← h6]; exact List.drop_eq_getElem_cons h5
                obtain ⟨zg, ezg⟩ : ∃ g, g = goneB t.G z.id := ⟨_, rfl⟩
                have hf := HF.out.1
                rw [hdw] at hf
                obtain ⟨⟨q0, q1, q2, q3⟩, hgn⟩ := HCG.out
                have z3' : vg.cell? ⟨b, o + a * 4 + 3, none⟩ = some (.bool zg) := by rw [ezg]; exact z3
                have z0' : vg.cell? ⟨b, o + a * 4, none⟩ = some (.int .i64 z.id.1) := z0
                have z1' : vg.cell? ⟨b, o + a * 4 + 1, none⟩ = some (.int .i64 z.id.2) := z1
                have z2' : vg.cell? ⟨b, o + a * 4 + 2, none⟩ = some (.int .i32 z.rune) := z2
                have HSA := fun wz (hz : Below vg.heap.size vg wz) => show (wz.cell? ⟨gn, 0, none⟩ = some (.int .i64 y.id.1) ∧ wz.cell? ⟨gn, 1, none⟩ = some (.int .i64 y.id.2) ∧ wz.cell? ⟨gn, 2, none⟩ = some (.int .i32 y.rune) ∧ wz.cell? ⟨gn, 3, none⟩ = some (.bool yg) ∧ wz.cell? ⟨b, o + a * 4, none⟩ = some (.int .i64 z.id.1) ∧ wz.cell? ⟨b, o + a * 4 + 1, none⟩ = some (.int .i64 z.id.2) ∧ wz.cell? ⟨b, o + a * 4 + 2, none⟩ = some (.int .i32 z.rune) ∧ wz.cell? ⟨b, o + a * 4 + 3, none⟩ = some (.bool zg)) from
                  ⟨(hz.cell (p := ⟨gn, 0, none⟩) hgn).trans q0, (hz.cell (p := ⟨gn, 1, none⟩) hgn).trans q1, (hz.cell (p := ⟨gn, 2, none⟩) hgn).trans q2, (hz.cell (p := ⟨gn, 3, none⟩) hgn).trans q3, (hz.cell (p := ⟨b, o + a * 4, none⟩) hbB).trans z0', (hz.cell (p := ⟨b, o + a * 4 + 1, none⟩) hbB).trans z1', (hz.cell (p := ⟨b, o + a * 4 + 2, none⟩) hbB).trans z2', (hz.cell (p := ⟨b, o + a * 4 + 3, none⟩) hbB).trans z3'⟩
                clear hz z0 z1 z2 z3 z0' z1' z2' z3' q0 q1 q2 q3 hgn hbB
                by_cases hne : y.id = z.id
                case neg =>
                  unfold foundL at hf
                  rw [if_neg hne] at hf
                  have HS := Lib.hid HSA
                  have HF2 := Lib.hid (show foundL t.G s.G (W.drop a) (N.drop (j + 1)) = true by
                    rw [hdw]
                    exact hf)
                  clear hf HSA hdw
                  refine wp_region_inv 13 [63, 64, 65, 66, 67, 68, 69, 70, 71, 72, 73, 74, 75] [.val (.int .i64 (a : Int)), .val (.slice (some ⟨b, o, none⟩) m cN), .val (.int .i64 (m : Int)), .val (.bool true), .val (.bool true), .val (.pointer (some ⟨gn, 0, none⟩)), .val (.agg #[.int .i64 y.id.1, .int .i64 y.id.2]), .val (.slice (some ⟨b, o, none⟩) m cN), .val (.int .i64 (a : Int)), .val (.pointer (some ⟨b, o + a * 4, none⟩)), .val (.pointer (some ⟨b, o + a * 4, none⟩)), .val (.agg #[.int .i64 z.id.1, .int .i64 z.id.2]), .val (.bool false)] (fun wz => Below vg.heap.size vg wz) (by kernel_rfl) (by kernel_rfl) (fun wz wz' hz hb => hz.trans (hb.mono hz.size)) ((Below.refl _ _).drew) (fun u => by simp only [puts, List.foldl_cons, List.foldl_nil]; go_simp; exact rfl) ?_ ?_
                  · simp only [List.take_succ_cons, List.take_zero]
                    refine Obs.cons (fun u w hS hd => ?_) ?_
                    · exact Gv.run (.int .i64 (a : Int)) rfl (by go_simp) rfl
                    refine Obs.cons (fun u w hS hd => ?_) ?_
                    · exact Gv.run (.slice (some ⟨b, o, none⟩) m cN) rfl (by go_simp) rfl
                    refine Obs.cons (fun u w hS hd => ?_) ?_
                    · have d64 : u 64 = .slice (some ⟨b, o, none⟩) m cN := dep hd 1 rfl
                      rw [d64]
                      exact Gv.run (.int .i64 (m : Int)) rfl (by go_simp) rfl
                    refine Obs.cons (fun u w hS hd => ?_) ?_
                    · have d63 : u 63 = .int .i64 (a : Int) := dep hd 0 rfl
                      have d65 : u 65 = .int .i64 (m : Int) := dep hd 2 rfl
                      rw [d63, d65]
                      exact Gv.run (.bool true) rfl (by go_simp) rfl
                    refine Obs.cons (fun u w hS hd => ?_) ?_
                    · have d66 : u 66 = .bool true := dep hd 3 rfl
                      rw [d66]
                      exact Gv.run (.bool true) rfl (by go_simp) rfl
                    refine Obs.cons (fun u w hS hd => ?_) ?_
                    · have d67 : u 67 = .bool true := dep hd 4 rfl
                      rw [d67]
                      exact Gv.run (.pointer (some ⟨gn, 0, none⟩)) rfl (by go_simp) rfl
                    refine Obs.cons (fun u w hS hd => ?_) ?_
                    · have d68 : u 68 = .pointer (some ⟨gn, 0, none⟩) := dep hd 5 rfl
                      have d67 : u 67 = .bool true := dep hd 4 rfl
                      rw [d68, d67]
                      exact Gv.run (.agg #[.int .i64 y.id.1, .int .i64 y.id.2]) rfl (by obtain ⟨k0, k1, k2, k3, k4, k5, k6, k7⟩ := HS.out w hS; go_simp) rfl
                    refine Obs.cons (fun u w hS hd => ?_) ?_
                    · have d67 : u 67 = .bool true := dep hd 4 rfl
                      rw [d67]
                      exact Gv.run (.slice (some ⟨b, o, none⟩) m cN) rfl (by go_simp) rfl
                    refine Obs.cons (fun u w hS hd => ?_) ?_
                    · have d67 : u 67 = .bool true := dep hd 4 rfl
                      rw [d67]
                      exact Gv.run (.int .i64 (a : Int)) rfl (by go_simp) rfl
                    refine Obs.cons (fun u w hS hd => ?_) ?_
                    · have d70 : u 70 = .slice (some ⟨b, o, none⟩) m cN := dep hd 7 rfl
                      have d71 : u 71 = .int .i64 (a : Int) := dep hd 8 rfl
                      have d67 : u 67 = .bool true := dep hd 4 rfl
                      rw [d70, d71, d67]
                      exact Gv.run (.pointer (some ⟨b, o + a * 4, none⟩)) rfl (by go_simp) rfl
                    refine Obs.cons (fun u w hS hd => ?_) ?_
                    · have d72 : u 72 = .pointer (some ⟨b, o + a * 4, none⟩) := dep hd 9 rfl
                      have d67 : u 67 = .bool true := dep hd 4 rfl
                      rw [d72, d67]
                      exact Gv.run (.pointer (some ⟨b, o + a * 4, none⟩)) rfl (by go_simp) rfl
                    refine Obs.cons (fun u w hS hd => ?_) ?_
                    · have d73 : u 73 = .pointer (some ⟨b, o + a * 4, none⟩) := dep hd 10 rfl
                      have d67 : u 67 = .bool true := dep hd 4 rfl
                      rw [d73, d67]
                      exact Gv.run (.agg #[.int .i64 z.id.1, .int .i64 z.id.2]) rfl (by obtain ⟨k0, k1, k2, k3, k4, k5, k6, k7⟩ := HS.out w hS; go_simp) rfl
                    refine Obs.cons (fun u w hS hd => ?_) ?_
                    · have d69 : u 69 = .agg #[.int .i64 y.id.1, .int .i64 y.id.2] := dep hd 6 rfl
                      have d74 : u 74 = .agg #[.int .i64 z.id.1, .int .i64 z.id.2] := dep hd 11 rfl
                      have d67 : u 67 = .bool true := dep hd 4 rfl
                      rw [d69, d74, d67]
                      exact Gv.run (.bool false) rfl (by go_simp; exact fun h1 h2 => hne (Prod.ext h1 h2)) rfl
                    exact Obs.nil
                  intro u vh hS hd
                  have d67 : u 67 = .bool true := hd 4 (by decide)
                  have d75 : u 75 = .bool false := hd 12 (by decide)
                  simp only [List.drop_succ_cons, List.drop_zero]
                  have HB9 := Lib.hid (HBG.out.trans (hS.mono HBG.out.size))
                  rw [d67, d75]
                  clear hS hd d67 d75
                  go_wp2_with fail
                  go_roundw
                  case rel => exact ⟨j + 1, a, HM.out, by go_num, rfl, HF.out.2.2, HF2.out, HB9.out⟩
                  case measure => simp [intF]; have := HM.out; omega
                case pos =>
                  unfold foundL at hf
                  rw [if_pos hne] at hf
                  have hrest : (y.rune = z.rune ∧ (z.id ∈ t.G → y.id ∈ s.G)) ∧ foundL t.G s.G (W.drop (a + 1)) (N.drop (j + 1)) = true := by
                    by_cases hh : y.rune ≠ z.rune ∨ z.id ∈ t.G ∧ y.id ∉ s.G
                    · rw [if_pos hh] at hf; cases hf
                    · rw [if_neg hh] at hf
                      exact ⟨⟨Classical.byContradiction fun h => hh (.inl h), fun h => Classical.byContradiction fun h2 => hh (.inr ⟨h, h2⟩)⟩, hf⟩
                  obtain ⟨⟨hru, hgo⟩, hf2⟩ := hrest
                  have HF2 := Lib.hid (And.intro hf2 ham)
                  have HYZ := Lib.hid (show zg = true → yg = true by
                    intro h
                    rw [ezg, goneB_eq] at h
                    rw [HF.out.2.1, goneB_eq]
                    exact decide_eq_true (hgo (of_decide_eq_true h)))
                  rw [hne, hru] at HSA
                  have HS := Lib.hid HSA
                  clear hf HSA hf2 hru hgo ezg hdw
                  refine wp_region_inv 13 [63, 64, 65, 66, 67, 68, 69, 70, 71, 72, 73, 74, 75] [.val (.int .i64 (a : Int)), .val (.slice (some ⟨b, o, none⟩) m cN), .val (.int .i64 (m : Int)), .val (.bool true), .val (.bool true), .val (.pointer (some ⟨gn, 0, none⟩)), .val (.agg #[.int .i64 z.id.1, .int .i64 z.id.2]), .val (.slice (some ⟨b, o, none⟩) m cN), .val (.int .i64 (a : Int)), .val (.pointer (some ⟨b, o + a * 4, none⟩)), .val (.pointer (some ⟨b, o + a * 4, none⟩)), .val (.agg #[.int .i64 z.id.1, .int .i64 z.id.2]), .val (.bool true)] (fun wz => Below vg.heap.size vg wz) (by kernel_rfl) (by kernel_rfl) (fun wz wz' hz hb => hz.trans (hb.mono hz.size)) ((Below.refl _ _).drew) (fun u => by simp only [puts, List.foldl_cons, List.foldl_nil]; go_simp; exact rfl) ?_ ?_
                  · simp only [List.take_succ_cons, List.take_zero]
                    refine Obs.cons (fun u w hS hd => ?_) ?_
                    · exact Gv.run (.int .i64 (a : Int)) rfl (by go_simp) rfl
                    refine Obs.cons (fun u w hS hd => ?_) ?_
                    · exact Gv.run (.slice (some ⟨b, o, none⟩) m cN) rfl (by go_simp) rfl
                    refine Obs.cons (fun u w hS hd => ?_) ?_
                    · have d64 : u 64 = .slice (some ⟨b, o, none⟩) m cN := dep hd 1 rfl
                      rw [d64]
                      exact Gv.run (.int .i64 (m : Int)) rfl (by go_simp) rfl
                    refine Obs.cons (fun u w hS hd => ?_) ?_
                    · have d63 : u 63 = .int .i64 (a : Int) := dep hd 0 rfl
                      have d65 : u 65 = .int .i64 (m : Int) := dep hd 2 rfl
                      rw [d63, d65]
                      exact Gv.run (.bool true) rfl (by go_simp) rfl
                    refine Obs.cons (fun u w hS hd => ?_) ?_
                    · have d66 : u 66 = .bool true := dep hd 3 rfl
                      rw [d66]
                      exact Gv.run (.bool true) rfl (by go_simp) rfl
                    refine Obs.cons (fun u w hS hd => ?_) ?_
                    · have d67 : u 67 = .bool true := dep hd 4 rfl
                      rw [d67]
                      exact Gv.run (.pointer (some ⟨gn, 0, none⟩)) rfl (by go_simp) rfl
                    refine Obs.cons (fun u w hS hd => ?_) ?_
                    · have d68 : u 68 = .pointer (some ⟨gn, 0, none⟩) := dep hd 5 rfl
                      have d67 : u 67 = .bool true := dep hd 4 rfl
                      rw [d68, d67]
                      exact Gv.run (.agg #[.int .i64 z.id.1, .int .i64 z.id.2]) rfl (by obtain ⟨k0, k1, k2, k3, k4, k5, k6, k7⟩ := HS.out w hS; go_simp) rfl
                    refine Obs.cons (fun u w hS hd => ?_) ?_
                    · have d67 : u 67 = .bool true := dep hd 4 rfl
                      rw [d67]
                      exact Gv.run (.slice (some ⟨b, o, none⟩) m cN) rfl (by go_simp) rfl
                    refine Obs.cons (fun u w hS hd => ?_) ?_
                    · have d67 : u 67 = .bool true := dep hd 4 rfl
                      rw [d67]
                      exact Gv.run (.int .i64 (a : Int)) rfl (by go_simp) rfl
                    refine Obs.cons (fun u w hS hd => ?_) ?_
                    · have d70 : u 70 = .slice (some ⟨b, o, none⟩) m cN := dep hd 7 rfl
                      have d71 : u 71 = .int .i64 (a : Int) := dep hd 8 rfl
                      have d67 : u 67 = .bool true := dep hd 4 rfl
                      rw [d70, d71, d67]
                      exact Gv.run (.pointer (some ⟨b, o + a * 4, none⟩)) rfl (by go_simp) rfl
                    refine Obs.cons (fun u w hS hd => ?_) ?_
                    · have d72 : u 72 = .pointer (some ⟨b, o + a * 4, none⟩) := dep hd 9 rfl
                      have d67 : u 67 = .bool true := dep hd 4 rfl
                      rw [d72, d67]
                      exact Gv.run (.pointer (some ⟨b, o + a * 4, none⟩)) rfl (by go_simp) rfl
                    refine Obs.cons (fun u w hS hd => ?_) ?_
                    · have d73 : u 73 = .pointer (some ⟨b, o + a * 4, none⟩) := dep hd 10 rfl
                      have d67 : u 67 = .bool true := dep hd 4 rfl
                      rw [d73, d67]
                      exact Gv.run (.agg #[.int .i64 z.id.1, .int .i64 z.id.2]) rfl (by obtain ⟨k0, k1, k2, k3, k4, k5, k6, k7⟩ := HS.out w hS; go_simp) rfl
                    refine Obs.cons (fun u w hS hd => ?_) ?_
                    · have d69 : u 69 = .agg #[.int .i64 z.id.1, .int .i64 z.id.2] := dep hd 6 rfl
                      have d74 : u 74 = .agg #[.int .i64 z.id.1, .int .i64 z.id.2] := dep hd 11 rfl
                      have d67 : u 67 = .bool true := dep hd 4 rfl
                      rw [d69, d74, d67]
                      exact Gv.run (.bool true) rfl (by go_simp) rfl
                    exact Obs.nil
                  intro u vh hS hd
                  have d67 : u 67 = .bool true := hd 4 (by decide)
                  have d75 : u 75 = .bool true := hd 12 (by decide)
                  simp only [List.drop_succ_cons, List.drop_zero]
                  rw [d67, d75]
                  clear d67 d75
                  have HS' := Lib.hid (fun wz (hz : Below vh.heap.size vh wz) => HS.out wz (hS.trans (hz.mono hS.size)))
                  have HBH := Lib.hid (HBG.out.trans (hS.mono HBG.out.size))
                  clear hS hd HS
                  have HS := HS'
                  clear HS'
                  go_upto_region 20 with fail
                  cases zg with
                  | true =>
                    obtain rfl := HYZ.out rfl
                    refine wp_region_inv 19 [77, 78, 79, 80, 81, 82, 83, 84, 85, 86, 87, 88, 89, 90, 91, 92, 93, 94, 95] [.val (.pointer (some ⟨gn, 2, none⟩)), .val (.int .i32 z.rune), .val (.slice (some ⟨b, o, none⟩) m cN), .val (.int .i64 (a : Int)), .val (.pointer (some ⟨b, o + a * 4, none⟩)), .val (.pointer (some ⟨b, o + a * 4 + 2, none⟩)), .val (.int .i32 z.rune), .val (.bool false), .val (.bool false), .val (.slice (some ⟨b, o, none⟩) m cN), .val (.int .i64 (a : Int)), .val (.pointer (some ⟨b, o + a * 4, none⟩)), .val (.pointer (some ⟨b, o + a * 4 + 3, none⟩)), .val (.bool true), .val (.bool true), .val (.pointer (some ⟨gn, 3, none⟩)), .val (.bool true), .val (.bool false), .val (.bool false)] (fun wz => Below vh.heap.size vh wz) (by kernel_rfl) (by kernel_rfl) (fun wz wz' hz hb => hz.trans (hb.mono hz.size)) ((Below.refl _ _).drew) (fun u => by simp only [puts, List.foldl_cons, List.foldl_nil]; go_simp; exact rfl) ?_ ?_
                    · simp only [List.take_succ_cons, List.take_zero]
                      refine Obs.cons (fun u w hS hd => ?_) ?_
                      · exact Gv.run (.pointer (some ⟨gn, 2, none⟩)) rfl (by go_simp) rfl
                      refine Obs.cons (fun u w hS hd => ?_) ?_
                      · have d77 : u 77 = .pointer (some ⟨gn, 2, none⟩) := dep hd 0 rfl
                        rw [d77]
                        exact Gv.run (.int .i32 z.rune) rfl (by obtain ⟨k0, k1, k2, k3, k4, k5, k6, k7⟩ := HS.out w hS; go_simp) rfl
                      refine Obs.cons (fun u w hS hd => ?_) ?_
                      · exact Gv.run (.slice (some ⟨b, o, none⟩) m cN) rfl (by go_simp) rfl
                      refine Obs.cons (fun u w hS hd => ?_) ?_
                      · exact Gv.run (.int .i64 (a : Int)) rfl (by go_simp) rfl
                      refine Obs.cons (fun u w hS hd => ?_) ?_
                      · have d79 : u 79 = .slice (some ⟨b, o, none⟩) m cN := dep hd 2 rfl
                        have d80 : u 80 = .int .i64 (a : Int) := dep hd 3 rfl
                        rw [d79, d80]
                        exact Gv.run (.pointer (some ⟨b, o + a * 4, none⟩)) rfl (by go_simp) rfl
                      refine Obs.cons (fun u w hS hd => ?_) ?_
                      · have d81 : u 81 = .pointer (some ⟨b, o + a * 4, none⟩) := dep hd 4 rfl
                        rw [d81]
                        exact Gv.run (.pointer (some ⟨b, o + a * 4 + 2, none⟩)) rfl (by go_simp) rfl
                      refine Obs.cons (fun u w hS hd => ?_) ?_
                      · have d82 : u 82 = .pointer (some ⟨b, o + a * 4 + 2, none⟩) := dep hd 5 rfl
                        rw [d82]
                        exact Gv.run (.int .i32 z.rune) rfl (by obtain ⟨k0, k1, k2, k3, k4, k5, k6, k7⟩ := HS.out w hS; go_simp) rfl
                      refine Obs.cons (fun u w hS hd => ?_) ?_
                      · have d78 : u 78 = .int .i32 z.rune := dep hd 1 rfl
                        have d83 : u 83 = .int .i32 z.rune := dep hd 6 rfl
                        rw [d78, d83]
                        exact Gv.run (.bool false) rfl (by go_simp) rfl
                      refine Obs.cons (fun u w hS hd => ?_) ?_
                      · have d84 : u 84 = .bool false := dep hd 7 rfl
                        rw [d84]
                        exact Gv.run (.bool false) rfl (by go_simp) rfl
                      refine Obs.cons (fun u w hS hd => ?_) ?_
                      · have d85 : u 85 = .bool false := dep hd 8 rfl
                        rw [d85]
                        exact Gv.run (.slice (some ⟨b, o, none⟩) m cN) rfl (by go_simp) rfl
                      refine Obs.cons (fun u w hS hd => ?_) ?_
                      · have d85 : u 85 = .bool false := dep hd 8 rfl
                        rw [d85]
                        exact Gv.run (.int .i64 (a : Int)) rfl (by go_simp) rfl
                      refine Obs.cons (fun u w hS hd => ?_) ?_
                      · have d86 : u 86 = .slice (some ⟨b, o, none⟩) m cN := dep hd 9 rfl
                        have d87 : u 87 = .int .i64 (a : Int) := dep hd 10 rfl
                        have d85 : u 85 = .bool false := dep hd 8 rfl
                        rw [d86, d87, d85]
                        exact Gv.run (.pointer (some ⟨b, o + a * 4, none⟩)) rfl (by go_simp) rfl
                      refine Obs.cons (fun u w hS hd => ?_) ?_
                      · have d88 : u 88 = .pointer (some ⟨b, o + a * 4, none⟩) := dep hd 11 rfl
                        have d85 : u 85 = .bool false := dep hd 8 rfl
                        rw [d88, d85]
                        exact Gv.run (.pointer (some ⟨b, o + a * 4 + 3, none⟩)) rfl (by go_simp) rfl
                      refine Obs.cons (fun u w hS hd => ?_) ?_
                      · have d89 : u 89 = .pointer (some ⟨b, o + a * 4 + 3, none⟩) := dep hd 12 rfl
                        have d85 : u 85 = .bool false := dep hd 8 rfl
                        rw [d89, d85]
                        exact Gv.run (.bool true) rfl (by obtain ⟨k0, k1, k2, k3, k4, k5, k6, k7⟩ := HS.out w hS; go_simp) rfl
                      refine Obs.cons (fun u w hS hd => ?_) ?_
                      · have d90 : u 90 = .bool true := dep hd 13 rfl
                        have d85 : u 85 = .bool false := dep hd 8 rfl
                        rw [d90, d85]
                        exact Gv.run (.bool true) rfl (by go_simp) rfl
                      refine Obs.cons (fun u w hS hd => ?_) ?_
                      · have d91 : u 91 = .bool true := dep hd 14 rfl
                        rw [d91]
                        exact Gv.run (.pointer (some ⟨gn, 3, none⟩)) rfl (by go_simp) rfl
                      refine Obs.cons (fun u w hS hd => ?_) ?_
                      · have d92 : u 92 = .pointer (some ⟨gn, 3, none⟩) := dep hd 15 rfl
                        have d91 : u 91 = .bool true := dep hd 14 rfl
                        rw [d92, d91]
                        exact Gv.run (.bool true) rfl (by obtain ⟨k0, k1, k2, k3, k4, k5, k6, k7⟩ := HS.out w hS; go_simp) rfl
                      refine Obs.cons (fun u w hS hd => ?_) ?_
                      · have d93 : u 93 = .bool true := dep hd 16 rfl
                        have d91 : u 91 = .bool true := dep hd 14 rfl
                        rw [d93, d91]
                        exact Gv.run (.bool false) rfl (by go_simp) rfl
                      refine Obs.cons (fun u w hS hd => ?_) ?_
                      · have d91 : u 91 = .bool true := dep hd 14 rfl
                        have d94 : u 94 = .bool false := dep hd 17 rfl
                        have d85 : u 85 = .bool false := dep hd 8 rfl
                        rw [d91, d94, d85]
                        exact Gv.run (.bool false) rfl (by go_simp) rfl
                      exact Obs.nil
                    intro u vi hS hd
                    have d85 : u 85 = .bool false := hd 8 (by decide)
                    have d95 : u 95 = .bool false := hd 18 (by decide)
                    simp only [List.drop_succ_cons, List.drop_zero]
                    have HB9 := Lib.hid (HBH.out.trans (hS.mono HBH.out.size))
                    rw [d85, d95]
                    clear hS hd d85 d95
                    go_wp2_with fail
                    go_roundw
                    case rel => exact ⟨j + 1, a + 1, HM.out, by go_num, by go_num, HF2.out.2, HF2.out.1, HB9.out⟩
                    case measure => simp [intF]; have := HM.out; omega
                  | false =>
                    refine wp_region_inv 19 [77, 78, 79, 80, 81, 82, 83, 84, 85, 86, 87, 88, 89, 90, 91, 92, 93, 94, 95] [.val (.pointer (some ⟨gn, 2, none⟩)), .val (.int .i32 z.rune), .val (.slice (some ⟨b, o, none⟩) m cN), .val (.int .i64 (a : Int)), .val (.pointer (some ⟨b, o + a * 4, none⟩)), .val (.pointer (some ⟨b, o + a * 4 + 2, none⟩)), .val (.int .i32 z.rune), .val (.bool false), .val (.bool false), .val (.slice (some ⟨b, o, none⟩) m cN), .val (.int .i64 (a : Int)), .val (.pointer (some ⟨b, o + a * 4, none⟩)), .val (.pointer (some ⟨b, o + a * 4 + 3, none⟩)), .val (.bool false), .val (.bool false), .val undef, .val undef, .val undef, .val (.bool false)] (fun wz => Below vh.heap.size vh wz) (by kernel_rfl) (by kernel_rfl) (fun wz wz' hz hb => hz.trans (hb.mono hz.size)) ((Below.refl _ _).drew) (fun u => by simp only [puts, List.foldl_cons, List.foldl_nil]; go_simp; exact rfl) ?_ ?_
                    · simp only [List.take_succ_cons, List.take_zero]
                      refine Obs.cons (fun u w hS hd => ?_) ?_
                      · exact Gv.run (.pointer (some ⟨gn, 2, none⟩)) rfl (by go_simp) rfl
                      refine Obs.cons (fun u w hS hd => ?_) ?_
                      · have d77 : u 77 = .pointer (some ⟨gn, 2, none⟩) := dep hd 0 rfl
                        rw [d77]
                        exact Gv.run (.int .i32 z.rune) rfl (by obtain ⟨k0, k1, k2, k3, k4, k5, k6, k7⟩ := HS.out w hS; go_simp) rfl
                      refine Obs.cons (fun u w hS hd => ?_) ?_
                      · exact Gv.run (.slice (some ⟨b, o, none⟩) m cN) rfl (by go_simp) rfl
                      refine Obs.cons (fun u w hS hd => ?_) ?_
                      · exact Gv.run (.int .i64 (a : Int)) rfl (by go_simp) rfl
                      refine Obs.cons (fun u w hS hd => ?_) ?_
                      · have d79 : u 79 = .slice (some ⟨b, o, none⟩) m cN := dep hd 2 rfl
                        have d80 : u 80 = .int .i64 (a : Int) := dep hd 3 rfl
                        rw [d79, d80]
                        exact Gv.run (.pointer (some ⟨b, o + a * 4, none⟩)) rfl (by go_simp) rfl
                      refine Obs.cons (fun u w hS hd => ?_) ?_
                      · have d81 : u 81 = .pointer (some ⟨b, o + a * 4, none⟩) := dep hd 4 rfl
                        rw [d81]
                        exact Gv.run (.pointer (some ⟨b, o + a * 4 + 2, none⟩)) rfl (by go_simp) rfl
                      refine Obs.cons (fun u w hS hd => ?_) ?_
                      · have d82 : u 82 = .pointer (some ⟨b, o + a * 4 + 2, none⟩) := dep hd 5 rfl
                        rw [d82]
                        exact Gv.run (.int .i32 z.rune) rfl (by obtain ⟨k0, k1, k2, k3, k4, k5, k6, k7⟩ := HS.out w hS; go_simp) rfl
                      refine Obs.cons (fun u w hS hd => ?_) ?_
                      · have d78 : u 78 = .int .i32 z.rune := dep hd 1 rfl
                        have d83 : u 83 = .int .i32 z.rune := dep hd 6 rfl
                        rw [d78, d83]
                        exact Gv.run (.bool false) rfl (by go_simp) rfl
                      refine Obs.cons (fun u w hS hd => ?_) ?_
                      · have d84 : u 84 = .bool false := dep hd 7 rfl
                        rw [d84]
                        exact Gv.run (.bool false) rfl (by go_simp) rfl
                      refine Obs.cons (fun u w hS hd => ?_) ?_
                      · have d85 : u 85 = .bool false := dep hd 8 rfl
                        rw [d85]
                        exact Gv.run (.slice (some ⟨b, o, none⟩) m cN) rfl (by go_simp) rfl
                      refine Obs.cons (fun u w hS hd => ?_) ?_
                      · have d85 : u 85 = .bool false := dep hd 8 rfl
                        rw [d85]
                        exact Gv.run (.int .i64 (a : Int)) rfl (by go_simp) rfl
                      refine Obs.cons (fun u w hS hd => ?_) ?_
                      · have d86 : u 86 = .slice (some ⟨b, o, none⟩) m cN := dep hd 9 rfl
                        have d87 : u 87 = .int .i64 (a : Int) := dep hd 10 rfl
                        have d85 : u 85 = .bool false := dep hd 8 rfl
                        rw [d86, d87, d85]
                        exact Gv.run (.pointer (some ⟨b, o + a * 4, none⟩)) rfl (by go_simp) rfl
                      refine Obs.cons (fun u w hS hd => ?_) ?_
                      · have d88 : u 88 = .pointer (some ⟨b, o + a * 4, none⟩) := dep hd 11 rfl
                        have d85 : u 85 = .bool false := dep hd 8 rfl
                        rw [d88, d85]
                        exact Gv.run (.pointer (some ⟨b, o + a * 4 + 3, none⟩)) rfl (by go_simp) rfl
                      refine Obs.cons (fun u w hS hd => ?_) ?_
                      · have d89 : u 89 = .pointer (some ⟨b, o + a * 4 + 3, none⟩) := dep hd 12 rfl
                        have d85 : u 85 = .bool false := dep hd 8 rfl
                        rw [d89, d85]
                        exact Gv.run (.bool false) rfl (by obtain ⟨k0, k1, k2, k3, k4, k5, k6, k7⟩ := HS.out w hS; go_simp) rfl
                      refine Obs.cons (fun u w hS hd => ?_) ?_
                      · have d90 : u 90 = .bool false := dep hd 13 rfl
                        have d85 : u 85 = .bool false := dep hd 8 rfl
                        rw [d90, d85]
                        exact Gv.run (.bool false) rfl (by go_simp) rfl
                      refine Obs.cons (fun u w hS hd => ?_) ?_
                      · have d91 : u 91 = .bool false := dep hd 14 rfl
                        rw [d91]
                        exact Gv.skip (by rfl) rfl
                      refine Obs.cons (fun u w hS hd => ?_) ?_
                      · have d92 : u 92 = undef := dep hd 15 rfl
                        have d91 : u 91 = .bool false := dep hd 14 rfl
                        rw [d92, d91]
                        exact Gv.skip (by rfl) rfl
                      refine Obs.cons (fun u w hS hd => ?_) ?_
                      · have d93 : u 93 = undef := dep hd 16 rfl
                        have d91 : u 91 = .bool false := dep hd 14 rfl
                        rw [d93, d91]
                        exact Gv.skip (by rfl) rfl
                      refine Obs.cons (fun u w hS hd => ?_) ?_
                      · have d91 : u 91 = .bool false := dep hd 14 rfl
                        have d94 : u 94 = undef := dep hd 17 rfl
                        have d85 : u 85 = .bool false := dep hd 8 rfl
                        rw [d91, d94, d85]
                        exact Gv.run (.bool false) rfl (by go_simp) rfl
                      exact Obs.nil
                    intro u vi hS hd
                    have d85 : u 85 = .bool false := hd 8 (by decide)
                    have d95 : u 95 = .bool false := hd 18 (by decide)
                    simp only [List.drop_succ_cons, List.drop_zero]
                    have HB9 := Lib.hid (HBH.out.trans (hS.mono HBH.out.size))
                    rw [d85, d95]
                    clear hS hd d85 d95
                    go_wp2_with fail
                    go_roundw
                    case rel => exact ⟨j + 1, a + 1, HM.out, by go_num, by go_num, HF2.out.2, HF2.out.1, HB9.out⟩
                    case measure => simp [intF]; have := HM.out; omega
            · obtain rfl : j = q := by omega
              have hwe : W.drop a = [] := found_end (G := t.G) (K := s.G) (by
                have h5 : N.drop j = [] := List.drop_eq_nil_of_le (by rw [← HQ.out]; exact Nat.le_refl _)
                rw [h5] at hf
                exact hf)
              obtain rfl : a = m := by
                have h5 := congrArg List.length hwe
                rw [List.length_drop, HW.out, List.length_nil] at h5
                omega
              have HBR := Lib.hid (HRQ.out.2.2.trans (hbr.mono HRQ.out.2.2.size))
              clear hf hbr HRQ hwe hlt hj ha
              go_wp2_with fail
              go_at_call 11
              refine (awake15 K wr).mono ?_
              rintro z v9 ⟨rfl, h0⟩
              have H9 := Lib.hid (HBR.out.trans (h0.mono HBR.out.size))
              clear h0
              go_wp2_with fail
              go_ret
              exact ⟨rfl, H9.out⟩
end
end Go.Proofs.Ytljciakgdpihdaa
