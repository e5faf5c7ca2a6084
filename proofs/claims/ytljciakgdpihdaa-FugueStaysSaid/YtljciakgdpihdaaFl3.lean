/-
  Layer 15: FuguePlans. By an AI agent.
-/
import Derived.Test.YtljciakgdpihdaaFl1
namespace Go.Proofs.Ytljciakgdpihdaa
open Go Go.RowKit
set_option maxRecDepth 20000
theorem stepT_gone {t : Txt} (h : ∀ i ∈ t.G, hasL t.L i) (x : Dot) : ∀ i ∈ (stepT t x).G, hasL (stepT t x).L i := by
  unfold stepT
  split
  · show ∀ i ∈ (dropR t.L t.G x.drop).1, hasL t.L i
    unfold dropR
    split
    · exact h
    · rename_i h1
      split
      · exact h
      · intro i hi
        rcases List.mem_append.1 hi with hi | hi
        · exact h i hi
        · rw [List.mem_singleton] at hi
          subst hi
          exact hasB_iff.1 (by cases h3 : hasB t.L x.drop with | true => rfl | false => exact absurd h3 h1)
  · show ∀ i ∈ t.G, hasL (addR t.L x.ins).1 i
    intro i hi
    obtain ⟨y, hy, e⟩ := h i hi
    refine ⟨y, ?_, e⟩
    unfold addR
    repeat' split
    all_goals first | exact hy | exact List.mem_append.2 (.inl hy)
theorem fold_gone : ∀ (l : List Dot) (s : Txt), (∀ i ∈ s.G, hasL s.L i) → ∀ i ∈ (l.foldl stepT s).G, hasL (l.foldl stepT s).L i
  | [], _, h => h
  | x :: r, _, h => fold_gone r _ (stepT_gone h x)
theorem txtK_gone (l : List Dot) (k : Nat) : ∀ i ∈ (txtK l k).G, hasL (txtK l k).L i := fold_gone _ _ (fun i hi => by cases hi)
/-- What is planned and taken. -/
theorem plan_add {L : List Ins} {G : List IDt} {x : Ins} {j : Int} (hok : Ok L) (hl : L.length ≤ 4096) (hG : ∀ i ∈ G, hasL L i) (h0 : (planR L G j).2.2 = 0) (h1 : x.par = (planR L G j).1) (h2 : x.right = (planR L G j).2.1) (ha : (addR L x).2 = 0) :
    0 ≤ j ∧ j.toNat ≤ (liveL G (nodesL L)).length ∧ (addR L x).1 = L ++ [x] ∧ Ok (L ++ [x]) ∧ (L ++ [x]).length ≤ 4096 ∧ liveL G (nodesL (L ++ [x])) = (liveL G (nodesL L)).take j.toNat ++ x :: (liveL G (nodesL L)).drop j.toNat := by
  have hj : ¬ (j < 0 ∨ ((liveL G (nodesL L)).length : Int) < j) := fun h => by
    unfold planR at h0
    rw [if_pos h] at h0
    exact absurd h0 (by decide)
  have hp : planR L G j = ((planL L G j.toNat).1, (planL L G j.toNat).2, 0) := by unfold planR; rw [if_neg hj]
  rw [hp] at h1 h2
  obtain ⟨e1, e2⟩ : (addR L x).1 = L ++ [x] ∧ hasB L x.id = false := by
    unfold addR at ha ⊢
    split at ha
    · exact absurd (show (1 : Int) = 0 from ha) (by decide)
    · rename_i g1
      rw [if_neg g1]
      split at ha
      · exact absurd (show (12 : Int) = 0 from ha) (by decide)
      · rename_i g2
        rw [if_neg g2]
        split at ha
        · exact absurd (show (13 : Int) = 0 from ha) (by decide)
        · rename_i g3
          rw [if_neg g3]
          split at ha
          · exact absurd (show (14 : Int) = 0 from ha) (by decide)
          · rename_i g4
            rw [if_neg g4]
            exact ⟨rfl, by cases h9 : hasB L x.id with | false => rfl | true => exact absurd h9 g2⟩
  obtain ⟨o1, _, o3⟩ := addR_ok (x := x) hok hl
  rw [e1] at o1 o3
  have hi : j.toNat ≤ (liveL G (nodesL L)).length := by omega
  refine ⟨by omega, hi, e1, o1, o3, plan_live o1 hi (by rw [h1, h2]) fun hx => ?_⟩
  have := hasB_iff.2 (hG _ hx)
  rw [e2] at this
  cases this
theorem put_at {α : Type} {V : List α} {i : Nat} (hi : i ≤ V.length) (x : α) : (V.take i ++ x :: V.drop i).length = V.length + 1 ∧ (∀ k, k < i → (V.take i ++ x :: V.drop i)[k]? = V[k]?) ∧ (V.take i ++ x :: V.drop i)[i]? = some x ∧ ∀ k, i < k → (V.take i ++ x :: V.drop i)[k]? = V[k - 1]? := by
  have ht : (V.take i).length = i := by rw [List.length_take]; omega
  refine ⟨by rw [List.length_append, List.length_cons, ht, List.length_drop]; omega, fun k hk => ?_, ?_, fun k hk => ?_⟩
  · rw [List.getElem?_append_left (by omega), List.getElem?_take, if_pos hk]
  · rw [List.getElem?_append_right (by omega), ht, Nat.sub_self, List.getElem?_cons_zero]
  · rw [List.getElem?_append_right (by omega), ht, show k - i = (k - 1 - i) + 1 by omega, List.getElem?_cons_succ, List.getElem?_drop, show i + (k - 1 - i) = k - 1 by omega]
theorem atR_of {L : List Ins} {G : List IDt} {k : Nat} {y : Ins} (h : (liveL G (nodesL L))[k]? = some y) : atR L G (k : Int) = (y.id, 0) := by
  have hk := (List.getElem?_eq_some_iff.1 h).1
  unfold atR
  rw [if_neg (by omega), Int.toNat_natCast, h]
  rfl
section
variable {R : TreeP} (K : FugC R)
include K
theorem fugueplans_much {A : Option Addr} {c n : Nat} (hn : 60 < n) (j : Int) (i : IDt) (ch : Int) (w : World) :
    Calls Try.prog 7 #[.slice A n c, .int .i64 j, idV i, .int .i32 ch] w fun e w' => e = .returned (.bool true) ∧ Below w.heap.size w w' := by
  obtain ⟨v1, ev⟩ : ∃ v, v = w.alloc (.cells #[.int .i64 i.1, .int .i64 i.2] 31) := ⟨_, rfl⟩
  have hb : Below w.heap.size w v1 := by rw [ev]; exact (Below.refl _ _).alloc (Nat.le_refl _) _
  have HB := Lib.hid (And.intro ev hb)
  have g1 : (60 : Int) < (n : Int) := by omega
  clear hn ev hb
  go_enter Try.func7, Try.ntmps7
  go_upto_region 1 with fail
  rw [← HB.out.1]
  go_wp2_with fail
  go_at_call 11
  refine (awake15 K v1).mono ?_
  rintro z v9 ⟨rfl, h0⟩
  have HB9 := Lib.hid (HB.out.2.trans (h0.mono HB.out.2.size))
  clear h0
  go_wp2_with fail
  go_ret
  exact ⟨rfl, HB9.out⟩
set_option maxHeartbeats 12800000 in
theorem fugueplans_law {A : Option Addr} {c n : Nat} {l : List Dot} (hn : l.length = n) (hl : n ≤ 60) (j : Int) (i : IDt) (ch : Int) (w : World) (r : RdR doE w w.heap.size A c l) :
    Calls Try.prog 7 #[.slice A n c, .int .i64 j, idV i, .int .i32 ch] w fun e w' => e = .returned (.bool true) ∧ Below w.heap.size w w' := by
  obtain ⟨v1, ev⟩ : ∃ v, v = w.alloc (.cells #[.int .i64 i.1, .int .i64 i.2] 31) := ⟨_, rfl⟩
  obtain ⟨g, eg⟩ : ∃ g, g = w.heap.size := ⟨_, rfl⟩
  have hb : Below w.heap.size w v1 := by rw [ev]; exact (Below.refl _ _).alloc (Nat.le_refl _) _
  have og : O2 v1 w.heap.size 31 g (.int .i64 i.1) (.int .i64 i.2) := by rw [ev, eg]; exact O2.newz (Nat.le_refl _) _ _ _
  have g1 : ¬ (60 : Int) < (n : Int) := by omega
  have HN := Lib.hid hn
  have HL := Lib.hid (show l.length ≤ 4096 by omega)
  have HB := Lib.hid hb
  have HR := Lib.hid (fun wz (hz : Below v1.heap.size v1 wz) => (r.keep (hb.trans (hz.mono hb.size)) : RdR doE wz w.heap.size A c l))
  have HO := Lib.hid (fun wz (hz : Below v1.heap.size v1 wz) => (OwnF.keep og hz : O2 wz w.heap.size 31 g (.int .i64 i.1) (.int .i64 i.2)))
  have HV := Lib.hid (And.intro ev (And.intro eg (show g < v1.heap.size from OwnF.lt og)))
  clear ev eg hb og hn r
  go_enter Try.func7, Try.ntmps7
  go_upto_region 1 with fail
  rw [← HV.out.1, ← HV.out.2.1]
  have HG := Lib.hid HV.out.2.2
  clear HV
  go_wp2_with fail
  go_at_call 12
  refine (play_new K v1).mono ?_
  rintro z v2 ⟨p, rfl, hp⟩
  obtain ⟨v3, e3⟩ : ∃ v, v = v2.alloc (.cells #[.slice none 0 0, .slice none 0 0] 29) := ⟨_, rfl⟩
  obtain ⟨gr, egr⟩ : ∃ g, g = v2.heap.size := ⟨_, rfl⟩
  rw [← e3, ← egr] at hp
  have HP := Lib.hid hp
  have HV := Lib.hid (And.intro e3 egr)
  clear hp e3 egr
  go_upto_region 4 with fail
  rw [← HV.out.1, ← HV.out.2]
  clear HV
  go_wp2_with fail
  go_loopw [29] (fun i wr => ∃ k : Nat, k ≤ n ∧ i = .int .i64 (k : Int) ∧ Play R v1 gr p (txtK l k) wr) (fun i _ => n - (intF i).toNat)
  case atStart => exact ⟨0, Nat.zero_le _, rfl, HP.out⟩
  case round =>
    obtain ⟨k, hk, rfl, hp⟩ := hrel
    clear HP
    by_cases hlt : k < n
    · have g2 : (k : Int) < (n : Int) := by omega
      obtain ⟨x, hx⟩ := getD_of (L := l) (k := k) (by rw [HN.out]; exact hlt)
      obtain ⟨b, o, rfl, hbB, m0, m1, m2, m3, m4, m5, m6, m7, m8⟩ := do_at (HR.out wr hp.base) hx
      obtain ⟨v5, e5⟩ : ∃ v, v = wr.alloc (.cells (doC x) 35) := ⟨_, rfl⟩
      obtain ⟨g5, eg5⟩ : ∃ g, g = wr.heap.size := ⟨_, rfl⟩
      have hd : DoB v5 g5 x := by rw [e5, eg5]; exact do_box wr x
      have hp5 := Play.keep K hp (w' := v5) (by rw [e5]; exact (Below.refl _ _).alloc (Nat.le_refl _) _)
      have ht := txtK_ok (k := k) HL.out
      have HT := Lib.hid (show Ok (txtK l k).L ∧ (txtK l k).L.length ≤ 4096 ∧ (txtK l k).G.length ≤ 1000000 from ⟨ht.1, Nat.le_trans ht.2.1 HL.out, Nat.le_trans ht.2.2 (Nat.le_trans HL.out (by decide))⟩)
      have HX := Lib.hid (txtK_succ hx)
      have HK := Lib.hid hlt
      have HD := Lib.hid (And.intro hd hp5)
      have E5 := Lib.hid (And.intro e5 eg5)
      have hl9 := hl
      clear hd hp5 ht hx hlt hk e5 eg5 hp hbB
      go_upto_region 7 with fail
      rw [← E5.out.1, ← E5.out.2]
      clear E5 m0 m1 m2 m3 m4 m5 m6 m7 m8
      obtain ⟨⟨m0, m1, m2, m3, m4, m5, m6, m7, m8⟩, u1, u2, hPB, o5⟩ := HD.out
      have y0 := o5.c0
      have y1 := o5.c1
      have HQ := Lib.hid (And.intro hPB o5)
      clear hPB o5 HD
      go_wp2_with fail
      go_at_call 13
      refine (play_both K HQ.out.1 HQ.out.2 HT.out.1 HT.out.2.1 HT.out.2.2 x).mono ?_
      rintro z v6 ⟨z1, z2, rfl, hPB, o6⟩
      obtain ⟨A3, n3, c3, A4, n4, c4, rfl, rfl⟩ := hPB.slices
      clear m0 m1 m2 m3 m4 m5 m6 m7 m8 y0 y1
      have y0 := o6.c0
      have y1 := o6.c1
      have f0 := o6.f0
      have f1 := o6.f1
      have HS := Lib.hid (PlayB.store K hPB o6)
      clear hPB o6 HQ
      go_wp2_with fail
      go_roundw
      case rel => exact ⟨k + 1, HK.out, by go_num, by rw [HX.out]; exact HS.out⟩
      case measure => simp [intF]; have := HK.out; omega
    · obtain rfl : k = n := by omega
      obtain ⟨vo, evo⟩ : ∃ v, v = wr := ⟨_, rfl⟩
      subst evo
      obtain ⟨u1, u2, hPB, o⟩ := hp
      obtain ⟨A1, n1, c1, A2, n2, c2, rfl, rfl⟩ := hPB.slices
      obtain ⟨F, hR, hV, _, hF1, hbo⟩ := hPB
      have ht := txtK_ok (k := k) HL.out
      have hgone := txtK_gone l k
      obtain ⟨t, et⟩ : ∃ t, t = txtK l k := ⟨_, rfl⟩
      rw [← et] at ht hR hV hgone
      have hok := ht.1
      have hl4 : t.L.length ≤ 4096 := Nat.le_trans ht.2.1 HL.out
      have hg6 : t.G.length ≤ 1000000 := Nat.le_trans ht.2.2 (Nat.le_trans HL.out (by decide))
      obtain ⟨q, eq⟩ : ∃ m, m = (liveL t.G (nodesL t.L)).length := ⟨_, rfl⟩
      have hq4 : q ≤ 4096 := by rw [eq]; exact Nat.le_trans (List.length_filter_le _ _) (Nat.le_trans (nodes_len hok) hl4)
      obtain ⟨PL, ePL⟩ : ∃ x, x = planR t.L t.G j := ⟨_, rfl⟩
      have HLi := rlive_any hok hl4 hg6 vo hV (Nat.le_refl _)
      rw [← eq] at HLi
      have HLI := Lib.hid HLi
      have HK0 := Lib.hid (And.intro hok (And.intro hl4 (And.intro hgone (And.intro hq4 (And.intro eq ePL)))))
      have HRR := Lib.hid (And.intro hR (And.intro hF1 (And.intro HG.out (And.intro (HO.out vo hbo) (HB.out.trans (hbo.mono HB.out.size))))))
      have y0 := o.c0
      have y1 := o.c1
      clear o et ht hok hl4 hg6 eq hq4 ePL HLi hR hF1 hbo hgone hV HR HO HG hlt hk
      go_wp2_with fail
      go_at_call 20
      refine HLI.out.mono ?_
      rintro z va ⟨AL, cL, rfl, oL, hba⟩
      have HRW := Lib.hid oL.rd
      have HAL := Lib.hid (fun ad (e : AL = some ad) => (OwnR.blk oL ad e).1)
      have HBA := Lib.hid hba
      have HP0 := Lib.hid (K.plan j va (K.next HRR.out.1 hba) HK0.out.1 HK0.out.2.1)
      rw [← HK0.out.2.2.2.2.2] at HP0
      clear oL hba y0 y1 HLI
      go_wp2_with fail
      go_at_call 23
      refine HP0.out.mono ?_
      rintro z vb ⟨rfl, hbb⟩
      clear HP0
      obtain ⟨vc, evc⟩ : ∃ v, v = vb.alloc (.cells #[.int .i64 PL.1.1, .int .i64 PL.1.2] 31) := ⟨_, rfl⟩
      obtain ⟨gc, egc⟩ : ∃ g, g = vb.heap.size := ⟨_, rfl⟩
      have hbc : Below va.heap.size va vc := hbb.trans (by rw [evc]; exact (Below.refl _ _).alloc hbb.size _)
      have oc : O2 vc vb.heap.size 31 gc (.int .i64 PL.1.1) (.int .i64 PL.1.2) := by rw [evc, egc]; exact O2.newz (Nat.le_refl _) _ _ _
      have HBC := Lib.hid (show Below vo.heap.size vo vc from HBA.out.trans (hbc.mono HBA.out.size))
      have HRC := Lib.hid (And.intro (K.next HRR.out.1 HBC.out) (And.intro (HRW.out.next hbc) (And.intro oc (show vo.heap.size ≤ gc by rw [egc]; exact Nat.le_trans HBA.out.size hbb.size))))
      have EC := Lib.hid (And.intro evc egc)
      clear evc egc hbc oc hbb HRW
      go_upto_region 11 with fail
      rw [← EC.out.1, ← EC.out.2]
      clear EC
      by_cases h0 : PL.2.2 = 0
      case neg =>
        have hpl := HK0.out.2.2.2.2.2
        have heq := HK0.out.2.2.2.2.1
        have hbad : (j < 0 ∨ (q : Int) < j) ∧ PL.2.2 = 6 := by
          rw [heq]
          rw [hpl] at h0 ⊢
          unfold planR at h0 ⊢
          by_cases hh : j < 0 ∨ ((liveL t.G (nodesL t.L)).length : Int) < j
          · exact ⟨hh, by rw [if_pos hh]⟩
          · rw [if_neg hh] at h0
            exact absurd rfl h0
        obtain ⟨hbad, h6⟩ := hbad
        have HEND := Lib.hid (HRR.out.2.2.2.2.trans (HBC.out.mono HRR.out.2.2.2.2.size))
        rw [h6]
        clear h6 h0 hpl heq HRR HRC HK0 HAL
        by_cases hj0 : j < 0
        · clear hbad
          go_wp2_with fail
          go_at_call 11
          refine (awake15 K vc).mono ?_
          rintro z v9 ⟨rfl, h0⟩
          have H9 := Lib.hid (HEND.out.trans (h0.mono HEND.out.size))
          clear h0
          go_wp2_with fail
          go_ret
          exact ⟨rfl, H9.out⟩
        · have hj1 : (q : Int) < j := hbad.resolve_left hj0
          clear hbad
          go_wp2_with fail
          go_at_call 11
          refine (awake15 K vc).mono ?_
          rintro z v9 ⟨rfl, h0⟩
          have H9 := Lib.hid (HEND.out.trans (h0.mono HEND.out.size))
          clear h0
          go_wp2_with fail
          go_ret
          exact ⟨rfl, H9.out⟩
      case pos =>
        have HP2 := Lib.hid h0
        rw [h0]
        clear h0
        obtain ⟨x, ex⟩ : ∃ x : Ins, x = ⟨i, PL.1, PL.2.1, ch⟩ := ⟨_, rfl⟩
        obtain ⟨ra, era⟩ : ∃ r, r = (addR t.L x).2 := ⟨_, rfl⟩
        have HADD := Lib.hid (K.add x vc HRC.out.1 HK0.out.1 HK0.out.2.1)
        have HX0 := Lib.hid (And.intro ex era)
        have hxv : insV x = .agg #[.int .i64 i.1, .int .i64 i.2, .int .i64 PL.1.1, .int .i64 PL.1.2, .bool PL.2.1, .int .i32 ch] := by rw [ex]
        rw [← era, hxv] at HADD
        have oid : O2 vc w.heap.size 31 g (.int .i64 i.1) (.int .i64 i.2) := OwnF.keep HRR.out.2.2.2.1 HBC.out
        have oc := HRC.out.2.2.1
        have y0 := oid.c0
        have y1 := oid.c1
        have z0 := oc.c0
        have z1 := oc.c1
        have HOI := Lib.hid oid
        clear oid oc ex era hxv
        go_wp2_with fail
        go_at_call 30
        refine HADD.out.mono ?_
        rintro z vd ⟨rfl, F', hRd, hFd, hod⟩
        clear HADD y0 y1 z0 z1
        have hnF : ∀ b, vo.heap.size ≤ b → ¬ F b := fun b h1 hf => by have := K.le HRR.out.1 b hf; omega
        have hnG : ¬ F g := fun hf => by have h1 := (HRR.out.2.1 g hf).1; have h2 := HRR.out.2.2.1; omega
        have hbd : Below w.heap.size w vd := (HRR.out.2.2.2.2.trans (HBC.out.mono HRR.out.2.2.2.2.size)).trans (OutF.below hod (fun b hb => Nat.le_trans HB.out.size (HRR.out.2.1 b hb).1) (Nat.le_trans HRR.out.2.2.2.2.size HBC.out.size))
        have HBD := Lib.hid hbd
        by_cases hra : ra = 0
        case neg =>
          clear hRd hFd hod hnF hnG hbd
          go_wp2_with fail
          go_at_call 11
          refine (awake15 K vd).mono ?_
          rintro z v9 ⟨rfl, h0⟩
          have H9 := Lib.hid (HBD.out.trans (h0.mono HBD.out.size))
          clear h0
          go_wp2_with fail
          go_ret
          exact ⟨rfl, H9.out⟩
        case pos =>
          obtain ⟨j0, jq, eL, ok', hl', hlive⟩ := plan_add (x := x) HK0.out.1 HK0.out.2.1 HK0.out.2.2.1 (by rw [← HK0.out.2.2.2.2.2]; exact HP2.out) (by rw [HX0.out.1, ← HK0.out.2.2.2.2.2]) (by rw [HX0.out.1, ← HK0.out.2.2.2.2.2]) (by rw [← HX0.out.2]; exact hra)
          rw [eL] at hRd
          obtain ⟨jn, ejn⟩ : ∃ m, m = j.toNat := ⟨_, rfl⟩
          have ej : j = (jn : Int) := by omega
          rw [← ejn] at jq hlive
          rw [← HK0.out.2.2.2.2.1] at jq
          obtain ⟨V, eV⟩ : ∃ V, V = liveL t.G (nodesL t.L) := ⟨_, rfl⟩
          rw [← eV] at hlive
          have hVq : V.length = q := by rw [eV]; exact HK0.out.2.2.2.2.1.symm
          obtain ⟨p1, p2, p3, p4⟩ := put_at (V := V) (i := jn) (by omega) x
          rw [← hlive, hVq] at p1
          rw [← hlive] at p2 p3 p4
          have HPUT := Lib.hid (And.intro p2 (And.intro p3 p4))
          have HLEN := Lib.hid (K.len vd hRd ok' hl')
          rw [p1, show (((q + 1 : Nat)) : Int) = (q : Int) + 1 by omega] at HLEN
          have HOK := Lib.hid (And.intro ok' hl')
          have oid : O2 vd w.heap.size 31 g (.int .i64 i.1) (.int .i64 i.2) := OwnF.same_ HOI.out (hod.block g (OwnF.lt HOI.out) hnG)
          have hrow := HRC.out.2.1.outf hod (fun ad e => hnF _ (HAL.out ad e))
          have hrow2 := hrow
          rw [← eV] at hrow2
          have HD := Lib.hid (And.intro hRd (And.intro oid hrow2))
          have HV := Lib.hid hVq
          have HXI := Lib.hid (show x.id = i by rw [HX0.out.1])
          have hq4 := HK0.out.2.2.2.1
          subst ej
          rw [hra]
          clear hra hRd hFd hod hnF hnG hbd j0 eL ok' hl' hlive ejn eV hVq p1 p2 p3 p4 oid hrow hrow2 HK0 HRR HRC HX0 HP2 HOI HAL HBC HBA
          go_wp2_with fail
          go_at_call 19
          refine HLEN.out.mono ?_
          rintro z ve ⟨rfl, hbe⟩
          have HE := Lib.hid (And.intro (K.next HD.out.1 hbe) (And.intro (show O2 ve w.heap.size 31 g (.int .i64 i.1) (.int .i64 i.2) from OwnF.keep HD.out.2.1 hbe) (HD.out.2.2.next hbe)))
          have HBE := Lib.hid (HBD.out.trans (hbe.mono HBD.out.size))
          clear hbe HD HLEN HBD
          go_wp2_with fail
          go_loopw [85] (fun i wr => ∃ k : Nat, k ≤ q + 1 ∧ i = .int .i64 (k : Int) ∧ Below ve.heap.size ve wr) (fun i _ => q + 1 - (intF i).toNat)
          case atStart => exact ⟨0, Nat.zero_le _, rfl, Below.refl _ _⟩
          case round =>
            obtain ⟨m, hm, rfl, hbr⟩ := hrel
            by_cases hlt : m < q + 1
            · have g3 : (m : Int) < (q : Int) + 1 := by omega
              have HM := Lib.hid hlt
              obtain ⟨y, hy, hcase⟩ : ∃ y : Ins, (liveL t.G (nodesL (t.L ++ [x])))[m]? = some y ∧ ((m < jn ∧ V[m]? = some y) ∨ (m = jn ∧ y = x) ∨ (jn < m ∧ V[m - 1]? = some y)) := by
                rcases Nat.lt_trichotomy m jn with h | h | h
                · obtain ⟨y, hy⟩ := getD_of (L := V) (k := m) (by rw [HV.out]; omega)
                  exact ⟨y, by rw [HPUT.out.1 m h]; exact hy, .inl ⟨h, hy⟩⟩
                · exact ⟨x, by rw [h]; exact HPUT.out.2.1, .inr (.inl ⟨h, rfl⟩)⟩
                · obtain ⟨y, hy⟩ := getD_of (L := V) (k := m - 1) (by rw [HV.out]; omega)
                  exact ⟨y, by rw [HPUT.out.2.2 m h]; exact hy, .inr (.inr ⟨h, hy⟩)⟩
              have HAT := Lib.hid (K.at_ (m : Int) wr (K.next HE.out.1 hbr) HOK.out.1 HOK.out.2)
              rw [atR_of hy] at HAT
              have HC := Lib.hid hcase
              have HBR := Lib.hid hbr
              clear hy hcase hlt hm hbr
              go_wp2_with fail
              go_at_call 21
              refine HAT.out.mono ?_
              rintro z vf ⟨rfl, hbf⟩
              have HBF := Lib.hid (HBR.out.trans (hbf.mono HBR.out.size))
              clear hbf HAT HBR
              obtain ⟨vg, evg⟩ : ∃ v, v = vf.alloc (.cells #[.int .i64 y.id.1, .int .i64 y.id.2] 31) := ⟨_, rfl⟩
              obtain ⟨gg, egg⟩ : ∃ g, g = vf.heap.size := ⟨_, rfl⟩
              have og : O2 vg ve.heap.size 31 gg (.int .i64 y.id.1) (.int .i64 y.id.2) := by rw [evg, egg]; exact O2.newz HBF.out.size _ _ _
              have hbg : Below ve.heap.size ve vg := by rw [evg]; exact HBF.out.alloc HBF.out.size _
              have HVG := Lib.hid (And.intro evg egg)
              have HOG := Lib.hid (And.intro og hbg)
              clear evg egg og hbg HBF
              go_upto_region 21 with fail
              rw [← HVG.out.1, ← HVG.out.2]
              clear HVG
              have oid : O2 vg w.heap.size 31 g (.int .i64 i.1) (.int .i64 i.2) := OwnF.keep HE.out.2.1 HOG.out.2
              have y0 := oid.c0
              have y1 := oid.c1
              obtain ⟨vh, evh⟩ : ∃ v, v = vg.alloc (.cells #[.int .i64 i.1, .int .i64 i.2] 31) := ⟨_, rfl⟩
              obtain ⟨gh, egh⟩ : ∃ g, g = vg.heap.size := ⟨_, rfl⟩
              have hgh : Below vg.heap.size vg vh := by rw [evh]; exact (Below.refl _ _).alloc (Nat.le_refl _) _
              have oh : O2 vh ve.heap.size 31 gh (.int .i64 i.1) (.int .i64 i.2) := by rw [evh, egh]; exact O2.newz HOG.out.2.size _ _ _
              have hbh := HOG.out.2.trans (hgh.mono HOG.out.2.size)
              have HVH := Lib.hid (And.intro evh egh)
              have HOH := Lib.hid (And.intro (show O2 vh ve.heap.size 31 gg (.int .i64 y.id.1) (.int .i64 y.id.2) from OwnF.keep HOG.out.1 hgh) (And.intro oh (And.intro hbh (show gg ≠ gh by have := OwnF.lt HOG.out.1; omega))))
              clear evh egh hgh oh hbh HOG oid
              go_upto_region 22 with fail
              rw [← HVH.out.1, ← HVH.out.2]
              clear HVH y0 y1
              obtain ⟨og, oh, hbh, hne⟩ := HOH.out
              have z0 := og.c0
              have z1 := og.c1
              have y0 := oh.c0
              have y1 := oh.c1
              have f0 := oh.f0
              have f1 := oh.f1
              have HBH := Lib.hid hbh
              have HSET := Lib.hid (fun a b => oh.below a b)
              have hrow := HE.out.2.2.next hbh
              clear og oh hbh HOH
              rcases HC.out with ⟨h1, hy⟩ | ⟨h1, hy⟩ | ⟨h1, hy⟩
              · obtain ⟨b, ob, rfl, hbB, m0, m1, _, _⟩ := nod_at hrow (k := m) (x := nodeOf t.G y) (by rw [List.getElem?_map, hy]; rfl)
                have hq1 : (m : Int) < (jn : Int) := by omega
                have hq2 : ¬ (jn : Int) < (m : Int) := by omega
                have hq3 : (m : Int) < (q : Int) := by omega
                have HBS := Lib.hid (HBH.out.trans (HSET.out (.int .i64 y.id.1) (.int .i64 y.id.2)))
                clear hrow hy hbB
                go_wp2_with fail
                go_roundw
                case rel => exact ⟨m + 1, HM.out, by go_num, HBS.out⟩
                case measure => simp [intF]; have := HM.out; omega
              · subst hy
                rw [HXI.out] at z0 z1
                subst h1
                clear hrow
                go_wp2_with fail
                go_roundw
                case rel => exact ⟨m + 1, HM.out, by go_num, HBH.out⟩
                case measure => simp [intF]; have := HM.out; omega
              · obtain ⟨b, ob, rfl, hbB, m0, m1, _, _⟩ := nod_at hrow (k := m - 1) (x := nodeOf t.G y) (by rw [List.getElem?_map, hy]; rfl)
                obtain ⟨m', rfl⟩ : ∃ m', m = m' + 1 := ⟨m - 1, by omega⟩
                rw [Nat.add_sub_cancel] at m0 m1
                have hq1 : ¬ ((m' + 1 : Nat) : Int) < (jn : Int) := by omega
                have hq2 : (jn : Int) < ((m' + 1 : Nat) : Int) := by omega
                have hq3 : (m' : Int) < (q : Int) := by omega
                have HBS := Lib.hid (HBH.out.trans (HSET.out (.int .i64 y.id.1) (.int .i64 y.id.2)))
                clear hrow hy hbB
                go_wp2_with fail
                go_roundw
                case rel => exact ⟨m' + 2, HM.out, by go_num, HBS.out⟩
                case measure => simp [intF]; have := HM.out; omega
            · obtain rfl : m = q + 1 := by omega
              have HBR := Lib.hid (HBE.out.trans (hbr.mono HBE.out.size))
              clear hbr HE HPUT HOK hlt hm
              go_wp2_with fail
              go_at_call 11
              refine (awake15 K wr).mono ?_
              rintro z v9 ⟨rfl, h0⟩
              have H9 := Lib.hid (HBR.out.trans (h0.mono HBR.out.size))
              clear h0
              go_wp2_with fail
              go_ret
              exact ⟨rfl, H9.out⟩
end
end Go.Proofs.Ytljciakgdpihdaa
