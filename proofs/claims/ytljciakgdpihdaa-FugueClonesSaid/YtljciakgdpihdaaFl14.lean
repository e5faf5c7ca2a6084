/-
  Layer 15: FugueClones. By an AI agent.
-/
import Derived.Test.YtljciakgdpihdaaFl13
import Derived.Test.YtljciakgdpihdaaFu2
namespace Go.Proofs.Ytljciakgdpihdaa
open Go Go.RowKit
set_option maxRecDepth 20000
section
variable {R : TreeP} (K : FugC R)
include K
set_option maxHeartbeats 25600000 in
theorem fugueclones_law (hcl : ∀ {F : Nat → Prop} {p : Value} {L : List Ins} {G : List IDt} (w : World), R w F p L G → Calls Try.prog 31 #[p] w fun e w' => ∃ T' F', e = .returned (pB T') ∧ R w' F' (pB T') L G ∧ (∀ b, F' b → w.heap.size ≤ b) ∧ Below w.heap.size w w')
    {A A' A'' : Option Addr} {c c' c'' n n' n'' : Nat} {l l' l'' : List Dot} (hn : l.length = n) (hl : n ≤ 60) (hn' : l'.length = n') (hl' : n' ≤ 60) (hn'' : l''.length = n'') (hl'' : n'' ≤ 60) (w : World) (r : RdR doE w w.heap.size A c l) (r' : RdR doE w w.heap.size A' c' l') (r'' : RdR doE w w.heap.size A'' c'' l'') :
    Calls Try.prog 9 #[.slice A n c, .slice A' n' c', .slice A'' n'' c''] w fun e w' => e = .returned (.bool true) ∧ Below w.heap.size w w' := by
  have g1 : ¬ (60 : Int) < (n : Int) := by omega
  have g1' : ¬ (60 : Int) < (n' : Int) := by omega
  have g1'' : ¬ (60 : Int) < (n'' : Int) := by omega
  have HN := Lib.hid hn
  have HN' := Lib.hid hn'
  have HN'' := Lib.hid hn''
  have HL := Lib.hid (show l.length ≤ 4096 by omega)
  have HL' := Lib.hid (And.intro hl (And.intro hl' hl''))
  have HR := Lib.hid (fun wz (hz : Below w.heap.size w wz) => (r.keep hz : RdR doE wz w.heap.size A c l))
  have HR' := Lib.hid (fun wz (hz : Below w.heap.size w wz) => (r'.keep hz : RdR doE wz w.heap.size A' c' l'))
  have HR'' := Lib.hid (fun wz (hz : Below w.heap.size w wz) => (r''.keep hz : RdR doE wz w.heap.size A'' c'' l''))
  clear hn r r' hn' hn'' r''
  go_enter Try.func9, Try.ntmps9
  go_wp2_with fail
  go_at_call 12
  refine (play_new K w).mono ?_
  rintro z v2 ⟨p, rfl, hp⟩
  obtain ⟨v3, e3⟩ : ∃ v, v = v2.alloc (.cells #[.slice none 0 0, .slice none 0 0] 29) := ⟨_, rfl⟩
  obtain ⟨gr, egr⟩ : ∃ g, g = v2.heap.size := ⟨_, rfl⟩
  rw [← e3, ← egr] at hp
  have HP := Lib.hid hp
  have HV := Lib.hid (And.intro e3 egr)
  clear hp e3 egr
  go_upto_region 4 with fail
  rw [← HV.out.1, ← HV.out.2]
  clear HV
  go_wp2_with fail
  go_loopw [37] (fun i wr => ∃ k : Nat, k ≤ n ∧ i = .int .i64 (k : Int) ∧ Play R w gr p (txtK l k) wr) (fun i _ => n - (intF i).toNat)
  case atStart => exact ⟨0, Nat.zero_le _, rfl, HP.out⟩
  case round =>
    obtain ⟨k, hk, rfl, hp⟩ := hrel
    clear HP
    by_cases hlt : k < n
    · have g2 : (k : Int) < (n : Int) := by omega
      obtain ⟨x, hx⟩ := getD_of (L := l) (k := k) (by rw [HN.out]; exact hlt)
      obtain ⟨b, o, rfl, hbB, m0, m1, m2, m3, m4, m5, m6, m7, m8⟩ := do_at (HR.out wr hp.base) hx
      obtain ⟨v5, e5⟩ : ∃ v, v = wr.alloc (.cells (doC x) 35) := ⟨_, rfl⟩
      obtain ⟨g5, eg5⟩ : ∃ g, g = wr.heap.size := ⟨_, rfl⟩
      have hd : DoB v5 g5 x := by rw [e5, eg5]; exact do_box wr x
      have hp5 := Play.keep K hp (w' := v5) (by rw [e5]; exact (Below.refl _ _).alloc (Nat.le_refl _) _)
      have ht := txtK_ok (k := k) HL.out
      have HT := Lib.hid (show Ok (txtK l k).L ∧ (txtK l k).L.length ≤ 4096 ∧ (txtK l k).G.length ≤ 1000000 from ⟨ht.1, Nat.le_trans ht.2.1 HL.out, Nat.le_trans ht.2.2 (Nat.le_trans HL.out (by decide))⟩)
      have HX := Lib.hid (txtK_succ hx)
      have HK := Lib.hid hlt
      have HD := Lib.hid (And.intro hd hp5)
      have E5 := Lib.hid (And.intro e5 eg5)
      have hl9 := hl
      clear hd hp5 ht hx hlt hk e5 eg5 hp hbB
      go_upto_region 7 with fail
      rw [← E5.out.1, ← E5.out.2]
      clear E5 m0 m1 m2 m3 m4 m5 m6 m7 m8
      obtain ⟨⟨m0, m1, m2, m3, m4, m5, m6, m7, m8⟩, u1, u2, hPB, o5⟩ := HD.out
      have y0 := o5.c0
      have y1 := o5.c1
      have HQ := Lib.hid (And.intro hPB o5)
      clear hPB o5 HD
      go_wp2_with fail
      go_at_call 13
      refine (play_both K HQ.out.1 HQ.out.2 HT.out.1 HT.out.2.1 HT.out.2.2 x).mono ?_
      rintro z v6 ⟨z1, z2, rfl, hPB, o6⟩
      obtain ⟨A3, n3, c3, A4, n4, c4, rfl, rfl⟩ := hPB.slices
      clear m0 m1 m2 m3 m4 m5 m6 m7 m8 y0 y1
      have y0 := o6.c0
      have y1 := o6.c1
      have f0 := o6.f0
      have f1 := o6.f1
      have HS := Lib.hid (PlayB.store K hPB o6)
      clear hPB o6 HQ
      go_wp2_with fail
      go_roundw
      case rel => exact ⟨k + 1, HK.out, by go_num, by rw [HX.out]; exact HS.out⟩
      case measure => simp [intF]; have := HK.out; omega
    · obtain rfl : k = n := by omega
      obtain ⟨vo, evo⟩ : ∃ v, v = wr := ⟨_, rfl⟩
      subst evo
      obtain ⟨u1, u2, hPB, o⟩ := hp
      obtain ⟨A1, n1, c1, A2, n2, c2, rfl, rfl⟩ := hPB.slices
      obtain ⟨F, hR, hV, hin, hF1, hbo⟩ := hPB
      have ht := txtK_ok (k := k) HL.out
      obtain ⟨t, et⟩ : ∃ t, t = txtK l k := ⟨_, rfl⟩
      rw [← et] at ht hR hV
      rw [HN.out] at ht
      have HKT := Lib.hid ht
      have HS := Lib.hid (fun wz (hz : Below vo.heap.size vo wz) => show wz.cell? ⟨gr, 0, none⟩ = some (.slice A1 n1 c1) ∧ wz.cell? ⟨gr, 1, none⟩ = some (.slice A2 n2 c2) from by
        have o9 : O2 wz w.heap.size 29 gr (.slice A1 n1 c1) (.slice A2 n2 c2) := OwnF.keep o hz
        exact ⟨o9.c0, o9.c1⟩)
      have HPB := Lib.hid (And.intro hR (And.intro hV (And.intro hin (And.intro hF1 (And.intro hbo o)))))
      clear o et ht hR hV hin hF1 hbo hlt hk HR
      go_upto_region 9 with fail
      refine wp_region_par 5 7 [some 49, some 50, some 51, some 12, some 11] [1, 3, 4] [some p, none, some (.agg #[.slice A1 n1 c1, .slice A2 n2 c2]), none, none]
        (fun Lb Vb wz => Below vo.heap.size vo wz ∧ (Lb 1 = true → ∃ (F2 : Nat → Prop) (T2 : Nat), Vb 1 = pB T2 ∧ R wz F2 (pB T2) t.L t.G ∧ (∀ b, F2 b → vo.heap.size ≤ b) ∧ (Lb 3 = true → ∀ gb, Vb 3 = pB gb → ¬ F2 gb)) ∧ (Lb 3 = true → ∃ gb, Vb 3 = pB gb ∧ O2 wz vo.heap.size 29 gb (.slice none 0 0) (.slice none 0 0)) ∧ (Lb 4 = true → Vb 4 = Vb 1)) (by kernel_rfl) (by kernel_rfl)
        (fun _ => ⟨(Below.refl vo.heap.size vo).drew, fun h => absurd h (by decide), fun h => absurd h (by decide), fun h => absurd h (by decide)⟩) (fun u => by simp only [List.filterMap_cons, List.filterMap_nil, puts, List.foldl_cons, List.foldl_nil]; go_simp; exact rfl) ?_ ?_
      · simp only [List.take_succ_cons, List.take_zero]
        refine Par.soft rfl rfl p rfl (fun u w Lb Vb hT hh => ⟨rfl, by go_simp⟩) ?_
        refine Par.hard rfl (fun u wz Lb Vb hT hh => ?_) ?_
        · have d49 : u 49 = p := hh.val 0 _ rfl rfl
          rw [d49]
          refine StepP.of rfl (StepC.call 31 #[p] rfl (by go_simp) ((hcl wz (K.next HPB.out.1 hT.1)).mono ?_))
          rintro z w' ⟨T2, F2, rfl, hr, hF, hb⟩
          refine ⟨_, rfl, fun c hc => by simp at hc, hT.1.trans (hb.mono hT.1.size), fun _ => ⟨F2, T2, by simp [vset], hr, fun b h => Nat.le_trans hT.1.size (hF b h), fun h3 gb e => ?_⟩, fun h3 => ?_, fun h4 => ?_⟩
          · obtain ⟨gb', e', o⟩ := hT.2.2.1 (by simpa [lset] using h3)
            have e2 : Vb 3 = pB gb := by simpa [vset] using e
            rw [e'] at e2
            simp only [Value.pointer.injEq, Option.some.injEq, Addr.mk.injEq, and_true] at e2
            rw [← e2]
            intro hf
            have := hF _ hf
            have := OwnF.lt o
            omega
          · obtain ⟨gb', e', o⟩ := hT.2.2.1 (by simpa [lset] using h3)
            exact ⟨gb', by simpa [vset] using e', OwnF.keep o hb⟩
          · exact absurd (show Lb 4 = true by simpa [lset] using h4) (by rw [hh.not_ 4 (by rfl)]; decide)
        refine Par.soft rfl rfl (.agg #[.slice A1 n1 c1, .slice A2 n2 c2]) rfl (fun u w Lb Vb hT hh => ⟨rfl, by obtain ⟨k0, k1⟩ := HS.out w hT.1; go_simp⟩) ?_
        refine Par.hard rfl (fun u wz Lb Vb hT hh => ?_) ?_
        · have hb := (Below.refl wz.heap.size wz).alloc (Nat.le_refl _) (.cells #[.slice none 0 0, .slice none 0 0] 29)
          refine StepP.of rfl (StepC.run (pB wz.heap.size) (wz.alloc (.cells #[.slice none 0 0, .slice none 0 0] 29)) rfl (by go_simp) ⟨fun c hc => by simp at hc, hT.1.trans (hb.mono hT.1.size), fun h1 => ?_, fun _ => ⟨_, by simp [vset], O2.newz hT.1.size _ _ _⟩, fun h4 => ?_⟩)
          · obtain ⟨F2, T2, e1, hr, hF, _⟩ := hT.2.1 (by simpa [lset] using h1)
            refine ⟨F2, T2, by simpa [vset] using e1, K.next hr hb, hF, fun _ gb e hf => ?_⟩
            have e2 : pB wz.heap.size = pB gb := by simpa [vset] using e
            simp only [Value.pointer.injEq, Option.some.injEq, Addr.mk.injEq, and_true] at e2
            have := K.le hr _ hf
            omega
          · have h5 := hT.2.2.2 (by simpa [lset] using h4)
            simpa [vset] using h5
        refine Par.hard rfl (fun u wz Lb Vb hT hh => ?_) Par.nil
        · have b1 : Lb 1 = true := hh.been 1 (by rfl) rfl
          have e1 : Vb 1 = u 50 := hh.hv 1 rfl
          obtain ⟨F2, T2, ev, hr, hF, hg⟩ := hT.2.1 b1
          refine StepP.of rfl (StepC.run (u 50) wz rfl (by go_simp) ⟨fun c hc => by simp at hc, hT.1, fun h1 => ⟨F2, T2, by simpa [vset] using ev, hr, hF, fun h3 gb e => hg (by simpa [lset] using h3) gb (by simpa [vset] using e)⟩, fun h3 => ?_, fun _ => by simpa [vset] using e1.symm⟩)
          obtain ⟨gb, e, o⟩ := hT.2.2.1 (by simpa [lset] using h3)
          exact ⟨gb, by simpa [vset] using e, o⟩
      rintro u v3 hv ⟨Lb, Vb, ⟨hb3, t1, t3, t4⟩, hl⟩
      obtain ⟨F2, T2, e1, hR2, hF2, hgf⟩ := t1 (hl 1 (by decide) rfl).1
      obtain ⟨gb, e3, ob⟩ := t3 (hl 3 (by decide) rfl).1
      have hgb := hgf (hl 3 (by decide) rfl).1 gb e3
      have d12 : u 12 = pB gb := (hl 3 (by decide) rfl).2.symm.trans e3
      have d11 : u 11 = pB T2 := ((hl 4 (by decide) rfl).2.symm.trans (t4 (hl 4 (by decide) rfl).1)).trans e1
      have d51 : u 51 = .agg #[.slice A1 n1 c1, .slice A2 n2 c2] := hv 2 _ (by decide) rfl
      rw [d12, d11, d51]
      obtain ⟨v4, ev4⟩ : ∃ v, v = set2 v3 gb (.slice A1 n1 c1) (.slice A2 n2 c2) := ⟨_, rfl⟩
      have hso := set2_out ob (.slice A1 n1 c1) (.slice A2 n2 c2)
      rw [← ev4] at hso
      have hb4 : Below vo.heap.size vo v4 := hb3.trans (by rw [ev4]; exact ob.below _ _)
      have o4 : O2 v4 vo.heap.size 29 gb (.slice A1 n1 c1) (.slice A2 n2 c2) := by rw [ev4]; exact ob.set_ _ _
      have hR4 : R v4 F2 (pB T2) t.L t.G := K.keep hR2 (fun b hb => by rw [ev4]; exact set2_only _ _ _ _ b (fun e => hgb (e ▸ hb))) hso.size
      obtain ⟨hR, hV, hin, hF1, hbo, o⟩ := HPB.out
      have hgrv := OwnF.lt o
      have hgbv : vo.heap.size ≤ gb := OwnF.ge ob
      have hgb4 := OwnF.lt o4
      have HP := Lib.hid (show PlayY R w gr (fun b => F2 b ∨ b = gb ∨ inV (.agg #[.slice A1 n1 c1, .slice A2 n2 c2]) b) (fun b => F2 b ∨ b = gb) v4 p (txtF t l' 0) v4 from by
        refine ⟨_, _, ⟨F, K.next hR hb4, (hV.keep hb4).mono hb4.size, fun b hb => ⟨Nat.lt_of_lt_of_le (hin b hb).1 hb4.size, (hin b hb).2.1, (hin b hb).2.2, fun hy => ?_⟩, fun b hb => ⟨(hF1 b hb).1, (hF1 b hb).2, fun hz => ?_⟩, hbo.trans (hb4.mono hbo.size), fun b hz => ?_, fun b hy => ?_, Nat.le_refl _⟩, OwnF.keep o hb4⟩
        · have h1 := (hin b hb).1
          rcases hy with h | h
          · have := hF2 b h; omega
          · omega
        · have h1 := K.le hR b hb
          rcases hz with h | h | h
          · have := hF2 b h; omega
          · omega
          · exact (hin b h).2.1 hb
        · rcases hz with h | h | h
          · exact ⟨K.le hR4 b h, by have := hF2 b h; omega, rfl⟩
          · exact ⟨by omega, by omega, rfl⟩
          · exact ⟨Nat.lt_of_lt_of_le (hin b h).1 hb4.size, (hin b h).2.2, rfl⟩
        · rcases hy with h | h
          · exact K.le hR4 b h
          · omega)
      have HQ0 := Lib.hid (And.intro hR4 (And.intro ((hV.keep hb4).mono hb4.size) (And.intro (fun b hb => (hin b hb).1 : ∀ b, inV (.agg #[.slice A1 n1 c1, .slice A2 n2 c2]) b → b < vo.heap.size) (And.intro hF2 (And.intro o4 (And.intro hgb (And.intro hgbv (And.intro hgrv (And.intro hb4.size hbo.size)))))))))
      have HV4 := Lib.hid ev4
      have y0 := ob.c0
      have y1 := ob.c1
      have f0 := ob.f0
      have f1 := ob.f1
      clear hv hl t1 t3 t4 d12 d11 d51 hso hb4 o4 hR4 hR hV hin hF1 hbo o hgrv hgbv hgb4 ev4 hgf e1 e3 ob hR2 hF2 hgb hb3 HPB
      simp only [List.drop_succ_cons, List.drop_zero]
      go_upto_region 13 with fail
      rw [show (v3.setCell ⟨gb, 0, none⟩ (.slice A1 n1 c1)).setCell ⟨gb, 1, none⟩ (.slice A2 n2 c2) = v4 by rw [HV4.out]; rfl]
      clear HV4 y0 y1 f0 f1
      go_wp2_with fail
      go_loopw [13, 14, 56] (fun x1 x2 i wr => ∃ k : Nat, k ≤ n' ∧ i = .int .i64 (k : Int) ∧ x1 = .bool true ∧ x2 = .bool true ∧ PlayY R w gr (fun b => F2 b ∨ b = gb ∨ inV (.agg #[.slice A1 n1 c1, .slice A2 n2 c2]) b) (fun b => F2 b ∨ b = gb) v4 p (txtF t l' k) wr) (fun _ _ i _ => n' - (intF i).toNat)
      case atStart => exact ⟨0, Nat.zero_le _, rfl, rfl, rfl, HP.out⟩
      case round =>
        obtain ⟨k, hk, rfl, rfl, rfl, hp⟩ := hrel
        clear HP
        by_cases hlt : k < n'
        · have g2 : (k : Int) < (n' : Int) := by omega
          obtain ⟨x, hx⟩ := getD_of (L := l') (k := k) (by rw [HN'.out]; exact hlt)
          obtain ⟨b, o, rfl, hbB, m0, m1, m2, m3, m4, m5, m6, m7, m8⟩ := do_at (HR'.out wr hp.base) hx
          obtain ⟨v5, e5⟩ : ∃ v, v = wr.alloc (.cells (doC x) 35) := ⟨_, rfl⟩
          obtain ⟨g5, eg5⟩ : ∃ g, g = wr.heap.size := ⟨_, rfl⟩
          have hd : DoB v5 g5 x := by rw [e5, eg5]; exact do_box wr x
          have hp5 := PlayY.keep K hp (w' := v5) (by rw [e5]; exact (Below.refl _ _).alloc (Nat.le_refl _) _)
          have HT := Lib.hid (show Ok (txtF t l' k).L ∧ (txtF t l' k).L.length ≤ 4096 ∧ (txtF t l' k).G.length ≤ 1000000 from txtF_ok HKT.out.1 (by have h1 := HKT.out.2.1; have h2 := HN'.out; have h3 := HL'.out; omega) (by have h1 := HKT.out.2.2; have h2 := HN'.out; have h3 := HL'.out; omega))
          have HX := Lib.hid (txtF_succ (s := t) hx)
          have HK := Lib.hid hlt
          have HD := Lib.hid (And.intro hd hp5)
          have E5 := Lib.hid (And.intro e5 eg5)
          have hl9 := hl'
          clear hd hp5 hx hlt hk e5 eg5 hp hbB
          go_upto_region 16 with fail
          rw [← E5.out.1, ← E5.out.2]
          clear E5 m0 m1 m2 m3 m4 m5 m6 m7 m8
          obtain ⟨⟨m0, m1, m2, m3, m4, m5, m6, m7, m8⟩, u1, u2, hPB, o5⟩ := HD.out
          have y0 := o5.c0
          have y1 := o5.c1
          have HQ := Lib.hid (And.intro hPB o5)
          clear hPB o5 HD
          go_wp2_with fail
          go_at_call 13
          refine (playy_both K HQ.out.1 HQ.out.2 HT.out.1 HT.out.2.1 HT.out.2.2 x).mono ?_
          rintro z v6 ⟨z1, z2, rfl, hPB, o6⟩
          obtain ⟨A3, n3, c3, A4, n4, c4, rfl, rfl⟩ := hPB.slices
          clear m0 m1 m2 m3 m4 m5 m6 m7 m8 y0 y1
          have y0 := o6.c0
          have y1 := o6.c1
          have f0 := o6.f0
          have f1 := o6.f1
          have HS := Lib.hid (PlayYB.store K hPB o6)
          clear hPB o6 HQ
          go_wp2_with fail
          go_roundw
          case rel => exact ⟨k + 1, HK.out, by go_num, rfl, rfl, by rw [HX.out]; exact HS.out⟩
          case measure => simp [intF]; have := HK.out; omega
        · obtain rfl : k = n' := by omega
          obtain ⟨v5, ev5⟩ : ∃ v, v = wr := ⟨_, rfl⟩
          subst ev5
          obtain ⟨hst, hsz⟩ := hp.stays
          obtain ⟨u3, u4, hPB, o⟩ := hp
          obtain ⟨A3, n3, c3, A4, n4, c4, rfl, rfl⟩ := hPB.slices
          obtain ⟨F', hR, hV, hin, hF1, hbo, _, _, _⟩ := hPB
          obtain ⟨hR4, hV4, hinv, hF2, o4, hgb, hgbv, hgrv, hb4s, hbos⟩ := HQ0.out
          have hgb4 := OwnF.lt o4
          have hgr5 := OwnF.lt o
          have HP := Lib.hid (show PlayY R w gb (fun b => F' b ∨ b = gr ∨ inV (.agg #[.slice A3 n3 c3, .slice A4 n4 c4]) b) (fun _ => False) v5 (pB T2) (txtF t l'' 0) v5 from by
            refine ⟨_, _, ⟨F2, K.keep hR4 (fun b hb => hst b (.inl hb)) hsz, hV4.stay (fun b hb => hst b (.inr (.inr hb))) hsz, fun b hb => ⟨by have := hinv b hb; omega, fun hf => ?_, by have := hinv b hb; omega, fun h => h⟩, fun b hb => ⟨by have := hF2 b hb; omega, fun e => hgb (e ▸ hb), fun hz => ?_⟩, hbo, fun b hz => ?_, fun b h => h.elim, Nat.le_refl _⟩, OwnF.mono (OwnF.same_ o4 (hst gb (.inr (.inl rfl)))) hbos⟩
            · have h1 := hinv b hb
              have h2 := hF2 b hf
              omega
            · rcases hz with h | h | h
              · exact (hF1 b h).2.2 (.inl hb)
              · have := hF2 b hb; omega
              · exact (hin b h).2.2.2 (.inl hb)
            · rcases hz with h | h | h
              · exact ⟨K.le hR b h, fun e => (hF1 b h).2.2 (.inr (.inl e)), rfl⟩
              · exact ⟨by omega, by omega, rfl⟩
              · exact ⟨(hin b h).1, fun e => (hin b h).2.2.2 (.inr e), rfl⟩)
          have HQ1 := Lib.hid (And.intro hR (And.intro hV o))
          clear hst hsz hR hV hin hF1 hbo o hR4 hV4 hinv hF2 o4 hgb hgbv hgrv hb4s hbos hgb4 hgr5 HQ0 hlt hk HR'
          go_wp2_with fail
          go_loopw [13, 14, 74] (fun x1 x2 i wr => ∃ k : Nat, k ≤ n'' ∧ i = .int .i64 (k : Int) ∧ x1 = .bool true ∧ x2 = .bool true ∧ PlayY R w gb (fun b => F' b ∨ b = gr ∨ inV (.agg #[.slice A3 n3 c3, .slice A4 n4 c4]) b) (fun _ => False) v5 (pB T2) (txtF t l'' k) wr) (fun _ _ i _ => n'' - (intF i).toNat)
          case atStart => exact ⟨0, Nat.zero_le _, rfl, rfl, rfl, HP.out⟩
          case round =>
            obtain ⟨q, hk, rfl, rfl, rfl, hp⟩ := hrel
            clear HP
            by_cases hlt : q < n''
            · have g2 : (q : Int) < (n'' : Int) := by omega
              obtain ⟨x, hx⟩ := getD_of (L := l'') (k := q) (by rw [HN''.out]; exact hlt)
              obtain ⟨b, o, rfl, hbB, m0, m1, m2, m3, m4, m5, m6, m7, m8⟩ := do_at (HR''.out wr hp.base) hx
              obtain ⟨v5, e5⟩ : ∃ v, v = wr.alloc (.cells (doC x) 35) := ⟨_, rfl⟩
              obtain ⟨g5, eg5⟩ : ∃ g, g = wr.heap.size := ⟨_, rfl⟩
              have hd : DoB v5 g5 x := by rw [e5, eg5]; exact do_box wr x
              have hp5 := PlayY.keep K hp (w' := v5) (by rw [e5]; exact (Below.refl _ _).alloc (Nat.le_refl _) _)
              have HT := Lib.hid (show Ok (txtF t l'' q).L ∧ (txtF t l'' q).L.length ≤ 4096 ∧ (txtF t l'' q).G.length ≤ 1000000 from txtF_ok HKT.out.1 (by have h1 := HKT.out.2.1; have h2 := HN''.out; have h3 := HL'.out; omega) (by have h1 := HKT.out.2.2; have h2 := HN''.out; have h3 := HL'.out; omega))
              have HX := Lib.hid (txtF_succ (s := t) hx)
              have HK := Lib.hid hlt
              have HD := Lib.hid (And.intro hd hp5)
              have E5 := Lib.hid (And.intro e5 eg5)
              have hl9 := hl''
              clear hd hp5 hx hlt hk e5 eg5 hp hbB
              go_upto_region 22 with fail
              rw [← E5.out.1, ← E5.out.2]
              clear E5 m0 m1 m2 m3 m4 m5 m6 m7 m8
              obtain ⟨⟨m0, m1, m2, m3, m4, m5, m6, m7, m8⟩, u1, u2, hPB, o5⟩ := HD.out
              have y0 := o5.c0
              have y1 := o5.c1
              have HQ := Lib.hid (And.intro hPB o5)
              clear hPB o5 HD
              go_wp2_with fail
              go_at_call 13
              refine (playy_both K HQ.out.1 HQ.out.2 HT.out.1 HT.out.2.1 HT.out.2.2 x).mono ?_
              rintro z v6 ⟨z1, z2, rfl, hPB, o6⟩
              obtain ⟨A5, n5, c5, A6, n6, c6, rfl, rfl⟩ := hPB.slices
              clear m0 m1 m2 m3 m4 m5 m6 m7 m8 y0 y1
              have y0 := o6.c0
              have y1 := o6.c1
              have f0 := o6.f0
              have f1 := o6.f1
              have HS := Lib.hid (PlayYB.store K hPB o6)
              clear hPB o6 HQ
              go_wp2_with fail
              go_roundw
              case rel => exact ⟨q + 1, HK.out, by go_num, rfl, rfl, by rw [HX.out]; exact HS.out⟩
              case measure => simp [intF]; have := HK.out; omega
            · obtain rfl : q = n'' := by omega
              obtain ⟨v6, ev6⟩ : ∃ v, v = wr := ⟨_, rfl⟩
              subst ev6
              obtain ⟨hst, hsz⟩ := hp.stays
              obtain ⟨u5, u6, hPB, o⟩ := hp
              obtain ⟨A5, n5, c5, A6, n6, c6, rfl, rfl⟩ := hPB.slices
              obtain ⟨F3, hR, hV, hin, hF1, hbo, _, _, _⟩ := hPB
              obtain ⟨hRa, hVa, oa⟩ := HQ1.out
              have hRa6 := K.keep hRa (fun b hb => hst b (.inl hb)) hsz
              have hVa6 := hVa.stay (fun b hb => hst b (.inr (.inr hb))) hsz
              have oa6 : O2 v6 w.heap.size 29 gr (.slice A3 n3 c3) (.slice A4 n4 c4) := OwnF.same_ oa (hst gr (.inr (.inl rfl)))
              obtain ⟨ta, eta⟩ : ∃ s, s = txtF t l' k := ⟨_, rfl⟩
              obtain ⟨tb, etb⟩ : ∃ s, s = txtF t l'' q := ⟨_, rfl⟩
              rw [← eta] at hRa6 hVa6
              rw [← etb] at hR hV
              have hta : Ok ta.L ∧ ta.L.length ≤ 4096 ∧ ta.G.length ≤ 1000000 := by rw [eta]; exact txtF_ok HKT.out.1 (by have h1 := HKT.out.2.1; have h2 := HN'.out; have h3 := HL'.out; omega) (by have h1 := HKT.out.2.2; have h2 := HN'.out; have h3 := HL'.out; omega)
              have htb : Ok tb.L ∧ tb.L.length ≤ 4096 ∧ tb.G.length ≤ 1000000 := by rw [etb]; exact txtF_ok HKT.out.1 (by have h1 := HKT.out.2.1; have h2 := HN''.out; have h3 := HL'.out; omega) (by have h1 := HKT.out.2.2; have h2 := HN''.out; have h3 := HL'.out; omega)
              obtain ⟨ma, ema⟩ : ∃ m, m = (nodesL ta.L).length := ⟨_, rfl⟩
              obtain ⟨mb, emb⟩ : ∃ m, m = (nodesL tb.L).length := ⟨_, rfl⟩
              have hm4a : ma ≤ 4096 := by rw [ema]; exact Nat.le_trans (nodes_len hta.1) hta.2.1
              have hm4b : mb ≤ 4096 := by rw [emb]; exact Nat.le_trans (nodes_len htb.1) htb.2.1
              have HS := Lib.hid (fun wz (hz : Below v6.heap.size v6 wz) => show wz.cell? ⟨gr, 0, none⟩ = some (.slice A3 n3 c3) ∧ wz.cell? ⟨gr, 1, none⟩ = some (.slice A4 n4 c4) ∧ wz.cell? ⟨gb, 0, none⟩ = some (.slice A5 n5 c5) ∧ wz.cell? ⟨gb, 1, none⟩ = some (.slice A6 n6 c6) from by
                have p1 : O2 wz w.heap.size 29 gr (.slice A3 n3 c3) (.slice A4 n4 c4) := OwnF.keep oa6 hz
                have p2 : O2 wz w.heap.size 29 gb (.slice A5 n5 c5) (.slice A6 n6 c6) := OwnF.keep o hz
                exact ⟨p1.c0, p1.c1, p2.c0, p2.c1⟩)
              have HNA := fun wz (hz : Below v6.heap.size v6 wz) => (K.nodes wz (K.next hRa6 hz) hta.1 hta.2.1).mono (R' := fun e w' => ∃ A9 c9, e = .returned (.slice A9 (nodesL ta.L).length c9) ∧ RdR nodE w' w'.heap.size A9 c9 ((nodesL ta.L).map (nodeOf ta.G)) ∧ Below wz.heap.size wz w') fun e w' ⟨A9, c9, he, hr, _, hb⟩ => ⟨A9, c9, he, hr, hb⟩
              have HRA := fun wz (hz : Below v6.heap.size v6 wz) => (rnodes_any hta.1 hta.2.1 hta.2.2 wz (hVa6.keep hz) hz.size).mono (R' := fun e w' => ∃ A9 c9, e = .returned (.slice A9 (nodesL ta.L).length c9) ∧ RdR nodE w' w'.heap.size A9 c9 ((nodesL ta.L).map (nodeOf ta.G)) ∧ Below wz.heap.size wz w') fun e w' ⟨A9, c9, he, hr, hb⟩ => ⟨A9, c9, he, hr.rd, hb⟩
              have HNB := fun wz (hz : Below v6.heap.size v6 wz) => (K.nodes wz (K.next hR hz) htb.1 htb.2.1).mono (R' := fun e w' => ∃ A9 c9, e = .returned (.slice A9 (nodesL tb.L).length c9) ∧ RdR nodE w' w'.heap.size A9 c9 ((nodesL tb.L).map (nodeOf tb.G)) ∧ Below wz.heap.size wz w') fun e w' ⟨A9, c9, he, hr, _, hb⟩ => ⟨A9, c9, he, hr, hb⟩
              have HRB := fun wz (hz : Below v6.heap.size v6 wz) => (rnodes_any htb.1 htb.2.1 htb.2.2 wz (hV.keep hz) hz.size).mono (R' := fun e w' => ∃ A9 c9, e = .returned (.slice A9 (nodesL tb.L).length c9) ∧ RdR nodE w' w'.heap.size A9 c9 ((nodesL tb.L).map (nodeOf tb.G)) ∧ Below wz.heap.size wz w') fun e w' ⟨A9, c9, he, hr, hb⟩ => ⟨A9, c9, he, hr.rd, hb⟩
              have HSA := Lib.hid (fun (A8 A9 : Option Addr) (c8 c9 : Nat) (wz : World) (r8 : RdR nodE wz wz.heap.size A8 c8 ((nodesL ta.L).map (nodeOf ta.G))) (r9 : RdR nodE wz wz.heap.size A9 c9 ((nodesL ta.L).map (nodeOf ta.G))) => show Calls Try.prog 14 #[.slice A8 ma c8, .slice A9 ma c9] wz fun e w' => e = .returned (.bool true) ∧ Below wz.heap.size wz w' from by
                have h := rsame_any wz r8 r9 (Nat.le_refl _) (Nat.le_refl _) (by rw [List.length_map, ← ema]; exact Nat.le_trans hm4a (by decide))
                rw [List.length_map, ← ema, sameB_yes rfl] at h
                exact h)
              have HSB := Lib.hid (fun (A8 A9 : Option Addr) (c8 c9 : Nat) (wz : World) (r8 : RdR nodE wz wz.heap.size A8 c8 ((nodesL tb.L).map (nodeOf tb.G))) (r9 : RdR nodE wz wz.heap.size A9 c9 ((nodesL tb.L).map (nodeOf tb.G))) => show Calls Try.prog 14 #[.slice A8 mb c8, .slice A9 mb c9] wz fun e w' => e = .returned (.bool true) ∧ Below wz.heap.size wz w' from by
                have h := rsame_any wz r8 r9 (Nat.le_refl _) (Nat.le_refl _) (by rw [List.length_map, ← emb]; exact Nat.le_trans hm4b (by decide))
                rw [List.length_map, ← emb, sameB_yes rfl] at h
                exact h)
              rw [← ema] at HNA HRA
              rw [← emb] at HNB HRB
              have HNA := Lib.hid HNA
              have HRA := Lib.hid HRA
              have HNB := Lib.hid HNB
              have HRB := Lib.hid HRB
              have HBO := Lib.hid hbo
              clear hst hsz o hR hV hin hF1 hbo hRa hVa oa hRa6 hVa6 oa6 hta htb eta etb ema emb hm4a hm4b HQ1 hlt hk HR'' HKT
              go_upto_region 25 with fail
              refine wp_region_inv 18 [90, 91, 92, 93, 94, 95, 96, 97, 98, 99, 100, 101, 102, 103, 104, 105, 106, 107] [.val (.bool true), .val (.bool true), .val (p), (kRow nodE ma ((nodesL ta.L).map (nodeOf ta.G))), .val (.agg #[.slice A3 n3 c3, .slice A4 n4 c4]), (kRow nodE ma ((nodesL ta.L).map (nodeOf ta.G))), .val (.bool true), .val (.bool true), .val (.bool true), .val (pB T2), (kRow nodE mb ((nodesL tb.L).map (nodeOf tb.G))), .val (.agg #[.slice A5 n5 c5, .slice A6 n6 c6]), (kRow nodE mb ((nodesL tb.L).map (nodeOf tb.G))), .val (.bool true), .val (.bool true), .val (.bool true), .val (.bool true), .val (.bool true)] (fun wz => Below v6.heap.size v6 wz) (by kernel_rfl) (by kernel_rfl) (fun wz wz' hz hb => hz.trans (hb.mono hz.size)) ((Below.refl _ _).drew) (fun u => by simp only [puts, List.foldl_cons, List.foldl_nil]; go_simp; exact rfl) ?_ ?_
              · simp only [List.take_succ_cons, List.take_zero]
                refine Obs.cons (fun u w hS hd => ?_) ?_
                · exact Gv.run (.bool true) rfl (by go_simp) rfl
                refine Obs.cons (fun u w hS hd => ?_) ?_
                · have d90 : u 90 = .bool true := dep hd 0 rfl
                  rw [d90]
                  exact Gv.run (.bool true) rfl (by go_simp) rfl
                refine Obs.cons (fun u w hS hd => ?_) ?_
                · have d91 : u 91 = .bool true := dep hd 1 rfl
                  rw [d91]
                  exact Gv.run (p) rfl (by go_simp) rfl
                refine Obs.cons (fun u w hS hd => ?_) ?_
                · have d92 : u 92 = p := dep hd 2 rfl
                  have d91 : u 91 = .bool true := dep hd 1 rfl
                  rw [d92, d91]
                  refine Gv.call 15 #[p] rfl (by go_simp) ((HNA.out w hS).mono ?_)
                  rintro e w' ⟨A9, c9, rfl, r9, hb⟩
                  exact ⟨_, rfl, ⟨A9, c9, rfl, r9⟩, hb⟩
                refine Obs.cons (fun u w hS hd => ?_) ?_
                · have d91 : u 91 = .bool true := dep hd 1 rfl
                  rw [d91]
                  exact Gv.run (.agg #[.slice A3 n3 c3, .slice A4 n4 c4]) rfl (by obtain ⟨k0, k1, k2, k3⟩ := HS.out w hS; go_simp) rfl
                refine Obs.cons (fun u w hS hd => ?_) ?_
                · have d94 : u 94 = .agg #[.slice A3 n3 c3, .slice A4 n4 c4] := dep hd 4 rfl
                  have d91 : u 91 = .bool true := dep hd 1 rfl
                  rw [d94, d91]
                  refine Gv.call 16 #[.agg #[.slice A3 n3 c3, .slice A4 n4 c4]] rfl (by go_simp) ((HRA.out w hS).mono ?_)
                  rintro e w' ⟨A9, c9, rfl, r9, hb⟩
                  exact ⟨_, rfl, ⟨A9, c9, rfl, r9⟩, hb⟩
                refine Obs.cons (fun u w hS hd => ?_) ?_
                · have d91 : u 91 = .bool true := dep hd 1 rfl
                  rw [d91]
                  obtain ⟨A8, c8, e8, r8⟩ : (kRow nodE ma ((nodesL ta.L).map (nodeOf ta.G))).ok (u 93) w := dep hd 3 rfl
                  obtain ⟨A9, c9, e9, r9⟩ : (kRow nodE ma ((nodesL ta.L).map (nodeOf ta.G))).ok (u 95) w := dep hd 5 rfl
                  rw [e8, e9]
                  refine Gv.call 14 #[.slice A8 ma c8, .slice A9 ma c9] rfl (by go_simp) ((HSA.out A8 A9 c8 c9 w r8 r9).mono ?_)
                  rintro e w' ⟨rfl, hb⟩
                  exact ⟨_, rfl, rfl, hb⟩
                refine Obs.cons (fun u w hS hd => ?_) ?_
                · have d91 : u 91 = .bool true := dep hd 1 rfl
                  have d96 : u 96 = .bool true := dep hd 6 rfl
                  rw [d91, d96]
                  exact Gv.run (.bool true) rfl (by go_simp) rfl
                refine Obs.cons (fun u w hS hd => ?_) ?_
                · have d97 : u 97 = .bool true := dep hd 7 rfl
                  rw [d97]
                  exact Gv.run (.bool true) rfl (by go_simp) rfl
                refine Obs.cons (fun u w hS hd => ?_) ?_
                · have d98 : u 98 = .bool true := dep hd 8 rfl
                  rw [d98]
                  exact Gv.run (pB T2) rfl (by go_simp) rfl
                refine Obs.cons (fun u w hS hd => ?_) ?_
                · have d99 : u 99 = pB T2 := dep hd 9 rfl
                  have d98 : u 98 = .bool true := dep hd 8 rfl
                  rw [d99, d98]
                  refine Gv.call 15 #[pB T2] rfl (by go_simp) ((HNB.out w hS).mono ?_)
                  rintro e w' ⟨A9, c9, rfl, r9, hb⟩
                  exact ⟨_, rfl, ⟨A9, c9, rfl, r9⟩, hb⟩
                refine Obs.cons (fun u w hS hd => ?_) ?_
                · have d98 : u 98 = .bool true := dep hd 8 rfl
                  rw [d98]
                  exact Gv.run (.agg #[.slice A5 n5 c5, .slice A6 n6 c6]) rfl (by obtain ⟨k0, k1, k2, k3⟩ := HS.out w hS; go_simp) rfl
                refine Obs.cons (fun u w hS hd => ?_) ?_
                · have d101 : u 101 = .agg #[.slice A5 n5 c5, .slice A6 n6 c6] := dep hd 11 rfl
                  have d98 : u 98 = .bool true := dep hd 8 rfl
                  rw [d101, d98]
                  refine Gv.call 16 #[.agg #[.slice A5 n5 c5, .slice A6 n6 c6]] rfl (by go_simp) ((HRB.out w hS).mono ?_)
                  rintro e w' ⟨A9, c9, rfl, r9, hb⟩
                  exact ⟨_, rfl, ⟨A9, c9, rfl, r9⟩, hb⟩
                refine Obs.cons (fun u w hS hd => ?_) ?_
                · have d98 : u 98 = .bool true := dep hd 8 rfl
                  rw [d98]
                  obtain ⟨A8, c8, e8, r8⟩ : (kRow nodE mb ((nodesL tb.L).map (nodeOf tb.G))).ok (u 100) w := dep hd 10 rfl
                  obtain ⟨A9, c9, e9, r9⟩ : (kRow nodE mb ((nodesL tb.L).map (nodeOf tb.G))).ok (u 102) w := dep hd 12 rfl
                  rw [e8, e9]
                  refine Gv.call 14 #[.slice A8 mb c8, .slice A9 mb c9] rfl (by go_simp) ((HSB.out A8 A9 c8 c9 w r8 r9).mono ?_)
                  rintro e w' ⟨rfl, hb⟩
                  exact ⟨_, rfl, rfl, hb⟩
                refine Obs.cons (fun u w hS hd => ?_) ?_
                · have d98 : u 98 = .bool true := dep hd 8 rfl
                  have d103 : u 103 = .bool true := dep hd 13 rfl
                  rw [d98, d103]
                  exact Gv.run (.bool true) rfl (by go_simp) rfl
                refine Obs.cons (fun u w hS hd => ?_) ?_
                · have d104 : u 104 = .bool true := dep hd 14 rfl
                  rw [d104]
                  exact Gv.run (.bool true) rfl (by go_simp) rfl
                refine Obs.cons (fun u w hS hd => ?_) ?_
                · have d105 : u 105 = .bool true := dep hd 15 rfl
                  rw [d105]
                  refine Gv.call 11 #[] rfl (by go_simp) ((awake15 K w).mono ?_)
                  rintro e w' ⟨rfl, hb⟩
                  exact ⟨_, rfl, rfl, hb⟩
                refine Obs.cons (fun u w hS hd => ?_) ?_
                · have d105 : u 105 = .bool true := dep hd 15 rfl
                  have d106 : u 106 = .bool true := dep hd 16 rfl
                  rw [d105, d106]
                  exact Gv.run (.bool true) rfl (by go_simp) rfl
                exact Obs.nil
              intro u v7 hS hd
              have d107 : u 107 = .bool true := hd 17 (by decide)
              rw [d107]
              simp only [List.drop_succ_cons, List.drop_zero]
              have H9 := Lib.hid (HBO.out.trans (hS.mono HBO.out.size))
              clear hS hd d107
              go_wp2_with fail
              go_ret
              exact ⟨rfl, H9.out⟩
end
end Go.Proofs.Ytljciakgdpihdaa
