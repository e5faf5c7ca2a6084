/-
  Layer 15: a step in a law's loop; FugueAsks. By an AI agent.
-/
import Derived.Test.YtljciakgdpihdaaFc4
namespace Go.Proofs.Ytljciakgdpihdaa
open Go Go.RowKit
set_option maxRecDepth 20000
theorem do_at {w : World} {B c : Nat} {A : Option Addr} {L : List Dot} (h : RdR doE w B A c L) {k : Nat} {x : Dot} (hk : L[k]? = some x) : ∃ b o, A = some ⟨b, o, none⟩ ∧ b < B ∧ w.cell? ⟨b, o + k * 9, none⟩ = some (.int .i64 x.kind) ∧ w.cell? ⟨b, o + k * 9 + 1, none⟩ = some (.int .i64 x.ins.id.1) ∧ w.cell? ⟨b, o + k * 9 + 2, none⟩ = some (.int .i64 x.ins.id.2) ∧ w.cell? ⟨b, o + k * 9 + 3, none⟩ = some (.int .i64 x.ins.par.1) ∧ w.cell? ⟨b, o + k * 9 + 4, none⟩ = some (.int .i64 x.ins.par.2) ∧ w.cell? ⟨b, o + k * 9 + 5, none⟩ = some (.bool x.ins.right) ∧ w.cell? ⟨b, o + k * 9 + 6, none⟩ = some (.int .i32 x.ins.rune) ∧ w.cell? ⟨b, o + k * 9 + 7, none⟩ = some (.int .i64 x.drop.1) ∧ w.cell? ⟨b, o + k * 9 + 8, none⟩ = some (.int .i64 x.drop.2) := by
  obtain ⟨b, o, e, hlt, hc⟩ := h.at_ hk
  exact ⟨b, o, e, hlt, hc 0 _ rfl, hc 1 _ rfl, hc 2 _ rfl, hc 3 _ rfl, hc 4 _ rfl, hc 5 _ rfl, hc 6 _ rfl, hc 7 _ rfl, hc 8 _ rfl⟩
abbrev doC (x : Dot) : Array Value := #[.int .i64 x.kind, .int .i64 x.ins.id.1, .int .i64 x.ins.id.2, .int .i64 x.ins.par.1, .int .i64 x.ins.par.2, .bool x.ins.right, .int .i32 x.ins.rune, .int .i64 x.drop.1, .int .i64 x.drop.2]
/-- The box of a step. -/
def DoB (w : World) (g : Nat) (x : Dot) : Prop := w.cell? ⟨g, 0, none⟩ = some (.int .i64 x.kind) ∧ w.cell? ⟨g, 1, none⟩ = some (.int .i64 x.ins.id.1) ∧ w.cell? ⟨g, 2, none⟩ = some (.int .i64 x.ins.id.2) ∧ w.cell? ⟨g, 3, none⟩ = some (.int .i64 x.ins.par.1) ∧ w.cell? ⟨g, 4, none⟩ = some (.int .i64 x.ins.par.2) ∧ w.cell? ⟨g, 5, none⟩ = some (.bool x.ins.right) ∧ w.cell? ⟨g, 6, none⟩ = some (.int .i32 x.ins.rune) ∧ w.cell? ⟨g, 7, none⟩ = some (.int .i64 x.drop.1) ∧ w.cell? ⟨g, 8, none⟩ = some (.int .i64 x.drop.2)
theorem do_box (w : World) (x : Dot) : DoB (w.alloc (.cells (doC x) 35)) w.heap.size x := by unfold DoB; simp
theorem Play.base {R : TreeP} {w0 : World} {gr : Nat} {p : Value} {t : Txt} {w : World} (h : Play R w0 gr p t w) : Below w0.heap.size w0 w := by
  obtain ⟨_, _, ⟨_, _, _, _, _, hb⟩, _⟩ := h
  exact hb
theorem PlayB.slices {R : TreeP} {w0 : World} {gr : Nat} {p u1 u2 : Value} {t : Txt} {w : World} (h : PlayB R w0 gr p u1 u2 t w) : ∃ A n c A2 n2 c2, u1 = .slice A n c ∧ u2 = .slice A2 n2 c2 := by
  obtain ⟨F, _, ⟨A, c, A2, c2, e, _⟩, _⟩ := h
  simp only [Value.agg.injEq, Array.mk.injEq, List.cons.injEq, and_true] at e
  exact ⟨A, _, c, A2, _, c2, e.1, e.2⟩
/-- Behind all steps. -/
theorem txtK_all (l : List Dot) : txtK l l.length = l.foldl stepT ⟨[], []⟩ := by unfold txtK; rw [List.take_length]
section
variable {R : TreeP} (K : FugC R)
include K
theorem fugueasks_much {A : Option Addr} {c n : Nat} (hn : 60 < n) (i : IDt) (j : Int) (w : World) :
    Calls Try.prog 4 #[.slice A n c, idV i, .int .i64 j] w fun e w' => e = .returned (.bool true) ∧ Below w.heap.size w w' := by
  obtain ⟨v1, ev⟩ : ∃ v, v = w.alloc (.cells #[.int .i64 i.1, .int .i64 i.2] 31) := ⟨_, rfl⟩
  have hb : Below w.heap.size w v1 := by rw [ev]; exact (Below.refl _ _).alloc (Nat.le_refl _) _
  have HB := Lib.hid (And.intro ev hb)
  have g1 : (60 : Int) < (n : Int) := by omega
  clear hn ev hb
  go_enter Try.func4, Try.ntmps4
  go_upto_region 1 with fail
  rw [← HB.out.1]
  go_wp2_with fail
  go_at_call 11
  refine (awake15 K v1).mono ?_
  rintro z v9 ⟨rfl, h0⟩
  have HB9 := Lib.hid (HB.out.2.trans (h0.mono HB.out.2.size))
  clear h0
  go_wp2_with fail
  go_ret
  exact ⟨rfl, HB9.out⟩
set_option maxHeartbeats 12800000 in
theorem fugueasks_law {A : Option Addr} {c n : Nat} {l : List Dot} (hn : l.length = n) (hl : n ≤ 60) (i : IDt) (j : Int) (w : World) (r : RdR doE w w.heap.size A c l) :
    Calls Try.prog 4 #[.slice A n c, idV i, .int .i64 j] w fun e w' => e = .returned (.bool true) ∧ Below w.heap.size w w' := by
  obtain ⟨v1, ev⟩ : ∃ v, v = w.alloc (.cells #[.int .i64 i.1, .int .i64 i.2] 31) := ⟨_, rfl⟩
  obtain ⟨g, eg⟩ : ∃ g, g = w.heap.size := ⟨_, rfl⟩
  have hb : Below w.heap.size w v1 := by rw [ev]; exact (Below.refl _ _).alloc (Nat.le_refl _) _
  have og : O2 v1 w.heap.size 31 g (.int .i64 i.1) (.int .i64 i.2) := by rw [ev, eg]; exact O2.newz (Nat.le_refl _) _ _ _
  have g1 : ¬ (60 : Int) < (n : Int) := by omega
  have HN := Lib.hid hn
  have HL := Lib.hid (show l.length ≤ 4096 by omega)
  have HB := Lib.hid hb
  have HR := Lib.hid (fun wz (hz : Below v1.heap.size v1 wz) => (r.keep (hb.trans (hz.mono hb.size)) : RdR doE wz w.heap.size A c l))
  have HO := Lib.hid (fun wz (hz : Below v1.heap.size v1 wz) => (OwnF.keep og hz : O2 wz w.heap.size 31 g (.int .i64 i.1) (.int .i64 i.2)))
  have HV := Lib.hid (And.intro ev eg)
  clear ev eg hb og hn r
  go_enter Try.func4, Try.ntmps4
  go_upto_region 1 with fail
  rw [← HV.out.1, ← HV.out.2]
  clear HV
  go_wp2_with fail
  go_at_call 12
  refine (play_new K v1).mono ?_
  rintro z v2 ⟨p, rfl, hp⟩
  obtain ⟨v3, e3⟩ : ∃ v, v = v2.alloc (.cells #[.slice none 0 0, .slice none 0 0] 29) := ⟨_, rfl⟩
  obtain ⟨gr, egr⟩ : ∃ g, g = v2.heap.size := ⟨_, rfl⟩
  rw [← e3, ← egr] at hp
  have HP := Lib.hid hp
  have HV := Lib.hid (And.intro e3 egr)
  clear hp e3 egr
  go_upto_region 4 with fail
  rw [← HV.out.1, ← HV.out.2]
  clear HV
  go_wp2_with fail
  go_loopw [29] (fun i wr => ∃ k : Nat, k ≤ n ∧ i = .int .i64 (k : Int) ∧ Play R v1 gr p (txtK l k) wr) (fun i _ => n - (intF i).toNat)
  case atStart => exact ⟨0, Nat.zero_le _, rfl, HP.out⟩
  case round =>
    obtain ⟨k, hk, rfl, hp⟩ := hrel
    clear HP
    by_cases hlt : k < n
    · have g2 : (k : Int) < (n : Int) := by omega
      obtain ⟨x, hx⟩ := getD_of (L := l) (k := k) (by rw [HN.out]; exact hlt)
      obtain ⟨b, o, rfl, hbB, m0, m1, m2, m3, m4, m5, m6, m7, m8⟩ := do_at (HR.out wr hp.base) hx
      obtain ⟨v5, e5⟩ : ∃ v, v = wr.alloc (.cells (doC x) 35) := ⟨_, rfl⟩
      obtain ⟨g5, eg5⟩ : ∃ g, g = wr.heap.size := ⟨_, rfl⟩
      have hd : DoB v5 g5 x := by rw [e5, eg5]; exact do_box wr x
      have hp5 : Play R v1 gr p (txtK l k) v5 := Play.keep K hp (by rw [e5]; exact (Below.refl _ _).alloc (Nat.le_refl _) _)
      have ht := txtK_ok (k := k) HL.out
      have HT := Lib.hid (show Ok (txtK l k).L ∧ (txtK l k).L.length ≤ 4096 ∧ (txtK l k).G.length ≤ 1000000 from ⟨ht.1, Nat.le_trans ht.2.1 HL.out, Nat.le_trans ht.2.2 (Nat.le_trans HL.out (by decide))⟩)
      have HX := Lib.hid (txtK_succ hx)
      have HK := Lib.hid hlt
      have HD := Lib.hid (And.intro hd hp5)
      have E5 := Lib.hid (And.intro e5 eg5)
      have hl9 := hl
      clear hd hp5 ht hx hlt hk e5 eg5 hp hbB
      go_upto_region 7 with fail
      rw [← E5.out.1, ← E5.out.2]
      clear E5 m0 m1 m2 m3 m4 m5 m6 m7 m8
      obtain ⟨⟨m0, m1, m2, m3, m4, m5, m6, m7, m8⟩, u1, u2, hPB, o5⟩ := HD.out
      have y0 := o5.c0
      have y1 := o5.c1
      have HQ := Lib.hid (And.intro hPB o5)
      clear hPB o5 HD
      go_wp2_with fail
      go_at_call 13
      refine (play_both K HQ.out.1 HQ.out.2 HT.out.1 HT.out.2.1 HT.out.2.2 x).mono ?_
      rintro z v6 ⟨z1, z2, rfl, hPB, o6⟩
      obtain ⟨A3, n3, c3, A4, n4, c4, rfl, rfl⟩ := hPB.slices
      clear m0 m1 m2 m3 m4 m5 m6 m7 m8 y0 y1
      have y0 := o6.c0
      have y1 := o6.c1
      have f0 := o6.f0
      have f1 := o6.f1
      have HS := Lib.hid (PlayB.store K hPB o6)
      clear hPB o6 HQ
      go_wp2_with fail
      go_roundw
      case rel => exact ⟨k + 1, HK.out, by go_num, by rw [HX.out]; exact HS.out⟩
      case measure => simp [intF]; have := HK.out; omega
    · obtain rfl : k = n := by omega
      obtain ⟨vo, evo⟩ : ∃ v, v = wr := ⟨_, rfl⟩
      subst evo
      obtain ⟨u1, u2, hPB, o⟩ := hp
      obtain ⟨A1, n1, c1, A2, n2, c2, rfl, rfl⟩ := hPB.slices
      obtain ⟨F, hR, hV, _, _, hbo⟩ := hPB
      have ht := txtK_ok (k := k) HL.out
      obtain ⟨t, et⟩ : ∃ t, t = txtK l k := ⟨_, rfl⟩
      rw [← et] at ht hR hV
      obtain ⟨AT, eAT⟩ : ∃ x, x = atR t.L t.G j := ⟨_, rfl⟩
      obtain ⟨PL, ePL⟩ : ∃ x, x = planR t.L t.G j := ⟨_, rfl⟩
      obtain ⟨hs, ehs⟩ : ∃ x, x = hasB t.L i := ⟨_, rfl⟩
      have HA := Lib.hid eAT
      have HPL := Lib.hid ePL
      have hok := ht.1
      have hl4 : t.L.length ≤ 4096 := Nat.le_trans ht.2.1 HL.out
      have hg6 : t.G.length ≤ 1000000 := Nat.le_trans ht.2.2 (Nat.le_trans HL.out (by decide))
      have HT := Lib.hid (fun wz (hz : Below vo.heap.size vo wz) => show R wz F p t.L t.G ∧ RdT wz vo.heap.size (.agg #[.slice A1 n1 c1, .slice A2 n2 c2]) t.L t.G ∧ O2 wz v1.heap.size 29 gr (.slice A1 n1 c1) (.slice A2 n2 c2) ∧ O2 wz w.heap.size 31 g (.int .i64 i.1) (.int .i64 i.2) ∧ vo.heap.size ≤ wz.heap.size from
        ⟨K.next hR hz, hV.keep hz, OwnF.keep o hz, HO.out wz (hbo.trans (hz.mono hbo.size)), hz.size⟩)
      have HAT := Lib.hid (fun wz (hz : Below vo.heap.size vo wz) => K.at_ j wz (HT.out wz hz).1 hok hl4)
      have HRAT := Lib.hid (fun wz (hz : Below vo.heap.size vo wz) => rat_any hok hl4 hg6 j wz (HT.out wz hz).2.1 (HT.out wz hz).2.2.2.2)
      have HPP := Lib.hid (fun wz (hz : Below vo.heap.size vo wz) => K.plan j wz (HT.out wz hz).1 hok hl4)
      have HRPP := Lib.hid (fun wz (hz : Below vo.heap.size vo wz) => rplan_any hok hl4 hg6 j wz (HT.out wz hz).2.1 (HT.out wz hz).2.2.2.2)
      have HHas := Lib.hid (fun wz (hz : Below vo.heap.size vo wz) => K.has i wz (HT.out wz hz).1)
      have HRHas := Lib.hid (fun wz (hz : Below vo.heap.size vo wz) => rhas_any i wz (HT.out wz hz).2.1 (HT.out wz hz).2.2.2.2 (Nat.le_trans hl4 (by decide)))
      rw [← ehs] at HHas HRHas
      have HBO := Lib.hid (HB.out.trans (hbo.mono HB.out.size))
      have h00 : Below vo.heap.size vo vo := Below.refl _ _
      clear eAT ePL ehs hok hl4 hg6 ht hR hV hbo o et hlt hk HR HO
      go_wp2_with fail
      go_at_call 21
      refine (HAT.out vo h00).mono ?_
      rintro z v1' ⟨rfl, h0⟩
      rw [← HA.out]
      obtain ⟨v2', ev2'⟩ : ∃ v, v = v1'.alloc (.cells #[.int .i64 AT.1.1, .int .i64 AT.1.2] 31) := ⟨_, rfl⟩
      obtain ⟨ga, ega⟩ : ∃ g, g = v1'.heap.size := ⟨_, rfl⟩
      have hq : Below vo.heap.size vo v2' := h0.trans (by rw [ev2']; exact (Below.refl _ _).alloc h0.size _)
      have Hv2' := Lib.hid (hq)
      have Oga := Lib.hid (show O2 v2' vo.heap.size 31 ga (.int .i64 AT.1.1) (.int .i64 AT.1.2) by rw [ev2', ega]; exact O2.newz (h0.size) _ _ _)
      have HQv2' := Lib.hid hq
      have Ev2' := Lib.hid (And.intro ev2' ega)
      clear h0 hq ev2' ega
      go_upto_region 10 with fail
      rw [← Ev2'.out.1, ← Ev2'.out.2]
      clear Ev2'
      obtain ⟨_, _, ot, _, _⟩ := HT.out v2' Hv2'.out
      have y0 := ot.c0
      have y1 := ot.c1
      clear ot
      go_wp2_with fail
      go_at_call 22
      refine (HRAT.out v2' Hv2'.out).mono ?_
      rintro z v3' ⟨rfl, h0⟩
      rw [← HA.out]
      obtain ⟨v4', ev4'⟩ : ∃ v, v = v3'.alloc (.cells #[.int .i64 AT.1.1, .int .i64 AT.1.2] 31) := ⟨_, rfl⟩
      obtain ⟨gb, egb⟩ : ∃ g, g = v3'.heap.size := ⟨_, rfl⟩
      have hq : Below v2'.heap.size v2' v4' := h0.trans (by rw [ev4']; exact (Below.refl _ _).alloc h0.size _)
      have Hv4' := Lib.hid (Hv2'.out.trans (hq.mono Hv2'.out.size))
      have Ogb := Lib.hid (show O2 v4' vo.heap.size 31 gb (.int .i64 AT.1.1) (.int .i64 AT.1.2) by rw [ev4', egb]; exact O2.newz (Nat.le_trans Hv2'.out.size h0.size) _ _ _)
      have HQv4' := Lib.hid hq
      have Ev4' := Lib.hid (And.intro ev4' egb)
      clear h0 hq ev4' egb
      go_upto_region 11 with fail
      rw [← Ev4'.out.1, ← Ev4'.out.2]
      clear Ev4'
      clear y0 y1
      go_wp2_with fail
      go_at_call 23
      refine (HPP.out v4' Hv4'.out).mono ?_
      rintro z v5' ⟨rfl, h0⟩
      rw [← HPL.out]
      obtain ⟨v6', ev6'⟩ : ∃ v, v = v5'.alloc (.cells #[.int .i64 PL.1.1, .int .i64 PL.1.2] 31) := ⟨_, rfl⟩
      obtain ⟨gc, egc⟩ : ∃ g, g = v5'.heap.size := ⟨_, rfl⟩
      have hq : Below v4'.heap.size v4' v6' := h0.trans (by rw [ev6']; exact (Below.refl _ _).alloc h0.size _)
      have Hv6' := Lib.hid (Hv4'.out.trans (hq.mono Hv4'.out.size))
      have Ogc := Lib.hid (show O2 v6' vo.heap.size 31 gc (.int .i64 PL.1.1) (.int .i64 PL.1.2) by rw [ev6', egc]; exact O2.newz (Nat.le_trans Hv4'.out.size h0.size) _ _ _)
      have HQv6' := Lib.hid hq
      have Ev6' := Lib.hid (And.intro ev6' egc)
      clear h0 hq ev6' egc
      go_upto_region 12 with fail
      rw [← Ev6'.out.1, ← Ev6'.out.2]
      clear Ev6'
      obtain ⟨_, _, ot, _, _⟩ := HT.out v6' Hv6'.out
      have y0 := ot.c0
      have y1 := ot.c1
      clear ot
      go_wp2_with fail
      go_at_call 24
      refine (HRPP.out v6' Hv6'.out).mono ?_
      rintro z v7' ⟨rfl, h0⟩
      rw [← HPL.out]
      obtain ⟨v8, ev8⟩ : ∃ v, v = v7'.alloc (.cells #[.int .i64 PL.1.1, .int .i64 PL.1.2] 31) := ⟨_, rfl⟩
      obtain ⟨gd, egd⟩ : ∃ g, g = v7'.heap.size := ⟨_, rfl⟩
      have hq : Below v6'.heap.size v6' v8 := h0.trans (by rw [ev8]; exact (Below.refl _ _).alloc h0.size _)
      have Hv8 := Lib.hid (Hv6'.out.trans (hq.mono Hv6'.out.size))
      have Ogd := Lib.hid (show O2 v8 vo.heap.size 31 gd (.int .i64 PL.1.1) (.int .i64 PL.1.2) by rw [ev8, egd]; exact O2.newz (Nat.le_trans Hv6'.out.size h0.size) _ _ _)
      have HQv8 := Lib.hid hq
      have Ev8 := Lib.hid (And.intro ev8 egd)
      clear h0 hq ev8 egd
      go_upto_region 13 with fail
      rw [← Ev8.out.1, ← Ev8.out.2]
      clear Ev8
      have HS := Lib.hid (fun wz (hz : Below v8.heap.size v8 wz) => show wz.cell? ⟨g, 0, none⟩ = some (.int .i64 i.1) ∧ wz.cell? ⟨g, 1, none⟩ = some (.int .i64 i.2) ∧ wz.cell? ⟨gr, 0, none⟩ = some (.slice A1 n1 c1) ∧ wz.cell? ⟨gr, 1, none⟩ = some (.slice A2 n2 c2) ∧ wz.cell? ⟨ga, 0, none⟩ = some (.int .i64 AT.1.1) ∧ wz.cell? ⟨ga, 1, none⟩ = some (.int .i64 AT.1.2) ∧ wz.cell? ⟨gb, 0, none⟩ = some (.int .i64 AT.1.1) ∧ wz.cell? ⟨gb, 1, none⟩ = some (.int .i64 AT.1.2) ∧ wz.cell? ⟨gc, 0, none⟩ = some (.int .i64 PL.1.1) ∧ wz.cell? ⟨gc, 1, none⟩ = some (.int .i64 PL.1.2) ∧ wz.cell? ⟨gd, 0, none⟩ = some (.int .i64 PL.1.1) ∧ wz.cell? ⟨gd, 1, none⟩ = some (.int .i64 PL.1.2) from by
        obtain ⟨_, _, ot, oi, _⟩ := HT.out wz (Hv8.out.trans (hz.mono Hv8.out.size))
        have h68 := HQv8.out.trans (hz.mono HQv8.out.size)
        have h46 := HQv6'.out.trans (h68.mono HQv6'.out.size)
        have h24 := HQv4'.out.trans (h46.mono HQv4'.out.size)
        have oa : O2 wz vo.heap.size 31 ga _ _ := OwnF.keep Oga.out h24
        have ob : O2 wz vo.heap.size 31 gb _ _ := OwnF.keep Ogb.out h46
        have oc : O2 wz vo.heap.size 31 gc _ _ := OwnF.keep Ogc.out h68
        have od : O2 wz vo.heap.size 31 gd _ _ := OwnF.keep Ogd.out hz
        exact ⟨oi.c0, oi.c1, ot.c0, ot.c1, oa.c0, oa.c1, ob.c0, ob.c1, oc.c0, oc.c1, od.c0, od.c1⟩)
      have HHas := Lib.hid (fun wz (hz : Below v8.heap.size v8 wz) => HHas.out wz (Hv8.out.trans (hz.mono Hv8.out.size)))
      have HRHas := Lib.hid (fun wz (hz : Below v8.heap.size v8 wz) => HRHas.out wz (Hv8.out.trans (hz.mono Hv8.out.size)))
      have H8 := Lib.hid (HBO.out.trans (Hv8.out.mono HBO.out.size))
      clear y0 y1 h00
      refine wp_region_inv 35 [67, 68, 69, 70, 71, 72, 73, 74, 75, 76, 77, 78, 79, 80, 81, 82, 83, 84, 85, 86, 87, 88, 89, 90, 91, 92, 93, 94, 95, 96, 97, 98, 99, 100, 101] [.val (.agg #[.int .i64 AT.1.1, .int .i64 AT.1.2]), .val (.agg #[.int .i64 AT.1.1, .int .i64 AT.1.2]), .val (.bool true), .val (.bool true), .val (.int .i64 AT.2), .val (.int .i64 AT.2), .val (.bool true), .val (.bool true), .val (.bool true), .val (.agg #[.int .i64 PL.1.1, .int .i64 PL.1.2]), .val (.agg #[.int .i64 PL.1.1, .int .i64 PL.1.2]), .val (.bool true), .val (.bool true), .val (.bool true), .val (.bool PL.2.1), .val (.bool PL.2.1), .val (.bool true), .val (.bool true), .val (.bool true), .val (.int .i64 PL.2.2), .val (.int .i64 PL.2.2), .val (.bool true), .val (.bool true), .val (.bool true), .val (p), .val (.agg #[.int .i64 i.1, .int .i64 i.2]), .val (.bool hs), .val (.agg #[.slice A1 n1 c1, .slice A2 n2 c2]), .val (.agg #[.int .i64 i.1, .int .i64 i.2]), .val (.bool hs), .val (.bool true), .val (.bool true), .val (.bool true), .val (.bool true), .val (.bool true)] (fun wz => Below v8.heap.size v8 wz) (by kernel_rfl) (by kernel_rfl) (fun wz wz' hz hb => hz.trans (hb.mono hz.size)) ((Below.refl _ _).drew) (fun u => by simp only [puts, List.foldl_cons, List.foldl_nil]; go_simp; exact rfl) ?_ ?_
      · simp only [List.take_succ_cons, List.take_zero]
        refine Obs.cons (fun u w hS hd => ?_) ?_
        · exact Gv.run (.agg #[.int .i64 AT.1.1, .int .i64 AT.1.2]) rfl (by obtain ⟨k0, k1, k2, k3, k4, k5, k6, k7, k8, k9, k10, k11⟩ := HS.out w hS; go_simp) rfl
        refine Obs.cons (fun u w hS hd => ?_) ?_
        · exact Gv.run (.agg #[.int .i64 AT.1.1, .int .i64 AT.1.2]) rfl (by obtain ⟨k0, k1, k2, k3, k4, k5, k6, k7, k8, k9, k10, k11⟩ := HS.out w hS; go_simp) rfl
        refine Obs.cons (fun u w hS hd => ?_) ?_
        · have d67 : u 67 = .agg #[.int .i64 AT.1.1, .int .i64 AT.1.2] := dep hd 0 rfl
          have d68 : u 68 = .agg #[.int .i64 AT.1.1, .int .i64 AT.1.2] := dep hd 1 rfl
          rw [d67, d68]
          exact Gv.run (.bool true) rfl (by go_simp) rfl
        refine Obs.cons (fun u w hS hd => ?_) ?_
        · have d69 : u 69 = .bool true := dep hd 2 rfl
          rw [d69]
          exact Gv.run (.bool true) rfl (by go_simp) rfl
        refine Obs.cons (fun u w hS hd => ?_) ?_
        · have d70 : u 70 = .bool true := dep hd 3 rfl
          rw [d70]
          exact Gv.run (.int .i64 AT.2) rfl (by go_simp) rfl
        refine Obs.cons (fun u w hS hd => ?_) ?_
        · have d70 : u 70 = .bool true := dep hd 3 rfl
          rw [d70]
          exact Gv.run (.int .i64 AT.2) rfl (by go_simp) rfl
        refine Obs.cons (fun u w hS hd => ?_) ?_
        · have d71 : u 71 = .int .i64 AT.2 := dep hd 4 rfl
          have d72 : u 72 = .int .i64 AT.2 := dep hd 5 rfl
          have d70 : u 70 = .bool true := dep hd 3 rfl
          rw [d71, d72, d70]
          exact Gv.run (.bool true) rfl (by go_simp) rfl
        refine Obs.cons (fun u w hS hd => ?_) ?_
        · have d70 : u 70 = .bool true := dep hd 3 rfl
          have d73 : u 73 = .bool true := dep hd 6 rfl
          rw [d70, d73]
          exact Gv.run (.bool true) rfl (by go_simp) rfl
        refine Obs.cons (fun u w hS hd => ?_) ?_
        · have d74 : u 74 = .bool true := dep hd 7 rfl
          rw [d74]
          exact Gv.run (.bool true) rfl (by go_simp) rfl
        refine Obs.cons (fun u w hS hd => ?_) ?_
        · have d75 : u 75 = .bool true := dep hd 8 rfl
          rw [d75]
          exact Gv.run (.agg #[.int .i64 PL.1.1, .int .i64 PL.1.2]) rfl (by obtain ⟨k0, k1, k2, k3, k4, k5, k6, k7, k8, k9, k10, k11⟩ := HS.out w hS; go_simp) rfl
        refine Obs.cons (fun u w hS hd => ?_) ?_
        · have d75 : u 75 = .bool true := dep hd 8 rfl
          rw [d75]
          exact Gv.run (.agg #[.int .i64 PL.1.1, .int .i64 PL.1.2]) rfl (by obtain ⟨k0, k1, k2, k3, k4, k5, k6, k7, k8, k9, k10, k11⟩ := HS.out w hS; go_simp) rfl
        refine Obs.cons (fun u w hS hd => ?_) ?_
        · have d76 : u 76 = .agg #[.int .i64 PL.1.1, .int .i64 PL.1.2] := dep hd 9 rfl
          have d77 : u 77 = .agg #[.int .i64 PL.1.1, .int .i64 PL.1.2] := dep hd 10 rfl
          have d75 : u 75 = .bool true := dep hd 8 rfl
          rw [d76, d77, d75]
          exact Gv.run (.bool true) rfl (by go_simp) rfl
        refine Obs.cons (fun u w hS hd => ?_) ?_
        · have d75 : u 75 = .bool true := dep hd 8 rfl
          have d78 : u 78 = .bool true := dep hd 11 rfl
          rw [d75, d78]
          exact Gv.run (.bool true) rfl (by go_simp) rfl
        refine Obs.cons (fun u w hS hd => ?_) ?_
        · have d79 : u 79 = .bool true := dep hd 12 rfl
          rw [d79]
          exact Gv.run (.bool true) rfl (by go_simp) rfl
        refine Obs.cons (fun u w hS hd => ?_) ?_
        · have d80 : u 80 = .bool true := dep hd 13 rfl
          rw [d80]
          exact Gv.run (.bool PL.2.1) rfl (by go_simp) rfl
        refine Obs.cons (fun u w hS hd => ?_) ?_
        · have d80 : u 80 = .bool true := dep hd 13 rfl
          rw [d80]
          exact Gv.run (.bool PL.2.1) rfl (by go_simp) rfl
        refine Obs.cons (fun u w hS hd => ?_) ?_
        · have d81 : u 81 = .bool PL.2.1 := dep hd 14 rfl
          have d82 : u 82 = .bool PL.2.1 := dep hd 15 rfl
          have d80 : u 80 = .bool true := dep hd 13 rfl
          rw [d81, d82, d80]
          have hbb := beq_self_eq_true PL.2.1
          exact Gv.run (.bool true) rfl (by go_simp) rfl
        refine Obs.cons (fun u w hS hd => ?_) ?_
        · have d80 : u 80 = .bool true := dep hd 13 rfl
          have d83 : u 83 = .bool true := dep hd 16 rfl
          rw [d80, d83]
          exact Gv.run (.bool true) rfl (by go_simp) rfl
        refine Obs.cons (fun u w hS hd => ?_) ?_
        · have d84 : u 84 = .bool true := dep hd 17 rfl
          rw [d84]
          exact Gv.run (.bool true) rfl (by go_simp) rfl
        refine Obs.cons (fun u w hS hd => ?_) ?_
        · have d85 : u 85 = .bool true := dep hd 18 rfl
          rw [d85]
          exact Gv.run (.int .i64 PL.2.2) rfl (by go_simp) rfl
        refine Obs.cons (fun u w hS hd => ?_) ?_
        · have d85 : u 85 = .bool true := dep hd 18 rfl
          rw [d85]
          exact Gv.run (.int .i64 PL.2.2) rfl (by go_simp) rfl
        refine Obs.cons (fun u w hS hd => ?_) ?_
        · have d86 : u 86 = .int .i64 PL.2.2 := dep hd 19 rfl
          have d87 : u 87 = .int .i64 PL.2.2 := dep hd 20 rfl
          have d85 : u 85 = .bool true := dep hd 18 rfl
          rw [d86, d87, d85]
          exact Gv.run (.bool true) rfl (by go_simp) rfl
        refine Obs.cons (fun u w hS hd => ?_) ?_
        · have d85 : u 85 = .bool true := dep hd 18 rfl
          have d88 : u 88 = .bool true := dep hd 21 rfl
          rw [d85, d88]
          exact Gv.run (.bool true) rfl (by go_simp) rfl
        refine Obs.cons (fun u w hS hd => ?_) ?_
        · have d89 : u 89 = .bool true := dep hd 22 rfl
          rw [d89]
          exact Gv.run (.bool true) rfl (by go_simp) rfl
        refine Obs.cons (fun u w hS hd => ?_) ?_
        · have d90 : u 90 = .bool true := dep hd 23 rfl
          rw [d90]
          exact Gv.run (p) rfl (by go_simp) rfl
        refine Obs.cons (fun u w hS hd => ?_) ?_
        · have d90 : u 90 = .bool true := dep hd 23 rfl
          rw [d90]
          exact Gv.run (.agg #[.int .i64 i.1, .int .i64 i.2]) rfl (by obtain ⟨k0, k1, k2, k3, k4, k5, k6, k7, k8, k9, k10, k11⟩ := HS.out w hS; go_simp) rfl
        refine Obs.cons (fun u w hS hd => ?_) ?_
        · have d91 : u 91 = p := dep hd 24 rfl
          have d92 : u 92 = .agg #[.int .i64 i.1, .int .i64 i.2] := dep hd 25 rfl
          have d90 : u 90 = .bool true := dep hd 23 rfl
          rw [d91, d92, d90]
          refine Gv.call 25 #[p, .agg #[.int .i64 i.1, .int .i64 i.2]] rfl (by go_simp) ((HHas.out w hS).mono ?_)
          rintro e w' ⟨rfl, hb⟩
          exact ⟨_, rfl, rfl, hb⟩
        refine Obs.cons (fun u w hS hd => ?_) ?_
        · have d90 : u 90 = .bool true := dep hd 23 rfl
          rw [d90]
          exact Gv.run (.agg #[.slice A1 n1 c1, .slice A2 n2 c2]) rfl (by obtain ⟨k0, k1, k2, k3, k4, k5, k6, k7, k8, k9, k10, k11⟩ := HS.out w hS; go_simp) rfl
        refine Obs.cons (fun u w hS hd => ?_) ?_
        · have d90 : u 90 = .bool true := dep hd 23 rfl
          rw [d90]
          exact Gv.run (.agg #[.int .i64 i.1, .int .i64 i.2]) rfl (by obtain ⟨k0, k1, k2, k3, k4, k5, k6, k7, k8, k9, k10, k11⟩ := HS.out w hS; go_simp) rfl
        refine Obs.cons (fun u w hS hd => ?_) ?_
        · have d94 : u 94 = .agg #[.slice A1 n1 c1, .slice A2 n2 c2] := dep hd 27 rfl
          have d95 : u 95 = .agg #[.int .i64 i.1, .int .i64 i.2] := dep hd 28 rfl
          have d90 : u 90 = .bool true := dep hd 23 rfl
          rw [d94, d95, d90]
          refine Gv.call 26 #[.agg #[.slice A1 n1 c1, .slice A2 n2 c2], .agg #[.int .i64 i.1, .int .i64 i.2]] rfl (by go_simp) ((HRHas.out w hS).mono ?_)
          rintro e w' ⟨rfl, hb⟩
          exact ⟨_, rfl, rfl, hb⟩
        refine Obs.cons (fun u w hS hd => ?_) ?_
        · have d93 : u 93 = .bool hs := dep hd 26 rfl
          have d96 : u 96 = .bool hs := dep hd 29 rfl
          have d90 : u 90 = .bool true := dep hd 23 rfl
          rw [d93, d96, d90]
          exact Gv.run (.bool true) rfl (by go_simp) rfl
        refine Obs.cons (fun u w hS hd => ?_) ?_
        · have d90 : u 90 = .bool true := dep hd 23 rfl
          have d97 : u 97 = .bool true := dep hd 30 rfl
          rw [d90, d97]
          exact Gv.run (.bool true) rfl (by go_simp) rfl
        refine Obs.cons (fun u w hS hd => ?_) ?_
        · have d98 : u 98 = .bool true := dep hd 31 rfl
          rw [d98]
          exact Gv.run (.bool true) rfl (by go_simp) rfl
        refine Obs.cons (fun u w hS hd => ?_) ?_
        · have d99 : u 99 = .bool true := dep hd 32 rfl
          rw [d99]
          refine Gv.call 11 #[] rfl (by go_simp) ((awake15 K w).mono ?_)
          rintro e w' ⟨rfl, hb⟩
          exact ⟨_, rfl, rfl, hb⟩
        refine Obs.cons (fun u w hS hd => ?_) ?_
        · have d99 : u 99 = .bool true := dep hd 32 rfl
          have d100 : u 100 = .bool true := dep hd 33 rfl
          rw [d99, d100]
          exact Gv.run (.bool true) rfl (by go_simp) rfl
        exact Obs.nil
      intro u v9 hS hd
      have d101 : u 101 = .bool true := hd 34 (by decide)
      simp only [List.drop_succ_cons, List.drop_zero]
      have H9 := Lib.hid (H8.out.trans (hS.mono H8.out.size))
      clear hS hd
      rw [d101]
      clear d101
      go_wp2_with fail
      go_ret
      exact ⟨rfl, H9.out⟩
end
end Go.Proofs.Ytljciakgdpihdaa
