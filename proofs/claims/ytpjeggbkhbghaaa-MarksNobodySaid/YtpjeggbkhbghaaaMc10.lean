/-
  Layer 16, the landed code: Styles, Runs. By an AI agent.
-/
import Derived.Test.YtpjeggbkhbghaaaTU
import Derived.Test.YtpjeggbkhbghaaaMs3
import Derived.Test.YtpjeggbkhbghaaaTQ
namespace Go.Proofs.Ytpjeggbkhbghaaa
open Go Go.RowKit
set_option maxRecDepth 20000
theorem Recv.next {w w' : World} {p : Value} {A : Option Addr} {c : Nat} {L : List Mrk} (h : Recv w p A c L) (hb : Below w.heap.size w w') : Recv w' p A c L := ⟨h.1, h.2.1, h.2.2.1.next hb, fun wz hz => h.2.2.2 wz (hb.trans (hz.mono hb.size))⟩
/-- A text whose elements in order are known. -/
def HasNodes (q : Value) (w : World) (N : List Nod) : Prop := N.length ≤ 4096 ∧ (N.map Nod.id).Nodup ∧ Calls Try.prog 34 #[q] w fun e w' => ∃ A c, e = .returned (.slice A N.length c) ∧ RdR nodE w' w'.heap.size A c N ∧ Below w.heap.size w w'
theorem styles16_any {w : World} {p q : Value} {A : Option Addr} {c : Nat} {L : List Mrk} {N : List Nod} (h : Recv w p A c L) (hq : HasNodes q w N) :
    Calls Try.prog 24 #[p, q] w fun e w' => ∃ A' c', e = .returned (.slice A' N.length c') ∧ RdR styE w' w'.heap.size A' c' (styL N L) ∧ Below w.heap.size w w' := by
  obtain ⟨hl, hd, hc⟩ := hq
  have HC := Lib.hid hc
  have HR := Lib.hid (And.intro h (And.intro hl hd))
  clear hl hd hc h
  go_enter Try.func24, Try.ntmps24
  go_wp2_with fail
  go_at_call 34
  refine HC.out.mono ?_
  rintro e v1 ⟨A1, c1, rfl, r1, h1⟩
  have HS := Lib.hid (styles_any (HR.out.1.next h1) r1 rfl HR.out.2.1 HR.out.2.2)
  have H1 := Lib.hid h1
  clear r1 h1
  go_wp2_with fail
  go_at_call 49
  refine HS.out.mono ?_
  rintro e v2 ⟨A2, c2, rfl, o2, h2⟩
  have H2 := Lib.hid (And.intro o2.rd (H1.out.trans (h2.mono H1.out.size)))
  clear o2 h2
  go_wp2_with fail
  go_ret
  exact ⟨A2, c2, rfl, H2.out.1, H2.out.2⟩
set_option maxHeartbeats 12800000 in
theorem runs16_any {w : World} {p q0 : Value} {A : Option Addr} {c n : Nat} {L : List Mrk} {N : List Nod} (h : Recv w p A c L) (hq : HasNodes q0 w N) (hn : N.length = n) :
    Calls Try.prog 27 #[p, q0] w fun e w' => ∃ A' c', e = .returned (.slice A' (runsR N L).length c') ∧ RdR runE w' w'.heap.size A' c' (runsR N L) ∧ Below w.heap.size w w' := by
  obtain ⟨hl, hd, hc⟩ := hq
  obtain ⟨i0, hi0, hz0, hz1, hz2⟩ := info_parts infoRun
  obtain ⟨iR, hiR, hzR0, hzR1, hzR2⟩ := info_parts infoRune
  obtain ⟨iS, hiS, hzS0, hzS1, hzS2⟩ := info_parts infoSty
  have HI := Lib.hid (And.intro hi0 (And.intro hz0 (And.intro hz1 hz2)))
  have HIR := Lib.hid (And.intro hiR (And.intro hzR0 (And.intro hzR1 hzR2)))
  have HIS := Lib.hid (And.intro hiS (And.intro hzS0 (And.intro hzS1 hzS2)))
  rw [hn] at hc hl
  have HC := Lib.hid hc
  have HR := Lib.hid (And.intro h (And.intro hl (And.intro hd hn)))
  have hl9 := hl
  clear hl hd hc h hn hi0 hz0 hz1 hz2 hiR hzR0 hzR1 hzR2 hiS hzS0 hzS1 hzS2
  go_enter Try.func27, Try.ntmps27
  go_wp2_with fail
  go_at_call 34
  refine HC.out.mono ?_
  rintro e v1 ⟨A1, c1, rfl, r1, h1⟩
  have HS := Lib.hid (styles_any (HR.out.1.next h1) r1 HR.out.2.2.2 HR.out.2.1 HR.out.2.2.1)
  have H1 := Lib.hid (And.intro h1 r1)
  clear r1 h1
  go_wp2_with fail
  go_at_call 49
  refine HS.out.mono ?_
  rintro e v2 ⟨A2, c2, rfl, o2, h2⟩
  obtain ⟨S, eS⟩ : ∃ S, S = styL N L := ⟨_, rfl⟩
  rw [← eS] at o2
  have hSl : S.length = n := by rw [eS, styL_len, HR.out.2.2.2]
  have H2 := Lib.hid (And.intro (H1.out.2.next h2) (And.intro o2.rd (And.intro (H1.out.1.trans (h2.mono H1.out.1.size)) (And.intro hSl eS))))
  clear o2 h2 HS HC H1 eS hSl
  go_wp2_with fail
  go_loopw [6, 7, 19] (fun rv sv iv wr => ∃ k : Nat, k ≤ n ∧ iv = .int .i64 (k : Int) ∧ (∃ A6 c6 A7 c7, rv = .slice A6 (visL (N.take k) (S.take k)).length c6 ∧ sv = .slice A7 (visL (N.take k) (S.take k)).length c7 ∧ OwnR runeE wr v2.heap.size 21 A6 c6 ((visL (N.take k) (S.take k)).map Prod.fst) ∧ OwnR styE wr v2.heap.size 55 A7 c7 ((visL (N.take k) (S.take k)).map Prod.snd) ∧ Offs A6 A7) ∧ Below v2.heap.size v2 wr) (fun _ _ iv _ => n - (intF iv).toNat)
  case atStart => exact ⟨0, Nat.zero_le _, rfl, ⟨none, 0, none, 0, rfl, rfl, OwnR.nothing _ _ _ _, OwnR.nothing _ _ _ _, fun _ _ h => nomatch h⟩, Below.refl _ _⟩
  case round =>
    obtain ⟨k, hk, rfl, ⟨A6, c6, A7, c7, rfl, rfl, o6, o7, hoff⟩, hbr⟩ := hrel
    obtain ⟨V, eV⟩ : ∃ V, V = visL (N.take k) (S.take k) := ⟨_, rfl⟩
    have hVl : V.length ≤ k := by rw [eV]; exact Nat.le_trans (visL_len _ _) (by rw [List.length_take]; exact Nat.min_le_left _ _)
    rw [← eV] at o6 o7 ⊢
    obtain ⟨q, eq⟩ : ∃ q, q = V.length := ⟨_, rfl⟩
    rw [← eq] at hVl ⊢
    by_cases hlt : k < n
    · have g1 : (k : Int) < (n : Int) := by omega
      obtain ⟨y, hy⟩ : ∃ y, N[k]? = some y := getD_of (by rw [HR.out.2.2.2]; exact hlt)
      obtain ⟨s, hs⟩ : ∃ s, S[k]? = some s := getD_of (by rw [H2.out.2.2.2.1]; exact hlt)
      obtain ⟨b, o, rfl, hbB, y0, y1, y2, y3⟩ := nod_at (H2.out.1.next hbr) hy
      obtain ⟨b2, o2, rfl, hbB2, s0, s1, s2, s3, s4⟩ := sty_at (H2.out.2.1.next hbr) hs
      obtain ⟨v5, e5⟩ : ∃ v, v = wr.alloc (.cells #[.int .i64 s.a0, .int .i64 s.a1, .int .i64 s.a2, .int .i64 s.a3, .int .i64 s.a4] 55) := ⟨_, rfl⟩
      obtain ⟨g9, eg9⟩ : ∃ g, g = wr.heap.size := ⟨_, rfl⟩
      have hb5 : Below wr.heap.size wr v5 := by rw [e5]; exact (Below.refl _ _).alloc (Nat.le_refl _) _
      have hx : v5.cell? ⟨g9, 0, none⟩ = some (.int .i64 s.a0) ∧ v5.cell? ⟨g9, 1, none⟩ = some (.int .i64 s.a1) ∧ v5.cell? ⟨g9, 2, none⟩ = some (.int .i64 s.a2) ∧ v5.cell? ⟨g9, 3, none⟩ = some (.int .i64 s.a3) ∧ v5.cell? ⟨g9, 4, none⟩ = some (.int .i64 s.a4) := by
        rw [e5, eg9]
        simp
      have hg9 : g9 < v5.heap.size ∧ v2.heap.size ≤ g9 := ⟨by rw [e5, eg9]; simp, by rw [eg9]; exact hbr.size⟩
      have hnx := visL_succ hy hs
      rw [← eV] at hnx
      have p2 := (hb5.cell (p := ⟨b, o + k * 4 + 2, none⟩) hbB).trans y2
      have p3 := (hb5.cell (p := ⟨b, o + k * 4 + 3, none⟩) hbB).trans y3
      have HG9 := Lib.hid (show ∀ ad, A6 = some ad → ad.block ≠ g9 from fun ad e => by have := (o6.blk ad e).2; omega)
      have H6 := Lib.hid (And.intro (o6.keep hb5) (And.intro (o7.keep hb5) (And.intro hoff (hbr.trans (hb5.mono hbr.size)))))
      have HX := Lib.hid (And.intro hx hg9)
      have HNX := Lib.hid (And.intro hnx eq)
      have HK := Lib.hid hlt
      have HQ := Lib.hid (show (V.map Prod.fst).length = q ∧ (V.map Prod.snd).length = q ∧ q + 1 ≤ 140737488355328 ∧ (q + 1) * 4 ≤ 140737488355328 ∧ (q + 1) * 40 ≤ 140737488355328 by rw [List.length_map, List.length_map]; omega)
      have E5 := Lib.hid (And.intro e5 eg9)
      clear hy hs hbB hbB2 y0 y1 y2 y3 hb5 hx hg9 hnx e5 eg9 o6 o7 hoff hbr eV eq hVl hlt hk
      go_upto_region 7 with fail
      rw [← E5.out.1, ← E5.out.2]
      clear E5 s0 s1 s2 s3 s4
      obtain ⟨gn, egn⟩ : ∃ q, q = y.gone := ⟨_, rfl⟩
      rw [← egn] at p3 HNX
      clear egn
      cases gn with
      | true =>
        have HN1 := Lib.hid (show visL (N.take (k + 1)) (S.take (k + 1)) = V by rw [HNX.out.1]; exact List.append_nil _)
        go_wp2_with fail
        go_roundw
        case rel => exact ⟨k + 1, HK.out, by go_num, ⟨A6, c6, A7, c7, by rw [HN1.out, HNX.out.2], by rw [HN1.out, HNX.out.2], by rw [HN1.out]; exact H6.out.1, by rw [HN1.out]; exact H6.out.2.1, H6.out.2.2.1⟩, H6.out.2.2.2⟩
        case measure => simp [intF]; have := HK.out; omega
      | false =>
        have HN1 := Lib.hid (show visL (N.take (k + 1)) (S.take (k + 1)) = V ++ [(y.rune, s)] by rw [HNX.out.1]; rfl)
        go_upto_region 9 with (at_builtin; refine wpList_appR1 v5 rfl (.tmp 30) (.tmp 36) _ rfl v2.heap.size 21 iR _ Try.underlying98 HIR.out.1 HIR.out.2.1 HIR.out.2.2.1 HIR.out.2.2.2 rfl HQ.out.1 rfl H6.out.1 (y := y.rune) rfl rfl HQ.out.2.2.1 HQ.out.2.2.2.1 H6.out.2.2.2.size ?_; intro A8 c8 w8 o8 hb8 hg8; have HG8 := Lib.hid hg8; have HW8 := Lib.hid (And.intro o8 (And.intro (H6.out.2.2.2.trans hb8) (And.intro (H6.out.2.1.grown (hg8.1 c6 q) H6.out.2.2.1) (hg8.off H6.out.2.2.1 (fun ad2 h2 => (H6.out.2.1.blk ad2 h2).2))))); clear o8 hb8 hg8)
        have s0 := cell_grown (HG8.out.1 c6 q) HX.out.1.1 HG9.out
        have s1 := cell_grown (HG8.out.1 c6 q) HX.out.1.2.1 HG9.out
        have s2 := cell_grown (HG8.out.1 c6 q) HX.out.1.2.2.1 HG9.out
        have s3 := cell_grown (HG8.out.1 c6 q) HX.out.1.2.2.2.1 HG9.out
        have s4 := cell_grown (HG8.out.1 c6 q) HX.out.1.2.2.2.2 HG9.out
        go_wp2_with (at_builtin; refine wpList_appR1 w8 rfl (.tmp 38) (.tmp 40) _ rfl v2.heap.size 55 iS _ Try.underlying52 HIS.out.1 HIS.out.2.1 HIS.out.2.2.1 HIS.out.2.2.2 rfl HQ.out.2.1 rfl HW8.out.2.2.1 (y := s) rfl rfl HQ.out.2.2.1 HQ.out.2.2.2.2 HW8.out.2.1.size ?_; intro Ab cb wb ob hbb hgb; have HWB := Lib.hid (And.intro ob (And.intro (HW8.out.2.1.trans hbb) (And.intro (HW8.out.1.grown (hgb.1 c7 q) (fun a1 a2 e1 e2 he => HW8.out.2.2.2 a2 a1 e2 e1 he.symm)) (show Offs A8 Ab from fun a1 a2 e1 e2 he => hgb.off (A2 := A8) (fun a1 a2 e1 e2 he => HW8.out.2.2.2 a2 a1 e2 e1 he.symm) (fun ad2 h2 => (HW8.out.1.blk ad2 h2).2) a2 a1 e2 e1 he.symm)))); clear ob hbb hgb)
        go_roundw
        case rel => exact ⟨k + 1, HK.out, by go_num, ⟨A8, c8, Ab, cb, by rw [HN1.out, List.length_append, HNX.out.2]; rfl, by rw [HN1.out, List.length_append, HNX.out.2]; rfl, by rw [HN1.out, List.map_append]; exact HWB.out.2.2.1, by rw [HN1.out, List.map_append]; exact HWB.out.1, HWB.out.2.2.2⟩, HWB.out.2.1⟩
        case measure => simp [intF]; have := HK.out; omega
    · obtain rfl : n = k := by omega
      have hNn : N.take n = N := by rw [← HR.out.2.2.2, List.take_length]
      have hSn : S.take n = S := by rw [← H2.out.2.2.2.1, List.take_length]
      rw [hNn, hSn] at eV
      obtain ⟨va, eva⟩ : ∃ v, v = wr := ⟨_, rfl⟩
      subst eva
      have HR6 := Lib.hid o6.rd
      have HR7 := Lib.hid o7.rd
      have HVF := Lib.hid (And.intro eV (And.intro eq (H2.out.2.2.1.trans (hbr.mono H2.out.2.2.1.size))))
      have hq9 : q ≤ 4096 := Nat.le_trans hVl hl9
      clear o6 o7 hoff hbr eV eq hVl hNn hSn hlt hk
      go_wp2_with fail
      go_loopw [10, 11, 45] (fun ov fv iv wr => ∃ (i f : Nat) (o : List Rn), i ≤ q ∧ f ≤ i ∧ o.length ≤ i ∧ fv = .int .i64 (f : Int) ∧ iv = .int .i64 (i : Int) ∧ (∃ Ao co, ov = .slice Ao o.length co ∧ OwnR runE wr va.heap.size 66 Ao co o) ∧ CutI V o f i ∧ Below va.heap.size va wr) (fun _ _ iv _ => q - (intF iv).toNat)
      case atStart => exact ⟨0, 0, [], Nat.zero_le _, Nat.le_refl _, Nat.le_refl _, rfl, rfl, ⟨none, 0, rfl, OwnR.nothing _ _ _ _⟩, cut_zero V, Below.refl _ _⟩
      case round =>
        obtain ⟨i, f, o, hiq, hfi, hol, rfl, rfl, ⟨Ao, co, rfl, oo⟩, hcut, hbr⟩ := hrel
        obtain ⟨ln, eln⟩ : ∃ l, l = o.length := ⟨_, rfl⟩
        rw [← eln]
        by_cases hlt : i < q
        case neg =>
          obtain rfl : i = q := by omega
          have HF := Lib.hid (And.intro oo (And.intro (hcut.last HVF.out.2.1) (And.intro hbr eln)))
          clear oo hcut hbr hlt hiq hfi hol eln
          go_wp2_with fail
          go_ret
          have hrr : runsR N L = o := by
            unfold runsR
            rw [← H2.out.2.2.2.2, ← HVF.out.1]
            exact HF.out.2.1
          refine ⟨Ao, co, ?_, by rw [hrr]; exact HF.out.1.rd, HVF.out.2.2.trans (HF.out.2.2.1.mono HVF.out.2.2.size)⟩
          rw [hrr, ← HF.out.2.2.2]
          rfl
        have g1 : (i : Int) < (q : Int) := by omega
        obtain ⟨⟨xr, xs⟩, hx⟩ : ∃ x, V[i]? = some x := getD_of (by rw [← HVF.out.2.1]; exact hlt)
        obtain ⟨i1, ei⟩ : ∃ k, k = i + 1 := ⟨_, rfl⟩
        have hw1 : IntKind.i64.wrap ((i : Int) + 1) = (i1 : Int) := by rw [IntKind.wrap_i64]; omega
        have hx6 : (V.map Prod.fst)[i]? = some xr := by rw [List.getElem?_map, hx]; rfl
        have hx7 : (V.map Prod.snd)[i]? = some xs := by rw [List.getElem?_map, hx]; rfl
        obtain ⟨b6, o6, rfl, hb6, _⟩ := (HR6.out.next hbr).at_ hx6
        have hcap6 := HR6.out.cap
        rw [List.length_map, ← HVF.out.2.1] at hcap6
        obtain ⟨b7, o7, rfl, hb7, x0, x1, x2, x3, x4⟩ := sty_at (HR7.out.next hbr) hx7
        obtain ⟨T, eT⟩ : ∃ T, T = textV ((V.take (i + 1)).drop f) := ⟨_, rfl⟩
        have HCV := Lib.hid (fun wz (hz : Below wr.heap.size wr wz) => show (convert 98 9 (.slice (some ⟨b6, o6 + f, none⟩) (i1 - f) (c6 - f))).run Try.prog wz = .ok (.string T) wz from by
          have h := conv_runes ((HR6.out.next hbr).next hz) (f := f) (t := i1) (by omega) (by rw [List.length_map, ← HVF.out.2.1]; omega) (c6 - f)
          rw [h, eT, ei]
          unfold textV
          rw [List.map_drop, List.map_take])
        have HX5 := Lib.hid (fun wz (hz : Below wr.heap.size wr wz) => show (wz.cell? ⟨b7, o7 + i * 5, none⟩ = some (.int .i64 xs.a0) ∧ wz.cell? ⟨b7, o7 + i * 5 + 1, none⟩ = some (.int .i64 xs.a1) ∧ wz.cell? ⟨b7, o7 + i * 5 + 2, none⟩ = some (.int .i64 xs.a2) ∧ wz.cell? ⟨b7, o7 + i * 5 + 3, none⟩ = some (.int .i64 xs.a3) ∧ wz.cell? ⟨b7, o7 + i * 5 + 4, none⟩ = some (.int .i64 xs.a4)) from ⟨(hz.cell (p := ⟨b7, o7 + i * 5, none⟩) hb7).trans x0, (hz.cell (p := ⟨b7, o7 + i * 5 + 1, none⟩) hb7).trans x1, (hz.cell (p := ⟨b7, o7 + i * 5 + 2, none⟩) hb7).trans x2, (hz.cell (p := ⟨b7, o7 + i * 5 + 3, none⟩) hb7).trans x3, (hz.cell (p := ⟨b7, o7 + i * 5 + 4, none⟩) hb7).trans x4⟩)
        have HI1 := Lib.hid (show i1 ≤ q ∧ i1 = i + 1 ∧ i < q ∧ o.length ≤ i ∧ f ≤ i by omega)
        have HLN := Lib.hid (show o.length = ln ∧ ln + 1 ≤ 140737488355328 ∧ (ln + 1) * 56 ≤ 140737488355328 by omega)
        have HOO := Lib.hid oo
        have HBR := Lib.hid hbr
        have HCT := Lib.hid (And.intro hcut (And.intro hx (And.intro eT ei)))
        have j1 : ¬ (c6 = f) := by omega
        have j2 : (f : Int) ≤ (i1 : Int) := by omega
        have j3 : (i1 : Int) ≤ (c6 : Int) := by omega
        have j4 : (f : Int) ≤ (c6 : Int) := by omega
        have HB7 := Lib.hid (And.intro hb7 (HR7.out.next hbr))
        clear oo hbr hcut hx hx6 hx7 hb6 hb7 x0 x1 x2 x3 x4 eT hcap6 hiq hfi hol eln hlt
        by_cases hlast : i1 = q
        · have l1 : ((i1 : Int) == (q : Int)) = true := by simp [hlast]
          have HCUT := Lib.hid (show CutI V (o ++ [⟨T, xs⟩]) i1 i1 by
            have h := cut_off HCT.out.1 HCT.out.2.1 (fun y hy => by
              have := (List.getElem?_eq_some_iff.1 hy).1
              have h1 := HVF.out.2.1
              have h2 := HCT.out.2.2.2
              omega)
            rw [HCT.out.2.2.1, HCT.out.2.2.2]
            exact h)
          have HS := HX5
          clear hlast ei
          go_upto_region 16 with fail
          refine wp_region_inv 16 [48, 49, 50, 51, 52, 53, 54, 55, 56, 57, 58, 59, 60, 61, 62, 63] [.val (.int .i64 (i : Int)), .val (.int .i64 (i1 : Int)), .val (.slice (some ⟨b6, o6, none⟩) q c6), .val (.int .i64 (q : Int)), .val (.bool true), .val (.bool true), .val undef, .val undef, .val undef, .val undef, .val undef, .val undef, .val undef, .val undef, .val undef, .val undef] (fun wz => Below wr.heap.size wr wz) (by kernel_rfl) (by kernel_rfl) (fun wz wz' hz hb => hz.trans (hb.mono hz.size)) ((Below.refl _ _).drew) (fun u => by simp only [puts, List.foldl_cons, List.foldl_nil]; go_simp; exact rfl) ?_ ?_
          · simp only [List.take_succ_cons, List.take_zero]
            refine Obs.cons (fun u w hS hd => ?_) ?_
            · exact Gv.run (.int .i64 (i : Int)) rfl (by go_simp) rfl
            refine Obs.cons (fun u w hS hd => ?_) ?_
            · have d48 : u 48 = .int .i64 (i : Int) := dep hd 0 rfl
              rw [d48]
              exact Gv.run (.int .i64 (i1 : Int)) rfl (by go_simp) rfl
            refine Obs.cons (fun u w hS hd => ?_) ?_
            · exact Gv.run (.slice (some ⟨b6, o6, none⟩) q c6) rfl (by go_simp) rfl
            refine Obs.cons (fun u w hS hd => ?_) ?_
            · have d50 : u 50 = .slice (some ⟨b6, o6, none⟩) q c6 := dep hd 2 rfl
              rw [d50]
              exact Gv.run (.int .i64 (q : Int)) rfl (by go_simp) rfl
            refine Obs.cons (fun u w hS hd => ?_) ?_
            · have d49 : u 49 = .int .i64 (i1 : Int) := dep hd 1 rfl
              have d51 : u 51 = .int .i64 (q : Int) := dep hd 3 rfl
              rw [d49, d51]
              exact Gv.run (.bool true) rfl (by go_simp) rfl
            refine Obs.cons (fun u w hS hd => ?_) ?_
            · have d52 : u 52 = .bool true := dep hd 4 rfl
              rw [d52]
              exact Gv.run (.bool true) rfl (by go_simp) rfl
            refine Obs.cons (fun u w hS hd => ?_) ?_
            · have d53 : u 53 = .bool true := dep hd 5 rfl
              rw [d53]
              exact Gv.skip (by rfl) rfl
            refine Obs.cons (fun u w hS hd => ?_) ?_
            · have d53 : u 53 = .bool true := dep hd 5 rfl
              rw [d53]
              exact Gv.skip (by rfl) rfl
            refine Obs.cons (fun u w hS hd => ?_) ?_
            · have d55 : u 55 = undef := dep hd 7 rfl
              have d53 : u 53 = .bool true := dep hd 5 rfl
              rw [d55, d53]
              exact Gv.skip (by rfl) rfl
            refine Obs.cons (fun u w hS hd => ?_) ?_
            · have d54 : u 54 = undef := dep hd 6 rfl
              have d56 : u 56 = undef := dep hd 8 rfl
              have d53 : u 53 = .bool true := dep hd 5 rfl
              rw [d54, d56, d53]
              exact Gv.skip (by rfl) rfl
            refine Obs.cons (fun u w hS hd => ?_) ?_
            · have d57 : u 57 = undef := dep hd 9 rfl
              have d53 : u 53 = .bool true := dep hd 5 rfl
              rw [d57, d53]
              exact Gv.skip (by rfl) rfl
            refine Obs.cons (fun u w hS hd => ?_) ?_
            · have d53 : u 53 = .bool true := dep hd 5 rfl
              rw [d53]
              exact Gv.skip (by rfl) rfl
            refine Obs.cons (fun u w hS hd => ?_) ?_
            · have d53 : u 53 = .bool true := dep hd 5 rfl
              rw [d53]
              exact Gv.skip (by rfl) rfl
            refine Obs.cons (fun u w hS hd => ?_) ?_
            · have d59 : u 59 = undef := dep hd 11 rfl
              have d60 : u 60 = undef := dep hd 12 rfl
              have d53 : u 53 = .bool true := dep hd 5 rfl
              rw [d59, d60, d53]
              exact Gv.skip (by rfl) rfl
            refine Obs.cons (fun u w hS hd => ?_) ?_
            · have d61 : u 61 = undef := dep hd 13 rfl
              have d53 : u 53 = .bool true := dep hd 5 rfl
              rw [d61, d53]
              exact Gv.skip (by rfl) rfl
            refine Obs.cons (fun u w hS hd => ?_) ?_
            · have d58 : u 58 = undef := dep hd 10 rfl
              have d62 : u 62 = undef := dep hd 14 rfl
              have d53 : u 53 = .bool true := dep hd 5 rfl
              rw [d58, d62, d53]
              exact Gv.skip (by rfl) rfl
            exact Obs.nil
          intro u v4 hS hd
          have d53 : u 53 = .bool true := hd 5 (by decide)
          rw [d53]
          simp only [List.drop_succ_cons, List.drop_zero]
          have HS4 := Lib.hid hS
          clear hS hd d53
          go_wp2_with fail
          have HON := Lib.hid (HOO.out.keep HS4.out)
          have HBQ := Lib.hid (HBR.out.trans (HS4.out.mono HBR.out.size))
          have HS := Lib.hid (fun wz (hz : Below v4.heap.size v4 wz) => HX5.out wz (HS4.out.trans (hz.mono HS4.out.size)))
          have HCV := Lib.hid (fun wz (hz : Below v4.heap.size v4 wz) => HCV.out wz (HS4.out.trans (hz.mono HS4.out.size)))
          clear HS4
          go_upto_region 17 with fail
          refine wp_region_inv 13 [65, 66, 67, 68, 69, 70, 71, 72, 73, 74, 75, 76, 77] [.val (.slice Ao ln co), .val (.slice (some ⟨b6, o6, none⟩) q c6), .val (.int .i64 (f : Int)), .val (.int .i64 (i : Int)), .val (.int .i64 (i1 : Int)), .val (.slice (some ⟨b6, o6 + f, none⟩) (i1 - f) (c6 - f)), .val (.string T), .val (.slice (some ⟨b7, o7, none⟩) q c7), .val (.int .i64 (i : Int)), .val (.pointer (some ⟨b7, o7 + i * 5, none⟩)), .val (.agg #[.int .i64 xs.a0, .int .i64 xs.a1, .int .i64 xs.a2, .int .i64 xs.a3, .int .i64 xs.a4]), .val (.agg #[.string T, .int .i64 xs.a0, .int .i64 xs.a1, .int .i64 xs.a2, .int .i64 xs.a3, .int .i64 xs.a4]), (kRow runE 1 [(⟨T, xs⟩ : Rn)])] (fun wz => Below v4.heap.size v4 wz) (by kernel_rfl) (by kernel_rfl) (fun wz wz' hz hb => hz.trans (hb.mono hz.size)) ((Below.refl _ _).drew) (fun u => by simp only [puts, List.foldl_cons, List.foldl_nil]; go_simp; exact rfl) ?_ ?_
          · simp only [List.take_succ_cons, List.take_zero]
            refine Obs.cons (fun u w hS hd => ?_) ?_
            · exact Gv.run (.slice Ao ln co) rfl (by go_simp) rfl
            refine Obs.cons (fun u w hS hd => ?_) ?_
            · exact Gv.run (.slice (some ⟨b6, o6, none⟩) q c6) rfl (by go_simp) rfl
            refine Obs.cons (fun u w hS hd => ?_) ?_
            · exact Gv.run (.int .i64 (f : Int)) rfl (by go_simp) rfl
            refine Obs.cons (fun u w hS hd => ?_) ?_
            · exact Gv.run (.int .i64 (i : Int)) rfl (by go_simp) rfl
            refine Obs.cons (fun u w hS hd => ?_) ?_
            · have d68 : u 68 = .int .i64 (i : Int) := dep hd 3 rfl
              rw [d68]
              exact Gv.run (.int .i64 (i1 : Int)) rfl (by go_simp) rfl
            refine Obs.cons (fun u w hS hd => ?_) ?_
            · have d66 : u 66 = .slice (some ⟨b6, o6, none⟩) q c6 := dep hd 1 rfl
              have d67 : u 67 = .int .i64 (f : Int) := dep hd 2 rfl
              have d69 : u 69 = .int .i64 (i1 : Int) := dep hd 4 rfl
              rw [d66, d67, d69]
              exact Gv.run (.slice (some ⟨b6, o6 + f, none⟩) (i1 - f) (c6 - f)) rfl (by go_simp) rfl
            refine Obs.cons (fun u w hS hd => ?_) ?_
            · have d70 : u 70 = .slice (some ⟨b6, o6 + f, none⟩) (i1 - f) (c6 - f) := dep hd 5 rfl
              rw [d70]
              exact Gv.run (.string T) rfl (by have hcv := HCV.out w hS; go_simp) rfl
            refine Obs.cons (fun u w hS hd => ?_) ?_
            · exact Gv.run (.slice (some ⟨b7, o7, none⟩) q c7) rfl (by go_simp) rfl
            refine Obs.cons (fun u w hS hd => ?_) ?_
            · exact Gv.run (.int .i64 (i : Int)) rfl (by go_simp) rfl
            refine Obs.cons (fun u w hS hd => ?_) ?_
            · have d72 : u 72 = .slice (some ⟨b7, o7, none⟩) q c7 := dep hd 7 rfl
              have d73 : u 73 = .int .i64 (i : Int) := dep hd 8 rfl
              rw [d72, d73]
              exact Gv.run (.pointer (some ⟨b7, o7 + i * 5, none⟩)) rfl (by go_simp) rfl
            refine Obs.cons (fun u w hS hd => ?_) ?_
            · have d74 : u 74 = .pointer (some ⟨b7, o7 + i * 5, none⟩) := dep hd 9 rfl
              rw [d74]
              exact Gv.run (.agg #[.int .i64 xs.a0, .int .i64 xs.a1, .int .i64 xs.a2, .int .i64 xs.a3, .int .i64 xs.a4]) rfl (by obtain ⟨x0, x1, x2, x3, x4⟩ := HS.out w hS; go_simp) rfl
            refine Obs.cons (fun u w hS hd => ?_) ?_
            · have d71 : u 71 = .string T := dep hd 6 rfl
              have d75 : u 75 = .agg #[.int .i64 xs.a0, .int .i64 xs.a1, .int .i64 xs.a2, .int .i64 xs.a3, .int .i64 xs.a4] := dep hd 10 rfl
              rw [d71, d75]
              exact Gv.run (.agg #[.string T, .int .i64 xs.a0, .int .i64 xs.a1, .int .i64 xs.a2, .int .i64 xs.a3, .int .i64 xs.a4]) rfl (by go_simp) rfl
            refine Obs.cons (fun u w hS hd => ?_) ?_
            · have d76 : u 76 = .agg #[.string T, .int .i64 xs.a0, .int .i64 xs.a1, .int .i64 xs.a2, .int .i64 xs.a3, .int .i64 xs.a4] := dep hd 11 rfl
              rw [d76]
              refine Gv.make (.slice (some ⟨w.heap.size, 0, none⟩) 1 1) (w.alloc (.cells #[.string T, .int .i64 xs.a0, .int .i64 xs.a1, .int .i64 xs.a2, .int .i64 xs.a3, .int .i64 xs.a4] 66)) rfl (by go_simp) ⟨_, _, rfl, ?_⟩ ((Below.refl _ w).alloc (Nat.le_refl _) _)
              exact (OwnR.lit (E := runE) (w := w) 66 (Nat.le_refl _) #[.string T, .int .i64 xs.a0, .int .i64 xs.a1, .int .i64 xs.a2, .int .i64 xs.a3, .int .i64 xs.a4] [(⟨T, xs⟩ : Rn)] (by simp [maxLen]) rfl).rd
            exact Obs.nil
          intro u v8 hS hd
          have d65 : u 65 = .slice Ao ln co := hd 0 (by decide)
          obtain ⟨A9, c9, d77, r9⟩ : (kRow runE 1 [(⟨T, xs⟩ : Rn)]).ok (u 77) v8 := hd 12 (by decide)
          rw [d65, d77]
          simp only [List.drop_succ_cons, List.drop_zero]
          have on := HON.out.keep hS
          have HR9 := Lib.hid r9
          have HO9 := Lib.hid on
          have HB9 := Lib.hid (HBQ.out.trans (hS.mono HBQ.out.size))
          clear hS hd d65 d77 r9 on HON HBQ
          go_wp2_with (at_builtin; refine wpList_appR v8 rfl (.tmp 65) (.tmp 77) _ rfl va.heap.size 66 i0 _ Try.underlying59 HI.out.1 HI.out.2.1 HI.out.2.2.1 HI.out.2.2.2 rfl HLN.out.1 rfl HO9.out (M := [(⟨T, xs⟩ : Rn)]) rfl rfl HR9.out HLN.out.2.1 HLN.out.2.2 HB9.out.size ?_; intro A8 c8 w8 o8 hb8 hg8; have HW := Lib.hid (And.intro o8 (HB9.out.trans hb8)); clear o8 hb8 hg8)
          go_roundw
          case rel => exact ⟨i1, i1, o ++ [⟨T, xs⟩], HI1.out.1, Nat.le_refl _, by rw [List.length_append]; have := HI1.out; simp; omega, by go_num, by go_num, ⟨A8, c8, by rw [List.length_append, HLN.out.1]; rfl, HW.out.1⟩, HCUT.out, HW.out.2⟩
          case measure => simp [intF]; have := HI1.out; omega
        · have l1 : ((i1 : Int) == (q : Int)) = false := by simp; omega
          obtain ⟨⟨yr, ys⟩, hy⟩ : ∃ y, V[i + 1]? = some y := getD_of (by have := HVF.out.2.1; have := HI1.out; omega)
          have hy7 : (V.map Prod.snd)[i1]? = some ys := by rw [ei, List.getElem?_map, hy]; rfl
          obtain ⟨b8, o8, e8, hb8, z0, z1, z2, z3, z4⟩ := sty_at HB7.out.2 hy7
          simp only [Option.some.injEq, Addr.mk.injEq, and_true] at e8
          obtain ⟨rfl, rfl⟩ := e8
          have HS := Lib.hid (fun wz (hz : Below wr.heap.size wr wz) => show (wz.cell? ⟨b7, o7 + i * 5, none⟩ = some (.int .i64 xs.a0) ∧ wz.cell? ⟨b7, o7 + i * 5 + 1, none⟩ = some (.int .i64 xs.a1) ∧ wz.cell? ⟨b7, o7 + i * 5 + 2, none⟩ = some (.int .i64 xs.a2) ∧ wz.cell? ⟨b7, o7 + i * 5 + 3, none⟩ = some (.int .i64 xs.a3) ∧ wz.cell? ⟨b7, o7 + i * 5 + 4, none⟩ = some (.int .i64 xs.a4) ∧ wz.cell? ⟨b7, o7 + i1 * 5, none⟩ = some (.int .i64 ys.a0) ∧ wz.cell? ⟨b7, o7 + i1 * 5 + 1, none⟩ = some (.int .i64 ys.a1) ∧ wz.cell? ⟨b7, o7 + i1 * 5 + 2, none⟩ = some (.int .i64 ys.a2) ∧ wz.cell? ⟨b7, o7 + i1 * 5 + 3, none⟩ = some (.int .i64 ys.a3) ∧ wz.cell? ⟨b7, o7 + i1 * 5 + 4, none⟩ = some (.int .i64 ys.a4)) from by
            obtain ⟨x0, x1, x2, x3, x4⟩ := HX5.out wz hz
            exact ⟨x0, x1, x2, x3, x4, (hz.cell (p := ⟨b7, o7 + i1 * 5, none⟩) hb8).trans z0, (hz.cell (p := ⟨b7, o7 + i1 * 5 + 1, none⟩) hb8).trans z1, (hz.cell (p := ⟨b7, o7 + i1 * 5 + 2, none⟩) hb8).trans z2, (hz.cell (p := ⟨b7, o7 + i1 * 5 + 3, none⟩) hb8).trans z3, (hz.cell (p := ⟨b7, o7 + i1 * 5 + 4, none⟩) hb8).trans z4⟩)
          have g5 : (i1 : Int) < (q : Int) := by have := HI1.out; omega
          have hq := fun wz => eqSty10000 ys xs wz
          have HY := Lib.hid hy
          clear hy hy7 hb8 z0 z1 z2 z3 z4 hlast ei
          by_cases hst : ys = xs
          · rw [decide_eq_true hst] at hq
            have HCUT := Lib.hid (show CutI V o f i1 by
              rw [HCT.out.2.2.2]
              exact cut_go HCT.out.1 HI1.out.2.2.2.2 HCT.out.2.1 HY.out hst)
            clear hst
            go_upto_region 16 with fail
            refine wp_region_inv 16 [48, 49, 50, 51, 52, 53, 54, 55, 56, 57, 58, 59, 60, 61, 62, 63] [.val (.int .i64 (i : Int)), .val (.int .i64 (i1 : Int)), .val (.slice (some ⟨b6, o6, none⟩) q c6), .val (.int .i64 (q : Int)), .val (.bool false), .val (.bool false), .val (.slice (some ⟨b7, o7, none⟩) q c7), .val (.int .i64 (i : Int)), .val (.int .i64 (i1 : Int)), .val (.pointer (some ⟨b7, o7 + i1 * 5, none⟩)), .val (.agg #[.int .i64 ys.a0, .int .i64 ys.a1, .int .i64 ys.a2, .int .i64 ys.a3, .int .i64 ys.a4]), .val (.slice (some ⟨b7, o7, none⟩) q c7), .val (.int .i64 (i : Int)), .val (.pointer (some ⟨b7, o7 + i * 5, none⟩)), .val (.agg #[.int .i64 xs.a0, .int .i64 xs.a1, .int .i64 xs.a2, .int .i64 xs.a3, .int .i64 xs.a4]), .val (.bool false)] (fun wz => Below wr.heap.size wr wz) (by kernel_rfl) (by kernel_rfl) (fun wz wz' hz hb => hz.trans (hb.mono hz.size)) ((Below.refl _ _).drew) (fun u => by simp only [puts, List.foldl_cons, List.foldl_nil]; go_simp; exact rfl) ?_ ?_
            · simp only [List.take_succ_cons, List.take_zero]
              refine Obs.cons (fun u w hS hd => ?_) ?_
              · exact Gv.run (.int .i64 (i : Int)) rfl (by go_simp) rfl
              refine Obs.cons (fun u w hS hd => ?_) ?_
              · have d48 : u 48 = .int .i64 (i : Int) := dep hd 0 rfl
                rw [d48]
                exact Gv.run (.int .i64 (i1 : Int)) rfl (by go_simp) rfl
              refine Obs.cons (fun u w hS hd => ?_) ?_
              · exact Gv.run (.slice (some ⟨b6, o6, none⟩) q c6) rfl (by go_simp) rfl
              refine Obs.cons (fun u w hS hd => ?_) ?_
              · have d50 : u 50 = .slice (some ⟨b6, o6, none⟩) q c6 := dep hd 2 rfl
                rw [d50]
                exact Gv.run (.int .i64 (q : Int)) rfl (by go_simp) rfl
              refine Obs.cons (fun u w hS hd => ?_) ?_
              · have d49 : u 49 = .int .i64 (i1 : Int) := dep hd 1 rfl
                have d51 : u 51 = .int .i64 (q : Int) := dep hd 3 rfl
                rw [d49, d51]
                exact Gv.run (.bool false) rfl (by go_simp) rfl
              refine Obs.cons (fun u w hS hd => ?_) ?_
              · have d52 : u 52 = .bool false := dep hd 4 rfl
                rw [d52]
                exact Gv.run (.bool false) rfl (by go_simp) rfl
              refine Obs.cons (fun u w hS hd => ?_) ?_
              · have d53 : u 53 = .bool false := dep hd 5 rfl
                rw [d53]
                exact Gv.run (.slice (some ⟨b7, o7, none⟩) q c7) rfl (by go_simp) rfl
              refine Obs.cons (fun u w hS hd => ?_) ?_
              · have d53 : u 53 = .bool false := dep hd 5 rfl
                rw [d53]
                exact Gv.run (.int .i64 (i : Int)) rfl (by go_simp) rfl
              refine Obs.cons (fun u w hS hd => ?_) ?_
              · have d55 : u 55 = .int .i64 (i : Int) := dep hd 7 rfl
                have d53 : u 53 = .bool false := dep hd 5 rfl
                rw [d55, d53]
                exact Gv.run (.int .i64 (i1 : Int)) rfl (by go_simp) rfl
              refine Obs.cons (fun u w hS hd => ?_) ?_
              · have d54 : u 54 = .slice (some ⟨b7, o7, none⟩) q c7 := dep hd 6 rfl
                have d56 : u 56 = .int .i64 (i1 : Int) := dep hd 8 rfl
                have d53 : u 53 = .bool false := dep hd 5 rfl
                rw [d54, d56, d53]
                exact Gv.run (.pointer (some ⟨b7, o7 + i1 * 5, none⟩)) rfl (by go_simp) rfl
              refine Obs.cons (fun u w hS hd => ?_) ?_
              · have d57 : u 57 = .pointer (some ⟨b7, o7 + i1 * 5, none⟩) := dep hd 9 rfl
                have d53 : u 53 = .bool false := dep hd 5 rfl
                rw [d57, d53]
                exact Gv.run (.agg #[.int .i64 ys.a0, .int .i64 ys.a1, .int .i64 ys.a2, .int .i64 ys.a3, .int .i64 ys.a4]) rfl (by obtain ⟨x0, x1, x2, x3, x4, z0, z1, z2, z3, z4⟩ := HS.out w hS; go_simp) rfl
              refine Obs.cons (fun u w hS hd => ?_) ?_
              · have d53 : u 53 = .bool false := dep hd 5 rfl
                rw [d53]
                exact Gv.run (.slice (some ⟨b7, o7, none⟩) q c7) rfl (by go_simp) rfl
              refine Obs.cons (fun u w hS hd => ?_) ?_
              · have d53 : u 53 = .bool false := dep hd 5 rfl
                rw [d53]
                exact Gv.run (.int .i64 (i : Int)) rfl (by go_simp) rfl
              refine Obs.cons (fun u w hS hd => ?_) ?_
              · have d59 : u 59 = .slice (some ⟨b7, o7, none⟩) q c7 := dep hd 11 rfl
                have d60 : u 60 = .int .i64 (i : Int) := dep hd 12 rfl
                have d53 : u 53 = .bool false := dep hd 5 rfl
                rw [d59, d60, d53]
                exact Gv.run (.pointer (some ⟨b7, o7 + i * 5, none⟩)) rfl (by go_simp) rfl
              refine Obs.cons (fun u w hS hd => ?_) ?_
              · have d61 : u 61 = .pointer (some ⟨b7, o7 + i * 5, none⟩) := dep hd 13 rfl
                have d53 : u 53 = .bool false := dep hd 5 rfl
                rw [d61, d53]
                exact Gv.run (.agg #[.int .i64 xs.a0, .int .i64 xs.a1, .int .i64 xs.a2, .int .i64 xs.a3, .int .i64 xs.a4]) rfl (by obtain ⟨x0, x1, x2, x3, x4, z0, z1, z2, z3, z4⟩ := HS.out w hS; go_simp) rfl
              refine Obs.cons (fun u w hS hd => ?_) ?_
              · have d58 : u 58 = .agg #[.int .i64 ys.a0, .int .i64 ys.a1, .int .i64 ys.a2, .int .i64 ys.a3, .int .i64 ys.a4] := dep hd 10 rfl
                have d62 : u 62 = .agg #[.int .i64 xs.a0, .int .i64 xs.a1, .int .i64 xs.a2, .int .i64 xs.a3, .int .i64 xs.a4] := dep hd 14 rfl
                have d53 : u 53 = .bool false := dep hd 5 rfl
                rw [d58, d62, d53]
                exact Gv.run (.bool false) rfl (by go_simp) rfl
              exact Obs.nil
            intro u v4 hS hd
            have d53 : u 53 = .bool false := hd 5 (by decide)
            have d63 : u 63 = .bool false := hd 15 (by decide)
            rw [d53, d63]
            simp only [List.drop_succ_cons, List.drop_zero]
            have HS4 := Lib.hid hS
            clear hS hd d53 d63
            go_wp2_with fail
            go_roundw
            case rel => exact ⟨i1, f, o, HI1.out.1, by have := HI1.out; omega, by have := HI1.out; omega, rfl, by go_num, ⟨Ao, co, by rw [HLN.out.1], HOO.out.keep HS4.out⟩, HCUT.out, HBR.out.trans (HS4.out.mono HBR.out.size)⟩
            case measure => simp [intF]; have := HI1.out; omega
          · rw [decide_eq_false hst] at hq
            have HCUT := Lib.hid (show CutI V (o ++ [⟨T, xs⟩]) i1 i1 by
              have h := cut_off HCT.out.1 HCT.out.2.1 (fun y hy => by
                rw [HY.out] at hy
                obtain rfl := Option.some.inj hy
                exact hst)
              rw [HCT.out.2.2.1, HCT.out.2.2.2]
              exact h)
            clear hst
            go_upto_region 16 with fail
            refine wp_region_inv 16 [48, 49, 50, 51, 52, 53, 54, 55, 56, 57, 58, 59, 60, 61, 62, 63] [.val (.int .i64 (i : Int)), .val (.int .i64 (i1 : Int)), .val (.slice (some ⟨b6, o6, none⟩) q c6), .val (.int .i64 (q : Int)), .val (.bool false), .val (.bool false), .val (.slice (some ⟨b7, o7, none⟩) q c7), .val (.int .i64 (i : Int)), .val (.int .i64 (i1 : Int)), .val (.pointer (some ⟨b7, o7 + i1 * 5, none⟩)), .val (.agg #[.int .i64 ys.a0, .int .i64 ys.a1, .int .i64 ys.a2, .int .i64 ys.a3, .int .i64 ys.a4]), .val (.slice (some ⟨b7, o7, none⟩) q c7), .val (.int .i64 (i : Int)), .val (.pointer (some ⟨b7, o7 + i * 5, none⟩)), .val (.agg #[.int .i64 xs.a0, .int .i64 xs.a1, .int .i64 xs.a2, .int .i64 xs.a3, .int .i64 xs.a4]), .val (.bool true)] (fun wz => Below wr.heap.size wr wz) (by kernel_rfl) (by kernel_rfl) (fun wz wz' hz hb => hz.trans (hb.mono hz.size)) ((Below.refl _ _).drew) (fun u => by simp only [puts, List.foldl_cons, List.foldl_nil]; go_simp; exact rfl) ?_ ?_
            · simp only [List.take_succ_cons, List.take_zero]
              refine Obs.cons (fun u w hS hd => ?_) ?_
              · exact Gv.run (.int .i64 (i : Int)) rfl (by go_simp) rfl
              refine Obs.cons (fun u w hS hd => ?_) ?_
              · have d48 : u 48 = .int .i64 (i : Int) := dep hd 0 rfl
                rw [d48]
                exact Gv.run (.int .i64 (i1 : Int)) rfl (by go_simp) rfl
              refine Obs.cons (fun u w hS hd => ?_) ?_
              · exact Gv.run (.slice (some ⟨b6, o6, none⟩) q c6) rfl (by go_simp) rfl
              refine Obs.cons (fun u w hS hd => ?_) ?_
              · have d50 : u 50 = .slice (some ⟨b6, o6, none⟩) q c6 := dep hd 2 rfl
                rw [d50]
                exact Gv.run (.int .i64 (q : Int)) rfl (by go_simp) rfl
              refine Obs.cons (fun u w hS hd => ?_) ?_
              · have d49 : u 49 = .int .i64 (i1 : Int) := dep hd 1 rfl
                have d51 : u 51 = .int .i64 (q : Int) := dep hd 3 rfl
                rw [d49, d51]
                exact Gv.run (.bool false) rfl (by go_simp) rfl
              refine Obs.cons (fun u w hS hd => ?_) ?_
              · have d52 : u 52 = .bool false := dep hd 4 rfl
                rw [d52]
                exact Gv.run (.bool false) rfl (by go_simp) rfl
              refine Obs.cons (fun u w hS hd => ?_) ?_
              · have d53 : u 53 = .bool false := dep hd 5 rfl
                rw [d53]
                exact Gv.run (.slice (some ⟨b7, o7, none⟩) q c7) rfl (by go_simp) rfl
              refine Obs.cons (fun u w hS hd => ?_) ?_
              · have d53 : u 53 = .bool false := dep hd 5 rfl
                rw [d53]
                exact Gv.run (.int .i64 (i : Int)) rfl (by go_simp) rfl
              refine Obs.cons (fun u w hS hd => ?_) ?_
              · have d55 : u 55 = .int .i64 (i : Int) := dep hd 7 rfl
                have d53 : u 53 = .bool false := dep hd 5 rfl
                rw [d55, d53]
                exact Gv.run (.int .i64 (i1 : Int)) rfl (by go_simp) rfl
              refine Obs.cons (fun u w hS hd => ?_) ?_
              · have d54 : u 54 = .slice (some ⟨b7, o7, none⟩) q c7 := dep hd 6 rfl
                have d56 : u 56 = .int .i64 (i1 : Int) := dep hd 8 rfl
                have d53 : u 53 = .bool false := dep hd 5 rfl
                rw [d54, d56, d53]
                exact Gv.run (.pointer (some ⟨b7, o7 + i1 * 5, none⟩)) rfl (by go_simp) rfl
              refine Obs.cons (fun u w hS hd => ?_) ?_
              · have d57 : u 57 = .pointer (some ⟨b7, o7 + i1 * 5, none⟩) := dep hd 9 rfl
                have d53 : u 53 = .bool false := dep hd 5 rfl
                rw [d57, d53]
                exact Gv.run (.agg #[.int .i64 ys.a0, .int .i64 ys.a1, .int .i64 ys.a2, .int .i64 ys.a3, .int .i64 ys.a4]) rfl (by obtain ⟨x0, x1, x2, x3, x4, z0, z1, z2, z3, z4⟩ := HS.out w hS; go_simp) rfl
              refine Obs.cons (fun u w hS hd => ?_) ?_
              · have d53 : u 53 = .bool false := dep hd 5 rfl
                rw [d53]
                exact Gv.run (.slice (some ⟨b7, o7, none⟩) q c7) rfl (by go_simp) rfl
              refine Obs.cons (fun u w hS hd => ?_) ?_
              · have d53 : u 53 = .bool false := dep hd 5 rfl
                rw [d53]
                exact Gv.run (.int .i64 (i : Int)) rfl (by go_simp) rfl
              refine Obs.cons (fun u w hS hd => ?_) ?_
              · have d59 : u 59 = .slice (some ⟨b7, o7, none⟩) q c7 := dep hd 11 rfl
                have d60 : u 60 = .int .i64 (i : Int) := dep hd 12 rfl
                have d53 : u 53 = .bool false := dep hd 5 rfl
                rw [d59, d60, d53]
                exact Gv.run (.pointer (some ⟨b7, o7 + i * 5, none⟩)) rfl (by go_simp) rfl
              refine Obs.cons (fun u w hS hd => ?_) ?_
              · have d61 : u 61 = .pointer (some ⟨b7, o7 + i * 5, none⟩) := dep hd 13 rfl
                have d53 : u 53 = .bool false := dep hd 5 rfl
                rw [d61, d53]
                exact Gv.run (.agg #[.int .i64 xs.a0, .int .i64 xs.a1, .int .i64 xs.a2, .int .i64 xs.a3, .int .i64 xs.a4]) rfl (by obtain ⟨x0, x1, x2, x3, x4, z0, z1, z2, z3, z4⟩ := HS.out w hS; go_simp) rfl
              refine Obs.cons (fun u w hS hd => ?_) ?_
              · have d58 : u 58 = .agg #[.int .i64 ys.a0, .int .i64 ys.a1, .int .i64 ys.a2, .int .i64 ys.a3, .int .i64 ys.a4] := dep hd 10 rfl
                have d62 : u 62 = .agg #[.int .i64 xs.a0, .int .i64 xs.a1, .int .i64 xs.a2, .int .i64 xs.a3, .int .i64 xs.a4] := dep hd 14 rfl
                have d53 : u 53 = .bool false := dep hd 5 rfl
                rw [d58, d62, d53]
                exact Gv.run (.bool true) rfl (by go_simp) rfl
              exact Obs.nil
            intro u v4 hS hd
            have d53 : u 53 = .bool false := hd 5 (by decide)
            have d63 : u 63 = .bool true := hd 15 (by decide)
            rw [d53, d63]
            simp only [List.drop_succ_cons, List.drop_zero]
            have HS4 := Lib.hid hS
            clear hS hd d53 d63
            go_wp2_with fail
            have HON := Lib.hid (HOO.out.keep HS4.out)
            have HBQ := Lib.hid (HBR.out.trans (HS4.out.mono HBR.out.size))
            have HS := Lib.hid (fun wz (hz : Below v4.heap.size v4 wz) => HX5.out wz (HS4.out.trans (hz.mono HS4.out.size)))
            have HCV := Lib.hid (fun wz (hz : Below v4.heap.size v4 wz) => HCV.out wz (HS4.out.trans (hz.mono HS4.out.size)))
            clear HS4
            go_upto_region 17 with fail
            refine wp_region_inv 13 [65, 66, 67, 68, 69, 70, 71, 72, 73, 74, 75, 76, 77] [.val (.slice Ao ln co), .val (.slice (some ⟨b6, o6, none⟩) q c6), .val (.int .i64 (f : Int)), .val (.int .i64 (i : Int)), .val (.int .i64 (i1 : Int)), .val (.slice (some ⟨b6, o6 + f, none⟩) (i1 - f) (c6 - f)), .val (.string T), .val (.slice (some ⟨b7, o7, none⟩) q c7), .val (.int .i64 (i : Int)), .val (.pointer (some ⟨b7, o7 + i * 5, none⟩)), .val (.agg #[.int .i64 xs.a0, .int .i64 xs.a1, .int .i64 xs.a2, .int .i64 xs.a3, .int .i64 xs.a4]), .val (.agg #[.string T, .int .i64 xs.a0, .int .i64 xs.a1, .int .i64 xs.a2, .int .i64 xs.a3, .int .i64 xs.a4]), (kRow runE 1 [(⟨T, xs⟩ : Rn)])] (fun wz => Below v4.heap.size v4 wz) (by kernel_rfl) (by kernel_rfl) (fun wz wz' hz hb => hz.trans (hb.mono hz.size)) ((Below.refl _ _).drew) (fun u => by simp only [puts, List.foldl_cons, List.foldl_nil]; go_simp; exact rfl) ?_ ?_
            · simp only [List.take_succ_cons, List.take_zero]
              refine Obs.cons (fun u w hS hd => ?_) ?_
              · exact Gv.run (.slice Ao ln co) rfl (by go_simp) rfl
              refine Obs.cons (fun u w hS hd => ?_) ?_
              · exact Gv.run (.slice (some ⟨b6, o6, none⟩) q c6) rfl (by go_simp) rfl
              refine Obs.cons (fun u w hS hd => ?_) ?_
              · exact Gv.run (.int .i64 (f : Int)) rfl (by go_simp) rfl
              refine Obs.cons (fun u w hS hd => ?_) ?_
              · exact Gv.run (.int .i64 (i : Int)) rfl (by go_simp) rfl
              refine Obs.cons (fun u w hS hd => ?_) ?_
              · have d68 : u 68 = .int .i64 (i : Int) := dep hd 3 rfl
                rw [d68]
                exact Gv.run (.int .i64 (i1 : Int)) rfl (by go_simp) rfl
              refine Obs.cons (fun u w hS hd => ?_) ?_
              · have d66 : u 66 = .slice (some ⟨b6, o6, none⟩) q c6 := dep hd 1 rfl
                have d67 : u 67 = .int .i64 (f : Int) := dep hd 2 rfl
                have d69 : u 69 = .int .i64 (i1 : Int) := dep hd 4 rfl
                rw [d66, d67, d69]
                exact Gv.run (.slice (some ⟨b6, o6 + f, none⟩) (i1 - f) (c6 - f)) rfl (by go_simp) rfl
              refine Obs.cons (fun u w hS hd => ?_) ?_
              · have d70 : u 70 = .slice (some ⟨b6, o6 + f, none⟩) (i1 - f) (c6 - f) := dep hd 5 rfl
                rw [d70]
                exact Gv.run (.string T) rfl (by have hcv := HCV.out w hS; go_simp) rfl
              refine Obs.cons (fun u w hS hd => ?_) ?_
              · exact Gv.run (.slice (some ⟨b7, o7, none⟩) q c7) rfl (by go_simp) rfl
              refine Obs.cons (fun u w hS hd => ?_) ?_
              · exact Gv.run (.int .i64 (i : Int)) rfl (by go_simp) rfl
              refine Obs.cons (fun u w hS hd => ?_) ?_
              · have d72 : u 72 = .slice (some ⟨b7, o7, none⟩) q c7 := dep hd 7 rfl
                have d73 : u 73 = .int .i64 (i : Int) := dep hd 8 rfl
                rw [d72, d73]
                exact Gv.run (.pointer (some ⟨b7, o7 + i * 5, none⟩)) rfl (by go_simp) rfl
              refine Obs.cons (fun u w hS hd => ?_) ?_
              · have d74 : u 74 = .pointer (some ⟨b7, o7 + i * 5, none⟩) := dep hd 9 rfl
                rw [d74]
                exact Gv.run (.agg #[.int .i64 xs.a0, .int .i64 xs.a1, .int .i64 xs.a2, .int .i64 xs.a3, .int .i64 xs.a4]) rfl (by obtain ⟨x0, x1, x2, x3, x4⟩ := HS.out w hS; go_simp) rfl
              refine Obs.cons (fun u w hS hd => ?_) ?_
              · have d71 : u 71 = .string T := dep hd 6 rfl
                have d75 : u 75 = .agg #[.int .i64 xs.a0, .int .i64 xs.a1, .int .i64 xs.a2, .int .i64 xs.a3, .int .i64 xs.a4] := dep hd 10 rfl
                rw [d71, d75]
                exact Gv.run (.agg #[.string T, .int .i64 xs.a0, .int .i64 xs.a1, .int .i64 xs.a2, .int .i64 xs.a3, .int .i64 xs.a4]) rfl (by go_simp) rfl
              refine Obs.cons (fun u w hS hd => ?_) ?_
              · have d76 : u 76 = .agg #[.string T, .int .i64 xs.a0, .int .i64 xs.a1, .int .i64 xs.a2, .int .i64 xs.a3, .int .i64 xs.a4] := dep hd 11 rfl
                rw [d76]
                refine Gv.make (.slice (some ⟨w.heap.size, 0, none⟩) 1 1) (w.alloc (.cells #[.string T, .int .i64 xs.a0, .int .i64 xs.a1, .int .i64 xs.a2, .int .i64 xs.a3, .int .i64 xs.a4] 66)) rfl (by go_simp) ⟨_, _, rfl, ?_⟩ ((Below.refl _ w).alloc (Nat.le_refl _) _)
                exact (OwnR.lit (E := runE) (w := w) 66 (Nat.le_refl _) #[.string T, .int .i64 xs.a0, .int .i64 xs.a1, .int .i64 xs.a2, .int .i64 xs.a3, .int .i64 xs.a4] [(⟨T, xs⟩ : Rn)] (by simp [maxLen]) rfl).rd
              exact Obs.nil
            intro u v8 hS hd
            have d65 : u 65 = .slice Ao ln co := hd 0 (by decide)
            obtain ⟨A9, c9, d77, r9⟩ : (kRow runE 1 [(⟨T, xs⟩ : Rn)]).ok (u 77) v8 := hd 12 (by decide)
            rw [d65, d77]
            simp only [List.drop_succ_cons, List.drop_zero]
            have on := HON.out.keep hS
            have HR9 := Lib.hid r9
            have HO9 := Lib.hid on
            have HB9 := Lib.hid (HBQ.out.trans (hS.mono HBQ.out.size))
            clear hS hd d65 d77 r9 on HON HBQ
            go_wp2_with (at_builtin; refine wpList_appR v8 rfl (.tmp 65) (.tmp 77) _ rfl va.heap.size 66 i0 _ Try.underlying59 HI.out.1 HI.out.2.1 HI.out.2.2.1 HI.out.2.2.2 rfl HLN.out.1 rfl HO9.out (M := [(⟨T, xs⟩ : Rn)]) rfl rfl HR9.out HLN.out.2.1 HLN.out.2.2 HB9.out.size ?_; intro A8 c8 w8 o8 hb8 hg8; have HW := Lib.hid (And.intro o8 (HB9.out.trans hb8)); clear o8 hb8 hg8)
            go_roundw
            case rel => exact ⟨i1, i1, o ++ [⟨T, xs⟩], HI1.out.1, Nat.le_refl _, by rw [List.length_append]; have := HI1.out; simp; omega, by go_num, by go_num, ⟨A8, c8, by rw [List.length_append, HLN.out.1]; rfl, HW.out.1⟩, HCUT.out, HW.out.2⟩
            case measure => simp [intF]; have := HI1.out; omega
end Go.Proofs.Ytpjeggbkhbghaaa
