/-
  Layer 17, the landed code: how many runes a string has; the carets one by one. By an AI agent.
-/
import Derived.Test.YtejfdheiopejeaaCy1
import Derived.Test.YtejfdheiopejeaaRg
namespace Go.Proofs.Ytejfdheiopejeaa
open Go Go.RowKit
set_option maxRecDepth 20000
theorem count_any {s : ByteArray} (hs : s.size ≤ 1048576) (w : World) : Calls Try.prog 19 #[.string s] w fun e w' => e = .returned (.int .i64 ((runesFrom s 0).length : Int)) ∧ Below w.heap.size w w' := by
  obtain ⟨v1, ev⟩ : ∃ v, v = w.alloc (.stringIter s 0) := ⟨_, rfl⟩
  obtain ⟨gi, eg⟩ : ∃ g, g = w.heap.size := ⟨_, rfl⟩
  have hb : Below w.heap.size w v1 := by rw [ev]; exact (Below.refl _ _).alloc (Nat.le_refl _) _
  have hit : v1.heap[gi]? = some (.stringIter s 0) := by rw [ev, eg]; exact World.iter_heap w s 0
  have HGW := Lib.hid (show w.heap.size ≤ gi by rw [eg]; exact Nat.le_refl _)
  have HB := Lib.hid (And.intro hit hb)
  have HV := Lib.hid (And.intro (show v1 = w.iter s 0 from ev) eg)
  have HS := Lib.hid hs
  clear ev eg hb hit hs
  go_enter Try.func19, Try.ntmps19
  go_upto_region 2 with fail
  rw [← HV.out.1, ← HV.out.2]
  clear HV
  go_loopg [2] (s.size) (fun m nv wr => ∃ (p n : Nat), s.size - p = m ∧ nv = .int .i64 (n : Int) ∧ wr.heap[gi]? = some (.stringIter s p) ∧ Below w.heap.size w wr ∧ p ≤ s.size ∧ n + (runesFrom s p).length = (runesFrom s 0).length ∧ n ≤ p)
  case atStart => exact ⟨0, 0, Nat.sub_zero _, rfl, HB.out.1, HB.out.2, Nat.zero_le _, Nat.zero_add _, Nat.zero_le _⟩
  case round =>
    obtain ⟨p, n, hm, rfl, hit, hbw, hps, hsp, hnp⟩ := hrel
    clear HB
    by_cases hp : p < s.size
    · have hdw := dec_width s p
      have hin := dec_in hp
      have hrn := runes_next hp
      have hnx := fun ty => run_next_str (P := Try.prog) ty hit hp
      obtain ⟨d, ed⟩ : ∃ d, d = (Utf8.decode s p).2 := ⟨_, rfl⟩
      obtain ⟨c, ec⟩ : ∃ c, c = ((Utf8.decode s p).1 : Int) := ⟨_, rfl⟩
      rw [← ed] at hdw hin
      rw [← ed, ← ec] at hrn hnx
      obtain ⟨v2, e2⟩ : ∃ v, v = itS wr gi s (p + d) := ⟨_, rfl⟩
      rw [← e2] at hnx
      have hl : (runesFrom s p).length = (runesFrom s (p + d)).length + 1 := by rw [hrn, List.length_cons]
      have H2 := Lib.hid (And.intro (show v2.heap[gi]? = some (.stringIter s (p + d)) by rw [e2]; exact itS_at hit s _) (And.intro (show Below w.heap.size w v2 by rw [e2]; exact hbw.trans ((itS_below wr HGW.out s _).mono (Nat.le_refl _))) (show s.size - (p + d) < gk ∧ p + d ≤ s.size ∧ n + 1 + (runesFrom s (p + d)).length = (runesFrom s 0).length ∧ n + 1 ≤ p + d by omega)))
      have hn9 : n ≤ 1048576 := by have := HS.out; omega
      clear hit hbw e2 ed hrn hdw hin ec hl hsp hps hnp hp
      go_wp2_with fail
      go_roundg (s.size - (p + d))
      case measure => exact H2.out.2.2.1
      case rel => exact ⟨p + d, n + 1, rfl, by go_num, H2.out.1, H2.out.2.1, H2.out.2.2.2⟩
    · have hnx := fun ty => run_over_str (P := Try.prog) (w := wr) ty hit hp
      have HE := Lib.hid (And.intro (show n = (runesFrom s 0).length by have h := hsp; rw [runes_end hp] at h; exact h) hbw)
      clear hit hbw hsp hps hnp hp hm
      go_wp2_with fail
      go_ret
      exact ⟨by rw [← HE.out.1]; rfl, HE.out.2⟩
/-- Which caret comes next. -/
def Nxt (all : List IDt) (pre : List (Nat × IDt)) (x : Nat × IDt) : Prop := x.1 = pre.length ∧ ∃ post, all = pre.map Prod.snd ++ x.2 :: post
def encC (x : Nat × IDt) : Array Value := #[.int .i64 (x.1 : Int), cpV x.2]
set_option maxHeartbeats 3200000 in
theorem seq_any {s : ByteArray} {k : Int} {b1 b2 l : Nat} {all : List IDt} {J Jx : List (Nat × IDt) → World → Prop} (hk : 2 ≤ k ∧ k ≤ 200) (hs : s.size ≤ 1048576) (hall : all = spotsR k (runesFrom s 0) (0, 0))
    (hbox : ∀ pre W, J pre W → W.cell? ⟨b1, 0, none⟩ = some (.string s) ∧ W.cell? ⟨b2, 0, none⟩ = some (.int .i64 k))
    (hput : ∀ pre W o, J pre W → l + 1 < W.heap.size → J pre (W.putObj (l + 1) o))
    (hY : ∀ pre x W1, J pre W1 → l + 1 < W1.heap.size → Nxt all pre x → YieldAt Fence.wide 1 Try.prog l (encC x) W1 fun e W' => W'.heap[l + 1]? = W1.heap[l + 1]? ∧ ((e = .returned (.bool true) ∧ J (pre ++ [x]) W') ∨ (e = .returned (.bool false) ∧ Jx (pre ++ [x]) W')))
    (W : World) (hW : W.heap.size = l + 1) (hc1 : W.cell? ⟨b1, 0, none⟩ = some (.string s)) (h0 : ∀ o, J [] (W.alloc o)) :
    Calls Try.prog 22 #[.func (.yield l) #[] #[], .pointer (some ⟨b1, 0, none⟩), .pointer (some ⟨b2, 0, none⟩)] W fun e W' => (∃ v, e = .returned v) ∧ ((∃ xs, xs.map Prod.snd = all ∧ J xs W') ∨ ∃ pre, Jx pre W') := by
  obtain ⟨v1, ev⟩ : ∃ v, v = W.alloc (.stringIter s 0) := ⟨_, rfl⟩
  obtain ⟨gi, eg⟩ : ∃ g, g = W.heap.size := ⟨_, rfl⟩
  have hit : v1.heap[gi]? = some (.stringIter s 0) := by rw [ev, eg]; exact World.iter_heap W s 0
  have hj0 : J [] v1 := by rw [ev]; exact h0 _
  have HV := Lib.hid (And.intro (show v1 = W.iter s 0 from ev) eg)
  have hgl : gi = l + 1 := by rw [eg, hW]
  have HH := Lib.hid (And.intro hbox (And.intro hput (And.intro hY (And.intro hgl (And.intro True.intro (And.intro hall (And.intro hk hs)))))))
  have H0 := Lib.hid (And.intro hit hj0)
  clear hbox hput hY hgl hall hk hs hit hj0 h0 hW ev eg
  go_enter Try.func22, Try.ntmps22
  go_upto_region 2 with fail
  rw [← HV.out.1, ← HV.out.2]
  clear HV hc1
  go_loopg [4, 5] (s.size) (fun m iv pv wr => ∃ p pre st, s.size - p = m ∧ iv = .int .i64 ((List.length (α := Nat × IDt) pre : Nat) : Int) ∧ pv = cpV st ∧ J pre wr ∧ wr.heap[gi]? = some (.stringIter s p) ∧ pre.map Prod.snd ++ spotsR k (runesFrom s p) st = all ∧ (0 ≤ st.1 ∧ st.1 ≤ k ∧ 0 ≤ st.2 ∧ st.2 ≤ 2 * (p : Int)) ∧ p ≤ s.size ∧ pre.length ≤ p)
  case atStart => exact ⟨0, [], (0, 0), Nat.sub_zero _, rfl, by unfold cpV; rw [fi_zero], H0.out.2, H0.out.1, by rw [HH.out.2.2.2.2.2.1]; rfl, ⟨Int.le_refl _, by have := HH.out.2.2.2.2.2.2.1; omega, Int.le_refl _, Int.le_refl _⟩, Nat.zero_le _, Nat.zero_le _⟩
  case round =>
    obtain ⟨p, pre, st, hm, rfl, rfl, hj, hit, hsp, hst, hps, hnp⟩ := hrel
    obtain ⟨n, en⟩ : ∃ n, n = pre.length := ⟨_, rfl⟩
    rw [← en]
    have hlt : gi < wr.heap.size := (Array.getElem?_eq_some_iff.1 hit).1
    have hk := HH.out.2.2.2.2.2.2.1
    have hs := HH.out.2.2.2.2.2.2.2
    have hgl := HH.out.2.2.2.1
    clear H0
    obtain ⟨sx, sy⟩ := st
    dsimp only at hst
    by_cases hp : p < s.size
    · have hdw := dec_width s p
      have hin := dec_in hp
      have hcr := dec_rune s p
      have hrn := runes_next hp
      have hnx := fun ty => run_next_str (P := Try.prog) ty hit hp
      obtain ⟨d, ed⟩ : ∃ d, d = (Utf8.decode s p).2 := ⟨_, rfl⟩
      obtain ⟨c, ec⟩ : ∃ c, c = ((Utf8.decode s p).1 : Int) := ⟨_, rfl⟩
      rw [← ed] at hdw hin
      rw [← ed, ← ec] at hrn hnx
      obtain ⟨v2, e2⟩ : ∃ v, v = itS wr gi s (p + d) := ⟨_, rfl⟩
      rw [← e2] at hnx
      have hit2 : v2.heap[gi]? = some (.stringIter s (p + d)) := by rw [e2]; exact itS_at hit s _
      have hj2 : J pre v2 := by rw [e2, hgl]; exact HH.out.2.1 pre wr _ hj (by rw [← hgl]; exact hlt)
      have hlt2 : gi < v2.heap.size := by rw [e2, itS_size]; exact hlt
      obtain ⟨hb1, hb2⟩ := HH.out.1 pre v2 hj2
      obtain ⟨wd, ewd⟩ : ∃ q, q = wdR c := ⟨_, rfl⟩
      have hwd : 0 ≤ wd ∧ wd ≤ 2 := by rw [ewd]; exact wdR_le c
      have hgt := gt_fit (x := sx + wd) (y := k) (by unfold Fit; omega) (by unfold Fit; omega)
      have hadd := fun (w : World) (t : TypeId) => run_fadd (P := Try.prog) w t (x := sx) (y := wd) (by unfold Fit; omega) (by unfold Fit; omega) (by unfold Fit; omega)
      have hpen := pen_on hk.1 (st := (sx, sy)) ⟨hst.1, hst.2.1, hst.2.2.1⟩ c
      have HP := Lib.hid (show s.size - (p + d) < gk ∧ p + d ≤ s.size ∧ n + 1 ≤ p + d ∧ sx ≤ k by omega)
      have HB := Lib.hid (show Fit sy ∧ Fit (sy + 1) ∧ Fit wd ∧ Fit (sy + 1 + 0) ∧ Fit (sx + wd) ∧ Fit (sy + 0) ∧ Fit sx ∧ Fit 0 ∧ Fit (0 + wd) by unfold Fit; omega)
      have HPE := Lib.hid (show 0 ≤ (penR k (sx, sy) c).1 ∧ (penR k (sx, sy) c).1 ≤ k ∧ 0 ≤ (penR k (sx, sy) c).2 ∧ (penR k (sx, sy) c).2 ≤ 2 * ((p + d : Nat) : Int) by have := hpen; dsimp only at this; omega)
      have HJ := Lib.hid (And.intro hj2 (And.intro hlt2 hit2))
      have HSP := Lib.hid (show pre.map Prod.snd ++ capR k (sx, sy) c :: spotsR k (runesFrom s (p + d)) (penR k (sx, sy) c) = all by rw [← hsp, hrn, spotsR])
      have hnx2 : Nxt all pre (n, capR k (sx, sy) c) := ⟨en, _, HSP.out.symm⟩
      obtain ⟨fn, tmps, assign, body, hy, hR⟩ := HH.out.2.2.1 pre (n, capR k (sx, sy) c) v2 hj2 (by rw [← hgl]; exact hlt2) hnx2
      have hn9 : n ≤ 1048576 := by omega
      have HW := Lib.hid ewd.symm
      have HE := Lib.hid en
      have HGL := Lib.hid hgl
      obtain ⟨fa, efa⟩ : ∃ q, q = fi sx := ⟨_, rfl⟩
      obtain ⟨fb, efb⟩ : ∃ q, q = fi sy := ⟨_, rfl⟩
      obtain ⟨fq, efq⟩ : ∃ q, q = fi (sx + wd) := ⟨_, rfl⟩
      have ewq : ∃ q, q = floatOfInt .f64 wd := ⟨_, rfl⟩
      obtain ⟨fw, efw⟩ := ewq
      have ekq : ∃ q, q = floatOfInt .f64 k := ⟨_, rfl⟩
      obtain ⟨fk, efk⟩ := ekq
      rw [← efa, ← efq] at hadd
      rw [show fi wd = fw from efw.symm] at hadd
      rw [show floatOfInt .f64 (sx + wd) = fq from efq.symm, ← efk] at hgt
      have HF := Lib.hid (And.intro efa (And.intro efb (And.intro efw efq)))
      replace efw := efw.symm
      replace efk := efk.symm
      unfold cpV
      rw [show fi ((sx, sy) : IDt).1 = fa from efa.symm, show fi ((sx, sy) : IDt).2 = fb from efb.symm]
      clear hdw hin hcr hrn ed ec e2 hit hj hsp hst hps hnp hpen hj2 hlt2 hit2 hlt hs hnx2 ewd en hm hp efa efb efq hgl hwd
      by_cases hc : c = 10
      · obtain rfl : c = 10 := hc
        obtain rfl : wd = 0 := by rw [← HW.out]; rfl
        have hcap : capR k (sx, sy) 10 = (sx, sy) := by unfold capR; rw [if_neg (fun h => h.2 rfl)]
        have hpe : penR k (sx, sy) 10 = (0, sy + 1) := by unfold penR; rw [if_pos rfl, hcap]
        have hq : ¬ k < sx + 0 := by
          have := HP.out
          omega
        rw [decide_eq_false hq] at hgt
        rw [hcap] at hR hy
        have HC := Lib.hid (And.intro hcap hpe)
        have hbl := fun w => below_any (st := (sx, sy)) HB.out.1 HB.out.2.1 w
        unfold cpV at hbl
        rw [show fi ((sx, sy) : IDt).1 = fa from HF.out.1.symm, show fi ((sx, sy) : IDt).2 = fb from HF.out.2.1.symm] at hbl
        have HBL := Lib.hid hbl
        clear hq hcap hpe hbl
        replace hy : (Instr.yield l #[.int .i64 (n : Int), .complex .f64 fa fb]).run Try.prog v2 = .ok (.round l fn tmps assign body) v2 := by first | exact hy | (rw [HF.out.1, HF.out.2.1]; exact hy) | (rw [HX.out.2, ← HX.out.1]; exact hy)
        go_upto_region 7 with (go_at_call 12; refine (width_any 10 v2).mono ?_; rintro z wz ⟨rfl, hwz⟩; rw [hwz, HW.out]; clear hwz wz)
        rename_i K2 hK2 K1 hK1
        have HK1 := Lib.hid hK1
        have HK2 := Lib.hid hK2
        clear hK1 hK2
        refine (wpIn_wide (n := 2)).1 ?_
        gi_wp2
        refine hR.mono ?_
        rintro e' W' ⟨hkp, ⟨rfl, hj'⟩ | ⟨rfl, hjx⟩⟩
        · have HN := Lib.hid (And.intro hj' (show W'.heap[l + 1]? = some (.stringIter s (p + d)) from hkp.trans (by rw [← HGL.out]; exact HJ.out.2.2)))
          clear hkp hj' hR hy
          gi_wp2
          refine HK1.out _ _ ?_
          go_wp2_with fail
          refine HK2.out _ _ ?_
          go_wp2_with (go_at_call 23; refine (HBL.out W').mono ?_; rintro z wz ⟨rfl, hwz⟩; rw [hwz]; clear hwz wz)
          go_roundg (s.size - (p + d))
          case measure => exact HP.out.1
          case rel => exact ⟨p + d, pre ++ [(n, (sx, sy))], (0, sy + 1), rfl, by rw [List.length_append, List.length_singleton, ← HE.out]; go_num, (by rw [HF.out.2.2.1]; rfl), HN.out.1, by rw [HGL.out]; exact HN.out.2, by rw [List.map_append, List.map_singleton, List.append_assoc]; have h := HSP.out; rw [HC.out.1, HC.out.2] at h; exact h, by have h := HPE.out; rw [HC.out.2] at h; exact h, HP.out.2.1, by rw [List.length_append, List.length_singleton, ← HE.out]; exact HP.out.2.2.1⟩
        · clear hkp hR hy
          gi_wp2
          refine HK1.out _ _ ?_
          go_wp2_with fail
          go_returns
          exact ⟨⟨_, rfl⟩, .inr ⟨_, hjx⟩⟩
      · by_cases hq : k < sx + wd
        · have hcap : capR k (sx, sy) c = (0, sy + 1) := by unfold capR; rw [HW.out, if_pos ⟨hq, hc⟩]
          have hpe : penR k (sx, sy) c = (wd, sy + 1) := by unfold penR; rw [if_neg hc, hcap, HW.out]; show (0 + wd, sy + 1) = _; rw [Int.zero_add]
          rw [decide_eq_true hq] at hgt
          rw [hcap] at hR hy
          have HC := Lib.hid (And.intro hcap hpe)
          have hbl := fun w => below_any (st := (sx, sy)) HB.out.1 HB.out.2.1 w
          unfold cpV at hbl
          rw [show fi ((sx, sy) : IDt).1 = fa from HF.out.1.symm, show fi ((sx, sy) : IDt).2 = fb from HF.out.2.1.symm] at hbl
          have hca := fun (w : World) (t : TypeId) => run_cadd (P := Try.prog) w t (a := 0) (b := sy + 1) (c := wd) (d := 0) HB.out.2.2.2.2.2.2.2.1 HB.out.2.1 HB.out.2.2.1 HB.out.2.2.2.2.2.2.2.1 HB.out.2.2.2.2.2.2.2.2 HB.out.2.2.2.1
          obtain ⟨fs, efs⟩ : ∃ q, q = fi (sy + 1) := ⟨_, rfl⟩
          have HX := Lib.hid (And.intro fi_zero efs)
          have HQ := Lib.hid (show cpV (wd, sy + 1) = .complex .f64 fw fs by unfold cpV; rw [efs]; exact congrArg (fun q => Value.complex .f64 q (fi (sy + 1))) HF.out.2.2.1.symm)
          rw [Int.zero_add, Int.add_zero, show fi wd = fw from HF.out.2.2.1.symm, ← efs, fi_zero] at hca
          have hbl2 : ∀ w, Calls Try.prog 23 #[.complex .f64 fa fb] w fun e w' => e = .returned (.complex .f64 0 fs) ∧ w' = w := fun w => by rw [efs, ← fi_zero]; exact hbl w
          have HBL := Lib.hid hbl2
          clear hq hcap hpe hbl hbl2 efs
          replace hy : (Instr.yield l #[.int .i64 (n : Int), .complex .f64 0 fs]).run Try.prog v2 = .ok (.round l fn tmps assign body) v2 := by first | exact hy | (rw [HF.out.1, HF.out.2.1]; exact hy) | (rw [HX.out.2, ← HX.out.1]; exact hy)
          go_upto_region 7 with (first | (go_at_call 12; refine (width_any c v2).mono ?_; rintro z wz ⟨rfl, hwz⟩; rw [hwz, HW.out]; clear hwz wz) | (go_at_call 23; refine (HBL.out v2).mono ?_; rintro z wz ⟨rfl, hwz⟩; rw [hwz]; clear hwz wz))
          rename_i K2 hK2 K1 hK1
          have HK1 := Lib.hid hK1
          have HK2 := Lib.hid hK2
          clear hK1 hK2
          refine (wpIn_wide (n := 2)).1 ?_
          gi_wp2
          refine hR.mono ?_
          rintro e' W' ⟨hkp, ⟨rfl, hj'⟩ | ⟨rfl, hjx⟩⟩
          · have HN := Lib.hid (And.intro hj' (show W'.heap[l + 1]? = some (.stringIter s (p + d)) from hkp.trans (by rw [← HGL.out]; exact HJ.out.2.2)))
            clear hkp hj' hR hy
            gi_wp2
            refine HK1.out _ _ ?_
            go_wp2_with fail
            refine HK2.out _ _ ?_
            go_wp2_with (fail)
            go_roundg (s.size - (p + d))
            case measure => exact HP.out.1
            case rel => exact ⟨p + d, pre ++ [(n, (0, sy + 1))], (wd, sy + 1), rfl, by rw [List.length_append, List.length_singleton, ← HE.out]; go_num, by rw [HQ.out], HN.out.1, by rw [HGL.out]; exact HN.out.2, by rw [List.map_append, List.map_singleton, List.append_assoc]; have h := HSP.out; rw [HC.out.1, HC.out.2] at h; exact h, by have h := HPE.out; rw [HC.out.2] at h; exact h, HP.out.2.1, by rw [List.length_append, List.length_singleton, ← HE.out]; exact HP.out.2.2.1⟩
          · clear hkp hR hy
            gi_wp2
            refine HK1.out _ _ ?_
            go_wp2_with fail
            go_returns
            exact ⟨⟨_, rfl⟩, .inr ⟨_, hjx⟩⟩
        · have hcap : capR k (sx, sy) c = (sx, sy) := by unfold capR; rw [HW.out, if_neg (fun h => hq h.1)]
          have hpe : penR k (sx, sy) c = (sx + wd, sy) := by unfold penR; rw [if_neg hc, hcap, HW.out]
          rw [decide_eq_false hq] at hgt
          rw [hcap] at hR hy
          have HC := Lib.hid (And.intro hcap hpe)
          have hca := fun (w : World) (t : TypeId) => run_cadd (P := Try.prog) w t (a := sx) (b := sy) (c := wd) (d := 0) HB.out.2.2.2.2.2.2.1 HB.out.1 HB.out.2.2.1 HB.out.2.2.2.2.2.2.2.1 HB.out.2.2.2.2.1 HB.out.2.2.2.2.2.1
          have HQ := Lib.hid (show cpV (sx + wd, sy) = .complex .f64 fq fb by unfold cpV; rw [HF.out.2.1, HF.out.2.2.2])
          rw [Int.add_zero, show fi wd = fw from HF.out.2.2.1.symm, ← HF.out.2.1, ← HF.out.1, ← HF.out.2.2.2, fi_zero] at hca
          clear hq hcap hpe
          replace hy : (Instr.yield l #[.int .i64 (n : Int), .complex .f64 fa fb]).run Try.prog v2 = .ok (.round l fn tmps assign body) v2 := by first | exact hy | (rw [HF.out.1, HF.out.2.1]; exact hy) | (rw [HX.out.2, ← HX.out.1]; exact hy)
          go_upto_region 7 with (go_at_call 12; refine (width_any c v2).mono ?_; rintro z wz ⟨rfl, hwz⟩; rw [hwz, HW.out]; clear hwz wz)
          rename_i K2 hK2 K1 hK1
          have HK1 := Lib.hid hK1
          have HK2 := Lib.hid hK2
          clear hK1 hK2
          refine (wpIn_wide (n := 2)).1 ?_
          gi_wp2
          refine hR.mono ?_
          rintro e' W' ⟨hkp, ⟨rfl, hj'⟩ | ⟨rfl, hjx⟩⟩
          · have HN := Lib.hid (And.intro hj' (show W'.heap[l + 1]? = some (.stringIter s (p + d)) from hkp.trans (by rw [← HGL.out]; exact HJ.out.2.2)))
            clear hkp hj' hR hy
            gi_wp2
            refine HK1.out _ _ ?_
            go_wp2_with fail
            refine HK2.out _ _ ?_
            go_wp2_with (fail)
            go_roundg (s.size - (p + d))
            case measure => exact HP.out.1
            case rel => exact ⟨p + d, pre ++ [(n, (sx, sy))], (sx + wd, sy), rfl, by rw [List.length_append, List.length_singleton, ← HE.out]; go_num, by rw [HQ.out], HN.out.1, by rw [HGL.out]; exact HN.out.2, by rw [List.map_append, List.map_singleton, List.append_assoc]; have h := HSP.out; rw [HC.out.1, HC.out.2] at h; exact h, by have h := HPE.out; rw [HC.out.2] at h; exact h, HP.out.2.1, by rw [List.length_append, List.length_singleton, ← HE.out]; exact HP.out.2.2.1⟩
          · clear hkp hR hy
            gi_wp2
            refine HK1.out _ _ ?_
            go_wp2_with fail
            go_returns
            exact ⟨⟨_, rfl⟩, .inr ⟨_, hjx⟩⟩
    · have hnx := fun ty => run_over_str (P := Try.prog) (w := wr) ty hit hp
      have hend : pre.map Prod.snd ++ [((sx, sy) : IDt)] = all := by rw [← hsp, runes_end hp]; rfl
      have hnx2 : Nxt all pre (n, (sx, sy)) := ⟨en, [], hend.symm⟩
      obtain ⟨fn, tmps, assign, body, hy, hR⟩ := HH.out.2.2.1 pre (n, (sx, sy)) wr hj (by rw [← hgl]; exact hlt) hnx2
      obtain ⟨fa, efa⟩ : ∃ q, q = fi sx := ⟨_, rfl⟩
      obtain ⟨fb, efb⟩ : ∃ q, q = fi sy := ⟨_, rfl⟩
      unfold cpV
      rw [show fi ((sx, sy) : IDt).1 = fa from efa.symm, show fi ((sx, sy) : IDt).2 = fb from efb.symm]
      replace hy : (Instr.yield l #[.int .i64 (n : Int), .complex .f64 fa fb]).run Try.prog wr = .ok (.round l fn tmps assign body) wr := by rw [efa, efb]; exact hy
      have HE := Lib.hid hend
      clear hit hj hsp hst hps hnp hs hk hgl hlt hend hnx2 en hm hp efa efb
      go_upto_region 12 with fail
      refine (wpIn_wide (n := 2)).1 ?_
      gi_wp2
      refine hR.mono ?_
      rintro e' W' ⟨hkp, ⟨rfl, hj'⟩ | ⟨rfl, hjx⟩⟩
      · gi_wp2
        go_returns
        exact ⟨⟨_, rfl⟩, .inl ⟨_, by rw [List.map_append]; exact HE.out, hj'⟩⟩
      · gi_wp2
        go_returns
        exact ⟨⟨_, rfl⟩, .inr ⟨_, hjx⟩⟩
end Go.Proofs.Ytejfdheiopejeaa
