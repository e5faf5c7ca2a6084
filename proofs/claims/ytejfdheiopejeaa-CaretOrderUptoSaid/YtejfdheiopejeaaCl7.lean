/-
  Layer 17: CaretOrder. By an AI agent.
-/
import Derived.Test.YtejfdheiopejeaaCl5
namespace Go.Proofs.Ytejfdheiopejeaa
open Go Go.RowKit
set_option maxRecDepth 20000
/-- From one caret to the next. -/
def StepC17 (a b : IDt) : Prop := (b.2 = a.2 ∧ a.1 ≤ b.1) ∨ (b.2 = a.2 + 1 ∧ b.1 = 0)
theorem spots_first {k : Int} (hk : 2 ≤ k) (l : List Int) (st : IDt) (h0 : 0 ≤ st.1) : ∃ h, (spotsR k l st)[0]? = some h ∧ (h = st ∨ (0 < st.1 ∧ h = (0, st.2 + 1))) := by
  cases l with
  | nil => exact ⟨st, rfl, .inl rfl⟩
  | cons c r =>
    refine ⟨capR k st c, rfl, ?_⟩
    have hw := wdR_le c
    unfold capR
    split
    · rename_i h
      exact .inr ⟨by omega, rfl⟩
    · exact .inl rfl
theorem spots_step {k : Int} (hk : 2 ≤ k) : ∀ (l : List Int) (st : IDt), (0 ≤ st.1 ∧ st.1 ≤ k ∧ 0 ≤ st.2) → ∀ (n : Nat) (a b : IDt), (spotsR k l st)[n]? = some a → (spotsR k l st)[n + 1]? = some b → StepC17 a b
  | [], st, _, n, a, b, _, hb => by
    have := (List.getElem?_eq_some_iff.1 hb).1
    simp [spotsR] at this
  | c :: r, st, h, n, a, b, ha, hb => by
    have hp := pen_on hk h c
    have hc := cap_on hk h c
    have hw := wdR_le c
    rw [spotsR] at ha hb
    rw [List.getElem?_cons_succ] at hb
    cases n with
    | zero =>
      obtain ⟨q, hq, hq2⟩ := spots_first hk r (penR k st c) hp.1
      rw [hq] at hb
      obtain rfl := Option.some.inj hb
      obtain rfl : capR k st c = a := by simpa using ha
      unfold StepC17
      by_cases h10 : c = 10
      · have hpe : penR k st c = (0, (capR k st c).2 + 1) := by unfold penR; rw [if_pos h10]
        rw [hpe] at hq2
        rcases hq2 with rfl | ⟨h, _⟩
        · right; exact ⟨rfl, rfl⟩
        · exact absurd h (Int.lt_irrefl 0)
      · have hpe : penR k st c = ((capR k st c).1 + wdR c, (capR k st c).2) := by unfold penR; rw [if_neg h10]
        rw [hpe] at hq2
        rcases hq2 with rfl | ⟨_, rfl⟩
        · left; exact ⟨rfl, by show _ ≤ (capR k st c).1 + wdR c; omega⟩
        · right; exact ⟨rfl, rfl⟩
    | succ n =>
      rw [List.getElem?_cons_succ] at ha
      exact spots_step hk r _ ⟨hp.1, hp.2.1, by omega⟩ n a b ha hb
theorem spots_zero (k : Int) (hk : 2 ≤ k) (l : List Int) : (spotsR k l (0, 0))[0]? = some (0, 0) := by
  obtain ⟨h, h1, h2⟩ := spots_first hk l (0, 0) (Int.le_refl _)
  rcases h2 with rfl | ⟨h2, _⟩
  · exact h1
  · exact absurd h2 (by decide)
set_option maxHeartbeats 3200000 in
theorem caretorder_law {s : ByteArray} (c : Int) (hs : s.size ≤ 1048576) (w : World) : Calls Try.prog 7 #[.string s, .int .i64 c] w fun e w' => e = .returned (.bool true) ∧ Below w.heap.size w w' := by
  by_cases hc : 2 ≤ c ∧ c ≤ 200
  · have HP := Lib.hid (fun w => places_any (s := s) (k := c) hc hs w)
    have hfit := spots_fit (s := s) (k := c) hc hs
    have hst := spots_step (k := c) hc.1 (runesFrom s 0) (0, 0) ⟨Int.le_refl _, by show (0 : Int) ≤ c; omega, Int.le_refl _⟩
    have hz := spots_zero c hc.1 (runesFrom s 0)
    have hlen := spotsR_len c (runesFrom s 0) (0, 0)
    obtain ⟨all, eall⟩ : ∃ l, l = spotsR c (runesFrom s 0) (0, 0) := ⟨_, rfl⟩
    obtain ⟨N, eN⟩ : ∃ N, N = all.length := ⟨_, rfl⟩
    rw [← eall, ← eN] at HP
    rw [← eall] at hfit hst hz hlen
    have hN : N ≤ 1048577 := by
      have := runes_len s s.size 0 rfl
      rw [eN, hlen]
      omega
    have a1 : (FloatKind.f64.format.order 0 0 == some .eq) = true := by decide +kernel
    have HF := Lib.hid (And.intro hfit (And.intro eN (And.intro hst (And.intro hz (And.intro hlen (And.intro hc hs))))))
    clear hfit eall eN hs hc hst hz hlen
    go_enter Try.func7, Try.ntmps7
    go_upto_region 2 with (go_at_call 8; refine (HP.out w).mono ?_; rintro z w2 ⟨A1, c1, rfl, hown, hb⟩; have HR1 := Lib.hid (show RdR cpE w2 w2.heap.size A1 c1 all from hown.rd); have HB := Lib.hid hb; clear hown hb)
    clear HP
    obtain ⟨b1, o1, rfl⟩ : ∃ b o, A1 = some ⟨b, o, none⟩ := by
      obtain ⟨b, o, h, _⟩ := HR1.out.at_ HF.out.2.2.2.1
      exact ⟨b, o, h⟩
    obtain ⟨v1, ev⟩ : ∃ v, v = w2.alloc (.stringIter s 0) := ⟨_, rfl⟩
    obtain ⟨gi, eg⟩ : ∃ g, g = w2.heap.size := ⟨_, rfl⟩
    have hb : Below w2.heap.size w2 v1 := by rw [ev]; exact (Below.refl _ _).alloc (Nat.le_refl _) _
    have hit : v1.heap[gi]? = some (.stringIter s 0) := by rw [ev, eg]; exact World.iter_heap w2 s 0
    have HGW := Lib.hid (show w2.heap.size ≤ gi by rw [eg]; exact Nat.le_refl _)
    have HB0 := Lib.hid (And.intro hit hb)
    have HV := Lib.hid (And.intro (show v1 = w2.iter s 0 from ev) eg)
    clear ev eg hb hit
    go_upto_region 6 with fail
    rw [← HV.out.1, ← HV.out.2]
    clear HV
    go_loopg [7] (s.size) (fun m nv wr => ∃ (p n : Nat), s.size - p = m ∧ nv = .int .i64 (n : Int) ∧ wr.heap[gi]? = some (.stringIter s p) ∧ Below w2.heap.size w2 wr ∧ p ≤ s.size ∧ n + (runesFrom s p).length = (runesFrom s 0).length + 1 ∧ n ≤ p + 1)
    case atStart => exact ⟨0, 1, Nat.sub_zero _, rfl, HB0.out.1, HB0.out.2, Nat.zero_le _, by omega, Nat.le_refl _⟩
    case round =>
      obtain ⟨p, n, hm, rfl, hit, hbw, hps, hsp, hnp⟩ := hrel
      clear HB0
      by_cases hp : p < s.size
      · have hdw := dec_width s p
        have hin := dec_in hp
        have hrn := runes_next hp
        have hnx := fun ty => run_next_str (P := Try.prog) ty hit hp
        obtain ⟨d, ed⟩ : ∃ d, d = (Utf8.decode s p).2 := ⟨_, rfl⟩
        obtain ⟨q, eq⟩ : ∃ q, q = ((Utf8.decode s p).1 : Int) := ⟨_, rfl⟩
        rw [← ed] at hdw hin
        rw [← ed, ← eq] at hrn hnx
        obtain ⟨v2, e2⟩ : ∃ v, v = itS wr gi s (p + d) := ⟨_, rfl⟩
        rw [← e2] at hnx
        have hl : (runesFrom s p).length = (runesFrom s (p + d)).length + 1 := by rw [hrn, List.length_cons]
        have H2 := Lib.hid (And.intro (show v2.heap[gi]? = some (.stringIter s (p + d)) by rw [e2]; exact itS_at hit s _) (And.intro (show Below w2.heap.size w2 v2 by rw [e2]; exact hbw.trans (itS_below wr HGW.out s _)) (show s.size - (p + d) < gk ∧ p + d ≤ s.size ∧ n + 1 + (runesFrom s (p + d)).length = (runesFrom s 0).length + 1 ∧ n + 1 ≤ p + d + 1 by omega)))
        have hn9 : n ≤ 1048577 := by have := HF.out.2.2.2.2.2.2; omega
        clear hit hbw e2 ed hrn hdw hin eq hl hsp hps hnp hp
        go_wp2_with fail
        go_roundg (s.size - (p + d))
        case measure => exact H2.out.2.2.1
        case rel => exact ⟨p + d, n + 1, rfl, by go_num, H2.out.1, H2.out.2.1, H2.out.2.2.2⟩
      · have hnx := fun ty => run_over_str (P := Try.prog) (w := wr) ty hit hp
        obtain rfl : n = N := by
          have h := hsp
          rw [runes_end hp] at h
          have h5 := HF.out.2.2.2.2.1
          have h2 := HF.out.2.1
          simp only [List.length_nil] at h
          omega
        have hr1 := (HR1.out.keep hbw).mono hbw.size
        obtain ⟨q1, q2, e1, hl1, k1⟩ := hr1.at_ HF.out.2.2.2.1
        simp only [Option.some.injEq, Addr.mk.injEq] at e1
        obtain ⟨rfl, rfl, -⟩ := e1
        have g0 := k1 0 _ rfl
        unfold cpV at g0
        rw [show fi ((0, 0) : IDt).1 = 0 from fi_zero] at g0
        have h0 : wr.cell? ⟨b1, o1, none⟩ = some (.complex .f64 0 0) := by have := g0; rwa [show o1 + 0 * cpE.size + 0 = o1 by omega] at this
        have hnn : 1 ≤ n := by have := HF.out.2.1; have := HF.out.2.2.2.2.1; omega
        have HW0 := Lib.hid (And.intro hbw hr1)
        clear hit hbw hsp hps hnp hp hm hr1 hl1 k1 g0
        go_upto_region 11 with fail
        clear h0 hnx
        go_loopg [42] (n) (fun m jv wz => ∃ j : Nat, n - j = m ∧ jv = .int .i64 (j : Int) ∧ j ≤ n ∧ wz = wr)
        case atStart => exact ⟨0, rfl, rfl, Nat.zero_le _, rfl⟩
        case round =>
          obtain ⟨j, hm, rfl, hjn, rfl⟩ := hrel
          by_cases hj : j < n
          · obtain ⟨⟨x, y⟩, hst⟩ : ∃ st, all[j]? = some st := ⟨all[j]'(by have := HF.out.2.1; omega), List.getElem?_eq_getElem _⟩
            obtain ⟨hx1, hy1, hfx⟩ := HF.out.1 (x, y) (List.mem_of_getElem? hst)
            dsimp only at hx1 hy1
            obtain ⟨q1, q2, e1, hl1, k1⟩ := HW0.out.2.at_ hst
            simp only [Option.some.injEq, Addr.mk.injEq] at e1
            obtain ⟨rfl, rfl, -⟩ := e1
            have g0 := k1 0 _ rfl
            unfold cpV at g0
            have hc9 := HF.out.2.2.2.2.2.1
            have l1 := lt_fit hfx.1 (show Fit 0 by unfold Fit; omega)
            have l2 := gt_fit hfx.1 (show Fit c by unfold Fit; omega)
            rw [decide_eq_false (by dsimp only; omega), show floatOfInt .f64 0 = 0 from fi_zero] at l1
            rw [decide_eq_false (by dsimp only; omega)] at l2
            obtain ⟨fx, efx⟩ : ∃ q, q = fi x := ⟨_, rfl⟩
            obtain ⟨fy, efy⟩ : ∃ q, q = fi y := ⟨_, rfl⟩
            obtain ⟨fk, efk⟩ : ∃ q, floatOfInt .f64 c = q := ⟨_, rfl⟩
            rw [show fi ((x, y) : IDt).1 = fx from efx.symm, show fi ((x, y) : IDt).2 = fy from efy.symm] at g0
            rw [show floatOfInt .f64 ((x, y) : IDt).1 = fx from efx.symm] at l1
            rw [show floatOfInt .f64 ((x, y) : IDt).1 = fx from efx.symm, efk] at l2
            have h0 : wr.cell? ⟨b1, o1 + j, none⟩ = some (.complex .f64 fx fy) := by have := g0; rwa [show o1 + j * cpE.size + 0 = o1 + j by show o1 + j * 1 + 0 = _; omega] at this
            have HK := Lib.hid hm
            by_cases hj0 : j = 0
            · subst hj0
              have h0' : wr.cell? ⟨b1, o1, none⟩ = some (.complex .f64 fx fy) := by rwa [Nat.add_zero] at h0
              clear hst hx1 hy1 hfx hl1 k1 g0 hc9 efx efy hm h0 hjn
              go_wp2_with fail
              go_roundg (n - 1)
              case measure => have := HK.out; omega
              case rel => exact ⟨1, rfl, by first | rfl | go_num, by omega, rfl⟩
            · obtain ⟨j0, hjj⟩ : ∃ j0, j = j0 + 1 := ⟨j - 1, by omega⟩
              obtain ⟨⟨x', y'⟩, hst'⟩ : ∃ st, all[j0]? = some st := ⟨all[j0]'(by have := HF.out.2.1; omega), List.getElem?_eq_getElem _⟩
              obtain ⟨hx1', hy1', hfx'⟩ := HF.out.1 (x', y') (List.mem_of_getElem? hst')
              dsimp only at hx1' hy1' hfx hfx'
              have hsp := HF.out.2.2.1 j0 (x', y') (x, y) hst' (by rw [← hjj]; exact hst)
              unfold StepC17 at hsp
              dsimp only at hsp
              obtain ⟨q1, q2, e1, hl1', k1'⟩ := HW0.out.2.at_ hst'
              simp only [Option.some.injEq, Addr.mk.injEq] at e1
              obtain ⟨rfl, rfl, -⟩ := e1
              have g1 := k1' 0 _ rfl
              unfold cpV at g1
              have hsub := fun w t => run_csub (P := Try.prog) w t (a := x) (b := y) (c := x') (d := y') hfx.1 hfx.2 hfx'.1 hfx'.2 (by unfold Fit; omega) (by unfold Fit; omega)
              have hd1 := lt_fit (x := x - x') (y := 0) (by unfold Fit; omega) (by unfold Fit; omega)
              rw [show floatOfInt .f64 0 = 0 from fi_zero] at hd1
              have hfx0 : x = 0 → fx = 0 := fun h => by rw [efx, h]; exact fi_zero
              obtain ⟨gx, egx⟩ : ∃ q, q = fi x' := ⟨_, rfl⟩
              obtain ⟨gy, egy⟩ : ∃ q, q = fi y' := ⟨_, rfl⟩
              obtain ⟨dx, edx⟩ : ∃ q, q = fi (x - x') := ⟨_, rfl⟩
              rw [← efx, ← efy, ← egx, ← egy, ← edx] at hsub
              rw [show floatOfInt .f64 (x - x') = dx from edx.symm] at hd1
              rw [show fi ((x', y') : IDt).1 = gx from egx.symm, show fi ((x', y') : IDt).2 = gy from egy.symm] at g1
              have h1 : wr.cell? ⟨b1, o1 + j0, none⟩ = some (.complex .f64 gx gy) := by have := g1; rwa [show o1 + j0 * cpE.size + 0 = o1 + j0 by show o1 + j0 * 1 + 0 = _; omega] at this
              have hi1 : (j : Int) - 1 = (j0 : Int) := by omega
              have hwj : IntKind.i64.wrap (j0 : Int) = (j0 : Int) := by rw [IntKind.wrap_i64]; omega
              have hjn0 : j0 < n := by omega
              have hjz : ((j : Int) == 0) = false := beq_false_of_ne (by omega)
              have hj9 : j ≤ 1048577 := by omega
              have a2 : (FloatKind.f64.format.order 0 0 != some .eq) = false := by decide +kernel
              have a3 : (FloatKind.f64.format.order 0 4607182418800017408 == some .eq) = false := by decide +kernel
              have a4 : (FloatKind.f64.format.order 4607182418800017408 0 != some .eq) = true := by decide +kernel
              have a5 : (FloatKind.f64.format.order 4607182418800017408 4607182418800017408 != some .eq) = false := by decide +kernel
              have a6 : (FloatKind.f64.format.order 4607182418800017408 0 == some .eq) = false := by decide +kernel
              have a7 : (FloatKind.f64.format.order 4607182418800017408 4607182418800017408 == some .eq) = true := by decide +kernel
              rcases hsp with ⟨hy0, hx0⟩ | ⟨hy0, hx0⟩
              · rw [decide_eq_false (by omega)] at hd1
                rw [show y - y' = 0 by omega, fi_zero] at hsub
                clear hst hst' hx1 hx1' hy1 hy1' hfx hfx' hl1 hl1' k1 k1' g0 g1 hc9 efx efy egx egy edx hm hy0 hx0 hfx0 hjj hjn a4 a5 a6 a7
                go_wp2_with fail
                go_roundg (n - (j + 1))
                case measure => have := HK.out; omega
                case rel => exact ⟨j + 1, rfl, by go_num, by omega, rfl⟩
              · rw [show y - y' = 1 by omega, fi_one] at hsub
                obtain rfl : fx = 0 := hfx0 hx0
                clear hst hst' hx1 hx1' hy1 hy1' hfx hfx' hl1 hl1' k1 k1' g0 g1 hc9 efx efy egx egy edx hm hy0 hx0 hfx0 hjj hd1 hjn a3
                go_wp2_with fail
                go_roundg (n - (j + 1))
                case measure => have := HK.out; omega
                case rel => exact ⟨j + 1, rfl, by go_num, by omega, rfl⟩
          · clear hm
            go_wp2_with (go_at_call 11; refine (awake17 wr).mono ?_; rintro z wq ⟨rfl, hwz⟩; have HW := Lib.hid hwz; clear hwz)
            go_ret
            exact ⟨rfl, (HB.out.trans (HW0.out.1.mono HB.out.size)).trans (HW.out.mono (Nat.le_trans HB.out.size HW0.out.1.size))⟩
  · have HP := Lib.hid (fun w => places_bad (s := s) (k := c) hc w)
    clear hc hs
    go_enter Try.func7, Try.ntmps7
    go_wp2_with (first | (go_at_call 8; refine (HP.out w).mono ?_; rintro z wz ⟨rfl, hwz⟩; rw [hwz]; clear hwz wz) | (go_at_call 11; refine (awake17 _).mono ?_; rintro z wz ⟨rfl, hwz⟩; have HW := Lib.hid hwz; clear hwz))
    go_ret
    exact ⟨by first | rfl | simp, HW.out⟩
end Go.Proofs.Ytejfdheiopejeaa
