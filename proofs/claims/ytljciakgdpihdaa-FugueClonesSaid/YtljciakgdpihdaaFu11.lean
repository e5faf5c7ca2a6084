/-
  Layer 15, the landed code: order: all elements one by one. By an AI agent.
-/
import Derived.Test.YtljciakgdpihdaaFu10
import Derived.Shelf.Abstract
import Derived.Shelf.RegionOpen
import Derived.OwnWalkIn
import Derived.TacticsInMore
namespace Go.Proofs.Ytljciakgdpihdaa
open Go Go.RowKit
set_option maxRecDepth 20000
theorem Sits.split {L : List Ins} (hok : Ok L) {e : Ins} {P : List Ins} {n : Nat} (h : Sits L e P n) : ∃ T, nodesL L = P ++ subL L e ++ T := by
  induction h with
  | @top e A B hk =>
    refine ⟨B.flatMap (subL L), ?_⟩
    rw [nodes_blw, blw_kids hok, hk, List.flatMap_append, List.flatMap_cons]
    simp
  | @left e p A B P n _ _ hk ih =>
    obtain ⟨T, hT⟩ := ih
    refine ⟨B.flatMap (subL L) ++ p :: blw L p.id true ++ T, ?_⟩
    rw [hT]
    conv => lhs; rw [subL, blw_kids hok p.id false, hk, List.flatMap_append, List.flatMap_cons]
    simp
  | @right e p A B P n _ _ hk ih =>
    obtain ⟨T, hT⟩ := ih
    refine ⟨B.flatMap (subL L) ++ T, ?_⟩
    rw [hT]
    conv => lhs; rw [subL, blw_kids hok p.id true, hk, List.flatMap_append, List.flatMap_cons]
    simp
theorem ran_next {L : List Ins} (hok : Ok L) {e : Ins} {pre : List Ins} {m : Nat} (h : Ran L (.give e) pre m) : ∃ post, nodesL L = pre ++ e :: post := by
  obtain ⟨_, P, n, hs, rfl, _⟩ := h
  obtain ⟨T, hT⟩ := hs.split hok
  refine ⟨blw L e.id true ++ T, ?_⟩
  rw [hT, subL]
  simp
theorem jumps_mono {J J' : Nat → Go.Act → World → Prop} {Q : Exit → Go.Act → World → Prop} (h : ∀ l a w, J l a w → J' l a w) : ∀ e a w, jumps J Q e a w → jumps J' Q e a w
  | .normal, _, _, q => q
  | .exit _, _, _, q => q
  | .goto l, a, w, q => h l a w q
  | .ret, _, _, q => q
  | .panic _, _, _, q => q
  | .outgrown, _, _, q => q
/-- Four labels, of which one is fallen into from the second, another one from the third. -/
theorem wp_scope_four {P : Program} {c x0 x1 x2 x3 : Code} {Q : Exit → Go.Act → World → Prop} {a : Go.Act} {w : World} (J : Nat → Nat → Go.Act → World → Prop) (hl : ∀ m l a w, J m l a w → l < 4)
    (h0 : findLabel c 0 = some (Code.skip.seq x0)) (h1 : findLabel c 1 = some (Code.skip.seq x1)) (h2 : findLabel c 2 = some (Code.skip.seq x2)) (h3 : findLabel c 3 = some (Code.skip.seq x3))
    (p0 : ∀ m a w, J m 0 a w → x0.wp P (jumps (fun l' a' w' => ∃ m', m' < m ∧ J m' l' a' w') Q) a w)
    (p3 : ∀ m a w, J m 3 a w → x3.wp P (jumps (fun l' a' w' => ∃ m', m' < m ∧ J m' l' a' w') Q) a w)
    (p2 : (∀ m a w, J m 3 a w → x3.wp P (jumps (fun l' a' w' => ∃ m', m' < m ∧ J m' l' a' w') Q) a w) → ∀ m a w, J m 2 a w → x2.wp P (jumps (fun l' a' w' => ∃ m', m' < m ∧ J m' l' a' w') Q) a w)
    (p1 : (∀ m a w, J m 2 a w → x2.wp P (jumps (fun l' a' w' => ∃ m', m' < m ∧ J m' l' a' w') Q) a w) → ∀ m a w, J m 1 a w → x1.wp P (jumps (fun l' a' w' => ∃ m', m' < m ∧ J m' l' a' w') Q) a w)
    (first : (∀ m a w, J m 1 a w → x1.wp P (jumps (fun l a w => ∃ m, J m l a w) Q) a w) → c.wp P (jumps (fun l a w => ∃ m, J m l a w) Q) a w) : (Code.scope c).wp P Q a w := by
  refine wp_scope_labels J (fun l => (findLabel c l).getD .skip) (fun m l a w h => ?_) (first fun m a w h => wp_mono (p1 (p2 p3) m a w h) (jumps_mono fun l a w ⟨m', _, h'⟩ => ⟨m', h'⟩)) (fun m l a w h => ?_)
  · have := hl m l a w h
    have : l = 0 ∨ l = 1 ∨ l = 2 ∨ l = 3 := by omega
    rcases this with rfl | rfl | rfl | rfl
    · rw [h0]; rfl
    · rw [h1]; rfl
    · rw [h2]; rfl
    · rw [h3]; rfl
  · have := hl m l a w h
    have : l = 0 ∨ l = 1 ∨ l = 2 ∨ l = 3 := by omega
    rcases this with rfl | rfl | rfl | rfl
    · rw [h0]; exact wp_seq (wp_skip (p0 m a w h))
    · rw [h1]; exact wp_seq (wp_skip (p1 (p2 p3) m a w h))
    · rw [h2]; exact wp_seq (wp_skip (p2 p3 m a w h))
    · rw [h3]; exact wp_seq (wp_skip (p3 m a w h))
def frm (p y v : Value) (u : Nat → Value) : Go.Act := { tmps := #[p, y, undef, undef, v, u 5, u 6, u 7, u 8, u 9, u 10, u 11, u 12, u 13, u 14, u 15, u 16, u 17, u 18, u 19, u 20, u 21, u 22, u 23, u 24, u 25, u 26, u 27, u 28, u 29, u 30, u 31, u 32, u 33, u 34, u 35, u 36, u 37, u 38, u 39, u 40, u 41, u 42, u 43, u 44, u 45, u 46, u 47, u 48, u 49, u 50, u 51, u 52, u 53, u 54, u 55, u 56, u 57, u 58, u 59], defers := [] }
theorem frm_ex {A : Go.Act} {p y v : Value} (h : A = frm p y v (fun n => A.tmps.getD n undef)) : ∃ u, A = frm p y v u := ⟨_, h⟩
def valOf (ad : IDt → Nat) : Stand → Value
  | .down e => pB (ad e.id)
  | .give e => pB (ad e.id)
  | .behind (some e) => pB (ad e.id)
  | .behind none => pB (ad (0, 0))
  | .up (some e) => pB (ad e.id)
  | .up none => pB (ad (0, 0))
def labOf : Stand → Nat
  | .down _ => 2
  | .give _ => 3
  | .behind _ => 1
  | .up _ => 0
def JO (T : Nat) (ad : IDt → Nat) (L : List Ins) (y : Value) (I : List Ins → World → Prop) (m l : Nat) (a : Go.Act) (w : World) : Prop :=
  ∃ st pre, labOf st = l ∧ Ran L st pre m ∧ I pre w ∧ ∃ u, a = frm (pB T) y (valOf ad st) u
theorem order_nil (y : Value) (w : World) : Calls Try.prog 37 #[.pointer none, y] w fun e w' => (∃ v, e = .returned v) ∧ w' = w := by
  go_enter Try.func37, Try.ntmps37
  go_step3
  go_wp2_with (go_at_call 42; refine (beginning_nil _).mono ?_; rintro e w' ⟨rfl, hw⟩; rw [hw]; clear hw w')
  rw [Exit.noGoto_ret]
  go_returns
  exact ⟨⟨_, rfl⟩, rfl⟩
set_option maxHeartbeats 3200000 in
theorem order_any {T M : Nat} {ad : IDt → Nat} {L : List Ins} {G : List IDt} {l : Nat} {I : List Ins → World → Prop} {Ix : List Ins → World → Prop} (hI : ∀ pre W, I pre W → TreeH W T M ad L G)
    (hY : ∀ pre x W, I pre W → (∃ post, nodesL L = pre ++ x :: post) → YieldAt Fence.wide 1 Try.prog l #[pB (ad x.id)] W fun e W' => (e = .returned (.bool true) ∧ I (pre ++ [x]) W') ∨ (e = .returned (.bool false) ∧ Ix (pre ++ [x]) W'))
    (W : World) (h0 : I [] W) : Calls Try.prog 37 #[pB T, .func (.yield l) #[] #[]] W fun e W' => (∃ v, e = .returned v) ∧ (I (nodesL L) W' ∨ ∃ pre, Ix pre W') := by
  obtain ⟨y, ey⟩ : ∃ y, y = Value.func (.yield l) #[] #[] := ⟨_, rfl⟩
  rw [← ey]
  have HI := Lib.hid hI
  have HY := Lib.hid (And.intro ey hY)
  clear hI hY ey
  go_enter Try.func37, Try.ntmps37
  refine wp_scope_four (JO T ad L y I) ?hl rfl rfl rfl rfl ?p0 ?p3 ?p2 ?p1 ?first
  case hl =>
    rintro m l a w ⟨st, pre, rfl, _⟩
    cases st with
    | down e => exact (by decide : 2 < 4)
    | give e => exact (by decide : 3 < 4)
    | behind e => exact (by decide : 1 < 4)
    | up e => exact (by decide : 0 < 4)
  case p0 =>
    rintro m a w ⟨st, pre, hlab, hr, hi, u, rfl⟩
    cases st with
    | down e => cases hlab
    | give e => cases hlab
    | behind e => cases hlab
    | up e =>
    have ht := HI.out pre w hi
    cases e with
    | none =>
      obtain ⟨c0, c1, c2, c3, c4, c5, c6, c7, c8⟩ := el_cells ht.root
      rw [show valOf ad (.up none) = .pointer (some ⟨ad (0, 0), 0, none⟩) from rfl]
      obtain ⟨be, ebe⟩ : ∃ b, b = ad (0, 0) := ⟨_, rfl⟩
      rw [← ebe] at c4 c6 ⊢
      have HR := Lib.hid (And.intro hr.1 hi)
      clear hr hi ht hlab ebe c0 c1 c2 c3 c5 c7 c8
      unfold frm
      go_wp2_with fail
      simp only [jumps]
      go_returns
      exact ⟨⟨_, rfl⟩, .inl (by rw [← HR.out.1]; exact HR.out.2)⟩
    | some e =>
      have he := hr.1
      obtain ⟨c0, c1, c2, c3, c4, c5, c6, c7, c8⟩ := el_cells (ht.el e he)
      rw [show valOf ad (.up (some e)) = .pointer (some ⟨ad e.id, 0, none⟩) from rfl]
      obtain ⟨be, ebe⟩ : ∃ b, b = ad e.id := ⟨_, rfl⟩
      rw [← ebe] at c4 c5 c6 ⊢
      have HH := Lib.hid (And.intro hi ebe)
      cases hz : nextIn (kidsL L e.par e.right) e.id with
      | some z =>
        obtain ⟨m', hr', hlt⟩ := ran_up_next ht.ok hr hz
        rw [hz] at c6
        replace c6 : w.cell? ⟨be, 6, none⟩ = some (.pointer (some ⟨ad z.id, 0, none⟩)) := c6
        obtain ⟨bz, ebz⟩ : ∃ b, b = ad z.id := ⟨_, rfl⟩
        rw [← ebz] at c6
        have HR := Lib.hid (And.intro hr' (And.intro hlt ebz))
        clear hr hr' hlt hi ht hlab ebe ebz c0 c1 c2 c3 c4 c5 c7 c8 hz he
        unfold frm
        go_wp2_with fail
        go_step3
        exact ⟨_, HR.out.2.1, .down z, pre, rfl, HR.out.1, HH.out.1, frm_ex (by rw [HR.out.2.2]; rfl)⟩
      | none =>
        rw [hz] at c6
        replace c6 : w.cell? ⟨be, 6, none⟩ = some (.pointer none) := c6
        have hcase := ran_up_none ht.ok hr hz
        rcases hcase with ⟨hp, hs, m', hr', hlt⟩ | ⟨q, hq, hqi, hs, m', hr', hlt⟩ | ⟨q, hq, hqi, hs, m', hr', hlt⟩
        all_goals
          rw [hs] at c5
        · rw [hp] at c4
          replace c4 : w.cell? ⟨be, 4, none⟩ = some (.pointer (some ⟨ad (0, 0), 0, none⟩)) := c4
          obtain ⟨bz, ebz⟩ : ∃ b, b = ad (0, 0) := ⟨_, rfl⟩
          rw [← ebz] at c4
          have HR := Lib.hid (And.intro hr' (And.intro hlt ebz))
          clear hr hr' hlt hi ht hlab ebe ebz c0 c1 c2 c3 c7 c8 hz he hp hs
          unfold frm
          go_wp2_with fail
          go_step3
          exact ⟨_, HR.out.2.1, .up none, pre, rfl, HR.out.1, HH.out.1, frm_ex (by rw [HR.out.2.2]; rfl)⟩
        · rw [← hqi] at c4
          replace c4 : w.cell? ⟨be, 4, none⟩ = some (.pointer (some ⟨ad q.id, 0, none⟩)) := c4
          obtain ⟨bz, ebz⟩ : ∃ b, b = ad q.id := ⟨_, rfl⟩
          rw [← ebz] at c4
          have HR := Lib.hid (And.intro hr' (And.intro hlt ebz))
          clear hr hr' hlt hi ht hlab ebe ebz c0 c1 c2 c3 c7 c8 hz he hq hqi hs
          unfold frm
          go_wp2_with fail
          go_step3
          exact ⟨_, HR.out.2.1, .up (some q), pre, rfl, HR.out.1, HH.out.1, frm_ex (by rw [HR.out.2.2]; rfl)⟩
        · rw [← hqi] at c4
          replace c4 : w.cell? ⟨be, 4, none⟩ = some (.pointer (some ⟨ad q.id, 0, none⟩)) := c4
          obtain ⟨bz, ebz⟩ : ∃ b, b = ad q.id := ⟨_, rfl⟩
          rw [← ebz] at c4
          have HR := Lib.hid (And.intro hr' (And.intro hlt ebz))
          clear hr hr' hlt hi ht hlab ebe ebz c0 c1 c2 c3 c7 c8 hz he hq hqi hs
          unfold frm
          go_wp2_with fail
          go_step3
          exact ⟨_, HR.out.2.1, .give q, pre, rfl, HR.out.1, HH.out.1, frm_ex (by rw [HR.out.2.2]; rfl)⟩
  case p3 =>
    rintro m a w ⟨st, pre, hlab, hr, hi, u, rfl⟩
    cases st with
    | down e => cases hlab
    | behind e => cases hlab
    | up e => cases hlab
    | give e =>
    obtain ⟨fn, tmps, assign, body, hy, hR⟩ := HY.out.2 pre e w hi (ran_next (HI.out pre w hi).ok hr)
    obtain ⟨m', hr', hlt⟩ := ran_give hr
    have hev := HY.out.1
    subst hev
    rw [show valOf ad (.give e) = .pointer (some ⟨ad e.id, 0, none⟩) from rfl]
    obtain ⟨be, ebe⟩ : ∃ b, b = ad e.id := ⟨_, rfl⟩
    have HB := Lib.hid ebe
    rw [← ebe] at hy ⊢
    clear ebe
    have HR := Lib.hid (And.intro hr' hlt)
    clear hr hr' hlt hlab hi
    unfold frm
    refine wp_seq_k fun K1 hK1 => ?_
    have HK1 := Lib.hid hK1
    clear hK1
    refine wp_seq_k fun K2 hK2 => ?_
    have HK2 := Lib.hid hK2
    clear hK2
    refine (wpIn_wide (n := 2)).1 ?_
    gi_wp2
    refine hR.mono ?_
    rintro e' W' (⟨rfl, hi'⟩ | ⟨rfl, hix⟩)
    · gi_wp2
      refine HK2.out _ _ ?_
      go_wp2_with fail
      refine HK1.out _ _ ?_
      refine wp_seq (wp_goto ?_)
      exact ⟨_, HR.out.2, .behind (some e), pre ++ [e], rfl, HR.out.1, hi', frm_ex (by rw [HB.out]; rfl)⟩
    · gi_wp2
      refine HK2.out _ _ ?_
      go_wp2_with fail
      simp only [jumps]
      go_returns
      exact ⟨⟨_, rfl⟩, .inr ⟨_, hix⟩⟩
  case p2 =>
    intro P3
    rintro m a w ⟨st, pre, hlab, hr, hi, u, rfl⟩
    cases st with
    | give e => cases hlab
    | behind e => cases hlab
    | up e => cases hlab
    | down e =>
    have ht := HI.out pre w hi
    have he := hr.1
    obtain ⟨c0, c1, c2, c3, c4, c5, c6, c7, c8⟩ := el_cells (ht.el e he)
    rw [show valOf ad (.down e) = .pointer (some ⟨ad e.id, 0, none⟩) from rfl]
    obtain ⟨be, ebe⟩ : ∃ b, b = ad e.id := ⟨_, rfl⟩
    rw [← ebe] at c7 ⊢
    have HH := Lib.hid (And.intro hi ebe)
    have HP := Lib.hid P3
    clear P3
    refine wp_seq_k fun K1 hK1 => ?_
    have HK1 := Lib.hid hK1
    clear hK1
    cases hz : (kidsL L e.id false).head? with
    | some z =>
      obtain ⟨m', hr', hlt⟩ := ran_down_left ht.ok hr hz
      rw [hz] at c7
      replace c7 : w.cell? ⟨be, 7, none⟩ = some (.pointer (some ⟨ad z.id, 0, none⟩)) := c7
      obtain ⟨bz, ebz⟩ : ∃ b, b = ad z.id := ⟨_, rfl⟩
      rw [← ebz] at c7
      have HR := Lib.hid (And.intro hr' (And.intro hlt ebz))
      clear hr hr' hlt hi ht hlab ebe ebz c0 c1 c2 c3 c4 c5 c6 c8 hz he
      unfold frm
      go_wp2_with fail
      go_step3
      exact ⟨_, HR.out.2.1, .down z, pre, rfl, HR.out.1, HH.out.1, frm_ex (by rw [HR.out.2.2]; rfl)⟩
    | none =>
      obtain ⟨m', hr', hlt⟩ := ran_down_give ht.ok hr hz
      rw [hz] at c7
      replace c7 : w.cell? ⟨be, 7, none⟩ = some (.pointer none) := c7
      have HR := Lib.hid (And.intro hr' hlt)
      clear hr hr' hlt hi ht hlab ebe c0 c1 c2 c3 c4 c5 c6 c8 hz he
      unfold frm
      go_wp2_with fail
      refine HK1.out _ _ ?_
      refine wp_seq (wp_label ?_)
      refine wp_mono (HP.out m' _ w ⟨.give e, pre, rfl, HR.out.1, HH.out.1, frm_ex (by rw [HH.out.2]; rfl)⟩) (jumps_mono fun l a w ⟨m2, h2, h3⟩ => ⟨m2, Nat.lt_trans h2 HR.out.2, h3⟩)
  case p1 =>
    intro P2
    rintro m a w ⟨st, pre, hlab, hr, hi, u, rfl⟩
    cases st with
    | give e => cases hlab
    | down e => cases hlab
    | up e => cases hlab
    | behind e =>
    have ht := HI.out pre w hi
    have key : ∃ be : Nat, valOf ad (.behind e) = .pointer (some ⟨be, 0, none⟩) ∧ ((∃ z m', w.cell? ⟨be, 8, none⟩ = some (.pointer (some ⟨ad z.id, 0, none⟩)) ∧ Ran L (.down z) pre m' ∧ m' < m) ∨ (w.cell? ⟨be, 8, none⟩ = some (.pointer none) ∧ ∃ m', Ran L (.up e) pre m' ∧ m' < m ∧ valOf ad (.up e) = .pointer (some ⟨be, 0, none⟩))) := by
      cases e with
      | none =>
        refine ⟨ad (0, 0), rfl, ?_⟩
        obtain ⟨c0, c1, c2, c3, c4, c5, c6, c7, c8⟩ := el_cells ht.root
        cases hz : (kidsL L (0, 0) true).head? with
        | some z =>
          obtain ⟨m', hr', hlt⟩ := ran_begin_right ht.ok hr hz
          rw [hz] at c8
          exact .inl ⟨z, m', c8, hr', hlt⟩
        | none =>
          obtain ⟨m', hr', hlt⟩ := ran_begin_up ht.ok hr hz
          rw [hz] at c8
          exact .inr ⟨c8, m', hr', hlt, rfl⟩
      | some e =>
        refine ⟨ad e.id, rfl, ?_⟩
        obtain ⟨c0, c1, c2, c3, c4, c5, c6, c7, c8⟩ := el_cells (ht.el e hr.1)
        cases hz : (kidsL L e.id true).head? with
        | some z =>
          obtain ⟨m', hr', hlt⟩ := ran_behind_right ht.ok hr hz
          rw [hz] at c8
          exact .inl ⟨z, m', c8, hr', hlt⟩
        | none =>
          obtain ⟨m', hr', hlt⟩ := ran_behind_up ht.ok hr hz
          rw [hz] at c8
          exact .inr ⟨c8, m', hr', hlt, rfl⟩
    obtain ⟨be, ebe, key⟩ := key
    rw [ebe]
    have HH := Lib.hid hi
    have HP := Lib.hid P2
    clear P2 hr hlab ht ebe hi
    refine wp_seq_k fun K1 hK1 => ?_
    have HK1 := Lib.hid hK1
    clear hK1
    unfold frm
    rcases key with ⟨z, m', c8, hr', hlt⟩ | ⟨c8, m', hr', hlt, hv⟩
    · obtain ⟨bz, ebz⟩ : ∃ b, b = ad z.id := ⟨_, rfl⟩
      rw [← ebz] at c8
      have HR := Lib.hid (And.intro hr' (And.intro hlt ebz))
      clear hr' hlt ebz
      go_wp2_with fail
      refine HK1.out _ _ ?_
      refine wp_seq_k fun K2 hK2 => ?_
      have HK2 := Lib.hid hK2
      clear hK2
      go_wp2_with fail
      refine HK2.out _ _ ?_
      refine wp_seq (wp_label ?_)
      refine wp_mono (HP.out m' _ w ⟨.down z, pre, rfl, HR.out.1, HH.out, frm_ex (by rw [HR.out.2.2]; rfl)⟩) (jumps_mono fun l a w ⟨m2, h2, h3⟩ => ⟨m2, Nat.lt_trans h2 HR.out.2.1, h3⟩)
    · have HR := Lib.hid (And.intro hr' (And.intro hlt hv))
      clear hr' hlt hv
      go_wp2_with fail
      go_step3
      exact ⟨_, HR.out.2.1, .up e, pre, rfl, HR.out.1, HH.out, frm_ex (by rw [HR.out.2.2]; rfl)⟩
  case first =>
    intro P1
    have HP := Lib.hid P1
    clear P1
    have ht := HI.out [] W h0
    have hb := beginning_any ht
    have HH := Lib.hid h0
    clear h0 ht
    obtain ⟨be, ebe⟩ : ∃ b, b = ad (0, 0) := ⟨_, rfl⟩
    rw [← ebe] at hb
    have HE := Lib.hid ebe
    clear ebe
    refine wp_seq_k fun K1 hK1 => ?_
    have HK1 := Lib.hid hK1
    clear hK1
    go_wp2_with (go_at_call 42; refine hb.mono ?_; rintro e w' ⟨rfl, hw⟩; rw [hw]; clear hw w')
    refine HK1.out _ _ ?_
    refine wp_seq_k fun K2 hK2 => ?_
    have HK2 := Lib.hid hK2
    clear hK2
    go_wp2_with fail
    refine HK2.out _ _ ?_
    refine wp_seq (wp_label ?_)
    exact HP.out _ _ W ⟨.behind none, [], rfl, ⟨rfl, rfl⟩, HH.out, frm_ex (by rw [HE.out]; rfl)⟩
end Go.Proofs.Ytljciakgdpihdaa
