/-
  Layer 17: the document's Box. By an AI agent.
-/
import Derived.Test.YtejfdheiopejeaaCx3
import Derived.Test.YtejfdheiopejeaaCy7
namespace Go.Proofs.Ytejfdheiopejeaa
open Go Go.RowKit
set_option maxRecDepth 20000
theorem minZ (a b : Int) : (if b < a then b else a) = min a b := by rw [Int.min_def]; split <;> split <;> omega
theorem maxZ17 (a b : Int) : (if a < b then b else a) = max a b := by rw [Int.max_def]; split <;> split <;> omega
theorem run_imin {P : Program} (w : World) (ts : Array TypeId) (t : TypeId) (x y : Int) : (Builtin.min_ ts t #[.int .i64 x, .int .i64 y]).run P w = .ok (.int .i64 (min x y)) w := by
  rw [run_min_int2, minZ]
theorem run_imax {P : Program} (w : World) (ts : Array TypeId) (t : TypeId) (x y : Int) : (Builtin.max_ ts t #[.int .i64 x, .int .i64 y]).run P w = .ok (.int .i64 (max x y)) w := by
  rw [run_max_int2, show (if y > x then y else x) = max x y from maxZ17 x y]
theorem rbox_res {fn : Func} {p q r : Tmp} (h : fn.results = #[.cell p 32, .cell q 32, .tmp r]) (tmps : Array Value) {w : World} {g1 g2 : Nat} {a b c d : Value} (c0 : w.cell? ⟨g1, 0, none⟩ = some a) (c1 : w.cell? ⟨g1, 1, none⟩ = some b) (c2 : w.cell? ⟨g2, 0, none⟩ = some c) (c3 : w.cell? ⟨g2, 1, none⟩ = some d)
    (hp : tmps.getD p undef = .pointer (some ⟨g1, 0, none⟩)) (hq : tmps.getD q undef = .pointer (some ⟨g2, 0, none⟩)) {v : Value} (hv : tmps.getD r undef = v) :
    (results fn tmps).run Try.prog w = .ok (.tuple #[.agg #[a, b], .agg #[c, d], v]) w := by
  subst hv
  have hp' : tmps[p]?.getD undef = .pointer (some ⟨g1, 0, none⟩) := by simpa using hp
  have hq' : tmps[q]?.getD undef = .pointer (some ⟨g2, 0, none⟩) := by simpa using hq
  simp only [results, h]
  simp [Result.andThen, hp', hq', asAddr, go_sem, c0, c1, c2, c3]
set_option maxHeartbeats 6400000 in
theorem rbox_no {s : ByteArray} {c i k : Int} (hs : s.size ≤ 1048576) (h : ¬ ((2 ≤ c ∧ c ≤ 200) ∧ 0 ≤ i ∧ i ≤ k ∧ k < ((spotsR c (runesFrom s 0) (0, 0)).length : Int))) (w : World) :
    Calls Try.prog 15 #[.string s, .int .i64 c, .int .i64 i, .int .i64 k] w fun e w' => e = .returned (.tuple #[idV (0, 0), idV (0, 0), .int .i64 6]) ∧ Below w.heap.size w w' := by
  have fin : ∀ (tm : Array Value) (v' : World), Below w.heap.size w v' → tm.getD 8 undef = .pointer (some ⟨w.heap.size, 0, none⟩) → tm.getD 9 undef = .pointer (some ⟨w.heap.size + 1, 0, none⟩) → tm.getD 10 undef = .int .i64 6 →
      v'.heap[w.heap.size]? = some (.cells #[.int .i64 0, .int .i64 0] 32) → v'.heap[w.heap.size + 1]? = some (.cells #[.int .i64 0, .int .i64 0] 32) →
      (results Try.f15 tm).run Try.prog v' = .ok (.tuple #[idV (0, 0), idV (0, 0), .int .i64 6]) v' := by
    intro tm v' _ h8 h9 h10 g1 g2
    exact rbox_res Try.results15 tm (by simp [World.cell?, g1]) (by simp [World.cell?, g1]) (by simp [World.cell?, g2]) (by simp [World.cell?, g2]) h8 h9 h10
  have HF := Lib.hid fin
  have HN := Lib.hid (heap_new2 w (.cells #[.int .i64 0, .int .i64 0] 32) (.cells #[.int .i64 0, .int .i64 0] 32))
  clear fin
  obtain ⟨v, ev⟩ : ∃ v, v = (w.alloc (.cells #[.int .i64 0, .int .i64 0] 32)).alloc (.cells #[.int .i64 0, .int .i64 0] 32) := ⟨_, rfl⟩
  have hbv : Below w.heap.size w v := by rw [ev]; exact ((Below.refl _ _).alloc (Nat.le_refl _) _).alloc (by simp) _
  have hvs : v.heap.size = w.heap.size + 2 := by rw [ev]; simp
  by_cases hc : 2 ≤ c ∧ c ≤ 200
  · have HP := Lib.hid (rplaces_any (s := s) (k := c) hc hs v)
    obtain ⟨n, en⟩ : ∃ n, n = (spotsR c (runesFrom s 0) (0, 0)).length := ⟨_, rfl⟩
    rw [← en] at HP h
    obtain ⟨g, eg⟩ : ∃ g, g = w.heap.size := ⟨_, rfl⟩
    have HV := Lib.hid (And.intro ev (And.intro hbv (And.intro hvs eg)))
    have fin3 : ∀ (w1 : World), Below v.heap.size v w1 → Below w.heap.size w ((((w1.setCell ⟨g, 0, none⟩ (.int .i64 0)).setCell ⟨g, 1, none⟩ (.int .i64 0)).setCell ⟨g + 1, 0, none⟩ (.int .i64 0)).setCell ⟨g + 1, 1, none⟩ (.int .i64 0)) := fun w1 hb1 =>
      (((((hbv.trans (hb1.mono hbv.size)).setCell (p := ⟨g, 0, none⟩) (by show _ ≤ g; omega) (.int .i64 0)).setCell (p := ⟨g, 1, none⟩) (by show _ ≤ g; omega) (.int .i64 0)).setCell (p := ⟨g + 1, 0, none⟩) (by show _ ≤ g + 1; omega) (.int .i64 0)).setCell (p := ⟨g + 1, 1, none⟩) (by show _ ≤ g + 1; omega) (.int .i64 0))
    have fin2 : ∀ (tm : Array Value) (w1 : World), Below v.heap.size v w1 → tm.getD 8 undef = .pointer (some ⟨g, 0, none⟩) → tm.getD 9 undef = .pointer (some ⟨g + 1, 0, none⟩) → tm.getD 10 undef = .int .i64 6 →
        (results Try.f15 tm).run Try.prog ((((w1.setCell ⟨g, 0, none⟩ (.int .i64 0)).setCell ⟨g, 1, none⟩ (.int .i64 0)).setCell ⟨g + 1, 0, none⟩ (.int .i64 0)).setCell ⟨g + 1, 1, none⟩ (.int .i64 0)) = .ok (.tuple #[idV (0, 0), idV (0, 0), .int .i64 6]) ((((w1.setCell ⟨g, 0, none⟩ (.int .i64 0)).setCell ⟨g, 1, none⟩ (.int .i64 0)).setCell ⟨g + 1, 0, none⟩ (.int .i64 0)).setCell ⟨g + 1, 1, none⟩ (.int .i64 0)) := by
      intro tm w1 hb1 h8 h9 h10
      obtain ⟨g1, g2⟩ := HN.out
      rw [← ev, ← eg] at g1 g2
      have k1 := (hb1.block g (by omega)).trans g1
      have k2 := (hb1.block (g + 1) (by omega)).trans g2
      refine HF.out tm _ (fin3 w1 hb1) (by rw [← eg]; exact h8) (by rw [← eg]; exact h9) h10 ?_ ?_
      · rw [← eg, w_other _ _ (by omega), w_other _ _ (by omega), w_block (w_block k1 0 _) 1]
        rfl
      · rw [← eg, w_block (w_block ((w_other _ _ (by omega)).trans ((w_other _ _ (by omega)).trans k2)) 0 _) 1]
        rfl
    have H2 := Lib.hid (And.intro fin2 fin3)
    have hst : ∀ w1, Below v.heap.size v w1 → (w1.cell? ⟨g, 0, none⟩ = some (.int .i64 0) ∧ w1.cell? ⟨g, 1, none⟩ = some (.int .i64 0) ∧ w1.cell? ⟨g + 1, 0, none⟩ = some (.int .i64 0) ∧ w1.cell? ⟨g + 1, 1, none⟩ = some (.int .i64 0)) ∧ (w1.frozen? ⟨g, 0, none⟩ = false ∧ w1.frozen? ⟨g, 1, none⟩ = false ∧ w1.frozen? ⟨g + 1, 0, none⟩ = false ∧ w1.frozen? ⟨g + 1, 1, none⟩ = false) := by
      intro w1 hb1
      obtain ⟨g1, g2⟩ := HN.out
      rw [← ev, ← eg] at g1 g2
      have k1 := (hb1.block g (by omega)).trans g1
      have k2 := (hb1.block (g + 1) (by omega)).trans g2
      exact ⟨⟨by simp [World.cell?, k1], by simp [World.cell?, k1], by simp [World.cell?, k2], by simp [World.cell?, k2]⟩, w_free k1 0, w_free k1 1, w_free k2 0, w_free k2 1⟩
    have HST := Lib.hid hst
    have h3 : ¬ (0 ≤ i ∧ i ≤ k ∧ k < (n : Int)) := fun q => h ⟨hc, q⟩
    have HW := Lib.hid h3
    clear h hc hbv hvs ev eg hst fin2 fin3 h3 en
    go_enter Try.func15, Try.ntmps15
    go_upto_region 1 with fail
    rw [← HV.out.1, ← HV.out.2.2.2]
    go_upto_region 4 with (go_at_call 9; refine HP.out.mono ?_; rintro z w1 ⟨A, c9, rfl, hown, hb1⟩; obtain ⟨⟨d0, d1, d2, d3⟩, e0, e1, e2, e3⟩ := HST.out w1 hb1; have HB := Lib.hid (And.intro hown hb1); clear hown hb1)
    by_cases q1 : i < 0
    · go_wp2_with fail
      exact bodyPost_ret (H2.out.1 _ w1 HB.out.2 rfl rfl rfl) rfl ⟨rfl, H2.out.2 w1 HB.out.2⟩
    · by_cases q2 : k < i
      · go_wp2_with fail
        exact bodyPost_ret (H2.out.1 _ w1 HB.out.2 rfl rfl rfl) rfl ⟨rfl, H2.out.2 w1 HB.out.2⟩
      · have q3 : (n : Int) ≤ k := by have := HW.out; omega
        go_wp2_with fail
        exact bodyPost_ret (H2.out.1 _ w1 HB.out.2 rfl rfl rfl) rfl ⟨rfl, H2.out.2 w1 HB.out.2⟩
  · have hpl := fun w => rplaces_bad (s := s) (k := c) (by omega) w
    have HP := Lib.hid hpl
    have HV := Lib.hid (And.intro ev hbv)
    clear h hc hpl hbv hvs ev
    go_enter Try.func15, Try.ntmps15
    go_wp2_with (go_at_call 9; refine (HP.out _).mono ?_; rintro z wz ⟨rfl, hwz⟩; rw [hwz]; clear hwz wz)
    rw [← HV.out.1]
    exact bodyPost_ret (HF.out _ v HV.out.2 rfl rfl rfl (by rw [HV.out.1]; exact HN.out.1) (by rw [HV.out.1]; exact HN.out.2)) rfl ⟨rfl, HV.out.2⟩
set_option maxHeartbeats 6400000 in
theorem rbox_yes {s : ByteArray} {c k : Int} {n m : Nat} (hs : s.size ≤ 1048576) (hc : 2 ≤ c ∧ c ≤ 200) (hk : k = m) (hnm : n ≤ m) (hm : m < (spotsR c (runesFrom s 0) (0, 0)).length) (w : World) :
    Calls Try.prog 15 #[.string s, .int .i64 c, .int .i64 (n : Int), .int .i64 k] w fun e w' => e = .returned (.tuple #[idV (lowN (spotsR c (runesFrom s 0) (0, 0)) n (m - n)), idV (highN (spotsR c (runesFrom s 0) (0, 0)) n (m - n)), .int .i64 0]) ∧ Below w.heap.size w w' := by
  obtain ⟨v, ev⟩ : ∃ v, v = (w.alloc (.cells #[.int .i64 0, .int .i64 0] 32)).alloc (.cells #[.int .i64 0, .int .i64 0] 32) := ⟨_, rfl⟩
  have hbv : Below w.heap.size w v := by rw [ev]; exact ((Below.refl _ _).alloc (Nat.le_refl _) _).alloc (by simp) _
  have hvs : v.heap.size = w.heap.size + 2 := by rw [ev]; simp
  have HP := Lib.hid (rplaces_any (s := s) (k := c) hc hs v)
  obtain ⟨all, eall⟩ : ∃ l, l = spotsR c (runesFrom s 0) (0, 0) := ⟨_, rfl⟩
  rw [← eall] at HP hm ⊢
  obtain ⟨N, eN⟩ : ∃ N, N = all.length := ⟨_, rfl⟩
  rw [← eN] at HP hm
  have hN : N ≤ 1048577 := by
    have := runes_len s s.size 0 rfl
    rw [eN, eall, spotsR_len]
    omega
  obtain ⟨g, eg⟩ : ∃ g, g = w.heap.size := ⟨_, rfl⟩
  have hn2 := heap_new2 w (.cells #[.int .i64 0, .int .i64 0] 32) (.cells #[.int .i64 0, .int .i64 0] 32)
  rw [← ev, ← eg] at hn2
  have HV := Lib.hid (And.intro ev (And.intro hbv (And.intro hvs (And.intro eg (And.intro hn2 (And.intro hc (And.intro True.intro (And.intro hk (And.intro hnm (And.intro hm (And.intro hN eN)))))))))))
  have q1 : decide ((n : Int) < 0) = false := decide_eq_false (by omega)
  have q2 : decide (k < (n : Int)) = false := decide_eq_false (by omega)
  have q3 : decide ((N : Int) ≤ k) = false := decide_eq_false (by omega)
  have hin : n < N := by omega
  clear hs hc hk hnm hm hbv hvs ev eg hn2 eall eN hN
  go_enter Try.func15, Try.ntmps15
  go_upto_region 1 with fail
  rw [← HV.out.1, ← HV.out.2.2.2.1]
  go_upto_region 6 with (go_at_call 9; refine HP.out.mono ?_; rintro z w1 ⟨A, c9, rfl, hown, hb1⟩; have HB := Lib.hid (And.intro hown hb1); clear hown hb1)
  have hrd := HB.out.1.rd
  obtain ⟨st, est⟩ : ∃ st, st = all.getD n (0, 0) := ⟨_, rfl⟩
  have hgt : all[n]? = some st := by
    have := HV.out.2.2.2.2.2.2.2.2.2.2.2
    rw [est, List.getD_eq_getElem?_getD, List.getElem?_eq_getElem (by omega)]
    rfl
  obtain ⟨b, o, hA, hbl, hcl⟩ := hrd.at_ hgt
  have r0 : w1.cell? ⟨b, o + n * 2, none⟩ = some (.int .i64 st.1) := hcl 0 _ rfl
  have r1 : w1.cell? ⟨b, o + n * 2 + 1, none⟩ = some (.int .i64 st.2) := hcl 1 _ rfl
  obtain ⟨x, y⟩ := st
  dsimp only at r0 r1
  have HST := Lib.hid est
  subst hA
  clear hcl hgt hrd est
  go_region
  · obtain ⟨W, eW⟩ : ∃ v, v = ((w1.alloc (.cells #[.int .i64 x, .int .i64 y] 32)).alloc (.cells #[.int .i64 x, .int .i64 y] 32)).drew := ⟨_, rfl⟩
    obtain ⟨G, eG⟩ : ∃ G, G = w1.heap.size := ⟨_, rfl⟩
    obtain ⟨H, eH⟩ : ∃ H, H = w1.heap.size + 1 := ⟨_, rfl⟩
    have hnw := heap_new2 w1 (.cells #[.int .i64 x, .int .i64 y] 32) (.cells #[.int .i64 x, .int .i64 y] 32)
    have hbW : Below w1.heap.size w1 W := by rw [eW]; exact (((Below.refl _ _).alloc (Nat.le_refl _) _).alloc (by simp) _).drew
    have gG : W.heap[G]? = some (.cells #[.int .i64 x, .int .i64 y] 32) := by rw [eW, eG]; exact hnw.1
    have gH : W.heap[H]? = some (.cells #[.int .i64 x, .int .i64 y] 32) := by rw [eW, eH]; exact hnw.2
    rw [← eW, ← eH, ← eG]
    have hbv := HB.out.2
    have HW := Lib.hid (And.intro hbW (And.intro gG (And.intro gH (And.intro (show G = w1.heap.size from eG) (show H = w1.heap.size + 1 from eH)))))
    clear r0 r1 hbW gG gH hnw eW eG eH hbl hbv q1 q2 q3 hin
    go_upto_region 8 with fail
    go_loopg [15] (m + 1 - n) (fun q nv wr => ∃ t, m + 1 - (n + t) = q ∧ nv = .int .i64 ((n + t : Nat) : Int) ∧ n + t ≤ m + 1 ∧ W.heap.size ≤ wr.heap.size ∧ (∀ j, j ≠ G → j ≠ H → j < W.heap.size → wr.heap[j]? = W.heap[j]?) ∧ Below w1.heap.size W wr ∧
      wr.heap[G]? = some (.cells #[.int .i64 (lowN all n (t - 1)).1, .int .i64 (lowN all n (t - 1)).2] 32) ∧ wr.heap[H]? = some (.cells #[.int .i64 (highN all n (t - 1)).1, .int .i64 (highN all n (t - 1)).2] 32))
    case atStart =>
      have hst := HST.out
      have hlo : lowN all n (0 - 1) = (x, y) := hst.symm
      have hhi : highN all n (0 - 1) = (x, y) := hst.symm
      obtain ⟨hbW, gG, gH, eG, eH⟩ := HW.out
      obtain ⟨-, -, -, -, -, -, -, -, hnm, -⟩ := HV.out
      exact ⟨0, rfl, rfl, by omega, Nat.le_refl _, fun _ _ _ _ => rfl, Below.refl _ _, by rw [hlo]; assumption, by rw [hhi]; assumption⟩
    case round =>
      obtain ⟨t, hq, rfl, htm, hsz, hot, hbr, gX, gY⟩ := hrel
      obtain ⟨-, -, hvs, egg, hn2, -, -, hk, hnm, hm, hN, eN⟩ := HV.out
      obtain ⟨hbW, gG, gH, eG, eH⟩ := HW.out
      obtain ⟨L, eL⟩ : ∃ L, L = lowN all n (t - 1) := ⟨_, rfl⟩
      obtain ⟨M, eM⟩ : ∃ L, L = highN all n (t - 1) := ⟨_, rfl⟩
      rw [← eL] at gX
      rw [← eM] at gY
      obtain ⟨L1, L2⟩ := L
      obtain ⟨M1, M2⟩ := M
      dsimp only at gX gY
      obtain ⟨j, ej⟩ : ∃ j, j = n + t := ⟨_, rfl⟩
      rw [← ej]
      by_cases hj : j ≤ m
      · obtain ⟨st, est⟩ : ∃ st, st = all.getD j (0, 0) := ⟨_, rfl⟩
        have hgt : all[j]? = some st := by
          rw [est, List.getD_eq_getElem?_getD, List.getElem?_eq_getElem (by omega)]
          rfl
        obtain ⟨b', o', hA, hbl, hcl⟩ := HB.out.1.rd.at_ hgt
        simp only [Option.some.injEq, Addr.mk.injEq] at hA
        obtain ⟨rfl, rfl, -⟩ := hA
        have hrw : ∀ p, wr.cell? ⟨b, p, none⟩ = w1.cell? ⟨b, p, none⟩ := fun p => World.cell?_of_block ((hot b (by omega) (by omega) (by have := hbW.size; omega)).trans (hbW.block b hbl))
        obtain ⟨x', y'⟩ := st
        have r0 : wr.cell? ⟨b, o + j * 2, none⟩ = some (.int .i64 x') := (hrw _).trans (hcl 0 _ rfl)
        have r1 : wr.cell? ⟨b, o + j * 2 + 1, none⟩ = some (.int .i64 y') := (hrw _).trans (hcl 1 _ rfl)
        have hXY : G ≠ H := by omega
        have c0 : wr.cell? ⟨G, 0, none⟩ = some (.int .i64 L1) := by simp [World.cell?, gX]
        have c1 : wr.cell? ⟨G, 1, none⟩ = some (.int .i64 L2) := by simp [World.cell?, gX]
        have f0 := w_free gX 0
        have f1 := w_free gX 1
        have hbX : b ≠ G := by omega
        have hbY : b ≠ H := by omega
        have hjk : decide ((j : Int) ≤ k) = true := decide_eq_true (by omega)
        have hjN : j < N := by omega
        have hj9 : j ≤ 1048577 := by omega
        have HR := Lib.hid (And.intro hq (And.intro htm (And.intro hsz (And.intro hot (And.intro hbr (And.intro gX (And.intro gY (And.intro eL (And.intro eM (And.intro ej (And.intro est (And.intro hXY (And.intro hrw (And.intro hj (And.intro hbX hbY)))))))))))))))
        obtain ⟨p1, ep1⟩ : ∃ q, q = min L1 x' := ⟨_, rfl⟩
        obtain ⟨p2, ep2⟩ : ∃ q, q = min L2 y' := ⟨_, rfl⟩
        have hm1 := minZ L1 x'
        have hm2 := minZ L2 y'
        rw [← ep1] at hm1
        rw [← ep2] at hm2
        have HS := Lib.hid (fun wz (hz : Below wr.heap.size wr wz) => show wz.cell? ⟨b, o + j * 2, none⟩ = some (.int .i64 x') ∧ wz.cell? ⟨b, o + j * 2 + 1, none⟩ = some (.int .i64 y') ∧ wz.cell? ⟨G, 0, none⟩ = some (.int .i64 L1) ∧ wz.cell? ⟨G, 1, none⟩ = some (.int .i64 L2) from
          ⟨(hz.cell (p := ⟨b, o + j * 2, none⟩) (by show b < _; have := hbW.size; omega)).trans r0, (hz.cell (p := ⟨b, o + j * 2 + 1, none⟩) (by show b < _; have := hbW.size; omega)).trans r1, (hz.cell (p := ⟨G, 0, none⟩) (w_lt gX)).trans c0, (hz.cell (p := ⟨G, 1, none⟩) (w_lt gX)).trans c1⟩)
        clear hq htm hsz hot hbr gX gY eL eM ej est hXY hrw hj hbX hbY hvs egg hn2 hk hnm hm hN eN hbW gG gH eG eH hcl hgt r0 r1 c0 c1 f0 f1
        have HP := Lib.hid (And.intro ep1 ep2)
        clear ep1 ep2
        go_upto_region 10 with fail
        refine wp_region_inv 17 [56, 57, 58, 59, 60, 61, 62, 63, 64, 65, 66, 67, 68, 69, 70, 71, 72] [.val (.pointer (some ⟨G, 0, none⟩)), .val (.int .i64 L1), .val (.slice (some ⟨b, o, none⟩) N c9), .val (.int .i64 (j : Int)), .val (.pointer (some ⟨b, o + j * 2, none⟩)), .val (.pointer (some ⟨b, o + j * 2, none⟩)), .val (.int .i64 x'), .val (.int .i64 p1), .val (.pointer (some ⟨G, 1, none⟩)), .val (.int .i64 L2), .val (.slice (some ⟨b, o, none⟩) N c9), .val (.int .i64 (j : Int)), .val (.pointer (some ⟨b, o + j * 2, none⟩)), .val (.pointer (some ⟨b, o + j * 2 + 1, none⟩)), .val (.int .i64 y'), .val (.int .i64 p2), .val (.agg #[.int .i64 p1, .int .i64 p2])] (fun wz => Below wr.heap.size wr wz) (by kernel_rfl) (by kernel_rfl) (fun wz wz' hz hb => hz.trans (hb.mono hz.size)) ((Below.refl _ _).drew) (fun u => by simp only [puts, List.foldl_cons, List.foldl_nil]; go_simp; exact rfl) ?_ ?_
        · simp only [List.take_succ_cons, List.take_zero]
          refine Obs.cons (fun u w hS hd => ?_) ?_
          · exact Gv.run (.pointer (some ⟨G, 0, none⟩)) rfl (by go_simp) rfl
          refine Obs.cons (fun u w hS hd => ?_) ?_
          · have d56 : u 56 = .pointer (some ⟨G, 0, none⟩) := dep hd 0 rfl
            rw [d56]
            exact Gv.run (.int .i64 L1) rfl (by obtain ⟨k0, k1, k2, k3⟩ := HS.out w hS; go_simp) rfl
          refine Obs.cons (fun u w hS hd => ?_) ?_
          · exact Gv.run (.slice (some ⟨b, o, none⟩) N c9) rfl (by go_simp) rfl
          refine Obs.cons (fun u w hS hd => ?_) ?_
          · exact Gv.run (.int .i64 (j : Int)) rfl (by go_simp) rfl
          refine Obs.cons (fun u w hS hd => ?_) ?_
          · have d58 : u 58 = .slice (some ⟨b, o, none⟩) N c9 := dep hd 2 rfl
            have d59 : u 59 = .int .i64 (j : Int) := dep hd 3 rfl
            rw [d58, d59]
            exact Gv.run (.pointer (some ⟨b, o + j * 2, none⟩)) rfl (by go_simp) rfl
          refine Obs.cons (fun u w hS hd => ?_) ?_
          · have d60 : u 60 = .pointer (some ⟨b, o + j * 2, none⟩) := dep hd 4 rfl
            rw [d60]
            exact Gv.run (.pointer (some ⟨b, o + j * 2, none⟩)) rfl (by go_simp) rfl
          refine Obs.cons (fun u w hS hd => ?_) ?_
          · have d61 : u 61 = .pointer (some ⟨b, o + j * 2, none⟩) := dep hd 5 rfl
            rw [d61]
            exact Gv.run (.int .i64 x') rfl (by obtain ⟨k0, k1, k2, k3⟩ := HS.out w hS; go_simp) rfl
          refine Obs.cons (fun u w hS hd => ?_) ?_
          · have d57 : u 57 = .int .i64 L1 := dep hd 1 rfl
            have d62 : u 62 = .int .i64 x' := dep hd 6 rfl
            rw [d57, d62]
            exact Gv.run (.int .i64 p1) rfl (by go_simp) rfl
          refine Obs.cons (fun u w hS hd => ?_) ?_
          · exact Gv.run (.pointer (some ⟨G, 1, none⟩)) rfl (by go_simp) rfl
          refine Obs.cons (fun u w hS hd => ?_) ?_
          · have d64 : u 64 = .pointer (some ⟨G, 1, none⟩) := dep hd 8 rfl
            rw [d64]
            exact Gv.run (.int .i64 L2) rfl (by obtain ⟨k0, k1, k2, k3⟩ := HS.out w hS; go_simp) rfl
          refine Obs.cons (fun u w hS hd => ?_) ?_
          · exact Gv.run (.slice (some ⟨b, o, none⟩) N c9) rfl (by go_simp) rfl
          refine Obs.cons (fun u w hS hd => ?_) ?_
          · exact Gv.run (.int .i64 (j : Int)) rfl (by go_simp) rfl
          refine Obs.cons (fun u w hS hd => ?_) ?_
          · have d66 : u 66 = .slice (some ⟨b, o, none⟩) N c9 := dep hd 10 rfl
            have d67 : u 67 = .int .i64 (j : Int) := dep hd 11 rfl
            rw [d66, d67]
            exact Gv.run (.pointer (some ⟨b, o + j * 2, none⟩)) rfl (by go_simp) rfl
          refine Obs.cons (fun u w hS hd => ?_) ?_
          · have d68 : u 68 = .pointer (some ⟨b, o + j * 2, none⟩) := dep hd 12 rfl
            rw [d68]
            exact Gv.run (.pointer (some ⟨b, o + j * 2 + 1, none⟩)) rfl (by go_simp) rfl
          refine Obs.cons (fun u w hS hd => ?_) ?_
          · have d69 : u 69 = .pointer (some ⟨b, o + j * 2 + 1, none⟩) := dep hd 13 rfl
            rw [d69]
            exact Gv.run (.int .i64 y') rfl (by obtain ⟨k0, k1, k2, k3⟩ := HS.out w hS; go_simp) rfl
          refine Obs.cons (fun u w hS hd => ?_) ?_
          · have d65 : u 65 = .int .i64 L2 := dep hd 9 rfl
            have d70 : u 70 = .int .i64 y' := dep hd 14 rfl
            rw [d65, d70]
            exact Gv.run (.int .i64 p2) rfl (by go_simp) rfl
          refine Obs.cons (fun u w hS hd => ?_) ?_
          · have d63 : u 63 = .int .i64 p1 := dep hd 7 rfl
            have d71 : u 71 = .int .i64 p2 := dep hd 15 rfl
            rw [d63, d71]
            exact Gv.run (.agg #[.int .i64 p1, .int .i64 p2]) rfl (by go_simp) rfl
          exact Obs.nil
        intro u v2 hS hd
        have d72 : u 72 = .agg #[.int .i64 p1, .int .i64 p2] := hd 16 (by decide)
        rw [d72]
        simp only [List.drop_succ_cons, List.drop_zero]
        obtain ⟨r0, r1, c0, c1⟩ := HS.out v2 hS
        obtain ⟨hq, htm, hsz, hot, hbr, gX, gY, eL, eM, ej, est, hXY, hrw, hj, hbX, hbY⟩ := HR.out
        have hX2 : v2.heap[G]? = some (.cells #[.int .i64 L1, .int .i64 L2] 32) := (hS.block _ (w_lt gX)).trans gX
        have hY2 : v2.heap[H]? = some (.cells #[.int .i64 M1, .int .i64 M2] 32) := (hS.block _ (w_lt gY)).trans gY
        have f0 := w_free hX2 0
        have f1 := w_free hX2 1
        have hb2 : ∀ q, q < wr.heap.size → v2.heap[q]? = wr.heap[q]? := fun q h => hS.block q h
        have H2 := Lib.hid (And.intro hX2 (And.intro hY2 (And.intro hb2 (And.intro hS (And.intro r0 (And.intro r1 (And.intro hm1 hm2)))))))
        clear hq htm hsz hot hbr gX gY eL eM ej est hXY hrw hj hbX hbY hX2 hY2 hb2 hS hd d72 r0 r1 hm1 hm2
        go_upto_region 11 with fail
        obtain ⟨ep1, ep2⟩ := HP.out
        obtain ⟨hX2, hY2, hb2, hS2, r0, r1, -, -⟩ := H2.out
        obtain ⟨w4, e4⟩ : ∃ v, v = ((v2.setCell ⟨G, 0, none⟩ (.int .i64 p1)).setCell ⟨G, 1, none⟩ (.int .i64 p2)) := ⟨_, rfl⟩
        rw [← e4]
        obtain ⟨hq, htm, hsz, hot, hbr, gX, gY, eL, eM, ej, est, hXY, hrw, hj, hbX, hbY⟩ := HR.out
        have hY4 : w4.heap[H]? = some (.cells #[.int .i64 M1, .int .i64 M2] 32) := by
          rw [e4]
          exact (w_other _ _ (fun e => hXY e.symm)).trans ((w_other v2 _ (fun e => hXY e.symm)).trans hY2)
        have hX4 : w4.heap[G]? = some (.cells #[.int .i64 p1, .int .i64 p2] 32) := by
          rw [e4]
          exact w_block (w_block hX2 0 _) 1 _
        have hb4 : ∀ q, q ≠ G → w4.heap[q]? = v2.heap[q]? := fun q h => by
          rw [e4]
          exact (w_other _ _ h).trans (w_other v2 _ h)
        have hsz4 : w4.heap.size = v2.heap.size := by rw [e4]; exact (w_size _ _ _).trans (w_size _ _ _)
        have s0 : w4.cell? ⟨b, o + j * 2, none⟩ = some (.int .i64 x') := (World.cell?_of_block (hb4 b hbX)).trans r0
        have s1 : w4.cell? ⟨b, o + j * 2 + 1, none⟩ = some (.int .i64 y') := (World.cell?_of_block (hb4 b hbX)).trans r1
        have s2 : w4.cell? ⟨H, 0, none⟩ = some (.int .i64 M1) := by simp [World.cell?, hY4]
        have s3 : w4.cell? ⟨H, 1, none⟩ = some (.int .i64 M2) := by simp [World.cell?, hY4]
        obtain ⟨p3, ep3⟩ : ∃ q, q = max M1 x' := ⟨_, rfl⟩
        obtain ⟨p4, ep4⟩ : ∃ q, q = max M2 y' := ⟨_, rfl⟩
        have hm3 := maxZ17 M1 x'
        have hm4 := maxZ17 M2 y'
        rw [← ep3] at hm3
        rw [← ep4] at hm4
        have hbl4 : b < w4.heap.size := by
          have := hS2.size
          have := hbr.size
          obtain ⟨hbW, _⟩ := HW.out
          have := hbW.size
          omega
        have hY4l := w_lt hY4
        have HS := Lib.hid (fun wz (hz : Below w4.heap.size w4 wz) => show wz.cell? ⟨b, o + j * 2, none⟩ = some (.int .i64 x') ∧ wz.cell? ⟨b, o + j * 2 + 1, none⟩ = some (.int .i64 y') ∧ wz.cell? ⟨H, 0, none⟩ = some (.int .i64 M1) ∧ wz.cell? ⟨H, 1, none⟩ = some (.int .i64 M2) from
          ⟨(hz.cell (p := ⟨b, o + j * 2, none⟩) hbl4).trans s0, (hz.cell (p := ⟨b, o + j * 2 + 1, none⟩) hbl4).trans s1, (hz.cell (p := ⟨H, 0, none⟩) hY4l).trans s2, (hz.cell (p := ⟨H, 1, none⟩) hY4l).trans s3⟩)
        have H4 := Lib.hid (And.intro hY4 (And.intro hX4 (And.intro hb4 (And.intro e4 (And.intro ep1 (And.intro ep2 (And.intro ep3 (And.intro ep4 hsz4))))))))
        clear hq htm hsz hot hbr gX gY eL eM ej est hXY hrw hj hbX hbY hY4 hX4 hb4 e4 ep1 ep2 ep3 ep4 s0 s1 s2 s3 r0 r1 hX2 hY2 hb2 hS2 hsz4 hbl4 hY4l c0 c1 f0 f1
        refine wp_region_inv 17 [73, 74, 75, 76, 77, 78, 79, 80, 81, 82, 83, 84, 85, 86, 87, 88, 89] [.val (.pointer (some ⟨H, 0, none⟩)), .val (.int .i64 M1), .val (.slice (some ⟨b, o, none⟩) N c9), .val (.int .i64 (j : Int)), .val (.pointer (some ⟨b, o + j * 2, none⟩)), .val (.pointer (some ⟨b, o + j * 2, none⟩)), .val (.int .i64 x'), .val (.int .i64 p3), .val (.pointer (some ⟨H, 1, none⟩)), .val (.int .i64 M2), .val (.slice (some ⟨b, o, none⟩) N c9), .val (.int .i64 (j : Int)), .val (.pointer (some ⟨b, o + j * 2, none⟩)), .val (.pointer (some ⟨b, o + j * 2 + 1, none⟩)), .val (.int .i64 y'), .val (.int .i64 p4), .val (.agg #[.int .i64 p3, .int .i64 p4])] (fun wz => Below w4.heap.size w4 wz) (by kernel_rfl) (by kernel_rfl) (fun wz wz' hz hb => hz.trans (hb.mono hz.size)) ((Below.refl _ _).drew) (fun u => by simp only [puts, List.foldl_cons, List.foldl_nil]; go_simp; exact rfl) ?_ ?_
        · simp only [List.take_succ_cons, List.take_zero]
          refine Obs.cons (fun u w hS hd => ?_) ?_
          · exact Gv.run (.pointer (some ⟨H, 0, none⟩)) rfl (by go_simp) rfl
          refine Obs.cons (fun u w hS hd => ?_) ?_
          · have d73 : u 73 = .pointer (some ⟨H, 0, none⟩) := dep hd 0 rfl
            rw [d73]
            exact Gv.run (.int .i64 M1) rfl (by obtain ⟨k0, k1, k2, k3⟩ := HS.out w hS; go_simp) rfl
          refine Obs.cons (fun u w hS hd => ?_) ?_
          · exact Gv.run (.slice (some ⟨b, o, none⟩) N c9) rfl (by go_simp) rfl
          refine Obs.cons (fun u w hS hd => ?_) ?_
          · exact Gv.run (.int .i64 (j : Int)) rfl (by go_simp) rfl
          refine Obs.cons (fun u w hS hd => ?_) ?_
          · have d75 : u 75 = .slice (some ⟨b, o, none⟩) N c9 := dep hd 2 rfl
            have d76 : u 76 = .int .i64 (j : Int) := dep hd 3 rfl
            rw [d75, d76]
            exact Gv.run (.pointer (some ⟨b, o + j * 2, none⟩)) rfl (by go_simp) rfl
          refine Obs.cons (fun u w hS hd => ?_) ?_
          · have d77 : u 77 = .pointer (some ⟨b, o + j * 2, none⟩) := dep hd 4 rfl
            rw [d77]
            exact Gv.run (.pointer (some ⟨b, o + j * 2, none⟩)) rfl (by go_simp) rfl
          refine Obs.cons (fun u w hS hd => ?_) ?_
          · have d78 : u 78 = .pointer (some ⟨b, o + j * 2, none⟩) := dep hd 5 rfl
            rw [d78]
            exact Gv.run (.int .i64 x') rfl (by obtain ⟨k0, k1, k2, k3⟩ := HS.out w hS; go_simp) rfl
          refine Obs.cons (fun u w hS hd => ?_) ?_
          · have d74 : u 74 = .int .i64 M1 := dep hd 1 rfl
            have d79 : u 79 = .int .i64 x' := dep hd 6 rfl
            rw [d74, d79]
            exact Gv.run (.int .i64 p3) rfl (by go_simp) rfl
          refine Obs.cons (fun u w hS hd => ?_) ?_
          · exact Gv.run (.pointer (some ⟨H, 1, none⟩)) rfl (by go_simp) rfl
          refine Obs.cons (fun u w hS hd => ?_) ?_
          · have d81 : u 81 = .pointer (some ⟨H, 1, none⟩) := dep hd 8 rfl
            rw [d81]
            exact Gv.run (.int .i64 M2) rfl (by obtain ⟨k0, k1, k2, k3⟩ := HS.out w hS; go_simp) rfl
          refine Obs.cons (fun u w hS hd => ?_) ?_
          · exact Gv.run (.slice (some ⟨b, o, none⟩) N c9) rfl (by go_simp) rfl
          refine Obs.cons (fun u w hS hd => ?_) ?_
          · exact Gv.run (.int .i64 (j : Int)) rfl (by go_simp) rfl
          refine Obs.cons (fun u w hS hd => ?_) ?_
          · have d83 : u 83 = .slice (some ⟨b, o, none⟩) N c9 := dep hd 10 rfl
            have d84 : u 84 = .int .i64 (j : Int) := dep hd 11 rfl
            rw [d83, d84]
            exact Gv.run (.pointer (some ⟨b, o + j * 2, none⟩)) rfl (by go_simp) rfl
          refine Obs.cons (fun u w hS hd => ?_) ?_
          · have d85 : u 85 = .pointer (some ⟨b, o + j * 2, none⟩) := dep hd 12 rfl
            rw [d85]
            exact Gv.run (.pointer (some ⟨b, o + j * 2 + 1, none⟩)) rfl (by go_simp) rfl
          refine Obs.cons (fun u w hS hd => ?_) ?_
          · have d86 : u 86 = .pointer (some ⟨b, o + j * 2 + 1, none⟩) := dep hd 13 rfl
            rw [d86]
            exact Gv.run (.int .i64 y') rfl (by obtain ⟨k0, k1, k2, k3⟩ := HS.out w hS; go_simp) rfl
          refine Obs.cons (fun u w hS hd => ?_) ?_
          · have d82 : u 82 = .int .i64 M2 := dep hd 9 rfl
            have d87 : u 87 = .int .i64 y' := dep hd 14 rfl
            rw [d82, d87]
            exact Gv.run (.int .i64 p4) rfl (by go_simp) rfl
          refine Obs.cons (fun u w hS hd => ?_) ?_
          · have d80 : u 80 = .int .i64 p3 := dep hd 7 rfl
            have d88 : u 88 = .int .i64 p4 := dep hd 15 rfl
            rw [d80, d88]
            exact Gv.run (.agg #[.int .i64 p3, .int .i64 p4]) rfl (by go_simp) rfl
          exact Obs.nil
        intro u v4 hS hd
        have d89 : u 89 = .agg #[.int .i64 p3, .int .i64 p4] := hd 16 (by decide)
        rw [d89]
        simp only [List.drop_succ_cons, List.drop_zero]
        have hY5 : v4.heap[H]? = some (.cells #[.int .i64 M1, .int .i64 M2] 32) := (hS.block _ (w_lt H4.out.1)).trans H4.out.1
        obtain ⟨-, -, c0, c1⟩ := HS.out v4 hS
        have f0 := w_free hY5 0
        have f1 := w_free hY5 1
        have H5 := Lib.hid (And.intro hY5 hS)
        clear hS hd d89 hY5 hm3 hm4
        go_wp2_with fail
        obtain ⟨hq, htm, hsz, hot, hbr, gX, gY, eL, eM, ej, est, hXY, hrw, hj, hbX, hbY⟩ := HR.out
        obtain ⟨hX2, hY2, hb2, hS2, -⟩ := H2.out
        obtain ⟨hY4, hX4, hb4, e4, ep1, ep2, ep3, ep4, hsz4⟩ := H4.out
        obtain ⟨hY5, hS5⟩ := H5.out
        obtain ⟨hbW, gG, gH, eG, eH⟩ := HW.out
        obtain ⟨w5, e5⟩ : ∃ v, v = (v4.setCell ⟨H, 0, none⟩ (.int .i64 p3)).setCell ⟨H, 1, none⟩ (.int .i64 p4) := ⟨_, rfl⟩
        rw [← e5]
        have hlo : lowN all n (t + 1 - 1) = (p1, p2) := by
          rw [ep1, ep2]
          rw [Nat.add_sub_cancel]
          rcases Nat.eq_zero_or_pos t with h0 | h0
          · subst h0
            have h1 : lowN all n 0 = all.getD j (0, 0) := by rw [lowN, ej]; rfl
            rw [h1, ← est]
            have h2 : (L1, L2) = lowN all n 0 := eL
            rw [h1, ← est] at h2
            simp only [Prod.mk.injEq] at h2
            rw [h2.1, h2.2, Int.min_self, Int.min_self]
          · obtain ⟨d, rfl⟩ : ∃ d, t = d + 1 := ⟨t - 1, by omega⟩
            rw [Nat.add_sub_cancel] at eL
            rw [lowN, ← eL, ← ej, ← est]
        have hhi : highN all n (t + 1 - 1) = (p3, p4) := by
          rw [ep3, ep4]
          rw [Nat.add_sub_cancel]
          rcases Nat.eq_zero_or_pos t with h0 | h0
          · subst h0
            have h1 : highN all n 0 = all.getD j (0, 0) := by rw [highN, ej]; rfl
            rw [h1, ← est]
            have h2 : (M1, M2) = highN all n 0 := eM
            rw [h1, ← est] at h2
            simp only [Prod.mk.injEq] at h2
            rw [h2.1, h2.2, Int.max_self, Int.max_self]
          · obtain ⟨d, rfl⟩ : ∃ d, t = d + 1 := ⟨t - 1, by omega⟩
            rw [Nat.add_sub_cancel] at eM
            rw [highN, ← eM, ← ej, ← est]
        have hb5 : ∀ q, q ≠ G → q ≠ H → q < wr.heap.size → w5.heap[q]? = wr.heap[q]? := fun q h1 h2 h3 => by
          rw [e5]
          have := hS2.size
          exact (w_other _ _ h2).trans ((w_other v4 _ h2).trans ((hS5.block q (by omega)).trans ((hb4 q h1).trans (hb2 q h3))))
        have hB4 : Below w1.heap.size W w4 := by rw [e4]; exact ((hbr.trans (hS2.mono (by have := hbr.size; have := hbW.size; omega))).setCell (p := ⟨G, 0, none⟩) (by show _ ≤ G; omega) _).setCell (p := ⟨G, 1, none⟩) (by show _ ≤ G; omega) _
        have hB5 : Below w1.heap.size W w5 := by rw [e5]; exact ((hB4.trans (hS5.mono (by have := hB4.size; have := hbW.size; omega))).setCell (p := ⟨H, 0, none⟩) (by show _ ≤ H; omega) _).setCell (p := ⟨H, 1, none⟩) (by show _ ≤ H; omega) _
        have hY6 : w5.heap[H]? = some (.cells #[.int .i64 p3, .int .i64 p4] 32) := by
          rw [e5]
          exact w_block (w_block hY5 0 _) 1 _
        have hX6 : w5.heap[G]? = some (.cells #[.int .i64 p1, .int .i64 p2] 32) := by
          rw [e5]
          exact (w_other _ _ hXY).trans ((w_other v4 _ hXY).trans ((hS5.block _ (w_lt hX4)).trans hX4))
        go_roundg (m + 1 - (n + (t + 1)))
        case measure => omega
        case rel => exact ⟨t + 1, rfl, by rw [ej]; go_num, by omega, hB5.size, fun q h1 h2 h3 => (hb5 q h1 h2 (Nat.lt_of_lt_of_le h3 hsz)).trans (hot q h1 h2 h3), hB5, by rw [hlo]; exact hX6, by rw [hhi]; exact hY6⟩
      · have hjk : ¬ ((j : Int) ≤ k) := by omega
        have hnj : j = m + 1 := by omega
        have hbs := HB.out.2.size
        have htd : t - 1 = m - n := by omega
        rw [htd] at eL eM
        have hXY : G ≠ H := by omega
        have hgX : g ≠ G := by omega
        have hgY : g ≠ H := by omega
        have hgX1 : g + 1 ≠ G := by omega
        have hgY1 : g + 1 ≠ H := by omega
        have hb1 := HB.out.2
        have g0 : wr.heap[g]? = some (.cells #[.int .i64 0, .int .i64 0] 32) := (hot g hgX hgY (by have := hbW.size; omega)).trans ((hbW.block g (by omega)).trans ((hb1.block g (by omega)).trans hn2.1))
        have g1 : wr.heap[g + 1]? = some (.cells #[.int .i64 0, .int .i64 0] 32) := (hot (g + 1) hgX1 hgY1 (by have := hbW.size; omega)).trans ((hbW.block (g + 1) (by omega)).trans ((hb1.block (g + 1) (by omega)).trans hn2.2))
        have c0 : wr.cell? ⟨G, 0, none⟩ = some (.int .i64 L1) := by simp [World.cell?, gX]
        have c1 : wr.cell? ⟨G, 1, none⟩ = some (.int .i64 L2) := by simp [World.cell?, gX]
        have c2 : wr.cell? ⟨H, 0, none⟩ = some (.int .i64 M1) := by simp [World.cell?, gY]
        have c3 : wr.cell? ⟨H, 1, none⟩ = some (.int .i64 M2) := by simp [World.cell?, gY]
        have c4 : wr.cell? ⟨g, 0, none⟩ = some (.int .i64 0) := by simp [World.cell?, g0]
        have c5 : wr.cell? ⟨g, 1, none⟩ = some (.int .i64 0) := by simp [World.cell?, g0]
        have c6 : wr.cell? ⟨g + 1, 0, none⟩ = some (.int .i64 0) := by simp [World.cell?, g1]
        have c7 : wr.cell? ⟨g + 1, 1, none⟩ = some (.int .i64 0) := by simp [World.cell?, g1]
        have f4 := w_free g0 0
        have f5 := w_free g0 1
        have f6 := w_free g1 0
        have f7 := w_free g1 1
        have hYg : H ≠ g := fun e => hgY e.symm
        have HR := Lib.hid (And.intro hbr (And.intro g0 (And.intro g1 (And.intro eL (And.intro eM hsz)))))
        clear hq htm hsz hot hbr gX gY eL eM ej hj hvs egg hn2 hk hnm hm hN eN hbW gG gH eG eH htd g0 g1 hb1 hXY hgX hgX1 hgY1
        go_upto_region 12 with fail
        go_region
        all_goals
          go_wp2_with fail
          obtain ⟨hbr, g0, g1, eL, eM, -⟩ := HR.out
          obtain ⟨-, hbv, hvs, egg, -⟩ := HV.out
          obtain ⟨hbW, gG, gH, eG, eH⟩ := HW.out
          have hb1 := HB.out.2
          obtain ⟨wf, ewf⟩ : ∃ v, v = ((((wr.setCell ⟨g, 0, none⟩ (.int .i64 L1)).setCell ⟨g, 1, none⟩ (.int .i64 L2)).setCell ⟨g + 1, 0, none⟩ (.int .i64 M1)).setCell ⟨g + 1, 1, none⟩ (.int .i64 M2)).drew := ⟨_, rfl⟩
          have hg0 : wf.heap[g]? = some (.cells #[.int .i64 L1, .int .i64 L2] 32) := by
            rw [ewf]
            exact (w_other _ _ (by omega)).trans ((w_other _ _ (by omega)).trans (w_block (w_block g0 0 _) 1 _))
          have hg1 : wf.heap[g + 1]? = some (.cells #[.int .i64 M1, .int .i64 M2] 32) := by
            rw [ewf]
            exact w_block (w_block ((w_other _ _ (by omega)).trans ((w_other wr _ (by omega)).trans g1)) 0 _) 1 _
          have hB : Below w.heap.size w wf := by
            rw [ewf]
            exact (((((((hbv.trans (hb1.mono hbv.size)).trans (hbW.mono (by have := hb1.size; omega))).trans (hbr.mono (by have := hb1.size; omega))).setCell (p := ⟨g, 0, none⟩) (by show _ ≤ g; omega) _).setCell (p := ⟨g, 1, none⟩) (by show _ ≤ g; omega) _).setCell (p := ⟨g + 1, 0, none⟩) (by show _ ≤ g + 1; omega) _).setCell (p := ⟨g + 1, 1, none⟩) (by show _ ≤ g + 1; omega) _).drew
          rw [← ewf]
          exact bodyPost_ret (rbox_res Try.results15 _ (w := wf) (g1 := g) (g2 := g + 1) (a := .int .i64 L1) (b := .int .i64 L2) (c := .int .i64 M1) (d := .int .i64 M2) (by simp [World.cell?, hg0]) (by simp [World.cell?, hg0]) (by simp [World.cell?, hg1]) (by simp [World.cell?, hg1]) rfl rfl rfl) rfl ⟨by rw [← eL, ← eM]; rfl, hB⟩
  · obtain ⟨W, eW⟩ : ∃ v, v = ((w1.alloc (.cells #[.int .i64 x, .int .i64 y] 32)).alloc (.cells #[.int .i64 x, .int .i64 y] 32)).drew := ⟨_, rfl⟩
    obtain ⟨G, eG⟩ : ∃ G, G = w1.heap.size := ⟨_, rfl⟩
    obtain ⟨H, eH⟩ : ∃ H, H = w1.heap.size + 1 := ⟨_, rfl⟩
    have hnw := heap_new2 w1 (.cells #[.int .i64 x, .int .i64 y] 32) (.cells #[.int .i64 x, .int .i64 y] 32)
    have hbW : Below w1.heap.size w1 W := by rw [eW]; exact (((Below.refl _ _).alloc (Nat.le_refl _) _).alloc (by simp) _).drew
    have gG : W.heap[G]? = some (.cells #[.int .i64 x, .int .i64 y] 32) := by rw [eW, eG]; exact hnw.1
    have gH : W.heap[H]? = some (.cells #[.int .i64 x, .int .i64 y] 32) := by rw [eW, eH]; exact hnw.2
    rw [← eW, ← eH, ← eG]
    have hbv := HB.out.2
    have HW := Lib.hid (And.intro hbW (And.intro gG (And.intro gH (And.intro (show G = w1.heap.size from eG) (show H = w1.heap.size + 1 from eH)))))
    clear r0 r1 hbW gG gH hnw eW eG eH hbl hbv q1 q2 q3 hin
    go_upto_region 8 with fail
    go_loopg [15] (m + 1 - n) (fun q nv wr => ∃ t, m + 1 - (n + t) = q ∧ nv = .int .i64 ((n + t : Nat) : Int) ∧ n + t ≤ m + 1 ∧ W.heap.size ≤ wr.heap.size ∧ (∀ j, j ≠ H → j ≠ G → j < W.heap.size → wr.heap[j]? = W.heap[j]?) ∧ Below w1.heap.size W wr ∧
      wr.heap[H]? = some (.cells #[.int .i64 (lowN all n (t - 1)).1, .int .i64 (lowN all n (t - 1)).2] 32) ∧ wr.heap[G]? = some (.cells #[.int .i64 (highN all n (t - 1)).1, .int .i64 (highN all n (t - 1)).2] 32))
    case atStart =>
      have hst := HST.out
      have hlo : lowN all n (0 - 1) = (x, y) := hst.symm
      have hhi : highN all n (0 - 1) = (x, y) := hst.symm
      obtain ⟨hbW, gG, gH, eG, eH⟩ := HW.out
      obtain ⟨-, -, -, -, -, -, -, -, hnm, -⟩ := HV.out
      exact ⟨0, rfl, rfl, by omega, Nat.le_refl _, fun _ _ _ _ => rfl, Below.refl _ _, by rw [hlo]; assumption, by rw [hhi]; assumption⟩
    case round =>
      obtain ⟨t, hq, rfl, htm, hsz, hot, hbr, gX, gY⟩ := hrel
      obtain ⟨-, -, hvs, egg, hn2, -, -, hk, hnm, hm, hN, eN⟩ := HV.out
      obtain ⟨hbW, gG, gH, eG, eH⟩ := HW.out
      obtain ⟨L, eL⟩ : ∃ L, L = lowN all n (t - 1) := ⟨_, rfl⟩
      obtain ⟨M, eM⟩ : ∃ L, L = highN all n (t - 1) := ⟨_, rfl⟩
      rw [← eL] at gX
      rw [← eM] at gY
      obtain ⟨L1, L2⟩ := L
      obtain ⟨M1, M2⟩ := M
      dsimp only at gX gY
      obtain ⟨j, ej⟩ : ∃ j, j = n + t := ⟨_, rfl⟩
      rw [← ej]
      by_cases hj : j ≤ m
      · obtain ⟨st, est⟩ : ∃ st, st = all.getD j (0, 0) := ⟨_, rfl⟩
        have hgt : all[j]? = some st := by
          rw [est, List.getD_eq_getElem?_getD, List.getElem?_eq_getElem (by omega)]
          rfl
        obtain ⟨b', o', hA, hbl, hcl⟩ := HB.out.1.rd.at_ hgt
        simp only [Option.some.injEq, Addr.mk.injEq] at hA
        obtain ⟨rfl, rfl, -⟩ := hA
        have hrw : ∀ p, wr.cell? ⟨b, p, none⟩ = w1.cell? ⟨b, p, none⟩ := fun p => World.cell?_of_block ((hot b (by omega) (by omega) (by have := hbW.size; omega)).trans (hbW.block b hbl))
        obtain ⟨x', y'⟩ := st
        have r0 : wr.cell? ⟨b, o + j * 2, none⟩ = some (.int .i64 x') := (hrw _).trans (hcl 0 _ rfl)
        have r1 : wr.cell? ⟨b, o + j * 2 + 1, none⟩ = some (.int .i64 y') := (hrw _).trans (hcl 1 _ rfl)
        have hXY : H ≠ G := by omega
        have c0 : wr.cell? ⟨H, 0, none⟩ = some (.int .i64 L1) := by simp [World.cell?, gX]
        have c1 : wr.cell? ⟨H, 1, none⟩ = some (.int .i64 L2) := by simp [World.cell?, gX]
        have f0 := w_free gX 0
        have f1 := w_free gX 1
        have hbX : b ≠ H := by omega
        have hbY : b ≠ G := by omega
        have hjk : decide ((j : Int) ≤ k) = true := decide_eq_true (by omega)
        have hjN : j < N := by omega
        have hj9 : j ≤ 1048577 := by omega
        have HR := Lib.hid (And.intro hq (And.intro htm (And.intro hsz (And.intro hot (And.intro hbr (And.intro gX (And.intro gY (And.intro eL (And.intro eM (And.intro ej (And.intro est (And.intro hXY (And.intro hrw (And.intro hj (And.intro hbX hbY)))))))))))))))
        obtain ⟨p1, ep1⟩ : ∃ q, q = min L1 x' := ⟨_, rfl⟩
        obtain ⟨p2, ep2⟩ : ∃ q, q = min L2 y' := ⟨_, rfl⟩
        have hm1 := minZ L1 x'
        have hm2 := minZ L2 y'
        rw [← ep1] at hm1
        rw [← ep2] at hm2
        have HS := Lib.hid (fun wz (hz : Below wr.heap.size wr wz) => show wz.cell? ⟨b, o + j * 2, none⟩ = some (.int .i64 x') ∧ wz.cell? ⟨b, o + j * 2 + 1, none⟩ = some (.int .i64 y') ∧ wz.cell? ⟨H, 0, none⟩ = some (.int .i64 L1) ∧ wz.cell? ⟨H, 1, none⟩ = some (.int .i64 L2) from
          ⟨(hz.cell (p := ⟨b, o + j * 2, none⟩) (by show b < _; have := hbW.size; omega)).trans r0, (hz.cell (p := ⟨b, o + j * 2 + 1, none⟩) (by show b < _; have := hbW.size; omega)).trans r1, (hz.cell (p := ⟨H, 0, none⟩) (w_lt gX)).trans c0, (hz.cell (p := ⟨H, 1, none⟩) (w_lt gX)).trans c1⟩)
        clear hq htm hsz hot hbr gX gY eL eM ej est hXY hrw hj hbX hbY hvs egg hn2 hk hnm hm hN eN hbW gG gH eG eH hcl hgt r0 r1 c0 c1 f0 f1
        have HP := Lib.hid (And.intro ep1 ep2)
        clear ep1 ep2
        go_upto_region 10 with fail
        refine wp_region_inv 17 [56, 57, 58, 59, 60, 61, 62, 63, 64, 65, 66, 67, 68, 69, 70, 71, 72] [.val (.pointer (some ⟨H, 0, none⟩)), .val (.int .i64 L1), .val (.slice (some ⟨b, o, none⟩) N c9), .val (.int .i64 (j : Int)), .val (.pointer (some ⟨b, o + j * 2, none⟩)), .val (.pointer (some ⟨b, o + j * 2, none⟩)), .val (.int .i64 x'), .val (.int .i64 p1), .val (.pointer (some ⟨H, 1, none⟩)), .val (.int .i64 L2), .val (.slice (some ⟨b, o, none⟩) N c9), .val (.int .i64 (j : Int)), .val (.pointer (some ⟨b, o + j * 2, none⟩)), .val (.pointer (some ⟨b, o + j * 2 + 1, none⟩)), .val (.int .i64 y'), .val (.int .i64 p2), .val (.agg #[.int .i64 p1, .int .i64 p2])] (fun wz => Below wr.heap.size wr wz) (by kernel_rfl) (by kernel_rfl) (fun wz wz' hz hb => hz.trans (hb.mono hz.size)) ((Below.refl _ _).drew) (fun u => by simp only [puts, List.foldl_cons, List.foldl_nil]; go_simp; exact rfl) ?_ ?_
        · simp only [List.take_succ_cons, List.take_zero]
          refine Obs.cons (fun u w hS hd => ?_) ?_
          · exact Gv.run (.pointer (some ⟨H, 0, none⟩)) rfl (by go_simp) rfl
          refine Obs.cons (fun u w hS hd => ?_) ?_
          · have d56 : u 56 = .pointer (some ⟨H, 0, none⟩) := dep hd 0 rfl
            rw [d56]
            exact Gv.run (.int .i64 L1) rfl (by obtain ⟨k0, k1, k2, k3⟩ := HS.out w hS; go_simp) rfl
          refine Obs.cons (fun u w hS hd => ?_) ?_
          · exact Gv.run (.slice (some ⟨b, o, none⟩) N c9) rfl (by go_simp) rfl
          refine Obs.cons (fun u w hS hd => ?_) ?_
          · exact Gv.run (.int .i64 (j : Int)) rfl (by go_simp) rfl
          refine Obs.cons (fun u w hS hd => ?_) ?_
          · have d58 : u 58 = .slice (some ⟨b, o, none⟩) N c9 := dep hd 2 rfl
            have d59 : u 59 = .int .i64 (j : Int) := dep hd 3 rfl
            rw [d58, d59]
            exact Gv.run (.pointer (some ⟨b, o + j * 2, none⟩)) rfl (by go_simp) rfl
          refine Obs.cons (fun u w hS hd => ?_) ?_
          · have d60 : u 60 = .pointer (some ⟨b, o + j * 2, none⟩) := dep hd 4 rfl
            rw [d60]
            exact Gv.run (.pointer (some ⟨b, o + j * 2, none⟩)) rfl (by go_simp) rfl
          refine Obs.cons (fun u w hS hd => ?_) ?_
          · have d61 : u 61 = .pointer (some ⟨b, o + j * 2, none⟩) := dep hd 5 rfl
            rw [d61]
            exact Gv.run (.int .i64 x') rfl (by obtain ⟨k0, k1, k2, k3⟩ := HS.out w hS; go_simp) rfl
          refine Obs.cons (fun u w hS hd => ?_) ?_
          · have d57 : u 57 = .int .i64 L1 := dep hd 1 rfl
            have d62 : u 62 = .int .i64 x' := dep hd 6 rfl
            rw [d57, d62]
            exact Gv.run (.int .i64 p1) rfl (by go_simp) rfl
          refine Obs.cons (fun u w hS hd => ?_) ?_
          · exact Gv.run (.pointer (some ⟨H, 1, none⟩)) rfl (by go_simp) rfl
          refine Obs.cons (fun u w hS hd => ?_) ?_
          · have d64 : u 64 = .pointer (some ⟨H, 1, none⟩) := dep hd 8 rfl
            rw [d64]
            exact Gv.run (.int .i64 L2) rfl (by obtain ⟨k0, k1, k2, k3⟩ := HS.out w hS; go_simp) rfl
          refine Obs.cons (fun u w hS hd => ?_) ?_
          · exact Gv.run (.slice (some ⟨b, o, none⟩) N c9) rfl (by go_simp) rfl
          refine Obs.cons (fun u w hS hd => ?_) ?_
          · exact Gv.run (.int .i64 (j : Int)) rfl (by go_simp) rfl
          refine Obs.cons (fun u w hS hd => ?_) ?_
          · have d66 : u 66 = .slice (some ⟨b, o, none⟩) N c9 := dep hd 10 rfl
            have d67 : u 67 = .int .i64 (j : Int) := dep hd 11 rfl
            rw [d66, d67]
            exact Gv.run (.pointer (some ⟨b, o + j * 2, none⟩)) rfl (by go_simp) rfl
          refine Obs.cons (fun u w hS hd => ?_) ?_
          · have d68 : u 68 = .pointer (some ⟨b, o + j * 2, none⟩) := dep hd 12 rfl
            rw [d68]
            exact Gv.run (.pointer (some ⟨b, o + j * 2 + 1, none⟩)) rfl (by go_simp) rfl
          refine Obs.cons (fun u w hS hd => ?_) ?_
          · have d69 : u 69 = .pointer (some ⟨b, o + j * 2 + 1, none⟩) := dep hd 13 rfl
            rw [d69]
            exact Gv.run (.int .i64 y') rfl (by obtain ⟨k0, k1, k2, k3⟩ := HS.out w hS; go_simp) rfl
          refine Obs.cons (fun u w hS hd => ?_) ?_
          · have d65 : u 65 = .int .i64 L2 := dep hd 9 rfl
            have d70 : u 70 = .int .i64 y' := dep hd 14 rfl
            rw [d65, d70]
            exact Gv.run (.int .i64 p2) rfl (by go_simp) rfl
          refine Obs.cons (fun u w hS hd => ?_) ?_
          · have d63 : u 63 = .int .i64 p1 := dep hd 7 rfl
            have d71 : u 71 = .int .i64 p2 := dep hd 15 rfl
            rw [d63, d71]
            exact Gv.run (.agg #[.int .i64 p1, .int .i64 p2]) rfl (by go_simp) rfl
          exact Obs.nil
        intro u v2 hS hd
        have d72 : u 72 = .agg #[.int .i64 p1, .int .i64 p2] := hd 16 (by decide)
        rw [d72]
        simp only [List.drop_succ_cons, List.drop_zero]
        obtain ⟨r0, r1, c0, c1⟩ := HS.out v2 hS
        obtain ⟨hq, htm, hsz, hot, hbr, gX, gY, eL, eM, ej, est, hXY, hrw, hj, hbX, hbY⟩ := HR.out
        have hX2 : v2.heap[H]? = some (.cells #[.int .i64 L1, .int .i64 L2] 32) := (hS.block _ (w_lt gX)).trans gX
        have hY2 : v2.heap[G]? = some (.cells #[.int .i64 M1, .int .i64 M2] 32) := (hS.block _ (w_lt gY)).trans gY
        have f0 := w_free hX2 0
        have f1 := w_free hX2 1
        have hb2 : ∀ q, q < wr.heap.size → v2.heap[q]? = wr.heap[q]? := fun q h => hS.block q h
        have H2 := Lib.hid (And.intro hX2 (And.intro hY2 (And.intro hb2 (And.intro hS (And.intro r0 (And.intro r1 (And.intro hm1 hm2)))))))
        clear hq htm hsz hot hbr gX gY eL eM ej est hXY hrw hj hbX hbY hX2 hY2 hb2 hS hd d72 r0 r1 hm1 hm2
        go_upto_region 11 with fail
        obtain ⟨ep1, ep2⟩ := HP.out
        obtain ⟨hX2, hY2, hb2, hS2, r0, r1, -, -⟩ := H2.out
        obtain ⟨w4, e4⟩ : ∃ v, v = ((v2.setCell ⟨H, 0, none⟩ (.int .i64 p1)).setCell ⟨H, 1, none⟩ (.int .i64 p2)) := ⟨_, rfl⟩
        rw [← e4]
        obtain ⟨hq, htm, hsz, hot, hbr, gX, gY, eL, eM, ej, est, hXY, hrw, hj, hbX, hbY⟩ := HR.out
        have hY4 : w4.heap[G]? = some (.cells #[.int .i64 M1, .int .i64 M2] 32) := by
          rw [e4]
          exact (w_other _ _ (fun e => hXY e.symm)).trans ((w_other v2 _ (fun e => hXY e.symm)).trans hY2)
        have hX4 : w4.heap[H]? = some (.cells #[.int .i64 p1, .int .i64 p2] 32) := by
          rw [e4]
          exact w_block (w_block hX2 0 _) 1 _
        have hb4 : ∀ q, q ≠ H → w4.heap[q]? = v2.heap[q]? := fun q h => by
          rw [e4]
          exact (w_other _ _ h).trans (w_other v2 _ h)
        have hsz4 : w4.heap.size = v2.heap.size := by rw [e4]; exact (w_size _ _ _).trans (w_size _ _ _)
        have s0 : w4.cell? ⟨b, o + j * 2, none⟩ = some (.int .i64 x') := (World.cell?_of_block (hb4 b hbX)).trans r0
        have s1 : w4.cell? ⟨b, o + j * 2 + 1, none⟩ = some (.int .i64 y') := (World.cell?_of_block (hb4 b hbX)).trans r1
        have s2 : w4.cell? ⟨G, 0, none⟩ = some (.int .i64 M1) := by simp [World.cell?, hY4]
        have s3 : w4.cell? ⟨G, 1, none⟩ = some (.int .i64 M2) := by simp [World.cell?, hY4]
        obtain ⟨p3, ep3⟩ : ∃ q, q = max M1 x' := ⟨_, rfl⟩
        obtain ⟨p4, ep4⟩ : ∃ q, q = max M2 y' := ⟨_, rfl⟩
        have hm3 := maxZ17 M1 x'
        have hm4 := maxZ17 M2 y'
        rw [← ep3] at hm3
        rw [← ep4] at hm4
        have hbl4 : b < w4.heap.size := by
          have := hS2.size
          have := hbr.size
          obtain ⟨hbW, _⟩ := HW.out
          have := hbW.size
          omega
        have hY4l := w_lt hY4
        have HS := Lib.hid (fun wz (hz : Below w4.heap.size w4 wz) => show wz.cell? ⟨b, o + j * 2, none⟩ = some (.int .i64 x') ∧ wz.cell? ⟨b, o + j * 2 + 1, none⟩ = some (.int .i64 y') ∧ wz.cell? ⟨G, 0, none⟩ = some (.int .i64 M1) ∧ wz.cell? ⟨G, 1, none⟩ = some (.int .i64 M2) from
          ⟨(hz.cell (p := ⟨b, o + j * 2, none⟩) hbl4).trans s0, (hz.cell (p := ⟨b, o + j * 2 + 1, none⟩) hbl4).trans s1, (hz.cell (p := ⟨G, 0, none⟩) hY4l).trans s2, (hz.cell (p := ⟨G, 1, none⟩) hY4l).trans s3⟩)
        have H4 := Lib.hid (And.intro hY4 (And.intro hX4 (And.intro hb4 (And.intro e4 (And.intro ep1 (And.intro ep2 (And.intro ep3 (And.intro ep4 hsz4))))))))
        clear hq htm hsz hot hbr gX gY eL eM ej est hXY hrw hj hbX hbY hY4 hX4 hb4 e4 ep1 ep2 ep3 ep4 s0 s1 s2 s3 r0 r1 hX2 hY2 hb2 hS2 hsz4 hbl4 hY4l c0 c1 f0 f1
        refine wp_region_inv 17 [73, 74, 75, 76, 77, 78, 79, 80, 81, 82, 83, 84, 85, 86, 87, 88, 89] [.val (.pointer (some ⟨G, 0, none⟩)), .val (.int .i64 M1), .val (.slice (some ⟨b, o, none⟩) N c9), .val (.int .i64 (j : Int)), .val (.pointer (some ⟨b, o + j * 2, none⟩)), .val (.pointer (some ⟨b, o + j * 2, none⟩)), .val (.int .i64 x'), .val (.int .i64 p3), .val (.pointer (some ⟨G, 1, none⟩)), .val (.int .i64 M2), .val (.slice (some ⟨b, o, none⟩) N c9), .val (.int .i64 (j : Int)), .val (.pointer (some ⟨b, o + j * 2, none⟩)), .val (.pointer (some ⟨b, o + j * 2 + 1, none⟩)), .val (.int .i64 y'), .val (.int .i64 p4), .val (.agg #[.int .i64 p3, .int .i64 p4])] (fun wz => Below w4.heap.size w4 wz) (by kernel_rfl) (by kernel_rfl) (fun wz wz' hz hb => hz.trans (hb.mono hz.size)) ((Below.refl _ _).drew) (fun u => by simp only [puts, List.foldl_cons, List.foldl_nil]; go_simp; exact rfl) ?_ ?_
        · simp only [List.take_succ_cons, List.take_zero]
          refine Obs.cons (fun u w hS hd => ?_) ?_
          · exact Gv.run (.pointer (some ⟨G, 0, none⟩)) rfl (by go_simp) rfl
          refine Obs.cons (fun u w hS hd => ?_) ?_
          · have d73 : u 73 = .pointer (some ⟨G, 0, none⟩) := dep hd 0 rfl
            rw [d73]
            exact Gv.run (.int .i64 M1) rfl (by obtain ⟨k0, k1, k2, k3⟩ := HS.out w hS; go_simp) rfl
          refine Obs.cons (fun u w hS hd => ?_) ?_
          · exact Gv.run (.slice (some ⟨b, o, none⟩) N c9) rfl (by go_simp) rfl
          refine Obs.cons (fun u w hS hd => ?_) ?_
          · exact Gv.run (.int .i64 (j : Int)) rfl (by go_simp) rfl
          refine Obs.cons (fun u w hS hd => ?_) ?_
          · have d75 : u 75 = .slice (some ⟨b, o, none⟩) N c9 := dep hd 2 rfl
            have d76 : u 76 = .int .i64 (j : Int) := dep hd 3 rfl
            rw [d75, d76]
            exact Gv.run (.pointer (some ⟨b, o + j * 2, none⟩)) rfl (by go_simp) rfl
          refine Obs.cons (fun u w hS hd => ?_) ?_
          · have d77 : u 77 = .pointer (some ⟨b, o + j * 2, none⟩) := dep hd 4 rfl
            rw [d77]
            exact Gv.run (.pointer (some ⟨b, o + j * 2, none⟩)) rfl (by go_simp) rfl
          refine Obs.cons (fun u w hS hd => ?_) ?_
          · have d78 : u 78 = .pointer (some ⟨b, o + j * 2, none⟩) := dep hd 5 rfl
            rw [d78]
            exact Gv.run (.int .i64 x') rfl (by obtain ⟨k0, k1, k2, k3⟩ := HS.out w hS; go_simp) rfl
          refine Obs.cons (fun u w hS hd => ?_) ?_
          · have d74 : u 74 = .int .i64 M1 := dep hd 1 rfl
            have d79 : u 79 = .int .i64 x' := dep hd 6 rfl
            rw [d74, d79]
            exact Gv.run (.int .i64 p3) rfl (by go_simp) rfl
          refine Obs.cons (fun u w hS hd => ?_) ?_
          · exact Gv.run (.pointer (some ⟨G, 1, none⟩)) rfl (by go_simp) rfl
          refine Obs.cons (fun u w hS hd => ?_) ?_
          · have d81 : u 81 = .pointer (some ⟨G, 1, none⟩) := dep hd 8 rfl
            rw [d81]
            exact Gv.run (.int .i64 M2) rfl (by obtain ⟨k0, k1, k2, k3⟩ := HS.out w hS; go_simp) rfl
          refine Obs.cons (fun u w hS hd => ?_) ?_
          · exact Gv.run (.slice (some ⟨b, o, none⟩) N c9) rfl (by go_simp) rfl
          refine Obs.cons (fun u w hS hd => ?_) ?_
          · exact Gv.run (.int .i64 (j : Int)) rfl (by go_simp) rfl
          refine Obs.cons (fun u w hS hd => ?_) ?_
          · have d83 : u 83 = .slice (some ⟨b, o, none⟩) N c9 := dep hd 10 rfl
            have d84 : u 84 = .int .i64 (j : Int) := dep hd 11 rfl
            rw [d83, d84]
            exact Gv.run (.pointer (some ⟨b, o + j * 2, none⟩)) rfl (by go_simp) rfl
          refine Obs.cons (fun u w hS hd => ?_) ?_
          · have d85 : u 85 = .pointer (some ⟨b, o + j * 2, none⟩) := dep hd 12 rfl
            rw [d85]
            exact Gv.run (.pointer (some ⟨b, o + j * 2 + 1, none⟩)) rfl (by go_simp) rfl
          refine Obs.cons (fun u w hS hd => ?_) ?_
          · have d86 : u 86 = .pointer (some ⟨b, o + j * 2 + 1, none⟩) := dep hd 13 rfl
            rw [d86]
            exact Gv.run (.int .i64 y') rfl (by obtain ⟨k0, k1, k2, k3⟩ := HS.out w hS; go_simp) rfl
          refine Obs.cons (fun u w hS hd => ?_) ?_
          · have d82 : u 82 = .int .i64 M2 := dep hd 9 rfl
            have d87 : u 87 = .int .i64 y' := dep hd 14 rfl
            rw [d82, d87]
            exact Gv.run (.int .i64 p4) rfl (by go_simp) rfl
          refine Obs.cons (fun u w hS hd => ?_) ?_
          · have d80 : u 80 = .int .i64 p3 := dep hd 7 rfl
            have d88 : u 88 = .int .i64 p4 := dep hd 15 rfl
            rw [d80, d88]
            exact Gv.run (.agg #[.int .i64 p3, .int .i64 p4]) rfl (by go_simp) rfl
          exact Obs.nil
        intro u v4 hS hd
        have d89 : u 89 = .agg #[.int .i64 p3, .int .i64 p4] := hd 16 (by decide)
        rw [d89]
        simp only [List.drop_succ_cons, List.drop_zero]
        have hY5 : v4.heap[G]? = some (.cells #[.int .i64 M1, .int .i64 M2] 32) := (hS.block _ (w_lt H4.out.1)).trans H4.out.1
        obtain ⟨-, -, c0, c1⟩ := HS.out v4 hS
        have f0 := w_free hY5 0
        have f1 := w_free hY5 1
        have H5 := Lib.hid (And.intro hY5 hS)
        clear hS hd d89 hY5 hm3 hm4
        go_wp2_with fail
        obtain ⟨hq, htm, hsz, hot, hbr, gX, gY, eL, eM, ej, est, hXY, hrw, hj, hbX, hbY⟩ := HR.out
        obtain ⟨hX2, hY2, hb2, hS2, -⟩ := H2.out
        obtain ⟨hY4, hX4, hb4, e4, ep1, ep2, ep3, ep4, hsz4⟩ := H4.out
        obtain ⟨hY5, hS5⟩ := H5.out
        obtain ⟨hbW, gG, gH, eG, eH⟩ := HW.out
        obtain ⟨w5, e5⟩ : ∃ v, v = (v4.setCell ⟨G, 0, none⟩ (.int .i64 p3)).setCell ⟨G, 1, none⟩ (.int .i64 p4) := ⟨_, rfl⟩
        rw [← e5]
        have hlo : lowN all n (t + 1 - 1) = (p1, p2) := by
          rw [ep1, ep2]
          rw [Nat.add_sub_cancel]
          rcases Nat.eq_zero_or_pos t with h0 | h0
          · subst h0
            have h1 : lowN all n 0 = all.getD j (0, 0) := by rw [lowN, ej]; rfl
            rw [h1, ← est]
            have h2 : (L1, L2) = lowN all n 0 := eL
            rw [h1, ← est] at h2
            simp only [Prod.mk.injEq] at h2
            rw [h2.1, h2.2, Int.min_self, Int.min_self]
          · obtain ⟨d, rfl⟩ : ∃ d, t = d + 1 := ⟨t - 1, by omega⟩
            rw [Nat.add_sub_cancel] at eL
            rw [lowN, ← eL, ← ej, ← est]
        have hhi : highN all n (t + 1 - 1) = (p3, p4) := by
          rw [ep3, ep4]
          rw [Nat.add_sub_cancel]
          rcases Nat.eq_zero_or_pos t with h0 | h0
          · subst h0
            have h1 : highN all n 0 = all.getD j (0, 0) := by rw [highN, ej]; rfl
            rw [h1, ← est]
            have h2 : (M1, M2) = highN all n 0 := eM
            rw [h1, ← est] at h2
            simp only [Prod.mk.injEq] at h2
            rw [h2.1, h2.2, Int.max_self, Int.max_self]
          · obtain ⟨d, rfl⟩ : ∃ d, t = d + 1 := ⟨t - 1, by omega⟩
            rw [Nat.add_sub_cancel] at eM
            rw [highN, ← eM, ← ej, ← est]
        have hb5 : ∀ q, q ≠ H → q ≠ G → q < wr.heap.size → w5.heap[q]? = wr.heap[q]? := fun q h1 h2 h3 => by
          rw [e5]
          have := hS2.size
          exact (w_other _ _ h2).trans ((w_other v4 _ h2).trans ((hS5.block q (by omega)).trans ((hb4 q h1).trans (hb2 q h3))))
        have hB4 : Below w1.heap.size W w4 := by rw [e4]; exact ((hbr.trans (hS2.mono (by have := hbr.size; have := hbW.size; omega))).setCell (p := ⟨H, 0, none⟩) (by show _ ≤ H; omega) _).setCell (p := ⟨H, 1, none⟩) (by show _ ≤ H; omega) _
        have hB5 : Below w1.heap.size W w5 := by rw [e5]; exact ((hB4.trans (hS5.mono (by have := hB4.size; have := hbW.size; omega))).setCell (p := ⟨G, 0, none⟩) (by show _ ≤ G; omega) _).setCell (p := ⟨G, 1, none⟩) (by show _ ≤ G; omega) _
        have hY6 : w5.heap[G]? = some (.cells #[.int .i64 p3, .int .i64 p4] 32) := by
          rw [e5]
          exact w_block (w_block hY5 0 _) 1 _
        have hX6 : w5.heap[H]? = some (.cells #[.int .i64 p1, .int .i64 p2] 32) := by
          rw [e5]
          exact (w_other _ _ hXY).trans ((w_other v4 _ hXY).trans ((hS5.block _ (w_lt hX4)).trans hX4))
        go_roundg (m + 1 - (n + (t + 1)))
        case measure => omega
        case rel => exact ⟨t + 1, rfl, by rw [ej]; go_num, by omega, hB5.size, fun q h1 h2 h3 => (hb5 q h1 h2 (Nat.lt_of_lt_of_le h3 hsz)).trans (hot q h1 h2 h3), hB5, by rw [hlo]; exact hX6, by rw [hhi]; exact hY6⟩
      · have hjk : ¬ ((j : Int) ≤ k) := by omega
        have hnj : j = m + 1 := by omega
        have hbs := HB.out.2.size
        have htd : t - 1 = m - n := by omega
        rw [htd] at eL eM
        have hXY : H ≠ G := by omega
        have hgX : g ≠ H := by omega
        have hgY : g ≠ G := by omega
        have hgX1 : g + 1 ≠ H := by omega
        have hgY1 : g + 1 ≠ G := by omega
        have hb1 := HB.out.2
        have g0 : wr.heap[g]? = some (.cells #[.int .i64 0, .int .i64 0] 32) := (hot g hgX hgY (by have := hbW.size; omega)).trans ((hbW.block g (by omega)).trans ((hb1.block g (by omega)).trans hn2.1))
        have g1 : wr.heap[g + 1]? = some (.cells #[.int .i64 0, .int .i64 0] 32) := (hot (g + 1) hgX1 hgY1 (by have := hbW.size; omega)).trans ((hbW.block (g + 1) (by omega)).trans ((hb1.block (g + 1) (by omega)).trans hn2.2))
        have c0 : wr.cell? ⟨H, 0, none⟩ = some (.int .i64 L1) := by simp [World.cell?, gX]
        have c1 : wr.cell? ⟨H, 1, none⟩ = some (.int .i64 L2) := by simp [World.cell?, gX]
        have c2 : wr.cell? ⟨G, 0, none⟩ = some (.int .i64 M1) := by simp [World.cell?, gY]
        have c3 : wr.cell? ⟨G, 1, none⟩ = some (.int .i64 M2) := by simp [World.cell?, gY]
        have c4 : wr.cell? ⟨g, 0, none⟩ = some (.int .i64 0) := by simp [World.cell?, g0]
        have c5 : wr.cell? ⟨g, 1, none⟩ = some (.int .i64 0) := by simp [World.cell?, g0]
        have c6 : wr.cell? ⟨g + 1, 0, none⟩ = some (.int .i64 0) := by simp [World.cell?, g1]
        have c7 : wr.cell? ⟨g + 1, 1, none⟩ = some (.int .i64 0) := by simp [World.cell?, g1]
        have f4 := w_free g0 0
        have f5 := w_free g0 1
        have f6 := w_free g1 0
        have f7 := w_free g1 1
        have hYg : G ≠ g := fun e => hgY e.symm
        have HR := Lib.hid (And.intro hbr (And.intro g0 (And.intro g1 (And.intro eL (And.intro eM hsz)))))
        clear hq htm hsz hot hbr gX gY eL eM ej hj hvs egg hn2 hk hnm hm hN eN hbW gG gH eG eH htd g0 g1 hb1 hXY hgX hgX1 hgY1
        go_upto_region 12 with fail
        go_region
        all_goals
          go_wp2_with fail
          obtain ⟨hbr, g0, g1, eL, eM, -⟩ := HR.out
          obtain ⟨-, hbv, hvs, egg, -⟩ := HV.out
          obtain ⟨hbW, gG, gH, eG, eH⟩ := HW.out
          have hb1 := HB.out.2
          obtain ⟨wf, ewf⟩ : ∃ v, v = ((((wr.setCell ⟨g, 0, none⟩ (.int .i64 L1)).setCell ⟨g, 1, none⟩ (.int .i64 L2)).setCell ⟨g + 1, 0, none⟩ (.int .i64 M1)).setCell ⟨g + 1, 1, none⟩ (.int .i64 M2)).drew := ⟨_, rfl⟩
          have hg0 : wf.heap[g]? = some (.cells #[.int .i64 L1, .int .i64 L2] 32) := by
            rw [ewf]
            exact (w_other _ _ (by omega)).trans ((w_other _ _ (by omega)).trans (w_block (w_block g0 0 _) 1 _))
          have hg1 : wf.heap[g + 1]? = some (.cells #[.int .i64 M1, .int .i64 M2] 32) := by
            rw [ewf]
            exact w_block (w_block ((w_other _ _ (by omega)).trans ((w_other wr _ (by omega)).trans g1)) 0 _) 1 _
          have hB : Below w.heap.size w wf := by
            rw [ewf]
            exact (((((((hbv.trans (hb1.mono hbv.size)).trans (hbW.mono (by have := hb1.size; omega))).trans (hbr.mono (by have := hb1.size; omega))).setCell (p := ⟨g, 0, none⟩) (by show _ ≤ g; omega) _).setCell (p := ⟨g, 1, none⟩) (by show _ ≤ g; omega) _).setCell (p := ⟨g + 1, 0, none⟩) (by show _ ≤ g + 1; omega) _).setCell (p := ⟨g + 1, 1, none⟩) (by show _ ≤ g + 1; omega) _).drew
          rw [← ewf]
          exact bodyPost_ret (rbox_res Try.results15 _ (w := wf) (g1 := g) (g2 := g + 1) (a := .int .i64 L1) (b := .int .i64 L2) (c := .int .i64 M1) (d := .int .i64 M2) (by simp [World.cell?, hg0]) (by simp [World.cell?, hg0]) (by simp [World.cell?, hg1]) (by simp [World.cell?, hg1]) rfl rfl rfl) rfl ⟨by rw [← eL, ← eM]; rfl, hB⟩
end Go.Proofs.Ytejfdheiopejeaa
