/-
  Layer 17: CaretBack. By an AI agent.
-/
import Derived.Test.YtejfdheiopejeaaCl5
namespace Go.Proofs.Ytejfdheiopejeaa
open Go Go.RowKit
set_option maxRecDepth 20000
/-- What is asked of Places, At, Move, with the answers told. -/
theorem at_self {s : ByteArray} {c : Int} {n : Nat} {st : IDt} (hc : 2 ≤ c ∧ c ≤ 200) (hs : s.size ≤ 1048576) (hn : (spotsR c (runesFrom s 0) (0, 0))[n]? = some st) (w : World) :
    Calls Try.prog 16 #[.string s, .int .i64 c, cpV st] w fun e w' => e = .returned (.tuple #[.int .i64 (n : Int), .int .i64 0]) ∧ Below w.heap.size w w' := by
  obtain ⟨h1, h2, -⟩ := spots_fit (s := s) (k := c) hc hs st (List.mem_of_getElem? hn)
  have h3 := caL_self hc hs hn
  obtain ⟨p, q⟩ := st
  dsimp only at h1 h2 h3
  obtain ⟨p', rfl⟩ : ∃ p' : Nat, p = p' := ⟨p.toNat, by omega⟩
  obtain ⟨q', rfl⟩ : ∃ q' : Nat, q = q' := ⟨q.toNat, by omega⟩
  have h := at_any (s := s) (k := c) (x := p') (y := q') hc hs (by omega) (by omega) w
  rwa [h3] at h
theorem move_self {s : ByteArray} {c : Int} {n : Nat} {st : IDt} (hc : 2 ≤ c ∧ c ≤ 200) (hs : s.size ≤ 1048576) (hn : (spotsR c (runesFrom s 0) (0, 0))[n]? = some st) (w : World) :
    Calls Try.prog 17 #[.string s, .int .i64 c, .int .i64 (n : Int), .complex .f64 0 0] w fun e w' => e = .returned (.tuple #[.int .i64 (n : Int), .int .i64 0]) ∧ Below w.heap.size w w' := by
  have h := move_any (s := s) (k := c) hc hs hn w
  rwa [caL_self hc hs hn] at h
set_option maxHeartbeats 3200000 in
theorem caretback_law {s : ByteArray} (c : Int) (hs : s.size ≤ 1048576) (w : World) : Calls Try.prog 6 #[.string s, .int .i64 c] w fun e w' => e = .returned (.bool true) ∧ Below w.heap.size w w' := by
  by_cases hc : 2 ≤ c ∧ c ≤ 200
  · have HP := Lib.hid (fun w => places_any (s := s) (k := c) hc hs w)
    have hfit := spots_fit (s := s) (k := c) hc hs
    have hat := fun (n : Nat) (st : IDt) (h : (spotsR c (runesFrom s 0) (0, 0))[n]? = some st) => And.intro (fun w => at_self hc hs h w) (fun w => move_self hc hs h w)
    have htw := fun (n m : Nat) (a b : IDt) (h1 : (spotsR c (runesFrom s 0) (0, 0))[n]? = some a) (h2 : (spotsR c (runesFrom s 0) (0, 0))[m]? = some b) (h3 : n < m) => spots_two h1 h2 h3
    obtain ⟨all, eall⟩ : ∃ l, l = spotsR c (runesFrom s 0) (0, 0) := ⟨_, rfl⟩
    obtain ⟨N, eN⟩ : ∃ N, N = all.length := ⟨_, rfl⟩
    rw [← eall, ← eN] at HP
    rw [← eall] at hfit hat htw
    have hN1 : 1 ≤ N := by rw [eN, eall, spotsR_len]; omega
    have hN : N ≤ 1048577 := by
      have := runes_len s s.size 0 rfl
      rw [eN, eall, spotsR_len]
      omega
    have HF := Lib.hid (And.intro hfit (And.intro eN (And.intro hN1 (And.intro hat htw))))
    clear hfit eall eN hN1 hs hc hat htw
    go_enter Try.func6, Try.ntmps6
    go_upto_region 2 with (go_at_call 8; refine (HP.out w).mono ?_; rintro z w2 ⟨A1, c1, rfl, hown, hb⟩; have HR1 := Lib.hid (show RdR cpE w2 w2.heap.size A1 c1 all from hown.rd); have HB := Lib.hid hb; clear hown hb)
    clear HP
    obtain ⟨b1, o1, rfl⟩ : ∃ b o, A1 = some ⟨b, o, none⟩ := by
      obtain ⟨b, o, h, _⟩ := HR1.out.at_ (k := 0) (x := all[0]'(by have := HF.out.2.1; have := HF.out.2.2.1; omega)) (List.getElem?_eq_getElem _)
      exact ⟨b, o, h⟩
    by_cases hN3 : (300 : Int) < (N : Int)
    · go_upto_region 5 with fail
      have hMN : 300 ≤ N := by omega
      have HN3 := Lib.hid hN3
      clear hN3
      go_loopg [33] (300) (fun m jv wr => ∃ j : Nat, 300 - j = m ∧ jv = .int .i64 (j : Int) ∧ j ≤ 300 ∧ Below w2.heap.size w2 wr)
      case atStart => exact ⟨0, rfl, rfl, Nat.zero_le _, Below.refl _ _⟩
      case round =>
        obtain ⟨j, hm, rfl, hjM, hbr⟩ := hrel
        by_cases hj : j < 300
        · obtain ⟨⟨x, y⟩, hst⟩ : ∃ st, all[j]? = some st := ⟨all[j]'(by have := HF.out.2.1; omega), List.getElem?_eq_getElem _⟩
          have hfx := (HF.out.1 (x, y) (List.mem_of_getElem? hst)).2.2
          obtain ⟨ha, hmv⟩ := HF.out.2.2.2.1 j (x, y) hst
          have hr1 := (HR1.out.keep hbr).mono hbr.size
          obtain ⟨q1, q2, e1, hl1, k1⟩ := hr1.at_ hst
          simp only [Option.some.injEq, Addr.mk.injEq] at e1
          obtain ⟨rfl, rfl, -⟩ := e1
          have g0 := k1 0 _ rfl
          have hxx := eq_fit hfx.1 hfx.1
          have hyy := eq_fit hfx.2 hfx.2
          rw [decide_eq_true rfl] at hxx hyy
          unfold cpV at g0 ha
          obtain ⟨fx, efx⟩ : ∃ q, q = fi x := ⟨_, rfl⟩
          obtain ⟨fy, efy⟩ : ∃ q, q = fi y := ⟨_, rfl⟩
          rw [show fi ((x, y) : IDt).1 = fx from efx.symm, show fi ((x, y) : IDt).2 = fy from efy.symm] at g0 ha
          rw [show floatOfInt .f64 ((x, y) : IDt).1 = fx from efx.symm] at hxx
          rw [show floatOfInt .f64 ((x, y) : IDt).2 = fy from efy.symm] at hyy
          have h0 : wr.cell? ⟨b1, o1 + j, none⟩ = some (.complex .f64 fx fy) := by have := g0; rwa [show o1 + j * cpE.size + 0 = o1 + j by show o1 + j * 1 + 0 = _; omega] at this
          have HMV := Lib.hid hmv
          have HAT := Lib.hid ha
          have hjN : j < N := by omega
          have hjg : ¬ (N : Int) ≤ (j : Int) := by omega
          obtain ⟨j1, ej1⟩ : ∃ q, q = j + 1 := ⟨_, rfl⟩
          have hj1 : (j : Int) + 1 = (j1 : Int) := by omega
          have hj9 : j ≤ 1048577 := by omega
          have hwj : IntKind.i64.wrap (j1 : Int) = (j1 : Int) := by rw [IntKind.wrap_i64]; omega
          have HB1 := Lib.hid hl1
          have HK := Lib.hid (And.intro hm hbr)
          by_cases hn : j1 < N
          · obtain ⟨⟨x', y'⟩, hst'⟩ : ∃ st, all[j1]? = some st := ⟨all[j1]'(by have := HF.out.2.1; omega), List.getElem?_eq_getElem _⟩
            have hfx' := (HF.out.1 (x', y') (List.mem_of_getElem? hst')).2.2
            have hlx := HF.out.2.2.2.2 j j1 (x, y) (x', y') hst hst' (by omega)
            obtain ⟨q1, q2, e1, hl1', k1'⟩ := hr1.at_ hst'
            simp only [Option.some.injEq, Addr.mk.injEq] at e1
            obtain ⟨rfl, rfl, -⟩ := e1
            have g1 := k1' 0 _ rfl
            have hx2 := eq_fit hfx'.1 hfx.1
            have hy2 := eq_fit hfx'.2 hfx.2
            have hne : (FloatKind.f64.format.order (fi x') (fi x) == some .eq && FloatKind.f64.format.order (fi y') (fi y) == some .eq) = false := by
              rw [show (FloatKind.f64.format.order (fi x') (fi x) == some .eq) = decide (x' = x) from hx2, show (FloatKind.f64.format.order (fi y') (fi y) == some .eq) = decide (y' = y) from hy2]
              unfold Lex at hlx
              dsimp only at hlx
              rw [← Bool.decide_and]
              exact decide_eq_false (by omega)
            unfold cpV at g1
            obtain ⟨gx, egx⟩ : ∃ q, q = fi x' := ⟨_, rfl⟩
            obtain ⟨gy, egy⟩ : ∃ q, q = fi y' := ⟨_, rfl⟩
            rw [← egx, ← egy, ← efx, ← efy] at hne
            rw [show fi ((x', y') : IDt).1 = gx from egx.symm, show fi ((x', y') : IDt).2 = gy from egy.symm] at g1
            have h1 : wr.cell? ⟨b1, o1 + j1, none⟩ = some (.complex .f64 gx gy) := by have := g1; rwa [show o1 + j1 * cpE.size + 0 = o1 + j1 by show o1 + j1 * 1 + 0 = _; omega] at this
            have HS0 := Lib.hid (And.intro h0 h1)
            clear hst hst' hfx hfx' hr1 hl1 hl1' k1 k1' g0 g1 ha hmv efx efy egx egy h1 hbr hjM hx2 hy2 hlx ej1 hm
            go_upto_region 8 with (go_at_call 16; refine (HAT.out wr).mono ?_; rintro z v2 ⟨rfl, hb2⟩; have H2 := Lib.hid hb2; clear hb2)
            have HS := Lib.hid (fun wz (hz : Below v2.heap.size v2 wz) => show wz.cell? ⟨b1, o1 + j, none⟩ = some (.complex .f64 fx fy) ∧ wz.cell? ⟨b1, o1 + j1, none⟩ = some (.complex .f64 gx gy) from
              ⟨(hz.cell (p := ⟨b1, o1 + j, none⟩) (Nat.lt_of_lt_of_le HB1.out H2.out.size)).trans ((H2.out.cell (p := ⟨b1, o1 + j, none⟩) HB1.out).trans HS0.out.1), (hz.cell (p := ⟨b1, o1 + j1, none⟩) (Nat.lt_of_lt_of_le HB1.out H2.out.size)).trans ((H2.out.cell (p := ⟨b1, o1 + j1, none⟩) HB1.out).trans HS0.out.2)⟩)
            clear h0
            refine wp_region_inv 42 [46, 47, 48, 49, 50, 51, 52, 53, 54, 55, 56, 57, 58, 59, 60, 61, 62, 63, 64, 65, 66, 67, 68, 69, 70, 71, 72, 73, 74, 75, 76, 77, 78, 79, 80, 81, 82, 83, 84, 85, 86, 87] [.val (.int .i64 0), .val (.bool false), .val (.bool false), .val (.int .i64 (j : Int)), .val (.int .i64 (j : Int)), .val (.bool false), .val (.bool false), .val (.bool false), .val (.int .i64 (j : Int)), .val (.slice (some ⟨b1, o1, none⟩) N c1), .val (.int .i64 (N : Int)), .val (.bool false), .val (.bool false), .val (.bool false), .val (.slice (some ⟨b1, o1, none⟩) N c1), .val (.int .i64 (j : Int)), .val (.pointer (some ⟨b1, o1 + j, none⟩)), .val (.complex .f64 fx fy), .val (.slice (some ⟨b1, o1, none⟩) N c1), .val (.int .i64 (j : Int)), .val (.pointer (some ⟨b1, o1 + j, none⟩)), .val (.complex .f64 fx fy), .val (.bool false), .val (.bool false), .val (.bool false), .val (.int .i64 (j : Int)), .val (.int .i64 (j1 : Int)), .val (.slice (some ⟨b1, o1, none⟩) N c1), .val (.int .i64 (N : Int)), .val (.bool true), .val (.bool true), .val (.slice (some ⟨b1, o1, none⟩) N c1), .val (.int .i64 (j : Int)), .val (.int .i64 (j1 : Int)), .val (.pointer (some ⟨b1, o1 + j1, none⟩)), .val (.complex .f64 gx gy), .val (.slice (some ⟨b1, o1, none⟩) N c1), .val (.int .i64 (j : Int)), .val (.pointer (some ⟨b1, o1 + j, none⟩)), .val (.complex .f64 fx fy), .val (.bool false), .val (.bool false)] (fun wz => Below v2.heap.size v2 wz) (by kernel_rfl) (by kernel_rfl) (fun wz wz' hz hb => hz.trans (hb.mono hz.size)) ((Below.refl _ _).drew) (fun u => by simp only [puts, List.foldl_cons, List.foldl_nil]; go_simp; exact rfl) ?_ ?_
            · simp only [List.take_succ_cons, List.take_zero]
              refine Obs.cons (fun u w hS hd => ?_) ?_
              · exact Gv.run (.int .i64 0) rfl (by go_simp) rfl
              refine Obs.cons (fun u w hS hd => ?_) ?_
              · have d46 : u 46 = .int .i64 0 := dep hd 0 rfl
                rw [d46]
                exact Gv.run (.bool false) rfl (by go_simp) rfl
              refine Obs.cons (fun u w hS hd => ?_) ?_
              · have d47 : u 47 = .bool false := dep hd 1 rfl
                rw [d47]
                exact Gv.run (.bool false) rfl (by go_simp) rfl
              refine Obs.cons (fun u w hS hd => ?_) ?_
              · have d48 : u 48 = .bool false := dep hd 2 rfl
                rw [d48]
                exact Gv.run (.int .i64 (j : Int)) rfl (by go_simp) rfl
              refine Obs.cons (fun u w hS hd => ?_) ?_
              · have d48 : u 48 = .bool false := dep hd 2 rfl
                rw [d48]
                exact Gv.run (.int .i64 (j : Int)) rfl (by go_simp) rfl
              refine Obs.cons (fun u w hS hd => ?_) ?_
              · have d49 : u 49 = .int .i64 (j : Int) := dep hd 3 rfl
                have d50 : u 50 = .int .i64 (j : Int) := dep hd 4 rfl
                have d48 : u 48 = .bool false := dep hd 2 rfl
                rw [d49, d50, d48]
                exact Gv.run (.bool false) rfl (by go_simp) rfl
              refine Obs.cons (fun u w hS hd => ?_) ?_
              · have d48 : u 48 = .bool false := dep hd 2 rfl
                have d51 : u 51 = .bool false := dep hd 5 rfl
                rw [d48, d51]
                exact Gv.run (.bool false) rfl (by go_simp) rfl
              refine Obs.cons (fun u w hS hd => ?_) ?_
              · have d52 : u 52 = .bool false := dep hd 6 rfl
                rw [d52]
                exact Gv.run (.bool false) rfl (by go_simp) rfl
              refine Obs.cons (fun u w hS hd => ?_) ?_
              · have d53 : u 53 = .bool false := dep hd 7 rfl
                rw [d53]
                exact Gv.run (.int .i64 (j : Int)) rfl (by go_simp) rfl
              refine Obs.cons (fun u w hS hd => ?_) ?_
              · have d53 : u 53 = .bool false := dep hd 7 rfl
                rw [d53]
                exact Gv.run (.slice (some ⟨b1, o1, none⟩) N c1) rfl (by go_simp) rfl
              refine Obs.cons (fun u w hS hd => ?_) ?_
              · have d55 : u 55 = .slice (some ⟨b1, o1, none⟩) N c1 := dep hd 9 rfl
                have d53 : u 53 = .bool false := dep hd 7 rfl
                rw [d55, d53]
                exact Gv.run (.int .i64 (N : Int)) rfl (by go_simp) rfl
              refine Obs.cons (fun u w hS hd => ?_) ?_
              · have d54 : u 54 = .int .i64 (j : Int) := dep hd 8 rfl
                have d56 : u 56 = .int .i64 (N : Int) := dep hd 10 rfl
                have d53 : u 53 = .bool false := dep hd 7 rfl
                rw [d54, d56, d53]
                exact Gv.run (.bool false) rfl (by go_simp) rfl
              refine Obs.cons (fun u w hS hd => ?_) ?_
              · have d53 : u 53 = .bool false := dep hd 7 rfl
                have d57 : u 57 = .bool false := dep hd 11 rfl
                rw [d53, d57]
                exact Gv.run (.bool false) rfl (by go_simp) rfl
              refine Obs.cons (fun u w hS hd => ?_) ?_
              · have d58 : u 58 = .bool false := dep hd 12 rfl
                rw [d58]
                exact Gv.run (.bool false) rfl (by go_simp) rfl
              refine Obs.cons (fun u w hS hd => ?_) ?_
              · have d59 : u 59 = .bool false := dep hd 13 rfl
                rw [d59]
                exact Gv.run (.slice (some ⟨b1, o1, none⟩) N c1) rfl (by go_simp) rfl
              refine Obs.cons (fun u w hS hd => ?_) ?_
              · have d59 : u 59 = .bool false := dep hd 13 rfl
                rw [d59]
                exact Gv.run (.int .i64 (j : Int)) rfl (by go_simp) rfl
              refine Obs.cons (fun u w hS hd => ?_) ?_
              · have d60 : u 60 = .slice (some ⟨b1, o1, none⟩) N c1 := dep hd 14 rfl
                have d61 : u 61 = .int .i64 (j : Int) := dep hd 15 rfl
                have d59 : u 59 = .bool false := dep hd 13 rfl
                rw [d60, d61, d59]
                exact Gv.run (.pointer (some ⟨b1, o1 + j, none⟩)) rfl (by go_simp) rfl
              refine Obs.cons (fun u w hS hd => ?_) ?_
              · have d62 : u 62 = .pointer (some ⟨b1, o1 + j, none⟩) := dep hd 16 rfl
                have d59 : u 59 = .bool false := dep hd 13 rfl
                rw [d62, d59]
                exact Gv.run (.complex .f64 fx fy) rfl (by obtain ⟨k0, k1⟩ := HS.out w hS; go_simp) rfl
              refine Obs.cons (fun u w hS hd => ?_) ?_
              · have d59 : u 59 = .bool false := dep hd 13 rfl
                rw [d59]
                exact Gv.run (.slice (some ⟨b1, o1, none⟩) N c1) rfl (by go_simp) rfl
              refine Obs.cons (fun u w hS hd => ?_) ?_
              · have d59 : u 59 = .bool false := dep hd 13 rfl
                rw [d59]
                exact Gv.run (.int .i64 (j : Int)) rfl (by go_simp) rfl
              refine Obs.cons (fun u w hS hd => ?_) ?_
              · have d64 : u 64 = .slice (some ⟨b1, o1, none⟩) N c1 := dep hd 18 rfl
                have d65 : u 65 = .int .i64 (j : Int) := dep hd 19 rfl
                have d59 : u 59 = .bool false := dep hd 13 rfl
                rw [d64, d65, d59]
                exact Gv.run (.pointer (some ⟨b1, o1 + j, none⟩)) rfl (by go_simp) rfl
              refine Obs.cons (fun u w hS hd => ?_) ?_
              · have d66 : u 66 = .pointer (some ⟨b1, o1 + j, none⟩) := dep hd 20 rfl
                have d59 : u 59 = .bool false := dep hd 13 rfl
                rw [d66, d59]
                exact Gv.run (.complex .f64 fx fy) rfl (by obtain ⟨k0, k1⟩ := HS.out w hS; go_simp) rfl
              refine Obs.cons (fun u w hS hd => ?_) ?_
              · have d63 : u 63 = .complex .f64 fx fy := dep hd 17 rfl
                have d67 : u 67 = .complex .f64 fx fy := dep hd 21 rfl
                have d59 : u 59 = .bool false := dep hd 13 rfl
                rw [d63, d67, d59]
                exact Gv.run (.bool false) rfl (by go_simp) rfl
              refine Obs.cons (fun u w hS hd => ?_) ?_
              · have d59 : u 59 = .bool false := dep hd 13 rfl
                have d68 : u 68 = .bool false := dep hd 22 rfl
                rw [d59, d68]
                exact Gv.run (.bool false) rfl (by go_simp) rfl
              refine Obs.cons (fun u w hS hd => ?_) ?_
              · have d69 : u 69 = .bool false := dep hd 23 rfl
                rw [d69]
                exact Gv.run (.bool false) rfl (by go_simp) rfl
              refine Obs.cons (fun u w hS hd => ?_) ?_
              · have d70 : u 70 = .bool false := dep hd 24 rfl
                rw [d70]
                exact Gv.run (.int .i64 (j : Int)) rfl (by go_simp) rfl
              refine Obs.cons (fun u w hS hd => ?_) ?_
              · have d71 : u 71 = .int .i64 (j : Int) := dep hd 25 rfl
                have d70 : u 70 = .bool false := dep hd 24 rfl
                rw [d71, d70]
                exact Gv.run (.int .i64 (j1 : Int)) rfl (by go_simp) rfl
              refine Obs.cons (fun u w hS hd => ?_) ?_
              · have d70 : u 70 = .bool false := dep hd 24 rfl
                rw [d70]
                exact Gv.run (.slice (some ⟨b1, o1, none⟩) N c1) rfl (by go_simp) rfl
              refine Obs.cons (fun u w hS hd => ?_) ?_
              · have d73 : u 73 = .slice (some ⟨b1, o1, none⟩) N c1 := dep hd 27 rfl
                have d70 : u 70 = .bool false := dep hd 24 rfl
                rw [d73, d70]
                exact Gv.run (.int .i64 (N : Int)) rfl (by go_simp) rfl
              refine Obs.cons (fun u w hS hd => ?_) ?_
              · have d72 : u 72 = .int .i64 (j1 : Int) := dep hd 26 rfl
                have d74 : u 74 = .int .i64 (N : Int) := dep hd 28 rfl
                have d70 : u 70 = .bool false := dep hd 24 rfl
                rw [d72, d74, d70]
                exact Gv.run (.bool true) rfl (by go_simp) rfl
              refine Obs.cons (fun u w hS hd => ?_) ?_
              · have d75 : u 75 = .bool true := dep hd 29 rfl
                have d70 : u 70 = .bool false := dep hd 24 rfl
                rw [d75, d70]
                exact Gv.run (.bool true) rfl (by go_simp) rfl
              refine Obs.cons (fun u w hS hd => ?_) ?_
              · have d76 : u 76 = .bool true := dep hd 30 rfl
                rw [d76]
                exact Gv.run (.slice (some ⟨b1, o1, none⟩) N c1) rfl (by go_simp) rfl
              refine Obs.cons (fun u w hS hd => ?_) ?_
              · have d76 : u 76 = .bool true := dep hd 30 rfl
                rw [d76]
                exact Gv.run (.int .i64 (j : Int)) rfl (by go_simp) rfl
              refine Obs.cons (fun u w hS hd => ?_) ?_
              · have d78 : u 78 = .int .i64 (j : Int) := dep hd 32 rfl
                have d76 : u 76 = .bool true := dep hd 30 rfl
                rw [d78, d76]
                exact Gv.run (.int .i64 (j1 : Int)) rfl (by go_simp) rfl
              refine Obs.cons (fun u w hS hd => ?_) ?_
              · have d77 : u 77 = .slice (some ⟨b1, o1, none⟩) N c1 := dep hd 31 rfl
                have d79 : u 79 = .int .i64 (j1 : Int) := dep hd 33 rfl
                have d76 : u 76 = .bool true := dep hd 30 rfl
                rw [d77, d79, d76]
                exact Gv.run (.pointer (some ⟨b1, o1 + j1, none⟩)) rfl (by go_simp) rfl
              refine Obs.cons (fun u w hS hd => ?_) ?_
              · have d80 : u 80 = .pointer (some ⟨b1, o1 + j1, none⟩) := dep hd 34 rfl
                have d76 : u 76 = .bool true := dep hd 30 rfl
                rw [d80, d76]
                exact Gv.run (.complex .f64 gx gy) rfl (by obtain ⟨k0, k1⟩ := HS.out w hS; go_simp) rfl
              refine Obs.cons (fun u w hS hd => ?_) ?_
              · have d76 : u 76 = .bool true := dep hd 30 rfl
                rw [d76]
                exact Gv.run (.slice (some ⟨b1, o1, none⟩) N c1) rfl (by go_simp) rfl
              refine Obs.cons (fun u w hS hd => ?_) ?_
              · have d76 : u 76 = .bool true := dep hd 30 rfl
                rw [d76]
                exact Gv.run (.int .i64 (j : Int)) rfl (by go_simp) rfl
              refine Obs.cons (fun u w hS hd => ?_) ?_
              · have d82 : u 82 = .slice (some ⟨b1, o1, none⟩) N c1 := dep hd 36 rfl
                have d83 : u 83 = .int .i64 (j : Int) := dep hd 37 rfl
                have d76 : u 76 = .bool true := dep hd 30 rfl
                rw [d82, d83, d76]
                exact Gv.run (.pointer (some ⟨b1, o1 + j, none⟩)) rfl (by go_simp) rfl
              refine Obs.cons (fun u w hS hd => ?_) ?_
              · have d84 : u 84 = .pointer (some ⟨b1, o1 + j, none⟩) := dep hd 38 rfl
                have d76 : u 76 = .bool true := dep hd 30 rfl
                rw [d84, d76]
                exact Gv.run (.complex .f64 fx fy) rfl (by obtain ⟨k0, k1⟩ := HS.out w hS; go_simp) rfl
              refine Obs.cons (fun u w hS hd => ?_) ?_
              · have d81 : u 81 = .complex .f64 gx gy := dep hd 35 rfl
                have d85 : u 85 = .complex .f64 fx fy := dep hd 39 rfl
                have d76 : u 76 = .bool true := dep hd 30 rfl
                rw [d81, d85, d76]
                exact Gv.run (.bool false) rfl (by go_simp) rfl
              refine Obs.cons (fun u w hS hd => ?_) ?_
              · have d76 : u 76 = .bool true := dep hd 30 rfl
                have d86 : u 86 = .bool false := dep hd 40 rfl
                have d70 : u 70 = .bool false := dep hd 24 rfl
                rw [d76, d86, d70]
                exact Gv.run (.bool false) rfl (by go_simp) rfl
              exact Obs.nil
            intro u v3 hS hd
            have d70 : u 70 = .bool false := hd 24 (by decide)
            have d87 : u 87 = .bool false := hd 41 (by decide)
            rw [d70, d87]
            simp only [List.drop_succ_cons, List.drop_zero]
            have H3 := Lib.hid hS
            clear hS hd d70 d87
            go_wp2_with (go_at_call 17; refine (HMV.out v3).mono ?_; rintro z v4 ⟨rfl, hb4⟩; have H4 := Lib.hid hb4; clear hb4)
            go_roundg (300 - (j + 1))
            case measure => have := HK.out.1; omega
            case rel =>
              have h4 := HK.out.2.trans (H2.out.mono HK.out.2.size)
              have h5 := h4.trans (H3.out.mono h4.size)
              exact ⟨j + 1, rfl, by go_num, by omega, h5.trans (H4.out.mono h5.size)⟩
          · have hn' : N ≤ j1 := by omega
            have HS0 := Lib.hid h0
            clear hst hfx hr1 hl1 k1 g0 ha hmv efx efy hbr hjM ej1 hm hn
            go_upto_region 8 with (go_at_call 16; refine (HAT.out wr).mono ?_; rintro z v2 ⟨rfl, hb2⟩; have H2 := Lib.hid hb2; clear hb2)
            have HS := Lib.hid (fun wz (hz : Below v2.heap.size v2 wz) => show wz.cell? ⟨b1, o1 + j, none⟩ = some (.complex .f64 fx fy) from
              (hz.cell (p := ⟨b1, o1 + j, none⟩) (Nat.lt_of_lt_of_le HB1.out H2.out.size)).trans ((H2.out.cell (p := ⟨b1, o1 + j, none⟩) HB1.out).trans HS0.out))
            clear h0
            refine wp_region_inv 42 [46, 47, 48, 49, 50, 51, 52, 53, 54, 55, 56, 57, 58, 59, 60, 61, 62, 63, 64, 65, 66, 67, 68, 69, 70, 71, 72, 73, 74, 75, 76, 77, 78, 79, 80, 81, 82, 83, 84, 85, 86, 87] [.val (.int .i64 0), .val (.bool false), .val (.bool false), .val (.int .i64 (j : Int)), .val (.int .i64 (j : Int)), .val (.bool false), .val (.bool false), .val (.bool false), .val (.int .i64 (j : Int)), .val (.slice (some ⟨b1, o1, none⟩) N c1), .val (.int .i64 (N : Int)), .val (.bool false), .val (.bool false), .val (.bool false), .val (.slice (some ⟨b1, o1, none⟩) N c1), .val (.int .i64 (j : Int)), .val (.pointer (some ⟨b1, o1 + j, none⟩)), .val (.complex .f64 fx fy), .val (.slice (some ⟨b1, o1, none⟩) N c1), .val (.int .i64 (j : Int)), .val (.pointer (some ⟨b1, o1 + j, none⟩)), .val (.complex .f64 fx fy), .val (.bool false), .val (.bool false), .val (.bool false), .val (.int .i64 (j : Int)), .val (.int .i64 (j1 : Int)), .val (.slice (some ⟨b1, o1, none⟩) N c1), .val (.int .i64 (N : Int)), .val (.bool false), .val (.bool false), .val undef, .val undef, .val undef, .val undef, .val undef, .val undef, .val undef, .val undef, .val undef, .val undef, .val (.bool false)] (fun wz => Below v2.heap.size v2 wz) (by kernel_rfl) (by kernel_rfl) (fun wz wz' hz hb => hz.trans (hb.mono hz.size)) ((Below.refl _ _).drew) (fun u => by simp only [puts, List.foldl_cons, List.foldl_nil]; go_simp; exact rfl) ?_ ?_
            · simp only [List.take_succ_cons, List.take_zero]
              refine Obs.cons (fun u w hS hd => ?_) ?_
              · exact Gv.run (.int .i64 0) rfl (by go_simp) rfl
              refine Obs.cons (fun u w hS hd => ?_) ?_
              · have d46 : u 46 = .int .i64 0 := dep hd 0 rfl
                rw [d46]
                exact Gv.run (.bool false) rfl (by go_simp) rfl
              refine Obs.cons (fun u w hS hd => ?_) ?_
              · have d47 : u 47 = .bool false := dep hd 1 rfl
                rw [d47]
                exact Gv.run (.bool false) rfl (by go_simp) rfl
              refine Obs.cons (fun u w hS hd => ?_) ?_
              · have d48 : u 48 = .bool false := dep hd 2 rfl
                rw [d48]
                exact Gv.run (.int .i64 (j : Int)) rfl (by go_simp) rfl
              refine Obs.cons (fun u w hS hd => ?_) ?_
              · have d48 : u 48 = .bool false := dep hd 2 rfl
                rw [d48]
                exact Gv.run (.int .i64 (j : Int)) rfl (by go_simp) rfl
              refine Obs.cons (fun u w hS hd => ?_) ?_
              · have d49 : u 49 = .int .i64 (j : Int) := dep hd 3 rfl
                have d50 : u 50 = .int .i64 (j : Int) := dep hd 4 rfl
                have d48 : u 48 = .bool false := dep hd 2 rfl
                rw [d49, d50, d48]
                exact Gv.run (.bool false) rfl (by go_simp) rfl
              refine Obs.cons (fun u w hS hd => ?_) ?_
              · have d48 : u 48 = .bool false := dep hd 2 rfl
                have d51 : u 51 = .bool false := dep hd 5 rfl
                rw [d48, d51]
                exact Gv.run (.bool false) rfl (by go_simp) rfl
              refine Obs.cons (fun u w hS hd => ?_) ?_
              · have d52 : u 52 = .bool false := dep hd 6 rfl
                rw [d52]
                exact Gv.run (.bool false) rfl (by go_simp) rfl
              refine Obs.cons (fun u w hS hd => ?_) ?_
              · have d53 : u 53 = .bool false := dep hd 7 rfl
                rw [d53]
                exact Gv.run (.int .i64 (j : Int)) rfl (by go_simp) rfl
              refine Obs.cons (fun u w hS hd => ?_) ?_
              · have d53 : u 53 = .bool false := dep hd 7 rfl
                rw [d53]
                exact Gv.run (.slice (some ⟨b1, o1, none⟩) N c1) rfl (by go_simp) rfl
              refine Obs.cons (fun u w hS hd => ?_) ?_
              · have d55 : u 55 = .slice (some ⟨b1, o1, none⟩) N c1 := dep hd 9 rfl
                have d53 : u 53 = .bool false := dep hd 7 rfl
                rw [d55, d53]
                exact Gv.run (.int .i64 (N : Int)) rfl (by go_simp) rfl
              refine Obs.cons (fun u w hS hd => ?_) ?_
              · have d54 : u 54 = .int .i64 (j : Int) := dep hd 8 rfl
                have d56 : u 56 = .int .i64 (N : Int) := dep hd 10 rfl
                have d53 : u 53 = .bool false := dep hd 7 rfl
                rw [d54, d56, d53]
                exact Gv.run (.bool false) rfl (by go_simp) rfl
              refine Obs.cons (fun u w hS hd => ?_) ?_
              · have d53 : u 53 = .bool false := dep hd 7 rfl
                have d57 : u 57 = .bool false := dep hd 11 rfl
                rw [d53, d57]
                exact Gv.run (.bool false) rfl (by go_simp) rfl
              refine Obs.cons (fun u w hS hd => ?_) ?_
              · have d58 : u 58 = .bool false := dep hd 12 rfl
                rw [d58]
                exact Gv.run (.bool false) rfl (by go_simp) rfl
              refine Obs.cons (fun u w hS hd => ?_) ?_
              · have d59 : u 59 = .bool false := dep hd 13 rfl
                rw [d59]
                exact Gv.run (.slice (some ⟨b1, o1, none⟩) N c1) rfl (by go_simp) rfl
              refine Obs.cons (fun u w hS hd => ?_) ?_
              · have d59 : u 59 = .bool false := dep hd 13 rfl
                rw [d59]
                exact Gv.run (.int .i64 (j : Int)) rfl (by go_simp) rfl
              refine Obs.cons (fun u w hS hd => ?_) ?_
              · have d60 : u 60 = .slice (some ⟨b1, o1, none⟩) N c1 := dep hd 14 rfl
                have d61 : u 61 = .int .i64 (j : Int) := dep hd 15 rfl
                have d59 : u 59 = .bool false := dep hd 13 rfl
                rw [d60, d61, d59]
                exact Gv.run (.pointer (some ⟨b1, o1 + j, none⟩)) rfl (by go_simp) rfl
              refine Obs.cons (fun u w hS hd => ?_) ?_
              · have d62 : u 62 = .pointer (some ⟨b1, o1 + j, none⟩) := dep hd 16 rfl
                have d59 : u 59 = .bool false := dep hd 13 rfl
                rw [d62, d59]
                exact Gv.run (.complex .f64 fx fy) rfl (by have k0 := HS.out w hS; go_simp) rfl
              refine Obs.cons (fun u w hS hd => ?_) ?_
              · have d59 : u 59 = .bool false := dep hd 13 rfl
                rw [d59]
                exact Gv.run (.slice (some ⟨b1, o1, none⟩) N c1) rfl (by go_simp) rfl
              refine Obs.cons (fun u w hS hd => ?_) ?_
              · have d59 : u 59 = .bool false := dep hd 13 rfl
                rw [d59]
                exact Gv.run (.int .i64 (j : Int)) rfl (by go_simp) rfl
              refine Obs.cons (fun u w hS hd => ?_) ?_
              · have d64 : u 64 = .slice (some ⟨b1, o1, none⟩) N c1 := dep hd 18 rfl
                have d65 : u 65 = .int .i64 (j : Int) := dep hd 19 rfl
                have d59 : u 59 = .bool false := dep hd 13 rfl
                rw [d64, d65, d59]
                exact Gv.run (.pointer (some ⟨b1, o1 + j, none⟩)) rfl (by go_simp) rfl
              refine Obs.cons (fun u w hS hd => ?_) ?_
              · have d66 : u 66 = .pointer (some ⟨b1, o1 + j, none⟩) := dep hd 20 rfl
                have d59 : u 59 = .bool false := dep hd 13 rfl
                rw [d66, d59]
                exact Gv.run (.complex .f64 fx fy) rfl (by have k0 := HS.out w hS; go_simp) rfl
              refine Obs.cons (fun u w hS hd => ?_) ?_
              · have d63 : u 63 = .complex .f64 fx fy := dep hd 17 rfl
                have d67 : u 67 = .complex .f64 fx fy := dep hd 21 rfl
                have d59 : u 59 = .bool false := dep hd 13 rfl
                rw [d63, d67, d59]
                exact Gv.run (.bool false) rfl (by go_simp) rfl
              refine Obs.cons (fun u w hS hd => ?_) ?_
              · have d59 : u 59 = .bool false := dep hd 13 rfl
                have d68 : u 68 = .bool false := dep hd 22 rfl
                rw [d59, d68]
                exact Gv.run (.bool false) rfl (by go_simp) rfl
              refine Obs.cons (fun u w hS hd => ?_) ?_
              · have d69 : u 69 = .bool false := dep hd 23 rfl
                rw [d69]
                exact Gv.run (.bool false) rfl (by go_simp) rfl
              refine Obs.cons (fun u w hS hd => ?_) ?_
              · have d70 : u 70 = .bool false := dep hd 24 rfl
                rw [d70]
                exact Gv.run (.int .i64 (j : Int)) rfl (by go_simp) rfl
              refine Obs.cons (fun u w hS hd => ?_) ?_
              · have d71 : u 71 = .int .i64 (j : Int) := dep hd 25 rfl
                have d70 : u 70 = .bool false := dep hd 24 rfl
                rw [d71, d70]
                exact Gv.run (.int .i64 (j1 : Int)) rfl (by go_simp) rfl
              refine Obs.cons (fun u w hS hd => ?_) ?_
              · have d70 : u 70 = .bool false := dep hd 24 rfl
                rw [d70]
                exact Gv.run (.slice (some ⟨b1, o1, none⟩) N c1) rfl (by go_simp) rfl
              refine Obs.cons (fun u w hS hd => ?_) ?_
              · have d73 : u 73 = .slice (some ⟨b1, o1, none⟩) N c1 := dep hd 27 rfl
                have d70 : u 70 = .bool false := dep hd 24 rfl
                rw [d73, d70]
                exact Gv.run (.int .i64 (N : Int)) rfl (by go_simp) rfl
              refine Obs.cons (fun u w hS hd => ?_) ?_
              · have d72 : u 72 = .int .i64 (j1 : Int) := dep hd 26 rfl
                have d74 : u 74 = .int .i64 (N : Int) := dep hd 28 rfl
                have d70 : u 70 = .bool false := dep hd 24 rfl
                rw [d72, d74, d70]
                exact Gv.run (.bool false) rfl (by go_simp) rfl
              refine Obs.cons (fun u w hS hd => ?_) ?_
              · have d75 : u 75 = .bool false := dep hd 29 rfl
                have d70 : u 70 = .bool false := dep hd 24 rfl
                rw [d75, d70]
                exact Gv.run (.bool false) rfl (by go_simp) rfl
              refine Obs.cons (fun u w hS hd => ?_) ?_
              · have d76 : u 76 = .bool false := dep hd 30 rfl
                rw [d76]
                exact Gv.skip (by rfl) rfl
              refine Obs.cons (fun u w hS hd => ?_) ?_
              · have d76 : u 76 = .bool false := dep hd 30 rfl
                rw [d76]
                exact Gv.skip (by rfl) rfl
              refine Obs.cons (fun u w hS hd => ?_) ?_
              · have d78 : u 78 = undef := dep hd 32 rfl
                have d76 : u 76 = .bool false := dep hd 30 rfl
                rw [d78, d76]
                exact Gv.skip (by rfl) rfl
              refine Obs.cons (fun u w hS hd => ?_) ?_
              · have d77 : u 77 = undef := dep hd 31 rfl
                have d79 : u 79 = undef := dep hd 33 rfl
                have d76 : u 76 = .bool false := dep hd 30 rfl
                rw [d77, d79, d76]
                exact Gv.skip (by rfl) rfl
              refine Obs.cons (fun u w hS hd => ?_) ?_
              · have d80 : u 80 = undef := dep hd 34 rfl
                have d76 : u 76 = .bool false := dep hd 30 rfl
                rw [d80, d76]
                exact Gv.skip (by rfl) rfl
              refine Obs.cons (fun u w hS hd => ?_) ?_
              · have d76 : u 76 = .bool false := dep hd 30 rfl
                rw [d76]
                exact Gv.skip (by rfl) rfl
              refine Obs.cons (fun u w hS hd => ?_) ?_
              · have d76 : u 76 = .bool false := dep hd 30 rfl
                rw [d76]
                exact Gv.skip (by rfl) rfl
              refine Obs.cons (fun u w hS hd => ?_) ?_
              · have d82 : u 82 = undef := dep hd 36 rfl
                have d83 : u 83 = undef := dep hd 37 rfl
                have d76 : u 76 = .bool false := dep hd 30 rfl
                rw [d82, d83, d76]
                exact Gv.skip (by rfl) rfl
              refine Obs.cons (fun u w hS hd => ?_) ?_
              · have d84 : u 84 = undef := dep hd 38 rfl
                have d76 : u 76 = .bool false := dep hd 30 rfl
                rw [d84, d76]
                exact Gv.skip (by rfl) rfl
              refine Obs.cons (fun u w hS hd => ?_) ?_
              · have d81 : u 81 = undef := dep hd 35 rfl
                have d85 : u 85 = undef := dep hd 39 rfl
                have d76 : u 76 = .bool false := dep hd 30 rfl
                rw [d81, d85, d76]
                exact Gv.skip (by rfl) rfl
              refine Obs.cons (fun u w hS hd => ?_) ?_
              · have d76 : u 76 = .bool false := dep hd 30 rfl
                have d86 : u 86 = undef := dep hd 40 rfl
                have d70 : u 70 = .bool false := dep hd 24 rfl
                rw [d76, d86, d70]
                exact Gv.run (.bool false) rfl (by go_simp) rfl
              exact Obs.nil
            intro u v3 hS hd
            have d70 : u 70 = .bool false := hd 24 (by decide)
            have d87 : u 87 = .bool false := hd 41 (by decide)
            rw [d70, d87]
            simp only [List.drop_succ_cons, List.drop_zero]
            have H3 := Lib.hid hS
            clear hS hd d70 d87
            go_wp2_with (go_at_call 17; refine (HMV.out v3).mono ?_; rintro z v4 ⟨rfl, hb4⟩; have H4 := Lib.hid hb4; clear hb4)
            go_roundg (300 - (j + 1))
            case measure => have := HK.out.1; omega
            case rel =>
              have h4 := HK.out.2.trans (H2.out.mono HK.out.2.size)
              have h5 := h4.trans (H3.out.mono h4.size)
              exact ⟨j + 1, rfl, by go_num, by omega, h5.trans (H4.out.mono h5.size)⟩
        · have HK := Lib.hid hbr
          clear hbr hm
          go_wp2_with (go_at_call 11; refine (awake17 wr).mono ?_; rintro z wz ⟨rfl, hwz⟩; have HW := Lib.hid hwz; clear hwz)
          go_ret
          exact ⟨rfl, (HB.out.trans (HK.out.mono HB.out.size)).trans (HW.out.mono (Nat.le_trans HB.out.size HK.out.size))⟩
    · go_upto_region 5 with fail
      have hMN : N ≤ N := by omega
      have HN3 := Lib.hid hN3
      clear hN3
      go_loopg [33] (N) (fun m jv wr => ∃ j : Nat, N - j = m ∧ jv = .int .i64 (j : Int) ∧ j ≤ N ∧ Below w2.heap.size w2 wr)
      case atStart => exact ⟨0, rfl, rfl, Nat.zero_le _, Below.refl _ _⟩
      case round =>
        obtain ⟨j, hm, rfl, hjM, hbr⟩ := hrel
        by_cases hj : j < N
        · obtain ⟨⟨x, y⟩, hst⟩ : ∃ st, all[j]? = some st := ⟨all[j]'(by have := HF.out.2.1; omega), List.getElem?_eq_getElem _⟩
          have hfx := (HF.out.1 (x, y) (List.mem_of_getElem? hst)).2.2
          obtain ⟨ha, hmv⟩ := HF.out.2.2.2.1 j (x, y) hst
          have hr1 := (HR1.out.keep hbr).mono hbr.size
          obtain ⟨q1, q2, e1, hl1, k1⟩ := hr1.at_ hst
          simp only [Option.some.injEq, Addr.mk.injEq] at e1
          obtain ⟨rfl, rfl, -⟩ := e1
          have g0 := k1 0 _ rfl
          have hxx := eq_fit hfx.1 hfx.1
          have hyy := eq_fit hfx.2 hfx.2
          rw [decide_eq_true rfl] at hxx hyy
          unfold cpV at g0 ha
          obtain ⟨fx, efx⟩ : ∃ q, q = fi x := ⟨_, rfl⟩
          obtain ⟨fy, efy⟩ : ∃ q, q = fi y := ⟨_, rfl⟩
          rw [show fi ((x, y) : IDt).1 = fx from efx.symm, show fi ((x, y) : IDt).2 = fy from efy.symm] at g0 ha
          rw [show floatOfInt .f64 ((x, y) : IDt).1 = fx from efx.symm] at hxx
          rw [show floatOfInt .f64 ((x, y) : IDt).2 = fy from efy.symm] at hyy
          have h0 : wr.cell? ⟨b1, o1 + j, none⟩ = some (.complex .f64 fx fy) := by have := g0; rwa [show o1 + j * cpE.size + 0 = o1 + j by show o1 + j * 1 + 0 = _; omega] at this
          have HMV := Lib.hid hmv
          have HAT := Lib.hid ha
          have hjN : j < N := by omega
          have hjg : ¬ (N : Int) ≤ (j : Int) := by omega
          obtain ⟨j1, ej1⟩ : ∃ q, q = j + 1 := ⟨_, rfl⟩
          have hj1 : (j : Int) + 1 = (j1 : Int) := by omega
          have hj9 : j ≤ 1048577 := by omega
          have hwj : IntKind.i64.wrap (j1 : Int) = (j1 : Int) := by rw [IntKind.wrap_i64]; omega
          have HB1 := Lib.hid hl1
          have HK := Lib.hid (And.intro hm hbr)
          by_cases hn : j1 < N
          · obtain ⟨⟨x', y'⟩, hst'⟩ : ∃ st, all[j1]? = some st := ⟨all[j1]'(by have := HF.out.2.1; omega), List.getElem?_eq_getElem _⟩
            have hfx' := (HF.out.1 (x', y') (List.mem_of_getElem? hst')).2.2
            have hlx := HF.out.2.2.2.2 j j1 (x, y) (x', y') hst hst' (by omega)
            obtain ⟨q1, q2, e1, hl1', k1'⟩ := hr1.at_ hst'
            simp only [Option.some.injEq, Addr.mk.injEq] at e1
            obtain ⟨rfl, rfl, -⟩ := e1
            have g1 := k1' 0 _ rfl
            have hx2 := eq_fit hfx'.1 hfx.1
            have hy2 := eq_fit hfx'.2 hfx.2
            have hne : (FloatKind.f64.format.order (fi x') (fi x) == some .eq && FloatKind.f64.format.order (fi y') (fi y) == some .eq) = false := by
              rw [show (FloatKind.f64.format.order (fi x') (fi x) == some .eq) = decide (x' = x) from hx2, show (FloatKind.f64.format.order (fi y') (fi y) == some .eq) = decide (y' = y) from hy2]
              unfold Lex at hlx
              dsimp only at hlx
              rw [← Bool.decide_and]
              exact decide_eq_false (by omega)
            unfold cpV at g1
            obtain ⟨gx, egx⟩ : ∃ q, q = fi x' := ⟨_, rfl⟩
            obtain ⟨gy, egy⟩ : ∃ q, q = fi y' := ⟨_, rfl⟩
            rw [← egx, ← egy, ← efx, ← efy] at hne
            rw [show fi ((x', y') : IDt).1 = gx from egx.symm, show fi ((x', y') : IDt).2 = gy from egy.symm] at g1
            have h1 : wr.cell? ⟨b1, o1 + j1, none⟩ = some (.complex .f64 gx gy) := by have := g1; rwa [show o1 + j1 * cpE.size + 0 = o1 + j1 by show o1 + j1 * 1 + 0 = _; omega] at this
            have HS0 := Lib.hid (And.intro h0 h1)
            clear hst hst' hfx hfx' hr1 hl1 hl1' k1 k1' g0 g1 ha hmv efx efy egx egy h1 hbr hjM hx2 hy2 hlx ej1 hm
            go_upto_region 8 with (go_at_call 16; refine (HAT.out wr).mono ?_; rintro z v2 ⟨rfl, hb2⟩; have H2 := Lib.hid hb2; clear hb2)
            have HS := Lib.hid (fun wz (hz : Below v2.heap.size v2 wz) => show wz.cell? ⟨b1, o1 + j, none⟩ = some (.complex .f64 fx fy) ∧ wz.cell? ⟨b1, o1 + j1, none⟩ = some (.complex .f64 gx gy) from
              ⟨(hz.cell (p := ⟨b1, o1 + j, none⟩) (Nat.lt_of_lt_of_le HB1.out H2.out.size)).trans ((H2.out.cell (p := ⟨b1, o1 + j, none⟩) HB1.out).trans HS0.out.1), (hz.cell (p := ⟨b1, o1 + j1, none⟩) (Nat.lt_of_lt_of_le HB1.out H2.out.size)).trans ((H2.out.cell (p := ⟨b1, o1 + j1, none⟩) HB1.out).trans HS0.out.2)⟩)
            clear h0
            refine wp_region_inv 42 [46, 47, 48, 49, 50, 51, 52, 53, 54, 55, 56, 57, 58, 59, 60, 61, 62, 63, 64, 65, 66, 67, 68, 69, 70, 71, 72, 73, 74, 75, 76, 77, 78, 79, 80, 81, 82, 83, 84, 85, 86, 87] [.val (.int .i64 0), .val (.bool false), .val (.bool false), .val (.int .i64 (j : Int)), .val (.int .i64 (j : Int)), .val (.bool false), .val (.bool false), .val (.bool false), .val (.int .i64 (j : Int)), .val (.slice (some ⟨b1, o1, none⟩) N c1), .val (.int .i64 (N : Int)), .val (.bool false), .val (.bool false), .val (.bool false), .val (.slice (some ⟨b1, o1, none⟩) N c1), .val (.int .i64 (j : Int)), .val (.pointer (some ⟨b1, o1 + j, none⟩)), .val (.complex .f64 fx fy), .val (.slice (some ⟨b1, o1, none⟩) N c1), .val (.int .i64 (j : Int)), .val (.pointer (some ⟨b1, o1 + j, none⟩)), .val (.complex .f64 fx fy), .val (.bool false), .val (.bool false), .val (.bool false), .val (.int .i64 (j : Int)), .val (.int .i64 (j1 : Int)), .val (.slice (some ⟨b1, o1, none⟩) N c1), .val (.int .i64 (N : Int)), .val (.bool true), .val (.bool true), .val (.slice (some ⟨b1, o1, none⟩) N c1), .val (.int .i64 (j : Int)), .val (.int .i64 (j1 : Int)), .val (.pointer (some ⟨b1, o1 + j1, none⟩)), .val (.complex .f64 gx gy), .val (.slice (some ⟨b1, o1, none⟩) N c1), .val (.int .i64 (j : Int)), .val (.pointer (some ⟨b1, o1 + j, none⟩)), .val (.complex .f64 fx fy), .val (.bool false), .val (.bool false)] (fun wz => Below v2.heap.size v2 wz) (by kernel_rfl) (by kernel_rfl) (fun wz wz' hz hb => hz.trans (hb.mono hz.size)) ((Below.refl _ _).drew) (fun u => by simp only [puts, List.foldl_cons, List.foldl_nil]; go_simp; exact rfl) ?_ ?_
            · simp only [List.take_succ_cons, List.take_zero]
              refine Obs.cons (fun u w hS hd => ?_) ?_
              · exact Gv.run (.int .i64 0) rfl (by go_simp) rfl
              refine Obs.cons (fun u w hS hd => ?_) ?_
              · have d46 : u 46 = .int .i64 0 := dep hd 0 rfl
                rw [d46]
                exact Gv.run (.bool false) rfl (by go_simp) rfl
              refine Obs.cons (fun u w hS hd => ?_) ?_
              · have d47 : u 47 = .bool false := dep hd 1 rfl
                rw [d47]
                exact Gv.run (.bool false) rfl (by go_simp) rfl
              refine Obs.cons (fun u w hS hd => ?_) ?_
              · have d48 : u 48 = .bool false := dep hd 2 rfl
                rw [d48]
                exact Gv.run (.int .i64 (j : Int)) rfl (by go_simp) rfl
              refine Obs.cons (fun u w hS hd => ?_) ?_
              · have d48 : u 48 = .bool false := dep hd 2 rfl
                rw [d48]
                exact Gv.run (.int .i64 (j : Int)) rfl (by go_simp) rfl
              refine Obs.cons (fun u w hS hd => ?_) ?_
              · have d49 : u 49 = .int .i64 (j : Int) := dep hd 3 rfl
                have d50 : u 50 = .int .i64 (j : Int) := dep hd 4 rfl
                have d48 : u 48 = .bool false := dep hd 2 rfl
                rw [d49, d50, d48]
                exact Gv.run (.bool false) rfl (by go_simp) rfl
              refine Obs.cons (fun u w hS hd => ?_) ?_
              · have d48 : u 48 = .bool false := dep hd 2 rfl
                have d51 : u 51 = .bool false := dep hd 5 rfl
                rw [d48, d51]
                exact Gv.run (.bool false) rfl (by go_simp) rfl
              refine Obs.cons (fun u w hS hd => ?_) ?_
              · have d52 : u 52 = .bool false := dep hd 6 rfl
                rw [d52]
                exact Gv.run (.bool false) rfl (by go_simp) rfl
              refine Obs.cons (fun u w hS hd => ?_) ?_
              · have d53 : u 53 = .bool false := dep hd 7 rfl
                rw [d53]
                exact Gv.run (.int .i64 (j : Int)) rfl (by go_simp) rfl
              refine Obs.cons (fun u w hS hd => ?_) ?_
              · have d53 : u 53 = .bool false := dep hd 7 rfl
                rw [d53]
                exact Gv.run (.slice (some ⟨b1, o1, none⟩) N c1) rfl (by go_simp) rfl
              refine Obs.cons (fun u w hS hd => ?_) ?_
              · have d55 : u 55 = .slice (some ⟨b1, o1, none⟩) N c1 := dep hd 9 rfl
                have d53 : u 53 = .bool false := dep hd 7 rfl
                rw [d55, d53]
                exact Gv.run (.int .i64 (N : Int)) rfl (by go_simp) rfl
              refine Obs.cons (fun u w hS hd => ?_) ?_
              · have d54 : u 54 = .int .i64 (j : Int) := dep hd 8 rfl
                have d56 : u 56 = .int .i64 (N : Int) := dep hd 10 rfl
                have d53 : u 53 = .bool false := dep hd 7 rfl
                rw [d54, d56, d53]
                exact Gv.run (.bool false) rfl (by go_simp) rfl
              refine Obs.cons (fun u w hS hd => ?_) ?_
              · have d53 : u 53 = .bool false := dep hd 7 rfl
                have d57 : u 57 = .bool false := dep hd 11 rfl
                rw [d53, d57]
                exact Gv.run (.bool false) rfl (by go_simp) rfl
              refine Obs.cons (fun u w hS hd => ?_) ?_
              · have d58 : u 58 = .bool false := dep hd 12 rfl
                rw [d58]
                exact Gv.run (.bool false) rfl (by go_simp) rfl
              refine Obs.cons (fun u w hS hd => ?_) ?_
              · have d59 : u 59 = .bool false := dep hd 13 rfl
                rw [d59]
                exact Gv.run (.slice (some ⟨b1, o1, none⟩) N c1) rfl (by go_simp) rfl
              refine Obs.cons (fun u w hS hd => ?_) ?_
              · have d59 : u 59 = .bool false := dep hd 13 rfl
                rw [d59]
                exact Gv.run (.int .i64 (j : Int)) rfl (by go_simp) rfl
              refine Obs.cons (fun u w hS hd => ?_) ?_
              · have d60 : u 60 = .slice (some ⟨b1, o1, none⟩) N c1 := dep hd 14 rfl
                have d61 : u 61 = .int .i64 (j : Int) := dep hd 15 rfl
                have d59 : u 59 = .bool false := dep hd 13 rfl
                rw [d60, d61, d59]
                exact Gv.run (.pointer (some ⟨b1, o1 + j, none⟩)) rfl (by go_simp) rfl
              refine Obs.cons (fun u w hS hd => ?_) ?_
              · have d62 : u 62 = .pointer (some ⟨b1, o1 + j, none⟩) := dep hd 16 rfl
                have d59 : u 59 = .bool false := dep hd 13 rfl
                rw [d62, d59]
                exact Gv.run (.complex .f64 fx fy) rfl (by obtain ⟨k0, k1⟩ := HS.out w hS; go_simp) rfl
              refine Obs.cons (fun u w hS hd => ?_) ?_
              · have d59 : u 59 = .bool false := dep hd 13 rfl
                rw [d59]
                exact Gv.run (.slice (some ⟨b1, o1, none⟩) N c1) rfl (by go_simp) rfl
              refine Obs.cons (fun u w hS hd => ?_) ?_
              · have d59 : u 59 = .bool false := dep hd 13 rfl
                rw [d59]
                exact Gv.run (.int .i64 (j : Int)) rfl (by go_simp) rfl
              refine Obs.cons (fun u w hS hd => ?_) ?_
              · have d64 : u 64 = .slice (some ⟨b1, o1, none⟩) N c1 := dep hd 18 rfl
                have d65 : u 65 = .int .i64 (j : Int) := dep hd 19 rfl
                have d59 : u 59 = .bool false := dep hd 13 rfl
                rw [d64, d65, d59]
                exact Gv.run (.pointer (some ⟨b1, o1 + j, none⟩)) rfl (by go_simp) rfl
              refine Obs.cons (fun u w hS hd => ?_) ?_
              · have d66 : u 66 = .pointer (some ⟨b1, o1 + j, none⟩) := dep hd 20 rfl
                have d59 : u 59 = .bool false := dep hd 13 rfl
                rw [d66, d59]
                exact Gv.run (.complex .f64 fx fy) rfl (by obtain ⟨k0, k1⟩ := HS.out w hS; go_simp) rfl
              refine Obs.cons (fun u w hS hd => ?_) ?_
              · have d63 : u 63 = .complex .f64 fx fy := dep hd 17 rfl
                have d67 : u 67 = .complex .f64 fx fy := dep hd 21 rfl
                have d59 : u 59 = .bool false := dep hd 13 rfl
                rw [d63, d67, d59]
                exact Gv.run (.bool false) rfl (by go_simp) rfl
              refine Obs.cons (fun u w hS hd => ?_) ?_
              · have d59 : u 59 = .bool false := dep hd 13 rfl
                have d68 : u 68 = .bool false := dep hd 22 rfl
                rw [d59, d68]
                exact Gv.run (.bool false) rfl (by go_simp) rfl
              refine Obs.cons (fun u w hS hd => ?_) ?_
              · have d69 : u 69 = .bool false := dep hd 23 rfl
                rw [d69]
                exact Gv.run (.bool false) rfl (by go_simp) rfl
              refine Obs.cons (fun u w hS hd => ?_) ?_
              · have d70 : u 70 = .bool false := dep hd 24 rfl
                rw [d70]
                exact Gv.run (.int .i64 (j : Int)) rfl (by go_simp) rfl
              refine Obs.cons (fun u w hS hd => ?_) ?_
              · have d71 : u 71 = .int .i64 (j : Int) := dep hd 25 rfl
                have d70 : u 70 = .bool false := dep hd 24 rfl
                rw [d71, d70]
                exact Gv.run (.int .i64 (j1 : Int)) rfl (by go_simp) rfl
              refine Obs.cons (fun u w hS hd => ?_) ?_
              · have d70 : u 70 = .bool false := dep hd 24 rfl
                rw [d70]
                exact Gv.run (.slice (some ⟨b1, o1, none⟩) N c1) rfl (by go_simp) rfl
              refine Obs.cons (fun u w hS hd => ?_) ?_
              · have d73 : u 73 = .slice (some ⟨b1, o1, none⟩) N c1 := dep hd 27 rfl
                have d70 : u 70 = .bool false := dep hd 24 rfl
                rw [d73, d70]
                exact Gv.run (.int .i64 (N : Int)) rfl (by go_simp) rfl
              refine Obs.cons (fun u w hS hd => ?_) ?_
              · have d72 : u 72 = .int .i64 (j1 : Int) := dep hd 26 rfl
                have d74 : u 74 = .int .i64 (N : Int) := dep hd 28 rfl
                have d70 : u 70 = .bool false := dep hd 24 rfl
                rw [d72, d74, d70]
                exact Gv.run (.bool true) rfl (by go_simp) rfl
              refine Obs.cons (fun u w hS hd => ?_) ?_
              · have d75 : u 75 = .bool true := dep hd 29 rfl
                have d70 : u 70 = .bool false := dep hd 24 rfl
                rw [d75, d70]
                exact Gv.run (.bool true) rfl (by go_simp) rfl
              refine Obs.cons (fun u w hS hd => ?_) ?_
              · have d76 : u 76 = .bool true := dep hd 30 rfl
                rw [d76]
                exact Gv.run (.slice (some ⟨b1, o1, none⟩) N c1) rfl (by go_simp) rfl
              refine Obs.cons (fun u w hS hd => ?_) ?_
              · have d76 : u 76 = .bool true := dep hd 30 rfl
                rw [d76]
                exact Gv.run (.int .i64 (j : Int)) rfl (by go_simp) rfl
              refine Obs.cons (fun u w hS hd => ?_) ?_
              · have d78 : u 78 = .int .i64 (j : Int) := dep hd 32 rfl
                have d76 : u 76 = .bool true := dep hd 30 rfl
                rw [d78, d76]
                exact Gv.run (.int .i64 (j1 : Int)) rfl (by go_simp) rfl
              refine Obs.cons (fun u w hS hd => ?_) ?_
              · have d77 : u 77 = .slice (some ⟨b1, o1, none⟩) N c1 := dep hd 31 rfl
                have d79 : u 79 = .int .i64 (j1 : Int) := dep hd 33 rfl
                have d76 : u 76 = .bool true := dep hd 30 rfl
                rw [d77, d79, d76]
                exact Gv.run (.pointer (some ⟨b1, o1 + j1, none⟩)) rfl (by go_simp) rfl
              refine Obs.cons (fun u w hS hd => ?_) ?_
              · have d80 : u 80 = .pointer (some ⟨b1, o1 + j1, none⟩) := dep hd 34 rfl
                have d76 : u 76 = .bool true := dep hd 30 rfl
                rw [d80, d76]
                exact Gv.run (.complex .f64 gx gy) rfl (by obtain ⟨k0, k1⟩ := HS.out w hS; go_simp) rfl
              refine Obs.cons (fun u w hS hd => ?_) ?_
              · have d76 : u 76 = .bool true := dep hd 30 rfl
                rw [d76]
                exact Gv.run (.slice (some ⟨b1, o1, none⟩) N c1) rfl (by go_simp) rfl
              refine Obs.cons (fun u w hS hd => ?_) ?_
              · have d76 : u 76 = .bool true := dep hd 30 rfl
                rw [d76]
                exact Gv.run (.int .i64 (j : Int)) rfl (by go_simp) rfl
              refine Obs.cons (fun u w hS hd => ?_) ?_
              · have d82 : u 82 = .slice (some ⟨b1, o1, none⟩) N c1 := dep hd 36 rfl
                have d83 : u 83 = .int .i64 (j : Int) := dep hd 37 rfl
                have d76 : u 76 = .bool true := dep hd 30 rfl
                rw [d82, d83, d76]
                exact Gv.run (.pointer (some ⟨b1, o1 + j, none⟩)) rfl (by go_simp) rfl
              refine Obs.cons (fun u w hS hd => ?_) ?_
              · have d84 : u 84 = .pointer (some ⟨b1, o1 + j, none⟩) := dep hd 38 rfl
                have d76 : u 76 = .bool true := dep hd 30 rfl
                rw [d84, d76]
                exact Gv.run (.complex .f64 fx fy) rfl (by obtain ⟨k0, k1⟩ := HS.out w hS; go_simp) rfl
              refine Obs.cons (fun u w hS hd => ?_) ?_
              · have d81 : u 81 = .complex .f64 gx gy := dep hd 35 rfl
                have d85 : u 85 = .complex .f64 fx fy := dep hd 39 rfl
                have d76 : u 76 = .bool true := dep hd 30 rfl
                rw [d81, d85, d76]
                exact Gv.run (.bool false) rfl (by go_simp) rfl
              refine Obs.cons (fun u w hS hd => ?_) ?_
              · have d76 : u 76 = .bool true := dep hd 30 rfl
                have d86 : u 86 = .bool false := dep hd 40 rfl
                have d70 : u 70 = .bool false := dep hd 24 rfl
                rw [d76, d86, d70]
                exact Gv.run (.bool false) rfl (by go_simp) rfl
              exact Obs.nil
            intro u v3 hS hd
            have d70 : u 70 = .bool false := hd 24 (by decide)
            have d87 : u 87 = .bool false := hd 41 (by decide)
            rw [d70, d87]
            simp only [List.drop_succ_cons, List.drop_zero]
            have H3 := Lib.hid hS
            clear hS hd d70 d87
            go_wp2_with (go_at_call 17; refine (HMV.out v3).mono ?_; rintro z v4 ⟨rfl, hb4⟩; have H4 := Lib.hid hb4; clear hb4)
            go_roundg (N - (j + 1))
            case measure => have := HK.out.1; omega
            case rel =>
              have h4 := HK.out.2.trans (H2.out.mono HK.out.2.size)
              have h5 := h4.trans (H3.out.mono h4.size)
              exact ⟨j + 1, rfl, by go_num, by omega, h5.trans (H4.out.mono h5.size)⟩
          · have hn' : N ≤ j1 := by omega
            have HS0 := Lib.hid h0
            clear hst hfx hr1 hl1 k1 g0 ha hmv efx efy hbr hjM ej1 hm hn
            go_upto_region 8 with (go_at_call 16; refine (HAT.out wr).mono ?_; rintro z v2 ⟨rfl, hb2⟩; have H2 := Lib.hid hb2; clear hb2)
            have HS := Lib.hid (fun wz (hz : Below v2.heap.size v2 wz) => show wz.cell? ⟨b1, o1 + j, none⟩ = some (.complex .f64 fx fy) from
              (hz.cell (p := ⟨b1, o1 + j, none⟩) (Nat.lt_of_lt_of_le HB1.out H2.out.size)).trans ((H2.out.cell (p := ⟨b1, o1 + j, none⟩) HB1.out).trans HS0.out))
            clear h0
            refine wp_region_inv 42 [46, 47, 48, 49, 50, 51, 52, 53, 54, 55, 56, 57, 58, 59, 60, 61, 62, 63, 64, 65, 66, 67, 68, 69, 70, 71, 72, 73, 74, 75, 76, 77, 78, 79, 80, 81, 82, 83, 84, 85, 86, 87] [.val (.int .i64 0), .val (.bool false), .val (.bool false), .val (.int .i64 (j : Int)), .val (.int .i64 (j : Int)), .val (.bool false), .val (.bool false), .val (.bool false), .val (.int .i64 (j : Int)), .val (.slice (some ⟨b1, o1, none⟩) N c1), .val (.int .i64 (N : Int)), .val (.bool false), .val (.bool false), .val (.bool false), .val (.slice (some ⟨b1, o1, none⟩) N c1), .val (.int .i64 (j : Int)), .val (.pointer (some ⟨b1, o1 + j, none⟩)), .val (.complex .f64 fx fy), .val (.slice (some ⟨b1, o1, none⟩) N c1), .val (.int .i64 (j : Int)), .val (.pointer (some ⟨b1, o1 + j, none⟩)), .val (.complex .f64 fx fy), .val (.bool false), .val (.bool false), .val (.bool false), .val (.int .i64 (j : Int)), .val (.int .i64 (j1 : Int)), .val (.slice (some ⟨b1, o1, none⟩) N c1), .val (.int .i64 (N : Int)), .val (.bool false), .val (.bool false), .val undef, .val undef, .val undef, .val undef, .val undef, .val undef, .val undef, .val undef, .val undef, .val undef, .val (.bool false)] (fun wz => Below v2.heap.size v2 wz) (by kernel_rfl) (by kernel_rfl) (fun wz wz' hz hb => hz.trans (hb.mono hz.size)) ((Below.refl _ _).drew) (fun u => by simp only [puts, List.foldl_cons, List.foldl_nil]; go_simp; exact rfl) ?_ ?_
            · simp only [List.take_succ_cons, List.take_zero]
              refine Obs.cons (fun u w hS hd => ?_) ?_
              · exact Gv.run (.int .i64 0) rfl (by go_simp) rfl
              refine Obs.cons (fun u w hS hd => ?_) ?_
              · have d46 : u 46 = .int .i64 0 := dep hd 0 rfl
                rw [d46]
                exact Gv.run (.bool false) rfl (by go_simp) rfl
              refine Obs.cons (fun u w hS hd => ?_) ?_
              · have d47 : u 47 = .bool false := dep hd 1 rfl
                rw [d47]
                exact Gv.run (.bool false) rfl (by go_simp) rfl
              refine Obs.cons (fun u w hS hd => ?_) ?_
              · have d48 : u 48 = .bool false := dep hd 2 rfl
                rw [d48]
                exact Gv.run (.int .i64 (j : Int)) rfl (by go_simp) rfl
              refine Obs.cons (fun u w hS hd => ?_) ?_
              · have d48 : u 48 = .bool false := dep hd 2 rfl
                rw [d48]
                exact Gv.run (.int .i64 (j : Int)) rfl (by go_simp) rfl
              refine Obs.cons (fun u w hS hd => ?_) ?_
              · have d49 : u 49 = .int .i64 (j : Int) := dep hd 3 rfl
                have d50 : u 50 = .int .i64 (j : Int) := dep hd 4 rfl
                have d48 : u 48 = .bool false := dep hd 2 rfl
                rw [d49, d50, d48]
                exact Gv.run (.bool false) rfl (by go_simp) rfl
              refine Obs.cons (fun u w hS hd => ?_) ?_
              · have d48 : u 48 = .bool false := dep hd 2 rfl
                have d51 : u 51 = .bool false := dep hd 5 rfl
                rw [d48, d51]
                exact Gv.run (.bool false) rfl (by go_simp) rfl
              refine Obs.cons (fun u w hS hd => ?_) ?_
              · have d52 : u 52 = .bool false := dep hd 6 rfl
                rw [d52]
                exact Gv.run (.bool false) rfl (by go_simp) rfl
              refine Obs.cons (fun u w hS hd => ?_) ?_
              · have d53 : u 53 = .bool false := dep hd 7 rfl
                rw [d53]
                exact Gv.run (.int .i64 (j : Int)) rfl (by go_simp) rfl
              refine Obs.cons (fun u w hS hd => ?_) ?_
              · have d53 : u 53 = .bool false := dep hd 7 rfl
                rw [d53]
                exact Gv.run (.slice (some ⟨b1, o1, none⟩) N c1) rfl (by go_simp) rfl
              refine Obs.cons (fun u w hS hd => ?_) ?_
              · have d55 : u 55 = .slice (some ⟨b1, o1, none⟩) N c1 := dep hd 9 rfl
                have d53 : u 53 = .bool false := dep hd 7 rfl
                rw [d55, d53]
                exact Gv.run (.int .i64 (N : Int)) rfl (by go_simp) rfl
              refine Obs.cons (fun u w hS hd => ?_) ?_
              · have d54 : u 54 = .int .i64 (j : Int) := dep hd 8 rfl
                have d56 : u 56 = .int .i64 (N : Int) := dep hd 10 rfl
                have d53 : u 53 = .bool false := dep hd 7 rfl
                rw [d54, d56, d53]
                exact Gv.run (.bool false) rfl (by go_simp) rfl
              refine Obs.cons (fun u w hS hd => ?_) ?_
              · have d53 : u 53 = .bool false := dep hd 7 rfl
                have d57 : u 57 = .bool false := dep hd 11 rfl
                rw [d53, d57]
                exact Gv.run (.bool false) rfl (by go_simp) rfl
              refine Obs.cons (fun u w hS hd => ?_) ?_
              · have d58 : u 58 = .bool false := dep hd 12 rfl
                rw [d58]
                exact Gv.run (.bool false) rfl (by go_simp) rfl
              refine Obs.cons (fun u w hS hd => ?_) ?_
              · have d59 : u 59 = .bool false := dep hd 13 rfl
                rw [d59]
                exact Gv.run (.slice (some ⟨b1, o1, none⟩) N c1) rfl (by go_simp) rfl
              refine Obs.cons (fun u w hS hd => ?_) ?_
              · have d59 : u 59 = .bool false := dep hd 13 rfl
                rw [d59]
                exact Gv.run (.int .i64 (j : Int)) rfl (by go_simp) rfl
              refine Obs.cons (fun u w hS hd => ?_) ?_
              · have d60 : u 60 = .slice (some ⟨b1, o1, none⟩) N c1 := dep hd 14 rfl
                have d61 : u 61 = .int .i64 (j : Int) := dep hd 15 rfl
                have d59 : u 59 = .bool false := dep hd 13 rfl
                rw [d60, d61, d59]
                exact Gv.run (.pointer (some ⟨b1, o1 + j, none⟩)) rfl (by go_simp) rfl
              refine Obs.cons (fun u w hS hd => ?_) ?_
              · have d62 : u 62 = .pointer (some ⟨b1, o1 + j, none⟩) := dep hd 16 rfl
                have d59 : u 59 = .bool false := dep hd 13 rfl
                rw [d62, d59]
                exact Gv.run (.complex .f64 fx fy) rfl (by have k0 := HS.out w hS; go_simp) rfl
              refine Obs.cons (fun u w hS hd => ?_) ?_
              · have d59 : u 59 = .bool false := dep hd 13 rfl
                rw [d59]
                exact Gv.run (.slice (some ⟨b1, o1, none⟩) N c1) rfl (by go_simp) rfl
              refine Obs.cons (fun u w hS hd => ?_) ?_
              · have d59 : u 59 = .bool false := dep hd 13 rfl
                rw [d59]
                exact Gv.run (.int .i64 (j : Int)) rfl (by go_simp) rfl
              refine Obs.cons (fun u w hS hd => ?_) ?_
              · have d64 : u 64 = .slice (some ⟨b1, o1, none⟩) N c1 := dep hd 18 rfl
                have d65 : u 65 = .int .i64 (j : Int) := dep hd 19 rfl
                have d59 : u 59 = .bool false := dep hd 13 rfl
                rw [d64, d65, d59]
                exact Gv.run (.pointer (some ⟨b1, o1 + j, none⟩)) rfl (by go_simp) rfl
              refine Obs.cons (fun u w hS hd => ?_) ?_
              · have d66 : u 66 = .pointer (some ⟨b1, o1 + j, none⟩) := dep hd 20 rfl
                have d59 : u 59 = .bool false := dep hd 13 rfl
                rw [d66, d59]
                exact Gv.run (.complex .f64 fx fy) rfl (by have k0 := HS.out w hS; go_simp) rfl
              refine Obs.cons (fun u w hS hd => ?_) ?_
              · have d63 : u 63 = .complex .f64 fx fy := dep hd 17 rfl
                have d67 : u 67 = .complex .f64 fx fy := dep hd 21 rfl
                have d59 : u 59 = .bool false := dep hd 13 rfl
                rw [d63, d67, d59]
                exact Gv.run (.bool false) rfl (by go_simp) rfl
              refine Obs.cons (fun u w hS hd => ?_) ?_
              · have d59 : u 59 = .bool false := dep hd 13 rfl
                have d68 : u 68 = .bool false := dep hd 22 rfl
                rw [d59, d68]
                exact Gv.run (.bool false) rfl (by go_simp) rfl
              refine Obs.cons (fun u w hS hd => ?_) ?_
              · have d69 : u 69 = .bool false := dep hd 23 rfl
                rw [d69]
                exact Gv.run (.bool false) rfl (by go_simp) rfl
              refine Obs.cons (fun u w hS hd => ?_) ?_
              · have d70 : u 70 = .bool false := dep hd 24 rfl
                rw [d70]
                exact Gv.run (.int .i64 (j : Int)) rfl (by go_simp) rfl
              refine Obs.cons (fun u w hS hd => ?_) ?_
              · have d71 : u 71 = .int .i64 (j : Int) := dep hd 25 rfl
                have d70 : u 70 = .bool false := dep hd 24 rfl
                rw [d71, d70]
                exact Gv.run (.int .i64 (j1 : Int)) rfl (by go_simp) rfl
              refine Obs.cons (fun u w hS hd => ?_) ?_
              · have d70 : u 70 = .bool false := dep hd 24 rfl
                rw [d70]
                exact Gv.run (.slice (some ⟨b1, o1, none⟩) N c1) rfl (by go_simp) rfl
              refine Obs.cons (fun u w hS hd => ?_) ?_
              · have d73 : u 73 = .slice (some ⟨b1, o1, none⟩) N c1 := dep hd 27 rfl
                have d70 : u 70 = .bool false := dep hd 24 rfl
                rw [d73, d70]
                exact Gv.run (.int .i64 (N : Int)) rfl (by go_simp) rfl
              refine Obs.cons (fun u w hS hd => ?_) ?_
              · have d72 : u 72 = .int .i64 (j1 : Int) := dep hd 26 rfl
                have d74 : u 74 = .int .i64 (N : Int) := dep hd 28 rfl
                have d70 : u 70 = .bool false := dep hd 24 rfl
                rw [d72, d74, d70]
                exact Gv.run (.bool false) rfl (by go_simp) rfl
              refine Obs.cons (fun u w hS hd => ?_) ?_
              · have d75 : u 75 = .bool false := dep hd 29 rfl
                have d70 : u 70 = .bool false := dep hd 24 rfl
                rw [d75, d70]
                exact Gv.run (.bool false) rfl (by go_simp) rfl
              refine Obs.cons (fun u w hS hd => ?_) ?_
              · have d76 : u 76 = .bool false := dep hd 30 rfl
                rw [d76]
                exact Gv.skip (by rfl) rfl
              refine Obs.cons (fun u w hS hd => ?_) ?_
              · have d76 : u 76 = .bool false := dep hd 30 rfl
                rw [d76]
                exact Gv.skip (by rfl) rfl
              refine Obs.cons (fun u w hS hd => ?_) ?_
              · have d78 : u 78 = undef := dep hd 32 rfl
                have d76 : u 76 = .bool false := dep hd 30 rfl
                rw [d78, d76]
                exact Gv.skip (by rfl) rfl
              refine Obs.cons (fun u w hS hd => ?_) ?_
              · have d77 : u 77 = undef := dep hd 31 rfl
                have d79 : u 79 = undef := dep hd 33 rfl
                have d76 : u 76 = .bool false := dep hd 30 rfl
                rw [d77, d79, d76]
                exact Gv.skip (by rfl) rfl
              refine Obs.cons (fun u w hS hd => ?_) ?_
              · have d80 : u 80 = undef := dep hd 34 rfl
                have d76 : u 76 = .bool false := dep hd 30 rfl
                rw [d80, d76]
                exact Gv.skip (by rfl) rfl
              refine Obs.cons (fun u w hS hd => ?_) ?_
              · have d76 : u 76 = .bool false := dep hd 30 rfl
                rw [d76]
                exact Gv.skip (by rfl) rfl
              refine Obs.cons (fun u w hS hd => ?_) ?_
              · have d76 : u 76 = .bool false := dep hd 30 rfl
                rw [d76]
                exact Gv.skip (by rfl) rfl
              refine Obs.cons (fun u w hS hd => ?_) ?_
              · have d82 : u 82 = undef := dep hd 36 rfl
                have d83 : u 83 = undef := dep hd 37 rfl
                have d76 : u 76 = .bool false := dep hd 30 rfl
                rw [d82, d83, d76]
                exact Gv.skip (by rfl) rfl
              refine Obs.cons (fun u w hS hd => ?_) ?_
              · have d84 : u 84 = undef := dep hd 38 rfl
                have d76 : u 76 = .bool false := dep hd 30 rfl
                rw [d84, d76]
                exact Gv.skip (by rfl) rfl
              refine Obs.cons (fun u w hS hd => ?_) ?_
              · have d81 : u 81 = undef := dep hd 35 rfl
                have d85 : u 85 = undef := dep hd 39 rfl
                have d76 : u 76 = .bool false := dep hd 30 rfl
                rw [d81, d85, d76]
                exact Gv.skip (by rfl) rfl
              refine Obs.cons (fun u w hS hd => ?_) ?_
              · have d76 : u 76 = .bool false := dep hd 30 rfl
                have d86 : u 86 = undef := dep hd 40 rfl
                have d70 : u 70 = .bool false := dep hd 24 rfl
                rw [d76, d86, d70]
                exact Gv.run (.bool false) rfl (by go_simp) rfl
              exact Obs.nil
            intro u v3 hS hd
            have d70 : u 70 = .bool false := hd 24 (by decide)
            have d87 : u 87 = .bool false := hd 41 (by decide)
            rw [d70, d87]
            simp only [List.drop_succ_cons, List.drop_zero]
            have H3 := Lib.hid hS
            clear hS hd d70 d87
            go_wp2_with (go_at_call 17; refine (HMV.out v3).mono ?_; rintro z v4 ⟨rfl, hb4⟩; have H4 := Lib.hid hb4; clear hb4)
            go_roundg (N - (j + 1))
            case measure => have := HK.out.1; omega
            case rel =>
              have h4 := HK.out.2.trans (H2.out.mono HK.out.2.size)
              have h5 := h4.trans (H3.out.mono h4.size)
              exact ⟨j + 1, rfl, by go_num, by omega, h5.trans (H4.out.mono h5.size)⟩
        · have HK := Lib.hid hbr
          clear hbr hm
          go_wp2_with (go_at_call 11; refine (awake17 wr).mono ?_; rintro z wz ⟨rfl, hwz⟩; have HW := Lib.hid hwz; clear hwz)
          go_ret
          exact ⟨rfl, (HB.out.trans (HK.out.mono HB.out.size)).trans (HW.out.mono (Nat.le_trans HB.out.size HK.out.size))⟩
  · have HP := Lib.hid (fun w => places_bad (s := s) (k := c) hc w)
    clear hc hs
    go_enter Try.func6, Try.ntmps6
    go_wp2_with (first | (go_at_call 8; refine (HP.out w).mono ?_; rintro z wz ⟨rfl, hwz⟩; rw [hwz]; clear hwz wz) | (go_at_call 11; refine (awake17 _).mono ?_; rintro z wz ⟨rfl, hwz⟩; have HW := Lib.hid hwz; clear hwz))
    go_ret
    exact ⟨by first | rfl | simp, HW.out⟩
end Go.Proofs.Ytejfdheiopejeaa
