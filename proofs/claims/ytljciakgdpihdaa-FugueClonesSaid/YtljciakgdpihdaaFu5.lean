/-
  Layer 15, the landed code: hang. By an AI agent.
-/
import Derived.Test.YtljciakgdpihdaaFu4
import Derived.Deep.LoopGhost
namespace Go.Proofs.Ytljciakgdpihdaa
open Go Go.RowKit
set_option maxRecDepth 20000
/-- The cell that leads to what stands behind the first so many of those that hang below one on a side. -/
def placeOf (ad : IDt → Nat) (bp : Nat) (s : Bool) (A : List Ins) : Addr := match A.getLast? with
  | none => ⟨bp, if s then 8 else 7, none⟩
  | some y => ⟨ad y.id, 6, none⟩
/-- An element at be is to be hung below the one at bp, among these. -/
structure Hangs (w : World) (ad : IDt → Nat) (be bp : Nat) (x : Ins) (ls : List Ins) : Prop where
  e : ∃ r g nx lf rg, w.heap[be]? = some (elC x.id r g (pB bp) x.right nx lf rg)
  p : ∃ i r g pa rt nx lf rg, w.heap[bp]? = some (elC i r g pa rt nx lf rg) ∧ (if x.right then rg else lf) = ptO ad ls.head?
  k : ∀ y ∈ ls, ∃ r g pa rt lf rg, w.heap[ad y.id]? = some (elC y.id r g pa rt (ptO ad (nextIn ls y.id)) lf rg)
  d : Sorted ls
  n1 : bp ≠ be
  n2 : ∀ y ∈ ls, ad y.id ≠ be
theorem Hangs.keep {w w' : World} {ad : IDt → Nat} {be bp : Nat} {x : Ins} {ls : List Ins} (h : Hangs w ad be bp x ls) (hb : Below w.heap.size w w') : Hangs w' ad be bp x ls := by
  obtain ⟨⟨r, g, nx, lf, rg, e⟩, ⟨i, r2, g2, pa2, rt2, nx2, lf2, rg2, p, hp⟩, k, d, n1, n2⟩ := h
  refine ⟨⟨r, g, nx, lf, rg, (hb.block _ (lt_of_heap e)).trans e⟩, ⟨i, r2, g2, pa2, rt2, nx2, lf2, rg2, (hb.block _ (lt_of_heap p)).trans p, hp⟩, fun y hy => ?_, d, n1, n2⟩
  obtain ⟨r, g, pa, rt, lf, rg, hk⟩ := k y hy
  exact ⟨r, g, pa, rt, lf, rg, (hb.block _ (lt_of_heap hk)).trans hk⟩
theorem Hangs.place {w : World} {ad : IDt → Nat} {be bp : Nat} {x : Ins} {ls A B : List Ins} (h : Hangs w ad be bp x ls) (hl : ls = A ++ B) :
    w.cell? (placeOf ad bp x.right A) = some (ptO ad B.head?) ∧ w.frozen? (placeOf ad bp x.right A) = false ∧ (placeOf ad bp x.right A).block < w.heap.size ∧ (placeOf ad bp x.right A).spot = none ∧ (placeOf ad bp x.right A).block ≠ be := by
  obtain ⟨_, ⟨i, r2, g2, pa2, rt2, nx2, lf2, rg2, p, hp⟩, k, d, n1, n2⟩ := h
  cases hA : A.getLast? with
  | none =>
    have eA : A = [] := by simpa using hA
    subst eA
    rw [hl, List.nil_append] at hp
    obtain ⟨_, _, _, _, _, _, _, c7, c8⟩ := el_cells p
    rw [← hp]
    unfold placeOf
    rw [hA]
    refine ⟨?_, cells_free p _, lt_of_heap p, rfl, n1⟩
    cases x.right
    · exact c7
    · exact c8
  | some y =>
    obtain ⟨A', rfl⟩ : ∃ A', A = A' ++ [y] := List.getLast?_eq_some_iff.1 hA
    have hy : y ∈ ls := by rw [hl]; simp
    have hl2 : ls = A' ++ y :: B := by rw [hl]; simp
    obtain ⟨r, g, pa, rt, lf, rg, hk⟩ := k y hy
    have hd := sorted_distinct d
    rw [hl2] at hd
    have hn : nextIn ls y.id = B.head? := by rw [hl2]; exact nextIn_at (distinct_mid hd).1
    rw [hn] at hk
    obtain ⟨_, _, _, _, _, _, c6, _⟩ := el_cells hk
    unfold placeOf
    rw [hA]
    exact ⟨c6, cells_free hk _, lt_of_heap hk, rfl, n2 y hy⟩
theorem placeOf_snoc (ad : IDt → Nat) (bp : Nat) (s : Bool) (A : List Ins) (z : Ins) : placeOf ad bp s (A ++ [z]) = ⟨ad z.id, 6, none⟩ := by
  unfold placeOf
  rw [List.getLast?_concat]
set_option maxHeartbeats 3200000 in
theorem hang_any {w : World} {ad : IDt → Nat} {be bp : Nat} {x : Ins} {ls : List Ins} (h : Hangs w ad be bp x ls) :
    Calls Try.prog 46 #[pB be] w fun e w' => (∃ v, e = .returned v) ∧ ∃ A B w1, ls = A ++ B ∧ (∀ y ∈ A, idLt y.id x.id = true) ∧ (∀ y ∈ B, idLt y.id x.id = false) ∧ Below w.heap.size w w1 ∧
      w' = (w1.setCell ⟨be, 6, none⟩ (ptO ad B.head?)).setCell (placeOf ad bp x.right A) (pB be) := by
  obtain ⟨re, ge, nxe, lfe, rge, he⟩ := h.e
  obtain ⟨e0, e1, _, _, e4, e5, e6, _⟩ := el_cells he
  have f6 := cells_free he 6
  have hlt := lt_of_heap he
  have HH := Lib.hid h
  have HE := Lib.hid (And.intro e0 (And.intro e1 (And.intro f6 hlt)))
  have HE6 := Lib.hid e6
  clear h he e0 e1 f6 hlt e6
  obtain ⟨rt, ert⟩ : ∃ r, r = x.right := ⟨_, rfl⟩
  rw [← ert] at e5
  have HR := Lib.hid ert
  clear ert
  go_enter Try.func46, Try.ntmps46
  have HP := Lib.hid (show placeOf ad bp x.right [] = ⟨bp, if rt then 8 else 7, none⟩ by rw [HR.out]; rfl)
  cases rt
  all_goals
    go_wp2_with fail
    clear e4 e5
    go_loopg [2] (ls.length) (fun k p wr => ∃ A B, ls = A ++ B ∧ B.length = k ∧ (∀ y ∈ A, idLt y.id x.id = true) ∧ p = .pointer (some (placeOf ad bp x.right A)) ∧ Below w.heap.size w wr)
    case atStart => exact ⟨[], ls, rfl, rfl, fun y hy => (nomatch hy), by rw [HP.out]; rfl, Below.refl _ _⟩
    case round =>
      obtain ⟨A, B, hAB, hk, hA, rfl, hbr⟩ := hrel
      obtain ⟨c1, c2, c3, c4, c5⟩ := (HH.out.keep hbr).place hAB
      obtain ⟨pl, epl⟩ : ∃ q, q = placeOf ad bp x.right A := ⟨_, rfl⟩
      rw [← epl] at c1 c2 c3 c4 c5 ⊢
      obtain ⟨pb, po, sp⟩ := pl
      replace c4 : sp = none := c4
      subst c4
      replace c3 : pb < wr.heap.size := c3
      replace c5 : pb ≠ be := c5
      have HN := Lib.hid c5
      clear c5
      have hle : be < wr.heap.size := Nat.lt_of_lt_of_le HE.out.2.2.2 hbr.size
      have x0 := (hbr.cell (p := ⟨be, 0, none⟩) HE.out.2.2.2).trans HE.out.1
      have x1 := (hbr.cell (p := ⟨be, 1, none⟩) HE.out.2.2.2).trans HE.out.2.1
      obtain ⟨x1', ex1⟩ : ∃ q, q = x.id.1 := ⟨_, rfl⟩
      obtain ⟨x2', ex2⟩ : ∃ q, q = x.id.2 := ⟨_, rfl⟩
      rw [← ex1] at x0
      rw [← ex2] at x1
      have HX := Lib.hid (And.intro ex1 ex2)
      have HA := Lib.hid (And.intro hAB (And.intro hA (And.intro epl (And.intro hk hbr))))
      clear hAB hA epl hk ex1 ex2
      cases B with
      | nil =>
        replace c1 : wr.cell? ⟨pb, po, none⟩ = some (.pointer none) := c1
        have HS := Lib.hid (fun wz (hz : Below wr.heap.size wr wz) => show wz.cell? ⟨pb, po, none⟩ = some (.pointer none) ∧ wz.cell? ⟨be, 0, none⟩ = some (.int .i64 x1') ∧ wz.cell? ⟨be, 1, none⟩ = some (.int .i64 x2') ∧ True ∧ True from
          ⟨(hz.cell (p := ⟨pb, po, none⟩) c3).trans c1, (hz.cell (p := ⟨be, 0, none⟩) hle).trans x0, (hz.cell (p := ⟨be, 1, none⟩) hle).trans x1, trivial, trivial⟩)
        have HF := Lib.hid (fun wz (hz : Below wr.heap.size wr wz) => show wz.frozen? ⟨pb, po, none⟩ = false from (hz.frozen (p := ⟨pb, po, none⟩) c3).trans c2)
        clear c1 x0 x1 hbr c2
        go_upto_region 3 with fail
        refine wp_region_inv 18 [19, 20, 21, 22, 23, 24, 25, 26, 27, 28, 29, 30, 31, 32, 33, 34, 35, 36] [.val (.pointer (some ⟨pb, po, none⟩)), .val (.pointer (some ⟨pb, po, none⟩)), .val (.pointer none), .val (.bool false), .val (.bool false), .val undef, .val undef, .val undef, .val undef, .val undef, .val undef, .val undef, .val undef, .val undef, .val undef, .val undef, .val undef, .val undef] (fun wz => Below wr.heap.size wr wz) (by kernel_rfl) (by kernel_rfl) (fun wz wz' hz hb => hz.trans (hb.mono hz.size)) ((Below.refl _ _).drew) (fun u => by simp only [puts, List.foldl_cons, List.foldl_nil]; go_simp; exact rfl) ?_ ?_
        · simp only [List.take_succ_cons, List.take_zero]
          refine Obs.cons (fun u w hS hd => ?_) ?_
          · exact Gv.run (.pointer (some ⟨pb, po, none⟩)) rfl (by go_simp) rfl
          refine Obs.cons (fun u w hS hd => ?_) ?_
          · have d19 : u 19 = .pointer (some ⟨pb, po, none⟩) := dep hd 0 rfl
            rw [d19]
            exact Gv.run (.pointer (some ⟨pb, po, none⟩)) rfl (by go_simp) rfl
          refine Obs.cons (fun u w hS hd => ?_) ?_
          · have d20 : u 20 = .pointer (some ⟨pb, po, none⟩) := dep hd 1 rfl
            rw [d20]
            exact Gv.run (.pointer none) rfl (by obtain ⟨k0, k1, k2, k3, k4⟩ := HS.out w hS; go_simp) rfl
          refine Obs.cons (fun u w hS hd => ?_) ?_
          · have d21 : u 21 = .pointer none := dep hd 2 rfl
            rw [d21]
            exact Gv.run (.bool false) rfl (by go_simp) rfl
          refine Obs.cons (fun u w hS hd => ?_) ?_
          · have d22 : u 22 = .bool false := dep hd 3 rfl
            rw [d22]
            exact Gv.run (.bool false) rfl (by go_simp) rfl
          refine Obs.cons (fun u w hS hd => ?_) ?_
          · have d23 : u 23 = .bool false := dep hd 4 rfl
            rw [d23]
            exact Gv.skip (by rfl) rfl
          refine Obs.cons (fun u w hS hd => ?_) ?_
          · have d24 : u 24 = undef := dep hd 5 rfl
            have d23 : u 23 = .bool false := dep hd 4 rfl
            rw [d24, d23]
            exact Gv.skip (by rfl) rfl
          refine Obs.cons (fun u w hS hd => ?_) ?_
          · have d25 : u 25 = undef := dep hd 6 rfl
            have d23 : u 23 = .bool false := dep hd 4 rfl
            rw [d25, d23]
            exact Gv.skip (by rfl) rfl
          refine Obs.cons (fun u w hS hd => ?_) ?_
          · have d26 : u 26 = undef := dep hd 7 rfl
            have d23 : u 23 = .bool false := dep hd 4 rfl
            rw [d26, d23]
            exact Gv.skip (by rfl) rfl
          refine Obs.cons (fun u w hS hd => ?_) ?_
          · have d27 : u 27 = undef := dep hd 8 rfl
            have d23 : u 23 = .bool false := dep hd 4 rfl
            rw [d27, d23]
            exact Gv.skip (by rfl) rfl
          refine Obs.cons (fun u w hS hd => ?_) ?_
          · have d28 : u 28 = undef := dep hd 9 rfl
            have d23 : u 23 = .bool false := dep hd 4 rfl
            rw [d28, d23]
            exact Gv.skip (by rfl) rfl
          refine Obs.cons (fun u w hS hd => ?_) ?_
          · have d29 : u 29 = undef := dep hd 10 rfl
            have d23 : u 23 = .bool false := dep hd 4 rfl
            rw [d29, d23]
            exact Gv.skip (by rfl) rfl
          refine Obs.cons (fun u w hS hd => ?_) ?_
          · have d23 : u 23 = .bool false := dep hd 4 rfl
            rw [d23]
            exact Gv.skip (by rfl) rfl
          refine Obs.cons (fun u w hS hd => ?_) ?_
          · have d31 : u 31 = undef := dep hd 12 rfl
            have d23 : u 23 = .bool false := dep hd 4 rfl
            rw [d31, d23]
            exact Gv.skip (by rfl) rfl
          refine Obs.cons (fun u w hS hd => ?_) ?_
          · have d32 : u 32 = undef := dep hd 13 rfl
            have d23 : u 23 = .bool false := dep hd 4 rfl
            rw [d32, d23]
            exact Gv.skip (by rfl) rfl
          refine Obs.cons (fun u w hS hd => ?_) ?_
          · have d33 : u 33 = undef := dep hd 14 rfl
            have d23 : u 23 = .bool false := dep hd 4 rfl
            rw [d33, d23]
            exact Gv.skip (by rfl) rfl
          refine Obs.cons (fun u w hS hd => ?_) ?_
          · have d34 : u 34 = undef := dep hd 15 rfl
            have d23 : u 23 = .bool false := dep hd 4 rfl
            rw [d34, d23]
            exact Gv.skip (by rfl) rfl
          refine Obs.cons (fun u w hS hd => ?_) ?_
          · have d30 : u 30 = undef := dep hd 11 rfl
            have d35 : u 35 = undef := dep hd 16 rfl
            have d23 : u 23 = .bool false := dep hd 4 rfl
            rw [d30, d35, d23]
            exact Gv.skip (by rfl) rfl
          exact Obs.nil
        intro u v3 hS hd
        have d23 : u 23 = .bool false := hd 4 (by decide)
        have d36 : u 36 = undef := hd 17 (by decide)
        rw [d23, d36]
        simp only [List.drop_succ_cons, List.drop_zero]
        obtain ⟨k0, _⟩ := HS.out v3 hS
        have kf := HF.out v3 hS
        have HB3 := Lib.hid (HA.out.2.2.2.2.trans (hS.mono HA.out.2.2.2.2.size))
        have ke := (HB3.out.frozen (p := ⟨be, 6, none⟩) HE.out.2.2.2).trans HE.out.2.2.1
        have k6 := (HB3.out.cell (p := ⟨be, 6, none⟩) HE.out.2.2.2).trans HE6.out
        have k7 : ∀ v, (v3.setCell ⟨be, 6, none⟩ v).cell? ⟨pb, po, none⟩ = some (.pointer none) := fun v => (World.cell?_of_block (set_other v3 v HN.out)).trans k0
        have kf7 : ∀ v, (v3.setCell ⟨be, 6, none⟩ v).frozen? ⟨pb, po, none⟩ = false := fun v => (World.frozen?_of_block (set_other v3 v HN.out)).trans kf
        have HZ := Lib.hid HS
        clear hS hd d23 d36 HS HF
        go_wp2_with fail
        go_end0
        refine ⟨⟨_, rfl⟩, A, [], v3, HA.out.1, HA.out.2.1, (fun y hy => nomatch hy), HB3.out, ?_⟩
        rw [← HA.out.2.2.1]
        rfl
      | cons z B =>
        obtain ⟨rz, gz, paz, rtz, lfz, rgz, hz⟩ := (HH.out.keep HA.out.2.2.2.2).k z (by rw [HA.out.1]; simp)
        obtain ⟨z0, z1, _⟩ := el_cells hz
        have hzl := lt_of_heap hz
        obtain ⟨bz, ebz⟩ : ∃ q, q = ad z.id := ⟨_, rfl⟩
        obtain ⟨z1', ez1⟩ : ∃ q, q = z.id.1 := ⟨_, rfl⟩
        obtain ⟨z2', ez2⟩ : ∃ q, q = z.id.2 := ⟨_, rfl⟩
        replace c1 : wr.cell? ⟨pb, po, none⟩ = some (.pointer (some ⟨ad z.id, 0, none⟩)) := c1
        rw [← ebz] at z0 z1 hzl c1
        rw [← ez1] at z0
        rw [← ez2] at z1
        obtain ⟨lt, elt⟩ : ∃ q, q = idLt z.id x.id := ⟨_, rfl⟩
        have KL := Lib.hid (fun w => show Calls Try.prog 55 #[.agg #[.int .i64 z1', .int .i64 z2'], .agg #[.int .i64 x1', .int .i64 x2']] w fun e w' => e = .returned (.bool lt) ∧ Below w.heap.size w w' by
          have := cless_any z.id x.id w
          rw [← elt] at this
          rw [ez1, ez2, HX.out.1, HX.out.2]
          exact this)
        have HS := Lib.hid (fun wz (hz : Below wr.heap.size wr wz) => show wz.cell? ⟨pb, po, none⟩ = some (.pointer (some ⟨bz, 0, none⟩)) ∧ wz.cell? ⟨be, 0, none⟩ = some (.int .i64 x1') ∧ wz.cell? ⟨be, 1, none⟩ = some (.int .i64 x2') ∧ wz.cell? ⟨bz, 0, none⟩ = some (.int .i64 z1') ∧ wz.cell? ⟨bz, 1, none⟩ = some (.int .i64 z2') from
          ⟨(hz.cell (p := ⟨pb, po, none⟩) c3).trans c1, (hz.cell (p := ⟨be, 0, none⟩) hle).trans x0, (hz.cell (p := ⟨be, 1, none⟩) hle).trans x1, (hz.cell (p := ⟨bz, 0, none⟩) hzl).trans z0, (hz.cell (p := ⟨bz, 1, none⟩) hzl).trans z1⟩)
        have HF := Lib.hid (fun wz (hz : Below wr.heap.size wr wz) => show wz.frozen? ⟨pb, po, none⟩ = false from (hz.frozen (p := ⟨pb, po, none⟩) c3).trans c2)
        have HZ := Lib.hid (And.intro ebz elt)
        clear c1 x0 x1 hbr c2 z0 z1 hz hzl ebz ez1 ez2 elt
        go_upto_region 3 with fail
        refine wp_region_inv 18 [19, 20, 21, 22, 23, 24, 25, 26, 27, 28, 29, 30, 31, 32, 33, 34, 35, 36] [.val (.pointer (some ⟨pb, po, none⟩)), .val (.pointer (some ⟨pb, po, none⟩)), .val (.pointer (some ⟨bz, 0, none⟩)), .val (.bool true), .val (.bool true), .val (.pointer (some ⟨pb, po, none⟩)), .val (.pointer (some ⟨pb, po, none⟩)), .val (.pointer (some ⟨bz, 0, none⟩)), .val (.pointer (some ⟨bz, 0, none⟩)), .val (.pointer (some ⟨bz, 0, none⟩)), .val (.pointer (some ⟨bz, 0, none⟩)), .val (.agg #[.int .i64 z1', .int .i64 z2']), .val (.pointer (some ⟨be, 0, none⟩)), .val (.pointer (some ⟨be, 0, none⟩)), .val (.pointer (some ⟨be, 0, none⟩)), .val (.pointer (some ⟨be, 0, none⟩)), .val (.agg #[.int .i64 x1', .int .i64 x2']), .val (.bool lt)] (fun wz => Below wr.heap.size wr wz) (by kernel_rfl) (by kernel_rfl) (fun wz wz' hz hb => hz.trans (hb.mono hz.size)) ((Below.refl _ _).drew) (fun u => by simp only [puts, List.foldl_cons, List.foldl_nil]; go_simp; exact rfl) ?_ ?_
        · simp only [List.take_succ_cons, List.take_zero]
          refine Obs.cons (fun u w hS hd => ?_) ?_
          · exact Gv.run (.pointer (some ⟨pb, po, none⟩)) rfl (by go_simp) rfl
          refine Obs.cons (fun u w hS hd => ?_) ?_
          · have d19 : u 19 = .pointer (some ⟨pb, po, none⟩) := dep hd 0 rfl
            rw [d19]
            exact Gv.run (.pointer (some ⟨pb, po, none⟩)) rfl (by go_simp) rfl
          refine Obs.cons (fun u w hS hd => ?_) ?_
          · have d20 : u 20 = .pointer (some ⟨pb, po, none⟩) := dep hd 1 rfl
            rw [d20]
            exact Gv.run (.pointer (some ⟨bz, 0, none⟩)) rfl (by obtain ⟨k0, k1, k2, k3, k4⟩ := HS.out w hS; go_simp) rfl
          refine Obs.cons (fun u w hS hd => ?_) ?_
          · have d21 : u 21 = .pointer (some ⟨bz, 0, none⟩) := dep hd 2 rfl
            rw [d21]
            exact Gv.run (.bool true) rfl (by go_simp) rfl
          refine Obs.cons (fun u w hS hd => ?_) ?_
          · have d22 : u 22 = .bool true := dep hd 3 rfl
            rw [d22]
            exact Gv.run (.bool true) rfl (by go_simp) rfl
          refine Obs.cons (fun u w hS hd => ?_) ?_
          · have d23 : u 23 = .bool true := dep hd 4 rfl
            rw [d23]
            exact Gv.run (.pointer (some ⟨pb, po, none⟩)) rfl (by go_simp) rfl
          refine Obs.cons (fun u w hS hd => ?_) ?_
          · have d24 : u 24 = .pointer (some ⟨pb, po, none⟩) := dep hd 5 rfl
            have d23 : u 23 = .bool true := dep hd 4 rfl
            rw [d24, d23]
            exact Gv.run (.pointer (some ⟨pb, po, none⟩)) rfl (by go_simp) rfl
          refine Obs.cons (fun u w hS hd => ?_) ?_
          · have d25 : u 25 = .pointer (some ⟨pb, po, none⟩) := dep hd 6 rfl
            have d23 : u 23 = .bool true := dep hd 4 rfl
            rw [d25, d23]
            exact Gv.run (.pointer (some ⟨bz, 0, none⟩)) rfl (by obtain ⟨k0, k1, k2, k3, k4⟩ := HS.out w hS; go_simp) rfl
          refine Obs.cons (fun u w hS hd => ?_) ?_
          · have d26 : u 26 = .pointer (some ⟨bz, 0, none⟩) := dep hd 7 rfl
            have d23 : u 23 = .bool true := dep hd 4 rfl
            rw [d26, d23]
            exact Gv.run (.pointer (some ⟨bz, 0, none⟩)) rfl (by go_simp) rfl
          refine Obs.cons (fun u w hS hd => ?_) ?_
          · have d27 : u 27 = .pointer (some ⟨bz, 0, none⟩) := dep hd 8 rfl
            have d23 : u 23 = .bool true := dep hd 4 rfl
            rw [d27, d23]
            exact Gv.run (.pointer (some ⟨bz, 0, none⟩)) rfl (by go_simp) rfl
          refine Obs.cons (fun u w hS hd => ?_) ?_
          · have d28 : u 28 = .pointer (some ⟨bz, 0, none⟩) := dep hd 9 rfl
            have d23 : u 23 = .bool true := dep hd 4 rfl
            rw [d28, d23]
            exact Gv.run (.pointer (some ⟨bz, 0, none⟩)) rfl (by go_simp) rfl
          refine Obs.cons (fun u w hS hd => ?_) ?_
          · have d29 : u 29 = .pointer (some ⟨bz, 0, none⟩) := dep hd 10 rfl
            have d23 : u 23 = .bool true := dep hd 4 rfl
            rw [d29, d23]
            exact Gv.run (.agg #[.int .i64 z1', .int .i64 z2']) rfl (by obtain ⟨k0, k1, k2, k3, k4⟩ := HS.out w hS; go_simp) rfl
          refine Obs.cons (fun u w hS hd => ?_) ?_
          · have d23 : u 23 = .bool true := dep hd 4 rfl
            rw [d23]
            exact Gv.run (.pointer (some ⟨be, 0, none⟩)) rfl (by go_simp) rfl
          refine Obs.cons (fun u w hS hd => ?_) ?_
          · have d31 : u 31 = .pointer (some ⟨be, 0, none⟩) := dep hd 12 rfl
            have d23 : u 23 = .bool true := dep hd 4 rfl
            rw [d31, d23]
            exact Gv.run (.pointer (some ⟨be, 0, none⟩)) rfl (by go_simp) rfl
          refine Obs.cons (fun u w hS hd => ?_) ?_
          · have d32 : u 32 = .pointer (some ⟨be, 0, none⟩) := dep hd 13 rfl
            have d23 : u 23 = .bool true := dep hd 4 rfl
            rw [d32, d23]
            exact Gv.run (.pointer (some ⟨be, 0, none⟩)) rfl (by go_simp) rfl
          refine Obs.cons (fun u w hS hd => ?_) ?_
          · have d33 : u 33 = .pointer (some ⟨be, 0, none⟩) := dep hd 14 rfl
            have d23 : u 23 = .bool true := dep hd 4 rfl
            rw [d33, d23]
            exact Gv.run (.pointer (some ⟨be, 0, none⟩)) rfl (by go_simp) rfl
          refine Obs.cons (fun u w hS hd => ?_) ?_
          · have d34 : u 34 = .pointer (some ⟨be, 0, none⟩) := dep hd 15 rfl
            have d23 : u 23 = .bool true := dep hd 4 rfl
            rw [d34, d23]
            exact Gv.run (.agg #[.int .i64 x1', .int .i64 x2']) rfl (by obtain ⟨k0, k1, k2, k3, k4⟩ := HS.out w hS; go_simp) rfl
          refine Obs.cons (fun u w hS hd => ?_) ?_
          · have d30 : u 30 = .agg #[.int .i64 z1', .int .i64 z2'] := dep hd 11 rfl
            have d35 : u 35 = .agg #[.int .i64 x1', .int .i64 x2'] := dep hd 16 rfl
            have d23 : u 23 = .bool true := dep hd 4 rfl
            rw [d30, d35, d23]
            refine Gv.call 55 #[.agg #[.int .i64 z1', .int .i64 z2'], .agg #[.int .i64 x1', .int .i64 x2']] rfl (by go_simp) (((KL.out w)).mono ?_)
            rintro e w' ⟨rfl, hb⟩
            exact ⟨_, rfl, rfl, hb⟩
          exact Obs.nil
        intro u v3 hS hd
        have d23 : u 23 = .bool true := hd 4 (by decide)
        have d36 : u 36 = .bool lt := hd 17 (by decide)
        rw [d23, d36]
        simp only [List.drop_succ_cons, List.drop_zero]
        obtain ⟨k0, _⟩ := HS.out v3 hS
        have kf := HF.out v3 hS
        have HB3 := Lib.hid (HA.out.2.2.2.2.trans (hS.mono HA.out.2.2.2.2.size))
        have ke := (HB3.out.frozen (p := ⟨be, 6, none⟩) HE.out.2.2.2).trans HE.out.2.2.1
        have k6 := (HB3.out.cell (p := ⟨be, 6, none⟩) HE.out.2.2.2).trans HE6.out
        have k7 : ∀ v, (v3.setCell ⟨be, 6, none⟩ v).cell? ⟨pb, po, none⟩ = some (.pointer (some ⟨bz, 0, none⟩)) := fun v => (World.cell?_of_block (set_other v3 v HN.out)).trans k0
        have kf7 : ∀ v, (v3.setCell ⟨be, 6, none⟩ v).frozen? ⟨pb, po, none⟩ = false := fun v => (World.frozen?_of_block (set_other v3 v HN.out)).trans kf
        clear hS hd d23 d36 HS HF
        cases lt with
        | true =>
          clear kf ke k6 k7 kf7
          go_wp2_with fail
          go_roundg (B.length)
          case measure => have := HA.out.2.2.2.1; simp at this; omega
          case rel =>
            refine ⟨A ++ [z], B, by rw [HA.out.1]; simp, rfl, fun y hy => ?_, ?_, HB3.out⟩
            · rcases List.mem_append.1 hy with h1 | h1
              · exact HA.out.2.1 y h1
              · rw [List.mem_singleton.1 h1]
                exact HZ.out.2.symm
            · rw [placeOf_snoc, ← HZ.out.1]
        | false =>
          go_wp2_with fail
          go_end0
          refine ⟨⟨_, rfl⟩, A, z :: B, v3, HA.out.1, HA.out.2.1, ?_, HB3.out, ?_⟩
          · have hd := HH.out.d
            rw [HA.out.1] at hd
            exact sorted_cut hd HZ.out.2.symm
          · rw [← HA.out.2.2.1, HZ.out.1]
            rfl
end Go.Proofs.Ytljciakgdpihdaa
