/-
  Layer 15, the landed code: Drop. By an AI agent.
-/
import Derived.Test.YtljciakgdpihdaaFu5
namespace Go.Proofs.Ytljciakgdpihdaa
open Go Go.RowKit
set_option maxRecDepth 20000
theorem live_drop {G : List IDt} {x : Ins} (hg : x.id ∉ G) : ∀ {L : List Ins}, Distinct L → x ∈ L → (liveL (G ++ [x.id]) L).length + 1 = (liveL G L).length
  | [], _, h => nomatch h
  | y :: L, hd, h => by
    obtain ⟨h1, h2⟩ := List.pairwise_cons.1 hd
    rcases List.mem_cons.1 h with e | hx
    · subst e
      have e1 : liveL (G ++ [x.id]) L = liveL G L := List.filter_congr fun z hz => by
        have := h1 z hz
        rw [decide_eq_decide]
        simp only [List.mem_append, List.mem_singleton, not_or]
        exact ⟨fun q => q.1, fun q => ⟨q, fun e => this e.symm⟩⟩
      rw [live_on hg, live_off (by simp), e1, List.length_cons]
    · have hy : y.id ≠ x.id := h1 x hx
      have ih := live_drop hg h2 hx
      by_cases hyg : y.id ∈ G
      · rw [live_off hyg, live_off (List.mem_append.2 (.inl hyg))]
        exact ih
      · rw [live_on hyg, live_on (by simp [hyg, hy]), List.length_cons, List.length_cons, ih]
theorem goneB_snoc_same (G : List IDt) (i : IDt) : goneB (G ++ [i]) i = true := by rw [goneB_eq]; simp
theorem goneB_snoc_other (G : List IDt) {i j : IDt} (h : j ≠ i) : goneB (G ++ [i]) j = goneB G j := by
  rw [goneB_eq, goneB_eq, decide_eq_decide]
  simp [h]
theorem TreeH.dropped {w : World} {T M : Nat} {ad : IDt → Nat} {L : List Ins} {G : List IDt} (h : TreeH w T M ad L G) {x : Ins} (hx : x ∈ L) (hg : x.id ∉ G) :
    TreeH ((w.setCell ⟨ad x.id, 3, none⟩ (.bool true)).setCell ⟨T, 1, none⟩ (.int .i64 (((liveL G L).length : Int) - 1))) T M ad L (G ++ [x.id]) := by
  obtain ⟨a1, a2, a3, a4⟩ := h.apart
  obtain ⟨ps, clk, hm, hp, hl⟩ := h.map
  have hn := live_drop hg h.ok.distinct hx
  have hh : ∀ k, k ≠ T → k ≠ ad x.id → ((w.setCell ⟨ad x.id, 3, none⟩ (.bool true)).setCell ⟨T, 1, none⟩ (.int .i64 (((liveL G L).length : Int) - 1))).heap[k]? = w.heap[k]? := fun k h1 h2 => (set_other _ _ h1).trans (set_other _ _ h2)
  refine ⟨h.ok, ?_, ⟨ps, clk, hm.keep (hh M (fun e => a1 e.symm) (fun e => (a4 x hx).2 e.symm)), hp, hl⟩, (hh _ (fun e => a2 e.symm) (fun e => h.inj0 hx e.symm)).trans h.root, fun y hy => ?_, fun i hi => ?_, ?_⟩
  · have h1 := (set_other (k := 3) w (.bool true) (show T ≠ ad x.id from fun e => (a4 x hx).1 e.symm)).trans h.tree
    have h2 := set_block h1 1 (.int .i64 (((liveL G L).length : Int) - 1))
    rw [h2]
    have e1 : ((liveL G L).length : Int) - 1 = ((liveL (G ++ [x.id]) L).length : Int) := by omega
    rw [e1]
    rfl
  · by_cases e : y = x
    · subst e
      have h1 := set_block (h.el y hx) 3 (.bool true)
      rw [set_other _ _ (a4 y hx).1, h1, goneB_snoc_same]
      rfl
    · have hid : y.id ≠ x.id := fun e2 => e (h.ok.distinct.eq hy hx e2)
      rw [hh _ (a4 y hy).1 (fun e2 => e (h.inj hy hx e2)), goneB_snoc_other G hid]
      exact h.el y hy
  · rcases List.mem_append.1 hi with h1 | h1
    · exact h.gone i h1
    · rw [List.mem_singleton.1 h1]
      exact ⟨x, hx, rfl⟩
  · exact List.nodup_append.2 ⟨h.once, by simp, fun a ha b hb e => by rw [List.mem_singleton] at hb; exact hg (by rw [← hb, ← e]; exact ha)⟩
theorem drop_nil (i : IDt) (w : World) : Calls Try.prog 33 #[.pointer none, idV i] w fun e w' => e = .returned (.int .i64 13) ∧ Below w.heap.size w w' := by
  obtain ⟨v1, ev⟩ : ∃ v, v = w.alloc (.cells #[.int .i64 i.1, .int .i64 i.2] 31) := ⟨_, rfl⟩
  obtain ⟨g, eg⟩ : ∃ g, g = w.heap.size := ⟨_, rfl⟩
  have hb : Below w.heap.size w v1 := by rw [ev]; exact (Below.refl _ _).alloc (Nat.le_refl _) _
  have hq : v1.cell? ⟨g, 0, none⟩ = some (.int .i64 i.1) ∧ v1.cell? ⟨g, 1, none⟩ = some (.int .i64 i.2) := by
    rw [ev, eg]
    simp
  obtain ⟨q0, q1⟩ := hq
  have HB := Lib.hid hb
  have HV := Lib.hid (And.intro ev eg)
  clear hb ev eg
  go_enter Try.func33, Try.ntmps33
  go_upto_region 1 with fail
  rw [← HV.out.1, ← HV.out.2]
  clear HV
  go_wp2_with (go_at_call 25; refine (has_nil i v1).mono ?_; rintro e w' ⟨rfl, hb2⟩; have HB2 := Lib.hid (HB.out.trans (hb2.mono HB.out.size)); clear hb2 HB)
  go_ret
  exact ⟨rfl, HB2.out⟩
set_option maxHeartbeats 3200000 in
theorem drop_any {w : World} {T M : Nat} {ad : IDt → Nat} {L : List Ins} {G : List IDt} (h : TreeH w T M ad L G) (hl : L.length ≤ 4096) (i : IDt) :
    Calls Try.prog 33 #[pB T, idV i] w fun e w' => e = .returned (.int .i64 (dropR L G i).2) ∧ TreeH w' T M ad L (dropR L G i).1 ∧ OutF (inT T M ad L) w w' := by
  obtain ⟨v1, ev⟩ : ∃ v, v = w.alloc (.cells #[.int .i64 i.1, .int .i64 i.2] 31) := ⟨_, rfl⟩
  obtain ⟨g, eg⟩ : ∃ g, g = w.heap.size := ⟨_, rfl⟩
  have hb : Below w.heap.size w v1 := by rw [ev]; exact (Below.refl _ _).alloc (Nat.le_refl _) _
  have hs : v1.heap.size = g + 1 := by rw [ev, eg]; simp
  have hq : v1.cell? ⟨g, 0, none⟩ = some (.int .i64 i.1) ∧ v1.cell? ⟨g, 1, none⟩ = some (.int .i64 i.2) := by
    rw [ev, eg]
    simp
  have HT := Lib.hid h
  have H1 := Lib.hid (h.below hb)
  have HB := Lib.hid hb
  have HV := Lib.hid (And.intro ev (And.intro eg hs))
  have HQ := Lib.hid hq
  have HL := Lib.hid hl
  obtain ⟨q0, q1⟩ := hq
  clear hb hs ev eg h hl
  go_enter Try.func33, Try.ntmps33
  go_upto_region 1 with fail
  rw [← HV.out.1, ← HV.out.2.1]
  by_cases hh : hasB L i = true
  case neg =>
    have hf : hasB L i = false := by cases h : hasB L i <;> simp_all
    have HD := Lib.hid (show dropR L G i = (G, 13) by unfold dropR; rw [if_pos hf])
    have HF := Lib.hid hf
    clear hh hf HV
    go_wp2_with (go_at_call 25; refine (has_any H1.out i).mono ?_; rintro e w' ⟨rfl, hb2⟩; rw [HF.out]; have HB2 := Lib.hid (HB.out.trans (hb2.mono HB.out.size)); clear hb2)
    go_ret
    rw [HD.out]
    exact ⟨rfl, HT.out.below HB2.out, OutF.of HB2.out⟩
  case pos =>
    obtain ⟨x, hx, ex⟩ := hasB_iff.1 hh
    have HH := Lib.hid (And.intro hh (And.intro hx ex))
    clear hh hx ex
    go_upto_region 1 with fail
    go_upto_region 3 with (go_at_call 25; refine (has_any H1.out i).mono ?_; rintro e v2 ⟨rfl, hb2⟩; rw [HH.out.1]; have HB2 := Lib.hid (And.intro hb2 (HB.out.trans (hb2.mono HB.out.size))); clear hb2)
    obtain ⟨q, eq⟩ : ∃ q, q = ad i := ⟨_, rfl⟩
    have HS := Lib.hid (fun wz (hz : Below v2.heap.size v2 wz) => show wz.cell? ⟨T, 0, none⟩ = some (.map (some M)) ∧ wz.cell? ⟨g, 0, none⟩ = some (.int .i64 i.1) ∧ wz.cell? ⟨g, 1, none⟩ = some (.int .i64 i.2) ∧ (Instr.lookup 72 (.map (some M)) (idV i) false).run Try.prog wz = .ok (pB q) wz from by
      have hz1 := HB2.out.1.trans (hz.mono HB2.out.1.size)
      have h2 := H1.out.below hz1
      have hg : g < v1.heap.size := by have := HV.out.2.2; omega
      have hk := h2.look i
      unfold ptL at hk
      rw [if_pos (.inr HH.out.1), ← eq] at hk
      exact ⟨h2.cells.1, (hz1.cell (p := ⟨g, 0, none⟩) hg).trans HQ.out.1, (hz1.cell (p := ⟨g, 1, none⟩) hg).trans HQ.out.2, hk⟩)
    have HE := Lib.hid eq
    clear eq q0 q1
    refine wp_region_inv 6 [10, 11, 12, 13, 14, 15] [.val (.pointer (some ⟨T, 0, none⟩)), .val (.pointer (some ⟨T, 0, none⟩)), .val (.pointer (some ⟨T, 0, none⟩)), .val (.map (some M)), .val (.agg #[.int .i64 i.1, .int .i64 i.2]), .val (.pointer (some ⟨q, 0, none⟩))] (fun wz => Below v2.heap.size v2 wz) (by kernel_rfl) (by kernel_rfl) (fun wz wz' hz hb => hz.trans (hb.mono hz.size)) ((Below.refl _ _).drew) (fun u => by simp only [puts, List.foldl_cons, List.foldl_nil]; go_simp; exact rfl) ?_ ?_
    · simp only [List.take_succ_cons, List.take_zero]
      refine Obs.cons (fun u w hS hd => ?_) ?_
      · exact Gv.run (.pointer (some ⟨T, 0, none⟩)) rfl (by go_simp) rfl
      refine Obs.cons (fun u w hS hd => ?_) ?_
      · have d10 : u 10 = .pointer (some ⟨T, 0, none⟩) := dep hd 0 rfl
        rw [d10]
        exact Gv.run (.pointer (some ⟨T, 0, none⟩)) rfl (by go_simp) rfl
      refine Obs.cons (fun u w hS hd => ?_) ?_
      · have d11 : u 11 = .pointer (some ⟨T, 0, none⟩) := dep hd 1 rfl
        rw [d11]
        exact Gv.run (.pointer (some ⟨T, 0, none⟩)) rfl (by go_simp) rfl
      refine Obs.cons (fun u w hS hd => ?_) ?_
      · have d12 : u 12 = .pointer (some ⟨T, 0, none⟩) := dep hd 2 rfl
        rw [d12]
        exact Gv.run (.map (some M)) rfl (by obtain ⟨k0, k1, k2, k3⟩ := HS.out w hS; go_simp) rfl
      refine Obs.cons (fun u w hS hd => ?_) ?_
      · exact Gv.run (.agg #[.int .i64 i.1, .int .i64 i.2]) rfl (by obtain ⟨k0, k1, k2, k3⟩ := HS.out w hS; go_simp) rfl
      refine Obs.cons (fun u w hS hd => ?_) ?_
      · have d13 : u 13 = .map (some M) := dep hd 3 rfl
        have d14 : u 14 = .agg #[.int .i64 i.1, .int .i64 i.2] := dep hd 4 rfl
        rw [d13, d14]
        exact Gv.run (.pointer (some ⟨q, 0, none⟩)) rfl (by obtain ⟨k0, k1, k2, k3⟩ := HS.out w hS; go_simp) rfl
      exact Obs.nil
    intro u v3 hS hd
    have d15 : u 15 = .pointer (some ⟨q, 0, none⟩) := hd 5 (by decide)
    rw [d15]
    simp only [List.drop_succ_cons, List.drop_zero]
    have h3 := H1.out.below (HB2.out.1.trans (hS.mono HB2.out.1.size))
    have he := h3.el x HH.out.2.1
    rw [HH.out.2.2, ← HE.out] at he
    have c3 := (el_cells he).2.2.2.1
    have f3 := cells_free he 3
    have t1 := h3.cells.2
    have ft := cells_free h3.tree 1
    have hne : q ≠ T := by
      have := (h3.apart.2.2.2 x HH.out.2.1).1
      rw [HH.out.2.2, ← HE.out] at this
      exact this
    have hlen : (liveL G L).length ≤ 4096 := Nat.le_trans (List.length_filter_le _ _) HL.out
    obtain ⟨n, en⟩ : ∃ n, n = (liveL G L).length := ⟨_, rfl⟩
    rw [← en] at t1 hlen
    have t1' : ∀ v, (v3.setCell ⟨q, 3, none⟩ v).cell? ⟨T, 1, none⟩ = some (.int .i64 (n : Int)) := fun v => (World.cell?_of_block (set_other v3 v hne.symm)).trans t1
    have ft' : ∀ v, (v3.setCell ⟨q, 3, none⟩ v).frozen? ⟨T, 1, none⟩ = false := fun v => (World.frozen?_of_block (set_other v3 v hne.symm)).trans ft
    have H3 := Lib.hid (And.intro h3 (And.intro (HB2.out.2.trans (hS.mono HB2.out.2.size)) (And.intro en hne)))
    clear hS hd d15 h3 he t1 ft HS en hne
    by_cases hg : goneB G i = true
    · have HD := Lib.hid (show dropR L G i = (G, 12) by unfold dropR; rw [if_neg (by rw [HH.out.1]; decide), if_pos hg])
      rw [hg] at c3
      clear hg f3 t1' ft'
      go_wp2_with fail
      go_ret
      rw [HD.out]
      exact ⟨rfl, HT.out.below H3.out.2.1, OutF.of H3.out.2.1⟩
    · have HD := Lib.hid (show dropR L G i = (G ++ [i], 0) by unfold dropR; rw [if_neg (by rw [HH.out.1]; decide), if_neg hg])
      have hf : goneB G i = false := by cases h : goneB G i <;> simp_all
      rw [hf] at c3
      have HG := Lib.hid (show i ∉ G by rw [goneB_eq] at hf; exact of_decide_eq_false hf)
      clear hg hf
      have c1 : (1 : Int) ≤ (n : Int) := by
        have := live_drop (G := G) (x := x) (by rw [HH.out.2.2]; exact HG.out) HT.out.ok.distinct HH.out.2.1
        have := H3.out.2.2.1
        omega
      go_wp2_with fail
      go_ret
      rw [HD.out]
      have hfin := H3.out.1.dropped HH.out.2.1 (by rw [HH.out.2.2]; exact HG.out)
      rw [HH.out.2.2, ← HE.out, ← H3.out.2.2.1] at hfin
      refine ⟨rfl, hfin, ?_⟩
      have ho : OutF (inT T M ad L) w v3 := OutF.of H3.out.2.1
      refine ⟨ho.os, ho.tape, ho.output, by rw [set_size, set_size]; exact ho.size, fun k hk hn => ?_⟩
      have n1 : k ≠ T := fun e => hn (.inl e)
      have n2 : k ≠ q := fun e => hn (.inr (.inr (.inr ⟨x, HH.out.2.1, by rw [HH.out.2.2, ← HE.out]; exact e⟩)))
      rw [set_other _ _ n1, set_other _ _ n2]
      exact H3.out.2.1.block k hk
end Go.Proofs.Ytljciakgdpihdaa
