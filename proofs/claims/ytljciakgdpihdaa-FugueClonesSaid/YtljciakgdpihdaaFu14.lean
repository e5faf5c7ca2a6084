/-
  Layer 15, the landed code: Nodes. By an AI agent.
-/
import Derived.Test.YtljciakgdpihdaaFu13
import Derived.Shelf.Abstract
import Derived.Shelf.RegionOpen
import Derived.OwnWalkIn
import Derived.TacticsInMore
namespace Go.Proofs.Ytljciakgdpihdaa
open Go Go.RowKit
set_option maxRecDepth 20000
theorem inBlock_in {id : Nat} {Q : Exit → Go.Act → World → Prop} (h : ¬ LetsOut Q) : ¬ LetsOut (Exit.inBlock id Q) := fun ⟨a, w, q⟩ => h ⟨a, w, q⟩
theorem then_in {K : Go.Act → World → Prop} {Q : Exit → Go.Act → World → Prop} (h : ¬ LetsOut Q) : ¬ LetsOut (Exit.then K Q) := fun ⟨a, w, q⟩ => h ⟨a, w, q⟩
theorem Twin.below {D B : Nat} {w w' : World} (h : Twin D w w') (hB : B ≤ D) : Below B w w' := ⟨h.os, h.tape, h.output, Nat.le_of_eq h.size.symm, fun k hk => h.block k (by omega) (by omega)⟩
theorem TreeH.twin {w w' : World} {T M D : Nat} {ad : IDt → Nat} {L : List Ins} {G : List IDt} (h : TreeH w T M ad L G) (ht : Twin D w w') (hk : ∀ k, inT T M ad L k → k < D) : TreeH w' T M ad L G :=
  h.keep fun k hi => ht.block k (by have := hk k hi; omega) (by have := hk k hi; omega)
theorem OwnR.twin {α : Type} {E : Enc α} {w w' : World} {B c D : Nat} {A : Option Addr} {L : List α} {e : TypeId} (h : OwnR E w B e A c L) (ht : Twin D w w') (hB : D + 2 ≤ B) : OwnR E w' B e A c L :=
  h.keep0 fun ad ha => ht.block _ (by have := (h.blk ad ha).1; omega) (by have := (h.blk ad ha).1; omega)
/-- Between two rounds of Nodes. -/
def NodI (w0 : World) (T M : Nat) (ad : IDt → Nat) (L : List Ins) (G : List IDt) (pre : List Ins) (W : World) : Prop :=
  TreeH W T M ad L G ∧ Below w0.heap.size w0 W ∧ w0.heap.size + 3 ≤ W.heap.size ∧ ∃ A c, W.heap[w0.heap.size]? = some (.cells #[.slice A pre.length c] 39) ∧ OwnR nodE W (w0.heap.size + 3) 55 A c (pre.map (nodeOf G))
set_option maxHeartbeats 3200000 in
theorem nodes_any {w : World} {T M : Nat} {ad : IDt → Nat} {L : List Ins} {G : List IDt} (h : TreeH w T M ad L G) (hl : L.length ≤ 4096) :
    Calls Try.prog 15 #[pB T] w fun e w' => ∃ A c, e = .returned (.slice A (nodesL L).length c) ∧ RdR nodE w' w'.heap.size A c ((nodesL L).map (nodeOf G)) ∧ (∀ ad', A = some ad' → w.heap.size ≤ ad'.block) ∧ Below w.heap.size w w' := by
  refine (callsIn_wide (n := 4)).1 (callsIn_of_wp_marks Try.func15 rfl trivial ?_)
  refine wpIn_wide.2 ?_
  simp only [Try.ntmps15, List.size_toArray, List.length_cons, List.length_nil, Nat.reduceAdd, Nat.reduceSub, Array.replicate_succ, Array.replicate_zero, List.push_toArray, List.append_toArray, List.nil_append, List.cons_append]
  have hin : ∀ k, inT T M ad L k → k < w.heap.size := fun k hk => h.lt hk
  obtain ⟨v1, ev⟩ : ∃ v, v = w.alloc (.cells #[.slice none 0 0] 39) := ⟨_, rfl⟩
  have hb1 : Below w.heap.size w v1 := by rw [ev]; exact (Below.refl _ _).alloc (Nat.le_refl _) _
  have hs1 : v1.heap.size = w.heap.size + 1 := by rw [ev]; simp
  have hc1 : v1.heap[w.heap.size]? = some (.cells #[.slice none 0 0] 39) := by rw [ev]; exact (MapKept.heap_alloc w _).1
  obtain ⟨i0, hi0, hz0, hz1, hz2⟩ := info_parts infoNod
  have HH := Lib.hid (And.intro h (And.intro hin (And.intro hb1 (And.intro hs1 (And.intro hc1 hl)))))
  have HV := Lib.hid ev
  clear h hin hb1 hs1 hc1 hl ev
  go_wp2_with fail
  rw [← HV.out]
  obtain ⟨h, hin, hb1, hs1, hc1, hl⟩ := HH.out
  refine wp_range_bound (gf := 37) (p := pB T) rfl (enters_of Try.func37 (by kernel_rfl) rfl) (fun x : Ins => #[pB (ad x.id)]) (fun _ => rfl) (fun xs => xs = nodesL L) (fun pre x => ∃ post, nodesL L = pre ++ x :: post)
    (NodI w T M ad L G) (fun _ _ => False) ?hI (fun _ _ _ h _ => h) ?h0 (fun x => { tmps := #[pB T, undef, .slice none 0 0, .pointer (some ⟨w.heap.size, 0, none⟩), pB (ad x.id), pB T, .func (.func 37) #[pB T] #[], pB (ad x.id), undef, undef, undef, undef, undef, undef, undef, undef], defers := [] }) ?hseq ?assign ?body ?done (fun _ _ h _ => h.elim)
  case hI =>
    rintro pre W W' ⟨h1, h2, h3, A, c, h4, h5⟩ ht
    rw [hs1] at ht
    exact ⟨h1.twin ht (fun k hk => by have := hin k hk; omega), h2.trans (ht.below (by omega)), by rw [ht.size]; exact h3, A, c, (ht.block _ (by omega) (by omega)).trans h4, h5.twin ht (by omega)⟩
  case h0 =>
    intro o1 o2 _ _
    have hb2 : Below v1.heap.size v1 ((v1.alloc o1).alloc o2) := ((Below.refl _ _).alloc (Nat.le_refl _) _).alloc (by simp) _
    have hb3 := hb1.trans (hb2.mono hb1.size)
    exact ⟨h.below hb3, hb3, by simp; omega, none, 0, (hb2.block _ (by omega)).trans hc1, OwnR.nothing nodE _ _ _⟩
  case hseq =>
    intro l J Jx W hJI hY hJ0
    refine (order_any (I := J) (Ix := Jx) (fun pre W hj => (hJI pre W hj).1) (fun pre x W hj hnx => hY pre x W hj hnx) W hJ0).mono ?_
    rintro e W' ⟨hv, h1 | h1⟩
    · exact ⟨hv, .inl ⟨_, rfl, h1⟩⟩
    · exact ⟨hv, .inr h1⟩
  case assign =>
    intro l x W K hK
    refine region_round (by kernel_rfl) (then_in (fun ⟨_, _, h⟩ => h)) ?_
    go_wp2_with fail
    exact hK
  case body =>
    rintro l pre x W ⟨ht, hbw, hsz, A, c, hc, ho⟩ ⟨post, hpost⟩ hlt
    have hx : x ∈ L := (nodes_mem h.ok).1 (by rw [hpost]; simp)
    have hln : pre.length + 1 ≤ 4096 := by
      have h1 := nodes_len h.ok
      rw [hpost] at h1
      simp at h1
      omega
    obtain ⟨e0, e1, e2, e3, _⟩ := el_cells (ht.el x hx)
    have hle := lt_of_heap (ht.el x hx)
    have hgl := lt_of_heap hc
    have hcc : W.cell? ⟨w.heap.size, 0, none⟩ = some (.slice A pre.length c) := by simp [World.cell?, hc]
    obtain ⟨be, ebe⟩ : ∃ b, b = ad x.id := ⟨_, rfl⟩
    rw [← ebe] at e0 e1 e2 e3 hle
    obtain ⟨y, ey⟩ : ∃ y, y = nodeOf G x := ⟨_, rfl⟩
    obtain ⟨x1, ex1⟩ : ∃ q, q = x.id.1 := ⟨_, rfl⟩
    obtain ⟨x2, ex2⟩ : ∃ q, q = x.id.2 := ⟨_, rfl⟩
    obtain ⟨x3, ex3⟩ : ∃ q, q = x.rune := ⟨_, rfl⟩
    obtain ⟨x4, ex4⟩ : ∃ q, q = goneB G x.id := ⟨_, rfl⟩
    have HY := Lib.hid (show (#[.int .i64 x1, .int .i64 x2, .int .i32 x3, .bool x4] : Array Value).toList = nodE.enc y by rw [ey, ex1, ex2, ex3, ex4]; rfl)
    rw [← ex1] at e0
    rw [← ex2] at e1
    rw [← ex3] at e2
    rw [← ex4] at e3
    obtain ⟨n, en⟩ : ∃ n, n = pre.length := ⟨_, rfl⟩
    obtain ⟨g, eg⟩ : ∃ g, g = w.heap.size := ⟨_, rfl⟩
    rw [← en] at hcc hln
    rw [← eg] at hcc hgl
    have HS := Lib.hid (fun wz (hz : Below W.heap.size W wz) => show wz.cell? ⟨g, 0, none⟩ = some (.slice A n c) ∧ wz.cell? ⟨be, 0, none⟩ = some (.int .i64 x1) ∧ wz.cell? ⟨be, 1, none⟩ = some (.int .i64 x2) ∧ wz.cell? ⟨be, 2, none⟩ = some (.int .i32 x3) ∧ wz.cell? ⟨be, 3, none⟩ = some (.bool x4) from
      ⟨(hz.cell (p := ⟨g, 0, none⟩) hgl).trans hcc, (hz.cell (p := ⟨be, 0, none⟩) hle).trans e0, (hz.cell (p := ⟨be, 1, none⟩) hle).trans e1, (hz.cell (p := ⟨be, 2, none⟩) hle).trans e2, (hz.cell (p := ⟨be, 3, none⟩) hle).trans e3⟩)
    rw [← ebe, ← eg]
    have HB := Lib.hid (And.intro ht (And.intro hbw (And.intro hsz (And.intro hc (And.intro ho (And.intro en (And.intro eg (And.intro ey (And.intro hs1 (And.intro hin (And.intro ebe hlt)))))))))))
    have HLN := Lib.hid hln
    clear hpost hx hln e0 e1 e2 e3 hle hgl hcc ebe ey ex1 ex2 ex3 ex4 en eg ht hbw hsz hc ho h hin hb1 hs1 hc1 hl hlt
    refine wpIn_block ?_
    refine region_round_inv 6 [8, 9, 10, 11, 12, 13] [.val (.slice A n c), .val (.pointer (some ⟨be, 0, none⟩)), .val (.pointer (some ⟨be, 0, none⟩)), .val (.pointer (some ⟨be, 0, none⟩)), .val (.agg #[.int .i64 x1, .int .i64 x2, .int .i32 x3, .bool x4]), kRow nodE 1 [y]] (fun wz => Below W.heap.size W wz) (by kernel_rfl) (by kernel_rfl) (inBlock_in roundQ_in) (by kernel_rfl) (fun wz wz' hz hb => hz.trans (hb.mono hz.size)) ((Below.refl _ _).drew) (fun u => by simp only [puts, List.foldl_cons, List.foldl_nil]; go_simp; exact rfl) ?_ ?_
    · simp only [List.take_succ_cons, List.take_zero]
      refine Obs.cons (fun u w hS hd => ?_) ?_
      · exact Gv.run (.slice A n c) rfl (by obtain ⟨k0, k1, k2, k3, k4⟩ := HS.out w hS; go_simp) rfl
      refine Obs.cons (fun u w hS hd => ?_) ?_
      · exact Gv.run (.pointer (some ⟨be, 0, none⟩)) rfl (by go_simp) rfl
      refine Obs.cons (fun u w hS hd => ?_) ?_
      · have d9 : u 9 = .pointer (some ⟨be, 0, none⟩) := dep hd 1 rfl
        rw [d9]
        exact Gv.run (.pointer (some ⟨be, 0, none⟩)) rfl (by go_simp) rfl
      refine Obs.cons (fun u w hS hd => ?_) ?_
      · have d10 : u 10 = .pointer (some ⟨be, 0, none⟩) := dep hd 2 rfl
        rw [d10]
        exact Gv.run (.pointer (some ⟨be, 0, none⟩)) rfl (by go_simp) rfl
      refine Obs.cons (fun u w hS hd => ?_) ?_
      · have d11 : u 11 = .pointer (some ⟨be, 0, none⟩) := dep hd 3 rfl
        rw [d11]
        exact Gv.run (.agg #[.int .i64 x1, .int .i64 x2, .int .i32 x3, .bool x4]) rfl (by obtain ⟨k0, k1, k2, k3, k4⟩ := HS.out w hS; go_simp) rfl
      refine Obs.cons (fun u w hS hd => ?_) ?_
      · have d12 : u 12 = .agg #[.int .i64 x1, .int .i64 x2, .int .i32 x3, .bool x4] := dep hd 4 rfl
        rw [d12]
        refine Gv.make (.slice (some ⟨w.heap.size, 0, none⟩) 1 1) (w.alloc (.cells #[.int .i64 x1, .int .i64 x2, .int .i32 x3, .bool x4] 55)) rfl (by go_simp) ⟨_, _, rfl, ?_⟩ ((Below.refl _ w).alloc (Nat.le_refl _) _)
        exact (OwnR.lit (E := nodE) (w := w) 55 (Nat.le_refl _) #[.int .i64 x1, .int .i64 x2, .int .i32 x3, .bool x4] [y] (by simp [maxLen]) HY.out).rd
      exact Obs.nil
    intro u v3 hS hd
    have d8 : u 8 = .slice A n c := hd 0 (by decide)
    obtain ⟨A9, c9, d13, r9⟩ : (kRow nodE 1 [y]).ok (u 13) v3 := hd 5 (by decide)
    rw [d8, d13]
    simp only [List.drop_succ_cons, List.drop_zero]
    have hB := HB.out
    have HB3 := Lib.hid hS
    have HO := Lib.hid (hB.2.2.2.2.1.keep hS)
    have HR := Lib.hid r9
    have hbs : w.heap.size + 3 ≤ v3.heap.size := Nat.le_trans hB.2.2.1 hS.size
    have hfg : v3.heap[w.heap.size]? = some (.cells #[.slice A pre.length c] 39) := (hS.block _ (lt_of_heap hB.2.2.2.1)).trans hB.2.2.2.1
    have HF := Lib.hid (And.intro hfg hbs)
    have HEN := Lib.hid (show (pre.map (nodeOf G)).length = n by rw [List.length_map, hB.2.2.2.2.2.1])
    have HLB := Lib.hid (show (n + 1) * 24 ≤ 140737488355328 by have := HLN.out; omega)
    have HLC := Lib.hid (show n + 1 ≤ 140737488355328 by have := HLN.out; omega)
    clear hS hd d8 d13 r9 hB hbs hfg
    refine wpList_appR v3 rfl (.tmp 8) (.tmp 13) _ rfl (w.heap.size + 3) 55 i0 _ Try.underlying39 hi0 hz0 hz1 hz2 rfl HEN.out rfl HO.out (M := [y]) rfl rfl HR.out HLC.out HLB.out HF.out.2 ?_
    intro A8 c8 w8 o8 hb8 hg8
    have hB := HB.out
    have hfg := (hb8.block _ (show w.heap.size < w.heap.size + 3 by omega)).trans HF.out.1
    have kc : w8.cell? ⟨g, 0, none⟩ = some (.slice A pre.length c) := by rw [hB.2.2.2.2.2.2.1]; simp [World.cell?, hfg]
    have kf : w8.frozen? ⟨g, 0, none⟩ = false := by rw [hB.2.2.2.2.2.2.1]; exact cells_free hfg 0
    have H8 := Lib.hid (And.intro o8 (And.intro hb8 hfg))
    clear o8 hb8 hg8 hfg hB
    go_wp2_with fail
    have hB := HB.out
    have h8 := H8.out
    have hb38 : Below w.heap.size W w8 := (HB3.out.mono (by have := hB.2.1.size; omega)).trans (h8.2.1.mono (by omega))
    have hg : g = w.heap.size := hB.2.2.2.2.2.2.1
    have hD : ∀ k, k < w.heap.size + 3 → k ≠ g → (w8.setCell ⟨g, 0, none⟩ (.slice A8 (n + 1) c8)).heap[k]? = W.heap[k]? := fun k h1 h2 => by
      rw [set_other _ _ h2, h8.2.1.block k h1, HB3.out.block k (by have := hB.2.2.1; omega)]
    refine ⟨⟨?_, ?_⟩, hB.1.keep (fun k hk => ?_), ?_, ?_, A8, c8, ?_, ?_⟩
    · have := hB.2.2.2.2.2.2.2.2.1
      exact hD _ (by omega) (by omega)
    · have := hB.2.2.2.2.2.2.2.2.1
      exact hD _ (by omega) (by omega)
    · have := hB.2.2.2.2.2.2.2.2.2.1 k hk
      exact hD k (by omega) (by omega)
    · exact hB.2.1.trans (hb38.setCell (p := ⟨g, 0, none⟩) (by show w.heap.size ≤ g; omega) _)
    · rw [set_size]
      have := h8.2.1.size
      have := HF.out.2
      omega
    · have := set_block h8.2.2 0 (.slice A8 (n + 1) c8)
      rw [hg, this, List.length_append, List.length_singleton, ← hB.2.2.2.2.2.1]
      rfl
    · have h5 := h8.1
      rw [hB.2.2.2.2.2.2.2.1] at h5
      rw [List.map_append, List.map_singleton]
      exact h5.keep0 fun ad' ha => set_other _ _ (by have := (h5.blk ad' ha).1; omega)
  case done =>
    rintro xs W rfl ⟨ht, hbw, hsz, A, c, hc, ho⟩ hK
    rw [hs1] at hK
    have kc : W.cell? ⟨w.heap.size, 0, none⟩ = some (.slice A (nodesL L).length c) := by simp [World.cell?, hc]
    rw [hs1]
    have HB := Lib.hid (And.intro hbw (And.intro ho hsz))
    clear ht hbw hsz ho hc h hin hb1 hc1 hl
    have HK := Lib.hid hK
    clear hK
    go_wp2_with fail
    refine ⟨by simp, .inl ⟨_, _, rfl, run_takeDeferred HK.out, ?_⟩⟩
    have ho := HB.out.2.1
    have htw : Twin (w.heap.size + 1) W (W.putObj (w.heap.size + 1) (.deferred none)) := Twin.put W _ (.inl rfl) rfl
    have ho2 := ho.twin htw (by omega)
    exact ⟨_, results_tmp rfl _ _ _, A, c, rfl, ho2.rd, fun ad' ha => by have := (ho2.blk ad' ha).1; omega, HB.out.1.trans (htw.below (by omega))⟩
theorem nodes_nil (w : World) : Calls Try.prog 15 #[.pointer none] w fun e w' => e = .returned (.slice none 0 0) ∧ Below w.heap.size w w' := by
  refine (callsIn_wide (n := 4)).1 (callsIn_of_wp_marks Try.func15 rfl trivial ?_)
  refine wpIn_wide.2 ?_
  simp only [Try.ntmps15, List.size_toArray, List.length_cons, List.length_nil, Nat.reduceAdd, Nat.reduceSub, Array.replicate_succ, Array.replicate_zero, List.push_toArray, List.append_toArray, List.nil_append, List.cons_append]
  obtain ⟨v1, ev⟩ : ∃ v, v = w.alloc (.cells #[.slice none 0 0] 39) := ⟨_, rfl⟩
  have hb1 : Below w.heap.size w v1 := by rw [ev]; exact (Below.refl _ _).alloc (Nat.le_refl _) _
  have hs1 : v1.heap.size = w.heap.size + 1 := by rw [ev]; simp
  have hc1 : v1.cell? ⟨w.heap.size, 0, none⟩ = some (.slice none 0 0) := by rw [ev]; simp
  have HH := Lib.hid (And.intro hb1 (And.intro hs1 hc1))
  have HV := Lib.hid ev
  clear hb1 hs1 hc1 ev
  go_wp2_with fail
  rw [← HV.out]
  obtain ⟨hb1, hs1, hc1⟩ := HH.out
  refine wp_range_bound (gf := 37) (p := .pointer none) rfl (enters_of Try.func37 (by kernel_rfl) rfl) (fun _ : Unit => #[.pointer none]) (fun _ => rfl) (fun xs => xs = []) (fun _ _ => False)
    (fun _ W => Below w.heap.size w W ∧ W.cell? ⟨w.heap.size, 0, none⟩ = some (.slice none 0 0)) (fun _ _ => False) ?hI (fun _ _ _ h _ => h) ?h0 (fun _ => { tmps := #[.pointer none, undef, .slice none 0 0, .pointer (some ⟨w.heap.size, 0, none⟩), .pointer none, .pointer none, .func (.func 37) #[.pointer none] #[], .pointer none, undef, undef, undef, undef, undef, undef, undef, undef], defers := [] }) ?hseq ?assign (fun _ _ _ _ _ h _ => h.elim) ?done (fun _ _ h _ => h.elim)
  case hI =>
    rintro pre W W' ⟨h1, h2⟩ ht
    rw [hs1] at ht
    exact ⟨h1.trans (ht.below (by omega)), (World.cell?_of_block (ht.block w.heap.size (by omega) (by omega))).trans h2⟩
  case h0 =>
    intro o1 o2 _ _
    have hb2 : Below v1.heap.size v1 ((v1.alloc o1).alloc o2) := ((Below.refl _ _).alloc (Nat.le_refl _) _).alloc (by simp) _
    exact ⟨hb1.trans (hb2.mono hb1.size), (hb2.cell (p := ⟨w.heap.size, 0, none⟩) (by show w.heap.size < _; omega)).trans hc1⟩
  case hseq =>
    intro l J Jx W hJI hY hJ0
    refine (order_nil _ W).mono ?_
    rintro e W' ⟨hv, rfl⟩
    exact ⟨hv, .inl ⟨[], rfl, hJ0⟩⟩
  case assign =>
    intro l x W K hK
    refine region_round (by kernel_rfl) (then_in (fun ⟨_, _, h⟩ => h)) ?_
    go_wp2_with fail
    exact hK
  case done =>
    rintro xs W rfl ⟨hbw, hc⟩ hK
    rw [hs1] at hK
    rw [hs1]
    have HB := Lib.hid (And.intro hbw hK)
    clear hbw hK hb1 hc1
    go_wp2_with fail
    refine ⟨by simp, .inl ⟨_, _, rfl, run_takeDeferred HB.out.2, ?_⟩⟩
    exact ⟨_, results_tmp rfl _ _ _, rfl, HB.out.1.trans ((Twin.put W _ (.inl rfl) rfl).below (by omega))⟩
end Go.Proofs.Ytljciakgdpihdaa
