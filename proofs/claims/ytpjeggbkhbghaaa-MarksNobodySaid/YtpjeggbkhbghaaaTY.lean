/-
  Layer 15, the landed code: Nodes. By an AI agent. Layer 15, the landed code: Text. By an AI agent. Layer 15, the landed code: beside. By an AI agent. Layer 15, the landed code: At, Plan. By an AI agent.
-/
import Derived.Test.YtpjeggbkhbghaaaTX
import Derived.Shelf.Abstract
import Derived.Shelf.RegionOpen
import Derived.OwnWalkIn
import Derived.TacticsInMore
namespace Go.Proofs.Ytpjeggbkhbghaaa
open Go Go.RowKit
set_option maxRecDepth 20000
theorem inBlock_in {id : Nat} {Q : Exit → Go.Act → World → Prop} (h : ¬ LetsOut Q) : ¬ LetsOut (Exit.inBlock id Q) := fun ⟨a, w, q⟩ => h ⟨a, w, q⟩
theorem then_in {K : Go.Act → World → Prop} {Q : Exit → Go.Act → World → Prop} (h : ¬ LetsOut Q) : ¬ LetsOut (Exit.then K Q) := fun ⟨a, w, q⟩ => h ⟨a, w, q⟩
theorem Twin.below {D B : Nat} {w w' : World} (h : Twin D w w') (hB : B ≤ D) : Below B w w' := ⟨h.os, h.tape, h.output, Nat.le_of_eq h.size.symm, fun k hk => h.block k (by omega) (by omega)⟩
theorem TreeH.twin {w w' : World} {T M D : Nat} {ad : IDt → Nat} {L : List Ins} {G : List IDt} (h : TreeH w T M ad L G) (ht : Twin D w w') (hk : ∀ k, inT T M ad L k → k < D) : TreeH w' T M ad L G :=
  h.keep fun k hi => ht.block k (by have := hk k hi; omega) (by have := hk k hi; omega)
theorem OwnR.twin {α : Type} {E : Enc α} {w w' : World} {B c D : Nat} {A : Option Addr} {L : List α} {e : TypeId} (h : OwnR E w B e A c L) (ht : Twin D w w') (hB : D + 2 ≤ B) : OwnR E w' B e A c L :=
  h.keep0 fun ad ha => ht.block _ (by have := (h.blk ad ha).1; omega) (by have := (h.blk ad ha).1; omega)
/-- Between two rounds of Nodes. -/
def NodI (w0 : World) (T M : Nat) (ad : IDt → Nat) (L : List Ins) (G : List IDt) (pre : List Ins) (W : World) : Prop :=
  TreeH W T M ad L G ∧ Below w0.heap.size w0 W ∧ w0.heap.size + 3 ≤ W.heap.size ∧ ∃ A c, W.heap[w0.heap.size]? = some (.cells #[.slice A pre.length c] 47) ∧ OwnR nodE W (w0.heap.size + 3) 77 A c (pre.map (nodeOf G))
set_option maxHeartbeats 3200000 in
theorem nodes_any {w : World} {T M : Nat} {ad : IDt → Nat} {L : List Ins} {G : List IDt} (h : TreeH w T M ad L G) (hl : L.length ≤ 4096) :
    Calls Try.prog 34 #[pB T] w fun e w' => ∃ A c, e = .returned (.slice A (nodesL L).length c) ∧ RdR nodE w' w'.heap.size A c ((nodesL L).map (nodeOf G)) ∧ (∀ ad', A = some ad' → w.heap.size ≤ ad'.block) ∧ Below w.heap.size w w' := by
  refine (callsIn_wide (n := 4)).1 (callsIn_of_wp_marks Try.func34 rfl trivial ?_)
  refine wpIn_wide.2 ?_
  simp only [Try.ntmps34, List.size_toArray, List.length_cons, List.length_nil, Nat.reduceAdd, Nat.reduceSub, Array.replicate_succ, Array.replicate_zero, List.push_toArray, List.append_toArray, List.nil_append, List.cons_append]
  have hin : ∀ k, inT T M ad L k → k < w.heap.size := fun k hk => h.lt hk
  obtain ⟨v1, ev⟩ : ∃ v, v = w.alloc (.cells #[.slice none 0 0] 47) := ⟨_, rfl⟩
  have hb1 : Below w.heap.size w v1 := by rw [ev]; exact (Below.refl _ _).alloc (Nat.le_refl _) _
  have hs1 : v1.heap.size = w.heap.size + 1 := by rw [ev]; simp
  have hc1 : v1.heap[w.heap.size]? = some (.cells #[.slice none 0 0] 47) := by rw [ev]; exact (MapKept.heap_alloc w _).1
  obtain ⟨i0, hi0, hz0, hz1, hz2⟩ := info_parts infoNod
  have HH := Lib.hid (And.intro h (And.intro hin (And.intro hb1 (And.intro hs1 (And.intro hc1 hl)))))
  have HV := Lib.hid ev
  clear h hin hb1 hs1 hc1 hl ev
  go_wp2_with fail
  rw [← HV.out]
  obtain ⟨h, hin, hb1, hs1, hc1, hl⟩ := HH.out
  refine wp_range_bound (gf := 51) (p := pB T) rfl (enters_of Try.func51 (by kernel_rfl) rfl) (fun x : Ins => #[pB (ad x.id)]) (fun _ => rfl) (fun xs => xs = nodesL L) (fun pre x => ∃ post, nodesL L = pre ++ x :: post)
    (NodI w T M ad L G) (fun _ _ => False) ?hI (fun _ _ _ h _ => h) ?h0 (fun x => { tmps := #[pB T, undef, .slice none 0 0, .pointer (some ⟨w.heap.size, 0, none⟩), pB (ad x.id), pB T, .func (.func 51) #[pB T] #[], pB (ad x.id), undef, undef, undef, undef, undef, undef, undef, undef], defers := [] }) ?hseq ?assign ?body ?done (fun _ _ h _ => h.elim)
  case hI =>
    rintro pre W W' ⟨h1, h2, h3, A, c, h4, h5⟩ ht
    rw [hs1] at ht
    exact ⟨h1.twin ht (fun k hk => by have := hin k hk; omega), h2.trans (ht.below (by omega)), by rw [ht.size]; exact h3, A, c, (ht.block _ (by omega) (by omega)).trans h4, h5.twin ht (by omega)⟩
  case h0 =>
    intro o1 o2 _ _
    have hb2 : Below v1.heap.size v1 ((v1.alloc o1).alloc o2) := ((Below.refl _ _).alloc (Nat.le_refl _) _).alloc (by simp) _
    have hb3 := hb1.trans (hb2.mono hb1.size)
    exact ⟨h.below hb3, hb3, by simp; omega, none, 0, (hb2.block _ (by omega)).trans hc1, OwnR.nothing nodE _ _ _⟩
  case hseq =>
    intro l J Jx W hJI hY hJ0
    refine (order_any (I := J) (Ix := Jx) (fun pre W hj => (hJI pre W hj).1) (fun pre x W hj hnx => hY pre x W hj hnx) W hJ0).mono ?_
    rintro e W' ⟨hv, h1 | h1⟩
    · exact ⟨hv, .inl ⟨_, rfl, h1⟩⟩
    · exact ⟨hv, .inr h1⟩
  case assign =>
    intro l x W K hK
    refine region_round (by kernel_rfl) (then_in (fun ⟨_, _, h⟩ => h)) ?_
    go_wp2_with fail
    exact hK
  case body =>
    rintro l pre x W ⟨ht, hbw, hsz, A, c, hc, ho⟩ ⟨post, hpost⟩ hlt
    have hx : x ∈ L := (nodes_mem h.ok).1 (by rw [hpost]; simp)
    have hln : pre.length + 1 ≤ 4096 := by
      have h1 := nodes_len h.ok
      rw [hpost] at h1
      simp at h1
      omega
    obtain ⟨e0, e1, e2, e3, _⟩ := el_cells (ht.el x hx)
    have hle := lt_of_heap (ht.el x hx)
    have hgl := lt_of_heap hc
    have hcc : W.cell? ⟨w.heap.size, 0, none⟩ = some (.slice A pre.length c) := by simp [World.cell?, hc]
    obtain ⟨be, ebe⟩ : ∃ b, b = ad x.id := ⟨_, rfl⟩
    rw [← ebe] at e0 e1 e2 e3 hle
    obtain ⟨y, ey⟩ : ∃ y, y = nodeOf G x := ⟨_, rfl⟩
    obtain ⟨x1, ex1⟩ : ∃ q, q = x.id.1 := ⟨_, rfl⟩
    obtain ⟨x2, ex2⟩ : ∃ q, q = x.id.2 := ⟨_, rfl⟩
    obtain ⟨x3, ex3⟩ : ∃ q, q = x.rune := ⟨_, rfl⟩
    obtain ⟨x4, ex4⟩ : ∃ q, q = goneB G x.id := ⟨_, rfl⟩
    have HY := Lib.hid (show (#[.int .i64 x1, .int .i64 x2, .int .i32 x3, .bool x4] : Array Value).toList = nodE.enc y by rw [ey, ex1, ex2, ex3, ex4]; rfl)
    rw [← ex1] at e0
    rw [← ex2] at e1
    rw [← ex3] at e2
    rw [← ex4] at e3
    obtain ⟨n, en⟩ : ∃ n, n = pre.length := ⟨_, rfl⟩
    obtain ⟨g, eg⟩ : ∃ g, g = w.heap.size := ⟨_, rfl⟩
    rw [← en] at hcc hln
    rw [← eg] at hcc hgl
    have HS := Lib.hid (fun wz (hz : Below W.heap.size W wz) => show wz.cell? ⟨g, 0, none⟩ = some (.slice A n c) ∧ wz.cell? ⟨be, 0, none⟩ = some (.int .i64 x1) ∧ wz.cell? ⟨be, 1, none⟩ = some (.int .i64 x2) ∧ wz.cell? ⟨be, 2, none⟩ = some (.int .i32 x3) ∧ wz.cell? ⟨be, 3, none⟩ = some (.bool x4) from
      ⟨(hz.cell (p := ⟨g, 0, none⟩) hgl).trans hcc, (hz.cell (p := ⟨be, 0, none⟩) hle).trans e0, (hz.cell (p := ⟨be, 1, none⟩) hle).trans e1, (hz.cell (p := ⟨be, 2, none⟩) hle).trans e2, (hz.cell (p := ⟨be, 3, none⟩) hle).trans e3⟩)
    rw [← ebe, ← eg]
    have HB := Lib.hid (And.intro ht (And.intro hbw (And.intro hsz (And.intro hc (And.intro ho (And.intro en (And.intro eg (And.intro ey (And.intro hs1 (And.intro hin (And.intro ebe hlt)))))))))))
    have HLN := Lib.hid hln
    clear hpost hx hln e0 e1 e2 e3 hle hgl hcc ebe ey ex1 ex2 ex3 ex4 en eg ht hbw hsz hc ho h hin hb1 hs1 hc1 hl hlt
    refine wpIn_block ?_
    refine region_round_inv 6 [8, 9, 10, 11, 12, 13] [.val (.slice A n c), .val (.pointer (some ⟨be, 0, none⟩)), .val (.pointer (some ⟨be, 0, none⟩)), .val (.pointer (some ⟨be, 0, none⟩)), .val (.agg #[.int .i64 x1, .int .i64 x2, .int .i32 x3, .bool x4]), kRow nodE 1 [y]] (fun wz => Below W.heap.size W wz) (by kernel_rfl) (by kernel_rfl) (inBlock_in roundQ_in) (by kernel_rfl) (fun wz wz' hz hb => hz.trans (hb.mono hz.size)) ((Below.refl _ _).drew) (fun u => by simp only [puts, List.foldl_cons, List.foldl_nil]; go_simp; exact rfl) ?_ ?_
    · simp only [List.take_succ_cons, List.take_zero]
      refine Obs.cons (fun u w hS hd => ?_) ?_
      · exact Gv.run (.slice A n c) rfl (by obtain ⟨k0, k1, k2, k3, k4⟩ := HS.out w hS; go_simp) rfl
      refine Obs.cons (fun u w hS hd => ?_) ?_
      · exact Gv.run (.pointer (some ⟨be, 0, none⟩)) rfl (by go_simp) rfl
      refine Obs.cons (fun u w hS hd => ?_) ?_
      · have d9 : u 9 = .pointer (some ⟨be, 0, none⟩) := dep hd 1 rfl
        rw [d9]
        exact Gv.run (.pointer (some ⟨be, 0, none⟩)) rfl (by go_simp) rfl
      refine Obs.cons (fun u w hS hd => ?_) ?_
      · have d10 : u 10 = .pointer (some ⟨be, 0, none⟩) := dep hd 2 rfl
        rw [d10]
        exact Gv.run (.pointer (some ⟨be, 0, none⟩)) rfl (by go_simp) rfl
      refine Obs.cons (fun u w hS hd => ?_) ?_
      · have d11 : u 11 = .pointer (some ⟨be, 0, none⟩) := dep hd 3 rfl
        rw [d11]
        exact Gv.run (.agg #[.int .i64 x1, .int .i64 x2, .int .i32 x3, .bool x4]) rfl (by obtain ⟨k0, k1, k2, k3, k4⟩ := HS.out w hS; go_simp) rfl
      refine Obs.cons (fun u w hS hd => ?_) ?_
      · have d12 : u 12 = .agg #[.int .i64 x1, .int .i64 x2, .int .i32 x3, .bool x4] := dep hd 4 rfl
        rw [d12]
        refine Gv.make (.slice (some ⟨w.heap.size, 0, none⟩) 1 1) (w.alloc (.cells #[.int .i64 x1, .int .i64 x2, .int .i32 x3, .bool x4] 77)) rfl (by go_simp) ⟨_, _, rfl, ?_⟩ ((Below.refl _ w).alloc (Nat.le_refl _) _)
        exact (OwnR.lit (E := nodE) (w := w) 77 (Nat.le_refl _) #[.int .i64 x1, .int .i64 x2, .int .i32 x3, .bool x4] [y] (by simp [maxLen]) HY.out).rd
      exact Obs.nil
    intro u v3 hS hd
    have d8 : u 8 = .slice A n c := hd 0 (by decide)
    obtain ⟨A9, c9, d13, r9⟩ : (kRow nodE 1 [y]).ok (u 13) v3 := hd 5 (by decide)
    rw [d8, d13]
    simp only [List.drop_succ_cons, List.drop_zero]
    have hB := HB.out
    have HB3 := Lib.hid hS
    have HO := Lib.hid (hB.2.2.2.2.1.keep hS)
    have HR := Lib.hid r9
    have hbs : w.heap.size + 3 ≤ v3.heap.size := Nat.le_trans hB.2.2.1 hS.size
    have hfg : v3.heap[w.heap.size]? = some (.cells #[.slice A pre.length c] 47) := (hS.block _ (lt_of_heap hB.2.2.2.1)).trans hB.2.2.2.1
    have HF := Lib.hid (And.intro hfg hbs)
    have HEN := Lib.hid (show (pre.map (nodeOf G)).length = n by rw [List.length_map, hB.2.2.2.2.2.1])
    have HLB := Lib.hid (show (n + 1) * 24 ≤ 140737488355328 by have := HLN.out; omega)
    have HLC := Lib.hid (show n + 1 ≤ 140737488355328 by have := HLN.out; omega)
    clear hS hd d8 d13 r9 hB hbs hfg
    refine wpList_appR v3 rfl (.tmp 8) (.tmp 13) _ rfl (w.heap.size + 3) 77 i0 _ Try.underlying47 hi0 hz0 hz1 hz2 rfl HEN.out rfl HO.out (M := [y]) rfl rfl HR.out HLC.out HLB.out HF.out.2 ?_
    intro A8 c8 w8 o8 hb8 hg8
    have hB := HB.out
    have hfg := (hb8.block _ (show w.heap.size < w.heap.size + 3 by omega)).trans HF.out.1
    have kc : w8.cell? ⟨g, 0, none⟩ = some (.slice A pre.length c) := by rw [hB.2.2.2.2.2.2.1]; simp [World.cell?, hfg]
    have kf : w8.frozen? ⟨g, 0, none⟩ = false := by rw [hB.2.2.2.2.2.2.1]; exact cells_free hfg 0
    have H8 := Lib.hid (And.intro o8 (And.intro hb8 hfg))
    clear o8 hb8 hg8 hfg hB
    go_wp2_with fail
    have hB := HB.out
    have h8 := H8.out
    have hb38 : Below w.heap.size W w8 := (HB3.out.mono (by have := hB.2.1.size; omega)).trans (h8.2.1.mono (by omega))
    have hg : g = w.heap.size := hB.2.2.2.2.2.2.1
    have hD : ∀ k, k < w.heap.size + 3 → k ≠ g → (w8.setCell ⟨g, 0, none⟩ (.slice A8 (n + 1) c8)).heap[k]? = W.heap[k]? := fun k h1 h2 => by
      rw [set_other _ _ h2, h8.2.1.block k h1, HB3.out.block k (by have := hB.2.2.1; omega)]
    refine ⟨⟨?_, ?_⟩, hB.1.keep (fun k hk => ?_), ?_, ?_, A8, c8, ?_, ?_⟩
    · have := hB.2.2.2.2.2.2.2.2.1
      exact hD _ (by omega) (by omega)
    · have := hB.2.2.2.2.2.2.2.2.1
      exact hD _ (by omega) (by omega)
    · have := hB.2.2.2.2.2.2.2.2.2.1 k hk
      exact hD k (by omega) (by omega)
    · exact hB.2.1.trans (hb38.setCell (p := ⟨g, 0, none⟩) (by show w.heap.size ≤ g; omega) _)
    · rw [set_size]
      have := h8.2.1.size
      have := HF.out.2
      omega
    · have := set_block h8.2.2 0 (.slice A8 (n + 1) c8)
      rw [hg, this, List.length_append, List.length_singleton, ← hB.2.2.2.2.2.1]
      rfl
    · have h5 := h8.1
      rw [hB.2.2.2.2.2.2.2.1] at h5
      rw [List.map_append, List.map_singleton]
      exact h5.keep0 fun ad' ha => set_other _ _ (by have := (h5.blk ad' ha).1; omega)
  case done =>
    rintro xs W rfl ⟨ht, hbw, hsz, A, c, hc, ho⟩ hK
    rw [hs1] at hK
    have kc : W.cell? ⟨w.heap.size, 0, none⟩ = some (.slice A (nodesL L).length c) := by simp [World.cell?, hc]
    rw [hs1]
    have HB := Lib.hid (And.intro hbw (And.intro ho hsz))
    clear ht hbw hsz ho hc h hin hb1 hc1 hl
    have HK := Lib.hid hK
    clear hK
    go_wp2_with fail
    refine ⟨by simp, .inl ⟨_, _, rfl, run_takeDeferred HK.out, ?_⟩⟩
    have ho := HB.out.2.1
    have htw : Twin (w.heap.size + 1) W (W.putObj (w.heap.size + 1) (.deferred none)) := Twin.put W _ (.inl rfl) rfl
    have ho2 := ho.twin htw (by omega)
    exact ⟨_, results_tmp rfl _ _ _, A, c, rfl, ho2.rd, fun ad' ha => by have := (ho2.blk ad' ha).1; omega, HB.out.1.trans (htw.below (by omega))⟩
theorem nodes_nil (w : World) : Calls Try.prog 34 #[.pointer none] w fun e w' => e = .returned (.slice none 0 0) ∧ Below w.heap.size w w' := by
  refine (callsIn_wide (n := 4)).1 (callsIn_of_wp_marks Try.func34 rfl trivial ?_)
  refine wpIn_wide.2 ?_
  simp only [Try.ntmps34, List.size_toArray, List.length_cons, List.length_nil, Nat.reduceAdd, Nat.reduceSub, Array.replicate_succ, Array.replicate_zero, List.push_toArray, List.append_toArray, List.nil_append, List.cons_append]
  obtain ⟨v1, ev⟩ : ∃ v, v = w.alloc (.cells #[.slice none 0 0] 47) := ⟨_, rfl⟩
  have hb1 : Below w.heap.size w v1 := by rw [ev]; exact (Below.refl _ _).alloc (Nat.le_refl _) _
  have hs1 : v1.heap.size = w.heap.size + 1 := by rw [ev]; simp
  have hc1 : v1.cell? ⟨w.heap.size, 0, none⟩ = some (.slice none 0 0) := by rw [ev]; simp
  have HH := Lib.hid (And.intro hb1 (And.intro hs1 hc1))
  have HV := Lib.hid ev
  clear hb1 hs1 hc1 ev
  go_wp2_with fail
  rw [← HV.out]
  obtain ⟨hb1, hs1, hc1⟩ := HH.out
  refine wp_range_bound (gf := 51) (p := .pointer none) rfl (enters_of Try.func51 (by kernel_rfl) rfl) (fun _ : Unit => #[.pointer none]) (fun _ => rfl) (fun xs => xs = []) (fun _ _ => False)
    (fun _ W => Below w.heap.size w W ∧ W.cell? ⟨w.heap.size, 0, none⟩ = some (.slice none 0 0)) (fun _ _ => False) ?hI (fun _ _ _ h _ => h) ?h0 (fun _ => { tmps := #[.pointer none, undef, .slice none 0 0, .pointer (some ⟨w.heap.size, 0, none⟩), .pointer none, .pointer none, .func (.func 51) #[.pointer none] #[], .pointer none, undef, undef, undef, undef, undef, undef, undef, undef], defers := [] }) ?hseq ?assign (fun _ _ _ _ _ h _ => h.elim) ?done (fun _ _ h _ => h.elim)
  case hI =>
    rintro pre W W' ⟨h1, h2⟩ ht
    rw [hs1] at ht
    exact ⟨h1.trans (ht.below (by omega)), (World.cell?_of_block (ht.block w.heap.size (by omega) (by omega))).trans h2⟩
  case h0 =>
    intro o1 o2 _ _
    have hb2 : Below v1.heap.size v1 ((v1.alloc o1).alloc o2) := ((Below.refl _ _).alloc (Nat.le_refl _) _).alloc (by simp) _
    exact ⟨hb1.trans (hb2.mono hb1.size), (hb2.cell (p := ⟨w.heap.size, 0, none⟩) (by show w.heap.size < _; omega)).trans hc1⟩
  case hseq =>
    intro l J Jx W hJI hY hJ0
    refine (order_nil _ W).mono ?_
    rintro e W' ⟨hv, rfl⟩
    exact ⟨hv, .inl ⟨[], rfl, hJ0⟩⟩
  case assign =>
    intro l x W K hK
    refine region_round (by kernel_rfl) (then_in (fun ⟨_, _, h⟩ => h)) ?_
    go_wp2_with fail
    exact hK
  case done =>
    rintro xs W rfl ⟨hbw, hc⟩ hK
    rw [hs1] at hK
    rw [hs1]
    have HB := Lib.hid (And.intro hbw hK)
    clear hbw hK hb1 hc1
    go_wp2_with fail
    refine ⟨by simp, .inl ⟨_, _, rfl, run_takeDeferred HB.out.2, ?_⟩⟩
    exact ⟨_, results_tmp rfl _ _ _, rfl, HB.out.1.trans ((Twin.put W _ (.inl rfl) rfl).below (by omega))⟩
end Go.Proofs.Ytpjeggbkhbghaaa
namespace Go.Proofs.Ytpjeggbkhbghaaa
open Go Go.RowKit
set_option maxRecDepth 20000
/-- The runes of some elements as bytes. -/
def encB (N : List Nod) : List UInt8 := N.flatMap fun y => Lib.encodeRune y.rune
theorem encB_snoc (N : List Nod) (y : Nod) : encB (N ++ [y]) = encB N ++ Lib.encodeRune y.rune := by unfold encB; rw [List.flatMap_append, List.flatMap_singleton]
theorem enc_len (r : Int) : (Lib.encodeRune r).length ≤ 4 := by
  have h1 : (Lib.byteCells (Lib.encodeRune r)).length = (Lib.runeCells r).length := by rw [Lib.byteCells_encodeRune]
  rw [Lib.byteCells_length] at h1
  have := Lib.runeCells_le r
  omega
theorem encB_len : ∀ N : List Nod, (encB N).length ≤ 4 * N.length
  | [] => Nat.le_refl _
  | y :: N => by
    have h1 := encB_len N
    have h2 := enc_len y.rune
    have e : encB (y :: N) = Lib.encodeRune y.rune ++ encB N := by unfold encB; rw [List.flatMap_cons]
    rw [e, List.length_append, List.length_cons]
    omega
theorem u8_nat (n : Nat) (a : Nat) : (((a : Nat) : Int) + ((n : Nat) : Int)).toNat.toUInt8 = UInt8.ofNat (a + n) := by
  rw [← Int.natCast_add]
  rfl
/-- A rune that may be, as bytes: the model's, and the library's. -/
theorem enc_eq {x : Ins} (h : (lowOk x || highOk x) = true) : Utf8.encode x.rune = ⟨(Lib.encodeRune x.rune).toArray⟩ := by
  have hv : (0 ≤ x.rune ∧ x.rune < 55296) ∨ (57343 < x.rune ∧ x.rune ≤ 1114111) := by
    unfold lowOk highOk at h
    simp only [Bool.or_eq_true, Bool.and_eq_true, decide_eq_true_eq] at h
    exact h
  obtain ⟨c, hc⟩ : ∃ c : Nat, x.rune = (c : Int) := ⟨x.rune.toNat, by omega⟩
  rw [hc] at hv ⊢
  have hval : Utf8.valid (c : Int) = true := by
    unfold Utf8.valid
    simp
    omega
  unfold Utf8.encode
  simp only [hval, if_true, Int.toNat_natCast]
  by_cases h1 : c < 128
  · rw [if_pos h1]
    unfold Lib.encodeRune
    rw [Lib.encodeRuneZ_one (by omega) (by omega)]
    rfl
  · rw [if_neg h1]
    by_cases h2 : c < 2048
    · rw [if_pos h2]
      unfold Lib.encodeRune
      rw [Lib.encodeRuneZ_two (by omega) (by omega)]
      simp only [List.map_cons, List.map_nil]
      rw [show ((192 : Int) + (c : Int) / 64) = ((192 : Nat) : Int) + ((c / 64 : Nat) : Int) by omega, show ((128 : Int) + (c : Int) % 64) = ((128 : Nat) : Int) + ((c % 64 : Nat) : Int) by omega, u8_nat, u8_nat]
    · rw [if_neg h2]
      by_cases h3 : c < 65536
      · rw [if_pos h3]
        unfold Lib.encodeRune
        rw [Lib.encodeRuneZ_three (by omega)]
        simp only [List.map_cons, List.map_nil]
        rw [show ((224 : Int) + (c : Int) / 4096) = ((224 : Nat) : Int) + ((c / 4096 : Nat) : Int) by omega, show ((128 : Int) + (c : Int) / 64 % 64) = ((128 : Nat) : Int) + ((c / 64 % 64 : Nat) : Int) by omega, show ((128 : Int) + (c : Int) % 64) = ((128 : Nat) : Int) + ((c % 64 : Nat) : Int) by omega, u8_nat, u8_nat, u8_nat]
      · rw [if_neg h3]
        unfold Lib.encodeRune
        rw [Lib.encodeRuneZ_four (by omega) (by omega)]
        simp only [List.map_cons, List.map_nil]
        rw [show ((240 : Int) + (c : Int) / 262144) = ((240 : Nat) : Int) + ((c / 262144 : Nat) : Int) by omega, show ((128 : Int) + (c : Int) / 4096 % 64) = ((128 : Nat) : Int) + ((c / 4096 % 64 : Nat) : Int) by omega, show ((128 : Int) + (c : Int) / 64 % 64) = ((128 : Nat) : Int) + ((c / 64 % 64 : Nat) : Int) by omega, show ((128 : Int) + (c : Int) % 64) = ((128 : Nat) : Int) + ((c % 64 : Nat) : Int) by omega, u8_nat, u8_nat, u8_nat, u8_nat]
theorem right_rune {x : Ins} (h : rightB x = true) : (lowOk x || highOk x) = true ∧ 0 ≤ x.rune ∧ x.rune ≤ 1114111 := by
  unfold rightB at h
  simp only [Bool.and_eq_true] at h
  have h2 := h.2.1
  refine ⟨h2, ?_⟩
  unfold lowOk highOk at h2
  simp only [Bool.or_eq_true, Bool.and_eq_true, decide_eq_true_eq] at h2
  omega
theorem text_enc {G : List IDt} : ∀ {N : List Ins}, (∀ x ∈ N, rightB x = true) → textN (N.map (nodeOf G)) = ⟨(encB (N.map (nodeOf G))).toArray⟩ := by
  intro N
  induction h : N.length generalizing N with
  | zero =>
    intro _
    rw [List.length_eq_zero_iff.1 h]
    rfl
  | succ n ih =>
    intro hr
    have hne : N ≠ [] := by rintro rfl; simp at h
    obtain ⟨M, x, rfl⟩ : ∃ M x, N = M ++ [x] := ⟨N.dropLast, N.getLast hne, (List.dropLast_concat_getLast hne).symm⟩
    rw [List.map_append, List.map_singleton, textN_snoc, encB_snoc, ih (by simp at h; exact h) (fun y hy => hr y (List.mem_append.2 (.inl hy)))]
    have hx := hr x (by simp)
    have : (nodeOf G x).rune = x.rune := rfl
    rw [this, enc_eq (right_rune hx).1]
    apply ByteArray.ext
    simp
/-- No cells lie there. -/
def NoC (D : Nat) (w : World) : Prop := ∀ k o, (k = D ∨ k = D + 1) → w.heap[k]? = some o → isC o = false
theorem NoC.twin {D : Nat} {w w' : World} (h : NoC D w) (ht : Twin D w w') : NoC D w' := fun k o hk ho => by
  rcases ht.kind k o hk ho with h1 | h1
  · exact h k o hk h1
  · exact h1
theorem NoC.same {D : Nat} {w w' : World} (h : NoC D w) (h1 : w'.heap[D]? = w.heap[D]?) (h2 : w'.heap[D + 1]? = w.heap[D + 1]?) : NoC D w' := fun k o hk ho => by
  rcases hk with rfl | rfl
  · exact h _ o (.inl rfl) (h1 ▸ ho)
  · exact h _ o (.inr rfl) (h2 ▸ ho)
theorem bld_twin {w w' : World} {B b D : Nat} {bs : List Value} (h : BldF w B b bs) (hn : NoC D w) (ht : Twin D w w') : BldF w' B b bs := by
  have step : ∀ p, Lib.BuilderAtF 102 5 B b p bs w → Lib.BuilderAtF 102 5 B b p bs w' := by
    rintro p ⟨hB, v, hb, hown, hne⟩
    have hblk : ∀ (k : Nat) cs e fz, w.heap[k]? = some (Obj.cells cs e fz) → w'.heap[k]? = some (Obj.cells cs e fz) := fun k cs e fz hk => by
      refine (ht.block k (fun e => ?_) (fun e => ?_)).trans hk
      · have := hn k _ (.inl e) hk
        cases this
      · have := hn k _ (.inr e) hk
        cases this
    refine ⟨hB, v, hblk _ _ _ _ hb, ⟨hown.1, ?_⟩, hne⟩
    rcases hown.2 with h1 | ⟨g, cap, cur, fz, h1, h2, h3, h4⟩
    · exact .inl h1
    · exact .inr ⟨g, cap, cur, fz, h1, h2, hblk _ _ _ _ h3, h4⟩
  rcases h with h | h
  · exact .inl (step _ h)
  · exact .inr (step _ h)
theorem TreeH.kept {w w' : World} {T M : Nat} {ad : IDt → Nat} {L : List Ins} {G : List IDt} (h : TreeH w T M ad L G) {b : Nat} (hb : ∀ k, inT T M ad L k → k ≠ b) (hk : Lib.OthersKept 5 (some b) w w') : TreeH w' T M ad L G := by
  have key : ∀ k o, inT T M ad L k → w.heap[k]? = some o → (∀ c fz, o ≠ .cells c 5 fz) → w'.heap[k]? = w.heap[k]? := fun k o hi ho hn => by
    rw [ho]
    exact hk k o ho (fun e => hb k hi (Option.some.inj e)) hn
  refine h.keep fun k hi => ?_
  rcases hi with e | e | e | ⟨x, hx, e⟩
  · rw [e]; exact key T _ (.inl rfl) h.tree (fun c fz e => by cases e)
  · obtain ⟨ps, clk, hm, _⟩ := h.map
    rw [e]; exact key M _ (.inr (.inl rfl)) hm.here (fun c fz e => by cases e)
  · rw [e]; exact key _ _ (.inr (.inr (.inl rfl))) h.root (fun c fz e => by cases e)
  · rw [e]; exact key _ _ (.inr (.inr (.inr ⟨x, hx, rfl⟩))) (h.el x hx) (fun c fz e => by cases e)
/-- Between two rounds of Text. -/
def TxtI (w0 : World) (T M : Nat) (ad : IDt → Nat) (L : List Ins) (G : List IDt) (pre : List Ins) (W : World) : Prop :=
  TreeH W T M ad L G ∧ Below w0.heap.size w0 W ∧ w0.heap.size + 3 ≤ W.heap.size ∧ NoC (w0.heap.size + 1) W ∧ BldF W w0.heap.size w0.heap.size (Lib.byteCells (encB ((liveL G pre).map (nodeOf G))))
set_option maxHeartbeats 3200000 in
theorem text_any {w : World} {T M : Nat} {ad : IDt → Nat} {L : List Ins} {G : List IDt} (h : TreeH w T M ad L G) (hl : L.length ≤ 4096) (hr : ∀ x ∈ L, rightB x = true) :
    Calls Try.prog 29 #[pB T] w fun e w' => e = .returned (.string (textN ((liveL G (nodesL L)).map (nodeOf G)))) ∧ Below w.heap.size w w' := by
  refine (callsIn_wide (n := 4)).1 (callsIn_of_wp_marks Try.func29 rfl trivial ?_)
  refine wpIn_wide.2 ?_
  simp only [Try.ntmps29, List.size_toArray, List.length_cons, List.length_nil, Nat.reduceAdd, Nat.reduceSub, Array.replicate_succ, Array.replicate_zero, List.push_toArray, List.append_toArray, List.nil_append, List.cons_append]
  have hin : ∀ k, inT T M ad L k → k < w.heap.size := fun k hk => h.lt hk
  obtain ⟨v1, ev⟩ : ∃ v, v = w.alloc (.cells #[.pointer none, .slice none 0 0] 102) := ⟨_, rfl⟩
  have hb1 : Below w.heap.size w v1 := by rw [ev]; exact (Below.refl _ _).alloc (Nat.le_refl _) _
  have hs1 : v1.heap.size = w.heap.size + 1 := by rw [ev]; simp
  have hc1 : v1.heap[w.heap.size]? = some (.cells #[.pointer none, .slice none 0 0] 102) := by rw [ev]; exact (MapKept.heap_alloc w _).1
  have HH := Lib.hid (And.intro h (And.intro hin (And.intro hb1 (And.intro hs1 (And.intro hc1 (And.intro hl hr))))))
  have HV := Lib.hid ev
  clear h hin hb1 hs1 hc1 hl hr ev
  go_wp2_with fail
  rw [← HV.out]
  obtain ⟨h, hin, hb1, hs1, hc1, hl, hr⟩ := HH.out
  refine wp_range_bound (gf := 51) (p := pB T) rfl (enters_of Try.func51 (by kernel_rfl) rfl) (fun x : Ins => #[pB (ad x.id)]) (fun _ => rfl) (fun xs => xs = nodesL L) (fun pre x => ∃ post, nodesL L = pre ++ x :: post)
    (TxtI w T M ad L G) (fun _ _ => False) ?hI (fun _ _ _ h _ => h) ?h0 (fun x => { tmps := #[pB T, undef, .string ⟨#[]⟩, .pointer (some ⟨w.heap.size, 0, none⟩), pB (ad x.id), pB T, .func (.func 51) #[pB T] #[], pB (ad x.id), undef, undef, undef, undef, undef, undef, undef, undef, undef, undef, undef, undef, undef], defers := [] }) ?hseq ?assign ?body ?done (fun _ _ h _ => h.elim)
  case hI =>
    rintro pre W W' ⟨h1, h2, h3, h4, h5⟩ ht
    rw [hs1] at ht
    exact ⟨h1.twin ht (fun k hk => by have := hin k hk; omega), h2.trans (ht.below (by omega)), by rw [ht.size]; exact h3, h4.twin ht, bld_twin h5 h4 ht⟩
  case h0 =>
    intro o1 o2 ho1 ho2
    have hb2 : Below v1.heap.size v1 ((v1.alloc o1).alloc o2) := ((Below.refl _ _).alloc (Nat.le_refl _) _).alloc (by simp) _
    have hb3 := hb1.trans (hb2.mono hb1.size)
    have d0 : ((v1.alloc o1).alloc o2).heap[w.heap.size + 1]? = some o1 := by
      rw [(MapKept.heap_alloc (v1.alloc o1) o2).2 _ (by simp; omega), ← hs1]
      exact (MapKept.heap_alloc v1 o1).1
    have d1 : ((v1.alloc o1).alloc o2).heap[w.heap.size + 1 + 1]? = some o2 := by
      have := (MapKept.heap_alloc (v1.alloc o1) o2).1
      rwa [show (v1.alloc o1).heap.size = w.heap.size + 1 + 1 by simp; omega] at this
    refine ⟨h.below hb3, hb3, by simp; omega, ?_, .inl ⟨Nat.le_refl _, .slice none 0 0, (hb2.block _ (by omega)).trans hc1, ⟨rfl, .inl ⟨rfl, rfl⟩⟩, by simp [Value.ownBlock]⟩⟩
    rintro k o (rfl | rfl) ho
    · rw [d0] at ho
      rw [← Option.some.inj ho]
      exact ho1
    · rw [d1] at ho
      rw [← Option.some.inj ho]
      exact ho2
  case hseq =>
    intro l J Jx W hJI hY hJ0
    refine (order_any (I := J) (Ix := Jx) (fun pre W hj => (hJI pre W hj).1) (fun pre x W hj hnx => hY pre x W hj hnx) W hJ0).mono ?_
    rintro e W' ⟨hv, h1 | h1⟩
    · exact ⟨hv, .inl ⟨_, rfl, h1⟩⟩
    · exact ⟨hv, .inr h1⟩
  case assign =>
    intro l x W K hK
    refine region_round (by kernel_rfl) (then_in (fun ⟨_, _, h⟩ => h)) ?_
    go_wp2_with fail
    exact hK
  case body =>
    rintro l pre x W ⟨ht, hbw, hsz, hno, hbl⟩ ⟨post, hpost⟩ hlt
    have hx : x ∈ L := (nodes_mem h.ok).1 (by rw [hpost]; simp)
    have hln : (liveL G pre).length + 1 ≤ 4096 := by
      have h1 := nodes_len h.ok
      rw [hpost] at h1
      simp at h1
      have h2 : (liveL G pre).length ≤ pre.length := List.length_filter_le _ _
      omega
    obtain ⟨e0, e1, e2, e3, _⟩ := el_cells (ht.el x hx)
    have hrr := right_rune (hr x hx)
    obtain ⟨be, ebe⟩ : ∃ b, b = ad x.id := ⟨_, rfl⟩
    rw [← ebe] at e0 e1 e2 e3
    obtain ⟨g, eg⟩ : ∃ g, g = w.heap.size := ⟨_, rfl⟩
    rw [← ebe, ← eg]
    obtain ⟨r, er⟩ : ∃ r, r = x.rune := ⟨_, rfl⟩
    rw [← er] at e2 hrr
    have hlive : liveL G (pre ++ [x]) = if goneB G x.id = true then liveL G pre else liveL G pre ++ [x] := by
      rw [live_app]
      by_cases hg : goneB G x.id = true
      · rw [if_pos hg, live_off (by rw [goneB_eq] at hg; exact of_decide_eq_true hg)]
        exact List.append_nil _
      · rw [if_neg hg, live_on (by rw [goneB_eq] at hg; exact fun h => hg (decide_eq_true h))]
        rfl
    obtain ⟨gn, egn⟩ : ∃ q, q = goneB G x.id := ⟨_, rfl⟩
    rw [← egn] at e3 hlive
    have HB := Lib.hid (And.intro ht (And.intro hbw (And.intro hsz (And.intro hno (And.intro hbl (And.intro eg (And.intro hlive (And.intro hs1 (And.intro hin (And.intro er hlt))))))))))
    have HLN := Lib.hid (And.intro hln hrr)
    clear hpost hx hln hrr ebe er eg egn ht hbw hsz hno hbl hlive h hin hb1 hs1 hc1 hl hlt e0 e1 hr
    refine wpIn_block (wpIn_seq ?_)
    refine region_round (by kernel_rfl) (then_in (inBlock_in roundQ_in)) ?_
    cases gn with
    | true =>
      clear e2
      go_wp2_with fail
      refine wpIn_cond_false rfl (wpIn_skip ?_)
      have hB := HB.out
      refine ⟨⟨rfl, rfl⟩, hB.1, hB.2.1, hB.2.2.1, hB.2.2.2.1, ?_⟩
      rw [hB.2.2.2.2.2.2.1, if_pos (by trivial)]
      exact hB.2.2.2.2.1
    | false =>
      go_wp2_with fail
      clear e3
      refine wpIn_cond_true rfl ?_
      refine region_round (by kernel_rfl) (inBlock_in roundQ_in) ?_
      have hB := HB.out
      have hlen : (Lib.byteCells (encB ((liveL G pre).map (nodeOf G)))).length + 4 ≤ 140737488355328 := by
        rw [Lib.byteCells_length]
        have := encB_len ((liveL G pre).map (nodeOf G))
        rw [List.length_map] at this
        have := HLN.out.1
        omega
      have KW := write_rune r (by have := HLN.out.2; omega) (by have := HLN.out.2; omega) hB.2.2.2.2.1 hlen (by have := hB.2.1.size; omega)
      rw [← hB.2.2.2.2.2.1] at KW
      have KW := Lib.hid KW
      clear hB hlen
      go_wp2_with (go_at_call 52; refine KW.out.mono ?_; rintro e W' ⟨⟨v, rfl⟩, h1, h2, h3⟩; have H1 := Lib.hid (And.intro h1 (And.intro h2 h3)); clear h1 h2 h3)
      have hB := HB.out
      have h1 := H1.out
      have hg : g = w.heap.size := hB.2.2.2.2.2.1
      rw [hg] at h1
      have hsame : ∀ k, (k = w.heap.size + 1 ∨ k = w.heap.size + 1 + 1) → W'.heap[k]? = W.heap[k]? := fun k hk => by
        have hlt : k < W.heap.size := by have := hB.2.2.1; omega
        obtain ⟨o, ho⟩ : ∃ o, W.heap[k]? = some o := ⟨W.heap[k], Array.getElem?_eq_getElem hlt⟩
        rw [ho]
        refine h1.2.2 k o ho (fun e => by have := Option.some.inj e; omega) (fun c fz e => ?_)
        have := hB.2.2.2.1 k o hk ho
        rw [e] at this
        cases this
      have hs := hB.2.2.2.2.2.2.2.1
      refine ⟨⟨?_, ?_⟩, hB.1.kept (fun k hk => by have := hB.2.2.2.2.2.2.2.2.1 k hk; omega) h1.2.2, hB.2.1.trans h1.2.1, ?_, hB.2.2.2.1.same (hsame _ (.inl rfl)) (hsame _ (.inr rfl)), ?_⟩
      · rw [hs]; exact hsame _ (.inl rfl)
      · rw [hs]; exact hsame _ (.inr rfl)
      · exact Nat.le_trans hB.2.2.1 h1.2.1.size
      · rw [hB.2.2.2.2.2.2.1, if_neg (by simp), List.map_append, List.map_singleton, encB_snoc, Lib.byteCells_append, Lib.byteCells_encodeRune]
        have := h1.1
        rw [hB.2.2.2.2.2.2.2.2.2.1] at this
        exact this
  case done =>
    rintro xs W rfl ⟨ht, hbw, hsz, hno, hbl⟩ hK
    rw [hs1] at hK
    rw [hs1]
    have KS := Lib.hid (builder_string w.heap.size w.heap.size (encB ((liveL G (nodesL L)).map (nodeOf G))) W hbl hbw.size)
    have HB := Lib.hid (And.intro hbw (And.intro hno hK))
    have HE := Lib.hid (text_enc (G := G) (N := liveL G (nodesL L)) (fun x hx => hr x ((nodes_mem h.ok).1 (List.mem_filter.1 hx).1)))
    clear ht hbw hsz hno hbl h hin hb1 hs1 hc1 hl hK hr
    go_wp2_with (go_at_call 53; refine KS.out.mono ?_; rintro e W' ⟨rfl, h1, h2, h3⟩; have H1 := Lib.hid (And.intro h1 (And.intro h2 h3)); clear h1 h2 h3)
    have hB := HB.out
    have h1 := H1.out
    have hK : W'.heap[w.heap.size + 1]? = some (.deferred (some [])) := h1.2.2 _ _ hB.2.2 (fun e => by have := Option.some.inj e; omega) (fun c fz e => by cases e)
    refine ⟨by simp, .inl ⟨_, _, rfl, run_takeDeferred hK, ?_⟩⟩
    exact ⟨_, results_tmp rfl _ _ _, by rw [HE.out]; rfl, (hB.1.trans h1.2.1).trans ((Twin.put W' _ (.inl rfl) rfl).below (by omega))⟩
end Go.Proofs.Ytpjeggbkhbghaaa
namespace Go.Proofs.Ytpjeggbkhbghaaa
open Go Go.RowKit
set_option maxRecDepth 20000
/-- The last one that is not dropped; else the beginning. -/
def lastL (G : List IDt) (pre : List Ins) : IDt := (((liveL G pre).getLast?).map Ins.id).getD (0, 0)
/-- The shortest beginning with so many that are not dropped. -/
def Least (G : List IDt) (n : Nat) (pre : List Ins) : Prop := (liveL G pre).length = n ∧ (pre = [] ∨ ∃ p y, pre = p ++ [y] ∧ y.id ∉ G)
theorem live_snoc (G : List IDt) (pre : List Ins) (x : Ins) : liveL G (pre ++ [x]) = if goneB G x.id = true then liveL G pre else liveL G pre ++ [x] := by
  rw [live_app]
  by_cases hg : goneB G x.id = true
  · rw [if_pos hg, live_off (by rw [goneB_eq] at hg; exact of_decide_eq_true hg)]
    exact List.append_nil _
  · rw [if_neg hg, live_on (by rw [goneB_eq] at hg; exact fun h => hg (decide_eq_true h))]
    rfl
theorem ptr_res2 {fn : Func} {p q : Tmp} (h : fn.results = #[.cell p 104, .cell q 104]) (tmps : Array Value) {w : World} {g1 g2 : Nat} {a b : Option Addr} (c1 : w.cell? ⟨g1, 0, none⟩ = some (.pointer a)) (c2 : w.cell? ⟨g2, 0, none⟩ = some (.pointer b)) (hp : tmps.getD p undef = .pointer (some ⟨g1, 0, none⟩)) (hq : tmps.getD q undef = .pointer (some ⟨g2, 0, none⟩)) :
    (results fn tmps).run Try.prog w = .ok (.tuple #[.pointer a, .pointer b]) w := by
  have hp' : tmps[p]?.getD undef = .pointer (some ⟨g1, 0, none⟩) := by simpa using hp
  have hq' : tmps[q]?.getD undef = .pointer (some ⟨g2, 0, none⟩) := by simpa using hq
  simp only [results, h]
  simp [Result.andThen, hp', hq', asAddr, go_sem, c1, c2]
theorem three_alloc (w : World) (a b c : Obj) : (((w.alloc a).alloc b).alloc c).heap[w.heap.size]? = some a ∧ (((w.alloc a).alloc b).alloc c).heap[w.heap.size + 1]? = some b ∧ (((w.alloc a).alloc b).alloc c).heap[w.heap.size + 1 + 1]? = some c := by
  have s1 : (w.alloc a).heap.size = w.heap.size + 1 := by simp
  have s2 : ((w.alloc a).alloc b).heap.size = w.heap.size + 1 + 1 := by simp
  refine ⟨?_, ?_, ?_⟩
  · rw [(MapKept.heap_alloc _ c).2 _ (by omega), (MapKept.heap_alloc _ b).2 _ (by omega)]
    exact (MapKept.heap_alloc w a).1
  · rw [(MapKept.heap_alloc _ c).2 _ (by omega), ← s1]
    exact (MapKept.heap_alloc (w.alloc a) b).1
  · rw [← s2]
    exact (MapKept.heap_alloc ((w.alloc a).alloc b) c).1
/-- Between two rounds of beside. -/
structure BesI (w0 : World) (T M : Nat) (ad : IDt → Nat) (L : List Ins) (G : List IDt) (n : Nat) (pre : List Ins) (W : World) : Prop where
  tree : TreeH W T M ad L G
  below : Below w0.heap.size w0 W
  size : w0.heap.size + 5 ≤ W.heap.size
  le : (liveL G pre).length ≤ n
  least : (liveL G pre).length = n → Least G n pre
  cn : W.heap[w0.heap.size]? = some (.cells #[.int .i64 ((n - (liveL G pre).length : Nat) : Int)] 3)
  ca : W.heap[w0.heap.size + 1]? = some (.cells #[pB (ad (lastL G pre))] 104)
  cb : W.heap[w0.heap.size + 1 + 1]? = some (.cells #[.pointer none] 104)
/-- .. where it has returned. -/
structure BesX (w0 : World) (ad : IDt → Nat) (L : List Ins) (G : List IDt) (n : Nat) (pre' : List Ins) (W : World) : Prop where
  below : Below w0.heap.size w0 W
  size : w0.heap.size + 5 ≤ W.heap.size
  all : ∃ pre e post, pre' = pre ++ [e] ∧ nodesL L = pre ++ e :: post ∧ Least G n pre ∧ W.heap[w0.heap.size + 1]? = some (.cells #[pB (ad (lastL G pre))] 104) ∧ W.heap[w0.heap.size + 1 + 1]? = some (.cells #[pB (ad e.id)] 104)
set_option maxHeartbeats 3200000 in
theorem beside_any {w : World} {T M : Nat} {ad : IDt → Nat} {L : List Ins} {G : List IDt} (h : TreeH w T M ad L G) (hl : L.length ≤ 4096) {n : Nat} (hn : n ≤ (liveL G (nodesL L)).length) :
    Calls Try.prog 54 #[pB T, .int .i64 (n : Int)] w fun e w' => ∃ pre post, nodesL L = pre ++ post ∧ Least G n pre ∧ e = .returned (.tuple #[pB (ad (lastL G pre)), ptO ad post.head?]) ∧ Below w.heap.size w w' := by
  refine (callsIn_wide (n := 4)).1 (callsIn_of_wp_marks Try.func54 rfl trivial ?_)
  refine wpIn_wide.2 ?_
  simp only [Try.ntmps54, List.size_toArray, List.length_cons, List.length_nil, Nat.reduceAdd, Nat.reduceSub, Array.replicate_succ, Array.replicate_zero, List.push_toArray, List.append_toArray, List.nil_append, List.cons_append]
  have hin : ∀ k, inT T M ad L k → k < w.heap.size := fun k hk => h.lt hk
  have hn4 : n ≤ 4096 := Nat.le_trans hn (Nat.le_trans (List.length_filter_le _ _) (Nat.le_trans (nodes_len h.ok) hl))
  obtain ⟨v0, ev0⟩ : ∃ v, v = ((w.alloc (.cells #[.int .i64 (n : Int)] 3)).alloc (.cells #[.pointer none] 104)).alloc (.cells #[.pointer none] 104) := ⟨_, rfl⟩
  have hb0 : Below w.heap.size w v0 := by rw [ev0]; exact (((Below.refl _ _).alloc (Nat.le_refl _) _).alloc (by simp) _).alloc (by simp; omega) _
  have KB := Lib.hid (beginning_any (h.below hb0))
  obtain ⟨v1, ev⟩ : ∃ v, v = ((w.alloc (.cells #[.int .i64 (n : Int)] 3)).alloc (.cells #[pB (ad (0, 0))] 104)).alloc (.cells #[.pointer none] 104) := ⟨_, rfl⟩
  have hb1 : Below w.heap.size w v1 := by rw [ev]; exact (((Below.refl _ _).alloc (Nat.le_refl _) _).alloc (by simp) _).alloc (by simp; omega) _
  have hs1 : v1.heap.size = w.heap.size + 3 := by rw [ev]; simp
  have hc1 : v1.heap[w.heap.size]? = some (.cells #[.int .i64 (n : Int)] 3) ∧ v1.heap[w.heap.size + 1]? = some (.cells #[pB (ad (0, 0))] 104) ∧ v1.heap[w.heap.size + 1 + 1]? = some (.cells #[.pointer none] 104) := by
    rw [ev]
    exact three_alloc _ _ _ _
  have HH := Lib.hid (And.intro h (And.intro hin (And.intro hb1 (And.intro hs1 (And.intro hc1 (And.intro hl (And.intro hn hn4)))))))
  have HV := Lib.hid (And.intro ev0 ev)
  clear h hin hb1 hs1 hc1 hl hn hn4 ev ev0 hb0
  go_upto_region 1 with fail
  rw [← HV.out.1]
  go_wp2_with (go_at_call 55; refine KB.out.mono ?_; rintro e w' ⟨rfl, hw⟩; rw [hw, HV.out.1]; clear hw w')
  rw [← HV.out.2]
  clear HV KB
  obtain ⟨h, hin, hb1, hs1, hc1, hl, hn, hn4⟩ := HH.out
  refine wp_range_bound (gf := 51) (p := pB T) rfl (enters_of Try.func51 (by kernel_rfl) rfl) (fun x : Ins => #[pB (ad x.id)]) (fun _ => rfl) (fun xs => xs = nodesL L) (fun pre x => ∃ post, nodesL L = pre ++ x :: post)
    (BesI w T M ad L G n) (BesX w ad L G n) ?hI ?hIx ?h0 (fun x => { tmps := #[pB T, .int .i64 (n : Int), undef, .pointer (some ⟨w.heap.size, 0, none⟩), .pointer (some ⟨w.heap.size + 1, 0, none⟩), .pointer (some ⟨w.heap.size + 1 + 1, 0, none⟩), pB (ad x.id), pB T, pB (ad (0, 0)), pB T, .func (.func 51) #[pB T] #[], pB (ad x.id), undef, undef, undef, undef, undef, undef, undef, undef, undef, undef, undef, undef, undef, undef], defers := [] }) ?hseq ?assign ?body ?done ?stop
  case hI =>
    rintro pre W W' ⟨h1, h2, h3, h4, h5, h6, h7, h8⟩ ht
    rw [hs1] at ht
    exact ⟨h1.twin ht (fun k hk => by have := hin k hk; omega), h2.trans (ht.below (by omega)), by rw [ht.size]; exact h3, h4, h5, (ht.block _ (by omega) (by omega)).trans h6, (ht.block _ (by omega) (by omega)).trans h7, (ht.block _ (by omega) (by omega)).trans h8⟩
  case hIx =>
    rintro pre W W' ⟨h1, h2, p, e, post, h3, h4, h5, h6, h7⟩ ht
    rw [hs1] at ht
    exact ⟨h1.trans (ht.below (by omega)), by rw [ht.size]; exact h2, p, e, post, h3, h4, h5, (ht.block _ (by omega) (by omega)).trans h6, (ht.block _ (by omega) (by omega)).trans h7⟩
  case h0 =>
    intro o1 o2 _ _
    have hb2 : Below v1.heap.size v1 ((v1.alloc o1).alloc o2) := ((Below.refl _ _).alloc (Nat.le_refl _) _).alloc (by simp) _
    have hb3 := hb1.trans (hb2.mono hb1.size)
    exact ⟨h.below hb3, hb3, by simp; omega, Nat.zero_le _, fun h => ⟨h, .inl rfl⟩, (hb2.block _ (by omega)).trans hc1.1, (hb2.block _ (by omega)).trans hc1.2.1, (hb2.block _ (by omega)).trans hc1.2.2⟩
  case hseq =>
    intro l J Jx W hJI hY hJ0
    refine (order_any (I := J) (Ix := Jx) (fun pre W hj => (hJI pre W hj).1) (fun pre x W hj hnx => hY pre x W hj hnx) W hJ0).mono ?_
    rintro e W' ⟨hv, h1 | h1⟩
    · exact ⟨hv, .inl ⟨_, rfl, h1⟩⟩
    · exact ⟨hv, .inr h1⟩
  case assign =>
    intro l x W K hK
    refine region_round (by kernel_rfl) (then_in (fun ⟨_, _, h⟩ => h)) ?_
    go_wp2_with fail
    exact hK
  case body =>
    rintro l pre x W hI ⟨post, hpost⟩ hlt
    have hx : x ∈ L := (nodes_mem h.ok).1 (by rw [hpost]; simp)
    obtain ⟨e0, e1, e2, e3, _⟩ := el_cells (hI.tree.el x hx)
    obtain ⟨be, ebe⟩ : ∃ b, b = ad x.id := ⟨_, rfl⟩
    rw [← ebe] at e3
    have HE := Lib.hid ebe
    obtain ⟨g, eg⟩ : ∃ g, g = w.heap.size := ⟨_, rfl⟩
    obtain ⟨ga, ega⟩ : ∃ g, g = w.heap.size + 1 := ⟨_, rfl⟩
    obtain ⟨gb, egb⟩ : ∃ g, g = w.heap.size + 1 + 1 := ⟨_, rfl⟩
    rw [← ebe, ← egb, ← ega, ← eg]
    have c1 : W.cell? ⟨g, 0, none⟩ = some (.int .i64 ((n - (liveL G pre).length : Nat) : Int)) := by rw [eg]; simp [World.cell?, hI.cn]
    have c2 : W.cell? ⟨ga, 0, none⟩ = some (.pointer (some ⟨ad (lastL G pre), 0, none⟩)) := by rw [ega]; simp [World.cell?, hI.ca]
    have c3 : W.cell? ⟨gb, 0, none⟩ = some (.pointer none) := by rw [egb]; simp [World.cell?, hI.cb]
    have f1 : W.frozen? ⟨g, 0, none⟩ = false := by rw [eg]; exact cells_free hI.cn 0
    have f2 : W.frozen? ⟨ga, 0, none⟩ = false := by rw [ega]; exact cells_free hI.ca 0
    have f3 : W.frozen? ⟨gb, 0, none⟩ = false := by rw [egb]; exact cells_free hI.cb 0
    obtain ⟨q, eq⟩ : ∃ q, q = n - (liveL G pre).length := ⟨_, rfl⟩
    obtain ⟨la, ela⟩ : ∃ b, b = ad (lastL G pre) := ⟨_, rfl⟩
    rw [← eq] at c1
    rw [← ela] at c2
    have HN := Lib.hid (show ga ≠ gb ∧ g ≠ ga by omega)
    have HI := Lib.hid (And.intro hI (And.intro eq (And.intro ela (And.intro eg (And.intro ega (And.intro egb (And.intro hpost (And.intro hs1 (And.intro hin hx)))))))))
    have hq4 : q ≤ 4096 := by omega
    clear hI eq ela eg ega egb hpost ebe e0 e1 e2 h hin hb1 hs1 hc1 hl hn hn4 hlt hx
    refine wpIn_block (wpIn_seq ?_)
    by_cases hq : q = 0
    · subst hq
      clear e3 hq4 f1
      have k3 : ∀ v, (W.setCell ⟨ga, 0, none⟩ v).cell? ⟨gb, 0, none⟩ = some (.pointer none) := fun v => (World.cell?_of_block (set_other W v HN.out.1.symm)).trans c3
      have kf3 : ∀ v, (W.setCell ⟨ga, 0, none⟩ v).frozen? ⟨gb, 0, none⟩ = false := fun v => (World.frozen?_of_block (set_other W v HN.out.1.symm)).trans f3
      clear c3 f3
      refine wpIn_seq ?_
      refine region_round (by kernel_rfl) (then_in (then_in (inBlock_in roundQ_in))) ?_
      go_wp2_with fail
      clear c1
      refine wpIn_cond_true rfl (wpIn_seq ?_)
      refine region_round (by kernel_rfl) (then_in (then_in (inBlock_in roundQ_in))) ?_
      go_wp2_with fail
      refine wpIn_ret ?_
      obtain ⟨hI, eq, ela, eg, ega, egb, hpost, hs1, hin, hx⟩ := HI.out
      have hD : ∀ k, k ≠ ga → k ≠ gb → ((W.setCell ⟨ga, 0, none⟩ (.pointer (some ⟨la, 0, none⟩))).setCell ⟨gb, 0, none⟩ (.pointer (some ⟨be, 0, none⟩))).heap[k]? = W.heap[k]? := fun k h1 h2 => by rw [set_other _ _ h2, set_other _ _ h1]
      refine ⟨⟨hD _ (by omega) (by omega), hD _ (by omega) (by omega)⟩, ⟨(hI.below.setCell (p := ⟨ga, 0, none⟩) (by show w.heap.size ≤ ga; omega) _).setCell (p := ⟨gb, 0, none⟩) (by show w.heap.size ≤ gb; omega) _, by rw [set_size, set_size]; exact hI.size, pre, x, post, rfl, hpost, hI.least (by have := hI.le; omega), ?_, ?_⟩⟩
      · have := hI.ca
        rw [← ega] at this ⊢
        rw [set_other _ _ HN.out.1, set_block this 0, ← ela]
        rfl
      · have h1 := hI.cb
        rw [← egb] at h1 ⊢
        have h2 := (set_other (k := 0) W (.pointer (some ⟨la, 0, none⟩)) HN.out.1.symm).trans h1
        rw [set_block h2 0, ← HE.out]
        rfl
    · have hqb : ((q : Int) == 0) = false := by simp [hq]
      have hq1 : (1 : Int) ≤ (q : Int) := by omega
      have HQ := Lib.hid hq
      clear c3 f3 hq
      refine wpIn_seq ?_
      refine region_round (by kernel_rfl) (then_in (then_in (inBlock_in roundQ_in))) ?_
      go_wp2_with fail
      clear hqb
      refine wpIn_cond_false rfl (wpIn_skip ?_)
      refine wpIn_seq ?_
      refine region_round (by kernel_rfl) (then_in (inBlock_in roundQ_in)) ?_
      obtain ⟨gn, egn⟩ : ∃ q, q = goneB G x.id := ⟨_, rfl⟩
      rw [← egn] at e3
      have HG := Lib.hid egn
      clear egn
      cases gn with
      | true =>
        clear c1 c2 f1 f2
        go_wp2_with fail
        refine wpIn_cond_false rfl (wpIn_skip ?_)
        obtain ⟨hI, eq, ela, eg, ega, egb, hpost, hs1, hin, hx⟩ := HI.out
        have hlv : liveL G (pre ++ [x]) = liveL G pre := by rw [live_snoc, if_pos HG.out.symm]
        refine ⟨⟨rfl, rfl⟩, hI.tree, hI.below, hI.size, by rw [hlv]; exact hI.le, fun h => ?_, by rw [hlv]; exact hI.cn, ?_, hI.cb⟩
        · rw [hlv] at h
          have := HQ.out
          omega
        · unfold lastL
          rw [hlv]
          exact hI.ca
      | false =>
        go_wp2_with fail
        clear e3
        refine wpIn_cond_true rfl (wpIn_seq ?_)
        refine region_round (by kernel_rfl) (then_in (inBlock_in roundQ_in)) ?_
        have k1 : ∀ v, (W.setCell ⟨ga, 0, none⟩ v).cell? ⟨g, 0, none⟩ = some (.int .i64 (q : Int)) := fun v => (World.cell?_of_block (set_other W v HN.out.2)).trans c1
        have kf1 : ∀ v, (W.setCell ⟨ga, 0, none⟩ v).frozen? ⟨g, 0, none⟩ = false := fun v => (World.frozen?_of_block (set_other W v HN.out.2)).trans f1
        clear c1 f1
        go_wp2_with fail
        refine region_round (by kernel_rfl) (inBlock_in roundQ_in) ?_
        clear c2 f2
        go_wp2_with fail
        obtain ⟨hI, eq, ela, eg, ega, egb, hpost, hs1, hin, hx⟩ := HI.out
        have hxG : x.id ∉ G := by have := HG.out; rw [goneB_eq] at this; exact of_decide_eq_false this.symm
        have hlv : liveL G (pre ++ [x]) = liveL G pre ++ [x] := by rw [live_snoc, if_neg (by rw [← HG.out]; decide)]
        have hq := HQ.out
        have hD : ∀ k, k ≠ ga → k ≠ g → ((W.setCell ⟨ga, 0, none⟩ (.pointer (some ⟨be, 0, none⟩))).setCell ⟨g, 0, none⟩ (.int .i64 ((q : Int) - 1))).heap[k]? = W.heap[k]? := fun k h1 h2 => by rw [set_other _ _ h2, set_other _ _ h1]
        refine ⟨⟨hD _ (by omega) (by omega), hD _ (by omega) (by omega)⟩, hI.tree.keep (fun k hk => hD k (by have := hin k hk; omega) (by have := hin k hk; omega)), (hI.below.setCell (p := ⟨ga, 0, none⟩) (by show w.heap.size ≤ ga; omega) _).setCell (p := ⟨g, 0, none⟩) (by show w.heap.size ≤ g; omega) _, by rw [set_size, set_size]; exact hI.size, ?_, fun h => ⟨h, .inr ⟨pre, x, rfl, hxG⟩⟩, ?_, ?_, ?_⟩
        · rw [hlv, List.length_append, List.length_singleton]
          omega
        · have h1 := hI.cn
          rw [← eg] at h1 ⊢
          have h2 := (set_other (k := 0) W (.pointer (some ⟨be, 0, none⟩)) HN.out.2).trans h1
          rw [set_block h2 0, hlv, List.length_append, List.length_singleton, show ((q : Int) - 1) = ((n - ((liveL G pre).length + 1) : Nat) : Int) by omega]
          rfl
        · have h1 := hI.ca
          rw [← ega] at h1 ⊢
          have e1 : lastL G (pre ++ [x]) = x.id := by unfold lastL; rw [hlv, List.getLast?_concat]; rfl
          rw [set_other _ _ (fun e => HN.out.2 e.symm), set_block h1 0, e1, ← HE.out]
          rfl
        · exact (hD _ (by omega) (by omega)).trans hI.cb
  case done =>
    rintro xs W rfl hI hK
    rw [hs1] at hK
    rw [hs1]
    obtain ⟨g, eg⟩ : ∃ g, g = w.heap.size := ⟨_, rfl⟩
    obtain ⟨ga, ega⟩ : ∃ g, g = w.heap.size + 1 := ⟨_, rfl⟩
    obtain ⟨gb, egb⟩ : ∃ g, g = w.heap.size + 1 + 1 := ⟨_, rfl⟩
    obtain ⟨gd, egd⟩ : ∃ g, g = w.heap.size + 3 := ⟨_, rfl⟩
    rw [← egd] at hK
    rw [← egd, ← egb, ← ega, ← eg]
    have c2 : W.cell? ⟨ga, 0, none⟩ = some (.pointer (some ⟨ad (lastL G (nodesL L)), 0, none⟩)) := by rw [ega]; simp [World.cell?, hI.ca]
    have c3 : W.cell? ⟨gb, 0, none⟩ = some (.pointer none) := by rw [egb]; simp [World.cell?, hI.cb]
    have f2 : W.frozen? ⟨ga, 0, none⟩ = false := by rw [ega]; exact cells_free hI.ca 0
    have f3 : W.frozen? ⟨gb, 0, none⟩ = false := by rw [egb]; exact cells_free hI.cb 0
    obtain ⟨la, ela⟩ : ∃ b, b = ad (lastL G (nodesL L)) := ⟨_, rfl⟩
    rw [← ela] at c2
    have hne : ga ≠ gb := by omega
    have k3 : ∀ v, (W.setCell ⟨ga, 0, none⟩ v).cell? ⟨gb, 0, none⟩ = some (.pointer none) := fun v => (World.cell?_of_block (set_other W v hne.symm)).trans c3
    have kf3 : ∀ v, (W.setCell ⟨ga, 0, none⟩ v).frozen? ⟨gb, 0, none⟩ = false := fun v => (World.frozen?_of_block (set_other W v hne.symm)).trans f3
    have HB := Lib.hid (And.intro hI (And.intro hK (And.intro eg (And.intro ega (And.intro egb (And.intro egd (And.intro ela hne)))))))
    have HN := Lib.hid hn
    clear hI hK eg ega egb egd ela h hin hb1 hs1 hc1 hl hn hn4 c3 f3 hne
    go_wp2_with fail
    obtain ⟨hI, hK, eg, ega, egb, egd, ela, hne⟩ := HB.out
    have hD : ∀ k, k ≠ ga → k ≠ gb → ((W.setCell ⟨ga, 0, none⟩ (.pointer (some ⟨la, 0, none⟩))).setCell ⟨gb, 0, none⟩ (.pointer none)).heap[k]? = W.heap[k]? := fun k h1 h2 => by rw [set_other _ _ h2, set_other _ _ h1]
    have hK2 := (hD gd (by omega) (by omega)).trans hK
    have htw : Twin gd ((W.setCell ⟨ga, 0, none⟩ (.pointer (some ⟨la, 0, none⟩))).setCell ⟨gb, 0, none⟩ (.pointer none)) (((W.setCell ⟨ga, 0, none⟩ (.pointer (some ⟨la, 0, none⟩))).setCell ⟨gb, 0, none⟩ (.pointer none)).putObj gd (.deferred none)) := Twin.put _ _ (.inl rfl) rfl
    have h1 := hI.ca
    have h2 := hI.cb
    rw [← ega, ← ela] at h1
    rw [← egb] at h2
    have h3 := (set_other (k := 0) W (.pointer (some ⟨la, 0, none⟩)) hne.symm).trans h2
    have q2 := (htw.block ga (by omega) (by omega)).trans ((set_other (k := 0) (W.setCell ⟨ga, 0, none⟩ (.pointer (some ⟨la, 0, none⟩))) (.pointer none) hne).trans (set_block h1 0 (.pointer (some ⟨la, 0, none⟩))))
    have q3 := (htw.block gb (by omega) (by omega)).trans (set_block h3 0 (.pointer none))
    have hlen : (liveL G (nodesL L)).length = n := Nat.le_antisymm hI.le HN.out
    refine ⟨by simp, .inl ⟨_, _, rfl, run_takeDeferred hK2, ?_⟩⟩
    refine ⟨_, ptr_res2 Try.results54 _ (g1 := ga) (g2 := gb) (a := some ⟨la, 0, none⟩) (b := none) (by simp [World.cell?, q2]) (by simp [World.cell?, q3]) rfl rfl, nodesL L, [], by simp, hI.least hlen, by rw [ela]; rfl, ?_⟩
    exact ((hI.below.setCell (p := ⟨ga, 0, none⟩) (by show w.heap.size ≤ ga; omega) _).setCell (p := ⟨gb, 0, none⟩) (by show w.heap.size ≤ gb; omega) _).trans (htw.below (by omega))
  case stop =>
    rintro pre' W ⟨hb, hsz, pre, e, post, _, hpost, hleast, ca, cb⟩ hK
    rw [hs1] at hK
    rw [hs1]
    have htw : Twin (w.heap.size + 3) W (W.putObj (w.heap.size + 3) (.deferred none)) := Twin.put _ _ (.inl rfl) rfl
    have q2 := (htw.block _ (by omega) (by omega)).trans ca
    have q3 := (htw.block _ (by omega) (by omega)).trans cb
    refine ⟨by simp, .inl ⟨_, _, rfl, run_takeDeferred hK, ?_⟩⟩
    refine ⟨_, ptr_res2 Try.results54 _ (g1 := w.heap.size + 1) (g2 := w.heap.size + 1 + 1) (a := some ⟨ad (lastL G pre), 0, none⟩) (b := some ⟨ad e.id, 0, none⟩) (by simp [World.cell?, q2]) (by simp [World.cell?, q3]) rfl rfl, pre, e :: post, hpost, hleast, rfl, hb.trans (htw.below (by omega))⟩
end Go.Proofs.Ytpjeggbkhbghaaa
namespace Go.Proofs.Ytpjeggbkhbghaaa
open Go Go.RowKit
set_option maxRecDepth 20000
theorem Least.last {G : List IDt} {n : Nat} {pre : List Ins} (h : Least G n pre) (hn : n ≠ 0) : ∃ p y, pre = p ++ [y] ∧ y.id ∉ G ∧ lastL G pre = y.id ∧ (liveL G pre)[n - 1]? = some y := by
  obtain ⟨h1, h2 | ⟨p, y, rfl, hy⟩⟩ := h
  · rw [h2] at h1
    exact absurd h1.symm hn
  · have hl : liveL G (p ++ [y]) = liveL G p ++ [y] := by rw [live_app, live_on hy]; rfl
    refine ⟨p, y, rfl, hy, ?_, ?_⟩
    · unfold lastL
      rw [hl, List.getLast?_concat]
      rfl
    · rw [hl] at h1 ⊢
      rw [List.length_append, List.length_singleton] at h1
      rw [← h1, Nat.add_sub_cancel, List.getElem?_append_right (Nat.le_refl _), Nat.sub_self]
      rfl
set_option maxHeartbeats 1600000 in
theorem at_any {w : World} {T M : Nat} {ad : IDt → Nat} {L : List Ins} {G : List IDt} (h : TreeH w T M ad L G) (hl : L.length ≤ 4096) (i : Int) :
    Calls Try.prog 31 #[pB T, .int .i64 i] w fun e w' => e = .returned (.tuple #[idV (atR L G i).1, .int .i64 (atR L G i).2]) ∧ Below w.heap.size w w' := by
  obtain ⟨v1, ev⟩ : ∃ v, v = w.alloc (.cells #[.int .i64 0, .int .i64 0] 27) := ⟨_, rfl⟩
  obtain ⟨g, eg⟩ : ∃ g, g = w.heap.size := ⟨_, rfl⟩
  have hb : Below w.heap.size w v1 := by rw [ev]; exact (Below.refl _ _).alloc (Nat.le_refl _) _
  have ho : O2 v1 w.heap.size 27 g (.int .i64 0) (.int .i64 0) := by rw [ev, eg]; exact O2.newz (Nat.le_refl _) _ _ _
  have h1 := h.below hb
  obtain ⟨m, em⟩ : ∃ m, m = (liveL G (nodesL L)).length := ⟨_, rfl⟩
  have hm : m ≤ 4096 := by rw [em]; exact Nat.le_trans (List.length_filter_le _ _) (Nat.le_trans (nodes_len h.ok) hl)
  have KL := len_any h1
  rw [← em] at KL
  have KL := Lib.hid KL
  have HV := Lib.hid (And.intro ev eg)
  have HB := Lib.hid hb
  have HO := Lib.hid ho
  have HH := Lib.hid (And.intro h1 (And.intro hl em))
  have o0 := ho.c0
  have o1 := ho.c1
  have of0 := ho.f0
  have of1 := ho.f1
  clear ev eg hb ho h1 hl em h
  go_enter Try.func31, Try.ntmps31
  go_upto_region 1 with fail
  rw [← HV.out.1, ← HV.out.2]
  clear HV
  by_cases hi : i < 0 ∨ (m : Int) ≤ i
  · have HA := Lib.hid (show atR L G i = ((0, 0), 6) by unfold atR; rw [← HH.out.2.2, if_pos hi])
    have hso := set2_out HO.out (.int .i64 0) (.int .i64 0)
    have HS := Lib.hid (And.intro (HO.out.set_ (.int .i64 0) (.int .i64 0)) (HO.out.below (.int .i64 0) (.int .i64 0)))
    clear hso
    by_cases hi0 : i < 0
    · clear hi
      go_wp2_with fail
      refine bodyPost_ret (id_res2 Try.results31 _ HS.out.1 rfl rfl) rfl ⟨?_, HB.out.trans HS.out.2⟩
      rw [HA.out]
      rfl
    · have hi1 : (m : Int) ≤ i := by omega
      clear hi
      go_wp2_with (go_at_call 30; refine KL.out.mono ?_; rintro e w' ⟨rfl, hw⟩; rw [hw]; clear hw w')
      refine bodyPost_ret (id_res2 Try.results31 _ HS.out.1 rfl rfl) rfl ⟨?_, HB.out.trans HS.out.2⟩
      rw [HA.out]
      rfl
  · obtain ⟨k, rfl⟩ : ∃ k : Nat, i = (k : Int) := ⟨i.toNat, by omega⟩
    have hk : k < m := by omega
    have HA := Lib.hid (show atR L G (k : Int) = ((((liveL G (nodesL L))[k]?).map Ins.id).getD (0, 0), 0) by unfold atR; rw [← HH.out.2.2, if_neg hi, Int.toNat_natCast])
    have KB := Lib.hid (beside_any HH.out.1 HH.out.2.1 (n := k + 1) (by rw [← HH.out.2.2]; omega))
    clear hi
    go_upto_region 3 with (go_at_call 30; refine KL.out.mono ?_; rintro e w' ⟨rfl, hw⟩; rw [hw]; clear hw w')
    go_wp2_with fail
    go_at_call 54
    refine KB.out.mono ?_
    rintro e v2 ⟨pre, post, hpp, hle, rfl, hb2⟩
    obtain ⟨p, y, e1, hy, e2, e3⟩ := hle.last (Nat.succ_ne_zero k)
    have hyL : y ∈ L := (nodes_mem HH.out.1.ok).1 (by rw [hpp, e1]; simp)
    have h2 := HH.out.1.below hb2
    obtain ⟨c0, c1, _⟩ := el_cells (h2.el y hyL)
    rw [e2]
    obtain ⟨be, ebe⟩ : ∃ b, b = ad y.id := ⟨_, rfl⟩
    rw [← ebe] at c0 c1 ⊢
    have ho2 : O2 v2 w.heap.size 27 g (.int .i64 0) (.int .i64 0) := OwnF.keep HO.out hb2
    have o0 := ho2.c0
    have o1 := ho2.c1
    have of0 := ho2.f0
    have of1 := ho2.f1
    have hid : atR L G (k : Int) = (y.id, 0) := by
      rw [HA.out, hpp, live_app, List.getElem?_append_left (by rw [hle.1]; exact Nat.lt_succ_self k)]
      rw [Nat.add_sub_cancel] at e3
      rw [e3]
      rfl
    obtain ⟨z, ez⟩ : ∃ z, z = ptO ad post.head? := ⟨_, rfl⟩
    rw [← ez]
    have HX := Lib.hid (And.intro hid (And.intro (ho2.set_ (.int .i64 y.id.1) (.int .i64 y.id.2)) ((HB.out.trans (hb2.mono HB.out.size)).trans (ho2.below (.int .i64 y.id.1) (.int .i64 y.id.2)))))
    clear ez hid ho2 hb2 hpp hle e1 hy e2 e3 hyL h2 ebe
    go_wp2_with fail
    refine bodyPost_ret (id_res2 Try.results31 _ HX.out.2.1 rfl rfl) rfl ⟨?_, HX.out.2.2⟩
    rw [HX.out.1]
    rfl
theorem at_nil (i : Int) (w : World) : Calls Try.prog 31 #[.pointer none, .int .i64 i] w fun e w' => e = .returned (.tuple #[idV (0, 0), .int .i64 6]) ∧ Below w.heap.size w w' := by
  obtain ⟨v1, ev⟩ : ∃ v, v = w.alloc (.cells #[.int .i64 0, .int .i64 0] 27) := ⟨_, rfl⟩
  obtain ⟨g, eg⟩ : ∃ g, g = w.heap.size := ⟨_, rfl⟩
  have hb : Below w.heap.size w v1 := by rw [ev]; exact (Below.refl _ _).alloc (Nat.le_refl _) _
  have ho : O2 v1 w.heap.size 27 g (.int .i64 0) (.int .i64 0) := by rw [ev, eg]; exact O2.newz (Nat.le_refl _) _ _ _
  have HV := Lib.hid (And.intro ev eg)
  have HS := Lib.hid (And.intro (ho.set_ (.int .i64 0) (.int .i64 0)) (hb.trans (ho.below (.int .i64 0) (.int .i64 0))))
  have o0 := ho.c0
  have o1 := ho.c1
  have of0 := ho.f0
  have of1 := ho.f1
  clear ev eg hb ho
  go_enter Try.func31, Try.ntmps31
  go_upto_region 1 with fail
  rw [← HV.out.1, ← HV.out.2]
  clear HV
  by_cases hi : i < 0
  · go_wp2_with fail
    exact bodyPost_ret (id_res2 Try.results31 _ HS.out.1 rfl rfl) rfl ⟨rfl, HS.out.2⟩
  · have hi1 : (0 : Int) ≤ i := by omega
    go_wp2_with (go_at_call 30; refine (len_nil v1).mono ?_; rintro e w' ⟨rfl, hw⟩; rw [hw]; clear hw w')
    exact bodyPost_ret (id_res2 Try.results31 _ HS.out.1 rfl rfl) rfl ⟨rfl, HS.out.2⟩
theorem plan_nil (i : Int) (w : World) : Calls Try.prog 32 #[.pointer none, .int .i64 i] w fun e w' => e = .returned (.tuple #[idV (0, 0), .bool false, .int .i64 6]) ∧ Below w.heap.size w w' := by
  obtain ⟨v1, ev⟩ : ∃ v, v = w.alloc (.cells #[.int .i64 0, .int .i64 0] 27) := ⟨_, rfl⟩
  obtain ⟨g, eg⟩ : ∃ g, g = w.heap.size := ⟨_, rfl⟩
  have hb : Below w.heap.size w v1 := by rw [ev]; exact (Below.refl _ _).alloc (Nat.le_refl _) _
  have ho : O2 v1 w.heap.size 27 g (.int .i64 0) (.int .i64 0) := by rw [ev, eg]; exact O2.newz (Nat.le_refl _) _ _ _
  have HV := Lib.hid (And.intro ev eg)
  have HS := Lib.hid (And.intro (ho.set_ (.int .i64 0) (.int .i64 0)) (hb.trans (ho.below (.int .i64 0) (.int .i64 0))))
  have o0 := ho.c0
  have o1 := ho.c1
  have of0 := ho.f0
  have of1 := ho.f1
  clear ev eg hb ho
  go_enter Try.func32, Try.ntmps32
  go_upto_region 1 with fail
  rw [← HV.out.1, ← HV.out.2]
  clear HV
  go_wp2_with (go_at_call 55; refine (beginning_nil v1).mono ?_; rintro e w' ⟨rfl, hw⟩; rw [hw]; clear hw w')
  exact bodyPost_ret (id_res3 Try.results32 _ HS.out.1 rfl rfl rfl) rfl ⟨rfl, HS.out.2⟩
/-- What stands next behind the shortest beginning, where one hangs on the right of the last. -/
theorem plan_post {L : List Ins} {G : List IDt} (hok : Ok L) {n : Nat} (hn : n ≤ (liveL G (nodesL L)).length) {pre post : List Ins} (hpp : nodesL L = pre ++ post) (hle : Least G n pre) :
    aheadL L G n = lastL G pre ∧ (kidsL L (lastL G pre) true ≠ [] → ∃ b r, post = b :: r ∧ planL L G n = (b.id, false)) := by
  have hah : aheadL L G n = lastL G pre := by
    unfold aheadL
    by_cases h0 : n = 0
    · rw [if_pos h0]
      have : (liveL G pre) = [] := List.length_eq_zero_iff.1 (by rw [hle.1, h0])
      unfold lastL
      rw [this]
      rfl
    · rw [if_neg h0]
      obtain ⟨p, y, _, _, e2, e3⟩ := hle.last h0
      rw [hpp, live_app, List.getElem?_append_left (by rw [hle.1]; omega), e3, e2]
      rfl
  refine ⟨hah, fun hk => ?_⟩
  have hk2 : kidsL L (aheadL L G n) true ≠ [] := by rw [hah]; exact hk
  obtain ⟨b, hb⟩ := plan_at hok hn hk2
  have hpl : planL L G n = (b.id, false) := by
    unfold planL
    rw [if_neg hk2, hb]
    rfl
  rw [hah] at hb
  have hat : atL (lastL G pre) (nodesL L) 0 0 = pre.length := by
    by_cases h0 : n = 0
    · have hpre : pre = [] := by
        rcases hle.2 with h1 | ⟨p, y, h1, hy⟩
        · exact h1
        · have := hle.1
          rw [h1, live_app, live_on hy, List.length_append, List.length_cons] at this
          omega
      have hl0 : lastL G pre = (0, 0) := by rw [hpre]; rfl
      rw [hl0, hpre]
      exact at_none fun y hy => hok.nz y ((nodes_mem hok).1 hy)
    · obtain ⟨p, y, e1, _, e2, _⟩ := hle.last h0
      have hd := nodes_distinct hok
      rw [hpp, e1, List.append_assoc, List.singleton_append] at hd ⊢
      rw [← e1, e2, at_some rfl (distinct_mid hd).2, e1, List.length_append, List.length_singleton, Nat.zero_add]
  rw [hat, hpp, List.getElem?_append_right (Nat.le_refl _), Nat.sub_self] at hb
  cases post with
  | nil => cases hb
  | cons c r =>
    have : c = b := Option.some.inj hb
    subst this
    exact ⟨c, r, rfl, hpl⟩
set_option maxHeartbeats 1600000 in
theorem plan_any {w : World} {T M : Nat} {ad : IDt → Nat} {L : List Ins} {G : List IDt} (h : TreeH w T M ad L G) (hl : L.length ≤ 4096) (i : Int) :
    Calls Try.prog 32 #[pB T, .int .i64 i] w fun e w' => e = .returned (.tuple #[idV (planR L G i).1, .bool (planR L G i).2.1, .int .i64 (planR L G i).2.2]) ∧ Below w.heap.size w w' := by
  obtain ⟨v1, ev⟩ : ∃ v, v = w.alloc (.cells #[.int .i64 0, .int .i64 0] 27) := ⟨_, rfl⟩
  obtain ⟨g, eg⟩ : ∃ g, g = w.heap.size := ⟨_, rfl⟩
  have hb : Below w.heap.size w v1 := by rw [ev]; exact (Below.refl _ _).alloc (Nat.le_refl _) _
  have ho : O2 v1 w.heap.size 27 g (.int .i64 0) (.int .i64 0) := by rw [ev, eg]; exact O2.newz (Nat.le_refl _) _ _ _
  have h1 := h.below hb
  obtain ⟨m, em⟩ : ∃ m, m = (liveL G (nodesL L)).length := ⟨_, rfl⟩
  have hm : m ≤ 4096 := by rw [em]; exact Nat.le_trans (List.length_filter_le _ _) (Nat.le_trans (nodes_len h.ok) hl)
  have KL := len_any h1
  rw [← em] at KL
  have KL := Lib.hid KL
  have K0 := beginning_any h1
  obtain ⟨b0, eb0⟩ : ∃ b, b = ad (0, 0) := ⟨_, rfl⟩
  rw [← eb0] at K0
  have K0 := Lib.hid K0
  have HV := Lib.hid (And.intro ev eg)
  have HB := Lib.hid hb
  have HO := Lib.hid ho
  have HH := Lib.hid (And.intro h1 (And.intro hl em))
  have o0 := ho.c0
  have o1 := ho.c1
  have of0 := ho.f0
  have of1 := ho.f1
  clear ev eg hb ho h1 hl em h eb0
  go_enter Try.func32, Try.ntmps32
  go_upto_region 1 with fail
  rw [← HV.out.1, ← HV.out.2]
  clear HV
  by_cases hi : i < 0 ∨ (m : Int) < i
  · have HA := Lib.hid (show planR L G i = ((0, 0), false, 6) by unfold planR; rw [← HH.out.2.2, if_pos hi])
    have HS := Lib.hid (And.intro (HO.out.set_ (.int .i64 0) (.int .i64 0)) (HO.out.below (.int .i64 0) (.int .i64 0)))
    by_cases hi0 : i < 0
    · clear hi
      go_wp2_with (go_at_call 55; refine K0.out.mono ?_; rintro e w' ⟨rfl, hw⟩; rw [hw]; clear hw w')
      refine bodyPost_ret (id_res3 Try.results32 _ HS.out.1 rfl rfl rfl) rfl ⟨?_, HB.out.trans HS.out.2⟩
      rw [HA.out]
      rfl
    · have hi1 : (m : Int) < i := by omega
      clear hi
      go_wp2_with (first | (go_at_call 55; refine K0.out.mono ?_; rintro e w' ⟨rfl, hw⟩; rw [hw]; clear hw w') | (go_at_call 30; refine KL.out.mono ?_; rintro e w' ⟨rfl, hw⟩; rw [hw]; clear hw w'))
      refine bodyPost_ret (id_res3 Try.results32 _ HS.out.1 rfl rfl rfl) rfl ⟨?_, HB.out.trans HS.out.2⟩
      rw [HA.out]
      rfl
  · obtain ⟨k, rfl⟩ : ∃ k : Nat, i = (k : Int) := ⟨i.toNat, by omega⟩
    have hk : k ≤ m := by omega
    have HA := Lib.hid (show planR L G (k : Int) = ((planL L G k).1, (planL L G k).2, 0) by unfold planR; rw [← HH.out.2.2, if_neg hi, Int.toNat_natCast])
    have KB := Lib.hid (beside_any HH.out.1 HH.out.2.1 (n := k) (by rw [← HH.out.2.2]; exact hk))
    clear hi
    go_upto_region 3 with (first | (go_at_call 55; refine K0.out.mono ?_; rintro e w' ⟨rfl, hw⟩; rw [hw]; clear hw w') | (go_at_call 30; refine KL.out.mono ?_; rintro e w' ⟨rfl, hw⟩; rw [hw]; clear hw w'))
    go_wp2_with fail
    go_at_call 54
    refine KB.out.mono ?_
    rintro e v2 ⟨pre, post, hpp, hle, rfl, hb2⟩
    obtain ⟨hah, hpost⟩ := plan_post HH.out.1.ok (by rw [← HH.out.2.2]; exact hk) hpp hle
    have h2 := HH.out.1.below hb2
    have hlast : lastL G pre = (0, 0) ∨ hasL L (lastL G pre) := by
      by_cases h0 : k = 0
      · left
        have : (liveL G pre) = [] := List.length_eq_zero_iff.1 (by rw [hle.1, h0])
        unfold lastL
        rw [this]
        rfl
      · obtain ⟨p, y, e1, _, e2, _⟩ := hle.last h0
        exact .inr ⟨y, (nodes_mem HH.out.1.ok).1 (by rw [hpp, e1]; simp), e2.symm⟩
    have hcell : v2.cell? ⟨ad (lastL G pre), 0, none⟩ = some (.int .i64 (lastL G pre).1) ∧ v2.cell? ⟨ad (lastL G pre), 1, none⟩ = some (.int .i64 (lastL G pre).2) ∧ v2.cell? ⟨ad (lastL G pre), 8, none⟩ = some (ptO ad (kidsL L (lastL G pre) true).head?) := by
      rcases hlast with e | ⟨y, hy, e⟩
      · rw [e]
        obtain ⟨c0, c1, _, _, _, _, _, _, c8⟩ := el_cells h2.root
        exact ⟨c0, c1, c8⟩
      · rw [← e]
        obtain ⟨c0, c1, _, _, _, _, _, _, c8⟩ := el_cells (h2.el y hy)
        exact ⟨c0, c1, c8⟩
    obtain ⟨c0, c1, c8⟩ := hcell
    have ho2 : O2 v2 w.heap.size 27 g (.int .i64 0) (.int .i64 0) := OwnF.keep HO.out hb2
    have o0 := ho2.c0
    have o1 := ho2.c1
    have of0 := ho2.f0
    have of1 := ho2.f1
    have hbb := HB.out.trans (hb2.mono HB.out.size)
    cases hk8 : kidsL L (lastL G pre) true with
    | nil =>
      have hid : planR L G (k : Int) = (lastL G pre, true, 0) := by
        rw [HA.out]
        unfold planL
        rw [hah, if_pos hk8]
      rw [hk8] at c8
      replace c8 : v2.cell? ⟨ad (lastL G pre), 8, none⟩ = some (.pointer none) := c8
      obtain ⟨la, ela⟩ : ∃ b, b = ad (lastL G pre) := ⟨_, rfl⟩
      obtain ⟨z, ez⟩ : ∃ z, z = ptO ad post.head? := ⟨_, rfl⟩
      obtain ⟨q, eq⟩ : ∃ q, q = lastL G pre := ⟨_, rfl⟩
      rw [← ela] at c0 c1 c8 ⊢
      rw [← ez]
      rw [← eq] at c0 c1 hid
      have HX := Lib.hid (And.intro hid (And.intro (ho2.set_ (.int .i64 q.1) (.int .i64 q.2)) (hbb.trans (ho2.below (.int .i64 q.1) (.int .i64 q.2)))))
      clear ez hid ho2 hb2 hpp hle h2 ela hah hpost hlast hk8 eq hbb
      go_wp2_with fail
      refine bodyPost_ret (id_res3 Try.results32 _ HX.out.2.1 rfl rfl rfl) rfl ⟨?_, HX.out.2.2⟩
      rw [HX.out.1]
      rfl
    | cons kz kr =>
      obtain ⟨b, r, epost, hpl⟩ := hpost (by rw [hk8]; exact List.cons_ne_nil _ _)
      have hid : planR L G (k : Int) = (b.id, false, 0) := by rw [HA.out, hpl]
      have hbL : b ∈ L := (nodes_mem HH.out.1.ok).1 (by rw [hpp, epost]; simp)
      obtain ⟨d0, d1, _⟩ := el_cells (h2.el b hbL)
      rw [hk8] at c8
      replace c8 : v2.cell? ⟨ad (lastL G pre), 8, none⟩ = some (.pointer (some ⟨ad kz.id, 0, none⟩)) := c8
      obtain ⟨la, ela⟩ : ∃ b, b = ad (lastL G pre) := ⟨_, rfl⟩
      obtain ⟨lz, elz⟩ : ∃ b, b = ad kz.id := ⟨_, rfl⟩
      obtain ⟨bb, ebb⟩ : ∃ q, q = ad b.id := ⟨_, rfl⟩
      have ez : ptO ad post.head? = .pointer (some ⟨bb, 0, none⟩) := by rw [epost, ebb]; rfl
      rw [← ela] at c8 ⊢
      rw [← elz] at c8
      rw [← ebb] at d0 d1
      rw [ez]
      have HX := Lib.hid (And.intro hid (And.intro (ho2.set_ (.int .i64 b.id.1) (.int .i64 b.id.2)) (hbb.trans (ho2.below (.int .i64 b.id.1) (.int .i64 b.id.2)))))
      clear ez hid ho2 hb2 hpp hle h2 ela hah hpost hlast hk8 hbb c0 c1 elz ebb hbL epost hpl
      go_wp2_with fail
      refine bodyPost_ret (id_res3 Try.results32 _ HX.out.2.1 rfl rfl rfl) rfl ⟨?_, HX.out.2.2⟩
      rw [HX.out.1]
      rfl
end Go.Proofs.Ytpjeggbkhbghaaa
