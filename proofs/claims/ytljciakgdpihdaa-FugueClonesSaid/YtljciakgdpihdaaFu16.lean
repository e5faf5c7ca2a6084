/-
  Layer 15, the landed code: beside. By an AI agent.
-/
import Derived.Test.YtljciakgdpihdaaFu15
namespace Go.Proofs.Ytljciakgdpihdaa
open Go Go.RowKit
set_option maxRecDepth 20000
/-- The last one that is not dropped; else the beginning. -/
def lastL (G : List IDt) (pre : List Ins) : IDt := (((liveL G pre).getLast?).map Ins.id).getD (0, 0)
/-- The shortest beginning with so many that are not dropped. -/
def Least (G : List IDt) (n : Nat) (pre : List Ins) : Prop := (liveL G pre).length = n ∧ (pre = [] ∨ ∃ p y, pre = p ++ [y] ∧ y.id ∉ G)
theorem live_snoc (G : List IDt) (pre : List Ins) (x : Ins) : liveL G (pre ++ [x]) = if goneB G x.id = true then liveL G pre else liveL G pre ++ [x] := by
  rw [live_app]
  by_cases hg : goneB G x.id = true
  · rw [if_pos hg, live_off (by rw [goneB_eq] at hg; exact of_decide_eq_true hg)]
    exact List.append_nil _
  · rw [if_neg hg, live_on (by rw [goneB_eq] at hg; exact fun h => hg (decide_eq_true h))]
    rfl
theorem ptr_res2 {fn : Func} {p q : Tmp} (h : fn.results = #[.cell p 69, .cell q 69]) (tmps : Array Value) {w : World} {g1 g2 : Nat} {a b : Option Addr} (c1 : w.cell? ⟨g1, 0, none⟩ = some (.pointer a)) (c2 : w.cell? ⟨g2, 0, none⟩ = some (.pointer b)) (hp : tmps.getD p undef = .pointer (some ⟨g1, 0, none⟩)) (hq : tmps.getD q undef = .pointer (some ⟨g2, 0, none⟩)) :
    (results fn tmps).run Try.prog w = .ok (.tuple #[.pointer a, .pointer b]) w := by
  have hp' : tmps[p]?.getD undef = .pointer (some ⟨g1, 0, none⟩) := by simpa using hp
  have hq' : tmps[q]?.getD undef = .pointer (some ⟨g2, 0, none⟩) := by simpa using hq
  simp only [results, h]
  simp [Result.andThen, hp', hq', asAddr, go_sem, c1, c2]
theorem three_alloc (w : World) (a b c : Obj) : (((w.alloc a).alloc b).alloc c).heap[w.heap.size]? = some a ∧ (((w.alloc a).alloc b).alloc c).heap[w.heap.size + 1]? = some b ∧ (((w.alloc a).alloc b).alloc c).heap[w.heap.size + 1 + 1]? = some c := by
  have s1 : (w.alloc a).heap.size = w.heap.size + 1 := by simp
  have s2 : ((w.alloc a).alloc b).heap.size = w.heap.size + 1 + 1 := by simp
  refine ⟨?_, ?_, ?_⟩
  · rw [(MapKept.heap_alloc _ c).2 _ (by omega), (MapKept.heap_alloc _ b).2 _ (by omega)]
    exact (MapKept.heap_alloc w a).1
  · rw [(MapKept.heap_alloc _ c).2 _ (by omega), ← s1]
    exact (MapKept.heap_alloc (w.alloc a) b).1
  · rw [← s2]
    exact (MapKept.heap_alloc ((w.alloc a).alloc b) c).1
/-- Between two rounds of beside. -/
structure BesI (w0 : World) (T M : Nat) (ad : IDt → Nat) (L : List Ins) (G : List IDt) (n : Nat) (pre : List Ins) (W : World) : Prop where
  tree : TreeH W T M ad L G
  below : Below w0.heap.size w0 W
  size : w0.heap.size + 5 ≤ W.heap.size
  le : (liveL G pre).length ≤ n
  least : (liveL G pre).length = n → Least G n pre
  cn : W.heap[w0.heap.size]? = some (.cells #[.int .i64 ((n - (liveL G pre).length : Nat) : Int)] 3)
  ca : W.heap[w0.heap.size + 1]? = some (.cells #[pB (ad (lastL G pre))] 69)
  cb : W.heap[w0.heap.size + 1 + 1]? = some (.cells #[.pointer none] 69)
/-- .. where it has returned. -/
structure BesX (w0 : World) (ad : IDt → Nat) (L : List Ins) (G : List IDt) (n : Nat) (pre' : List Ins) (W : World) : Prop where
  below : Below w0.heap.size w0 W
  size : w0.heap.size + 5 ≤ W.heap.size
  all : ∃ pre e post, pre' = pre ++ [e] ∧ nodesL L = pre ++ e :: post ∧ Least G n pre ∧ W.heap[w0.heap.size + 1]? = some (.cells #[pB (ad (lastL G pre))] 69) ∧ W.heap[w0.heap.size + 1 + 1]? = some (.cells #[pB (ad e.id)] 69)
set_option maxHeartbeats 3200000 in
theorem beside_any {w : World} {T M : Nat} {ad : IDt → Nat} {L : List Ins} {G : List IDt} (h : TreeH w T M ad L G) (hl : L.length ≤ 4096) {n : Nat} (hn : n ≤ (liveL G (nodesL L)).length) :
    Calls Try.prog 41 #[pB T, .int .i64 (n : Int)] w fun e w' => ∃ pre post, nodesL L = pre ++ post ∧ Least G n pre ∧ e = .returned (.tuple #[pB (ad (lastL G pre)), ptO ad post.head?]) ∧ Below w.heap.size w w' := by
  refine (callsIn_wide (n := 4)).1 (callsIn_of_wp_marks Try.func41 rfl trivial ?_)
  refine wpIn_wide.2 ?_
  simp only [Try.ntmps41, List.size_toArray, List.length_cons, List.length_nil, Nat.reduceAdd, Nat.reduceSub, Array.replicate_succ, Array.replicate_zero, List.push_toArray, List.append_toArray, List.nil_append, List.cons_append]
  have hin : ∀ k, inT T M ad L k → k < w.heap.size := fun k hk => h.lt hk
  have hn4 : n ≤ 4096 := Nat.le_trans hn (Nat.le_trans (List.length_filter_le _ _) (Nat.le_trans (nodes_len h.ok) hl))
  obtain ⟨v0, ev0⟩ : ∃ v, v = ((w.alloc (.cells #[.int .i64 (n : Int)] 3)).alloc (.cells #[.pointer none] 69)).alloc (.cells #[.pointer none] 69) := ⟨_, rfl⟩
  have hb0 : Below w.heap.size w v0 := by rw [ev0]; exact (((Below.refl _ _).alloc (Nat.le_refl _) _).alloc (by simp) _).alloc (by simp; omega) _
  have KB := Lib.hid (beginning_any (h.below hb0))
  obtain ⟨v1, ev⟩ : ∃ v, v = ((w.alloc (.cells #[.int .i64 (n : Int)] 3)).alloc (.cells #[pB (ad (0, 0))] 69)).alloc (.cells #[.pointer none] 69) := ⟨_, rfl⟩
  have hb1 : Below w.heap.size w v1 := by rw [ev]; exact (((Below.refl _ _).alloc (Nat.le_refl _) _).alloc (by simp) _).alloc (by simp; omega) _
  have hs1 : v1.heap.size = w.heap.size + 3 := by rw [ev]; simp
  have hc1 : v1.heap[w.heap.size]? = some (.cells #[.int .i64 (n : Int)] 3) ∧ v1.heap[w.heap.size + 1]? = some (.cells #[pB (ad (0, 0))] 69) ∧ v1.heap[w.heap.size + 1 + 1]? = some (.cells #[.pointer none] 69) := by
    rw [ev]
    exact three_alloc _ _ _ _
  have HH := Lib.hid (And.intro h (And.intro hin (And.intro hb1 (And.intro hs1 (And.intro hc1 (And.intro hl (And.intro hn hn4)))))))
  have HV := Lib.hid (And.intro ev0 ev)
  clear h hin hb1 hs1 hc1 hl hn hn4 ev ev0 hb0
  go_upto_region 1 with fail
  rw [← HV.out.1]
  go_wp2_with (go_at_call 42; refine KB.out.mono ?_; rintro e w' ⟨rfl, hw⟩; rw [hw, HV.out.1]; clear hw w')
  rw [← HV.out.2]
  clear HV KB
  obtain ⟨h, hin, hb1, hs1, hc1, hl, hn, hn4⟩ := HH.out
  refine wp_range_bound (gf := 37) (p := pB T) rfl (enters_of Try.func37 (by kernel_rfl) rfl) (fun x : Ins => #[pB (ad x.id)]) (fun _ => rfl) (fun xs => xs = nodesL L) (fun pre x => ∃ post, nodesL L = pre ++ x :: post)
    (BesI w T M ad L G n) (BesX w ad L G n) ?hI ?hIx ?h0 (fun x => { tmps := #[pB T, .int .i64 (n : Int), undef, .pointer (some ⟨w.heap.size, 0, none⟩), .pointer (some ⟨w.heap.size + 1, 0, none⟩), .pointer (some ⟨w.heap.size + 1 + 1, 0, none⟩), pB (ad x.id), pB T, pB (ad (0, 0)), pB T, .func (.func 37) #[pB T] #[], pB (ad x.id), undef, undef, undef, undef, undef, undef, undef, undef, undef, undef, undef, undef, undef, undef], defers := [] }) ?hseq ?assign ?body ?done ?stop
  case hI =>
    rintro pre W W' ⟨h1, h2, h3, h4, h5, h6, h7, h8⟩ ht
    rw [hs1] at ht
    exact ⟨h1.twin ht (fun k hk => by have := hin k hk; omega), h2.trans (ht.below (by omega)), by rw [ht.size]; exact h3, h4, h5, (ht.block _ (by omega) (by omega)).trans h6, (ht.block _ (by omega) (by omega)).trans h7, (ht.block _ (by omega) (by omega)).trans h8⟩
  case hIx =>
    rintro pre W W' ⟨h1, h2, p, e, post, h3, h4, h5, h6, h7⟩ ht
    rw [hs1] at ht
    exact ⟨h1.trans (ht.below (by omega)), by rw [ht.size]; exact h2, p, e, post, h3, h4, h5, (ht.block _ (by omega) (by omega)).trans h6, (ht.block _ (by omega) (by omega)).trans h7⟩
  case h0 =>
    intro o1 o2 _ _
    have hb2 : Below v1.heap.size v1 ((v1.alloc o1).alloc o2) := ((Below.refl _ _).alloc (Nat.le_refl _) _).alloc (by simp) _
    have hb3 := hb1.trans (hb2.mono hb1.size)
    exact ⟨h.below hb3, hb3, by simp; omega, Nat.zero_le _, fun h => ⟨h, .inl rfl⟩, (hb2.block _ (by omega)).trans hc1.1, (hb2.block _ (by omega)).trans hc1.2.1, (hb2.block _ (by omega)).trans hc1.2.2⟩
  case hseq =>
    intro l J Jx W hJI hY hJ0
    refine (order_any (I := J) (Ix := Jx) (fun pre W hj => (hJI pre W hj).1) (fun pre x W hj hnx => hY pre x W hj hnx) W hJ0).mono ?_
    rintro e W' ⟨hv, h1 | h1⟩
    · exact ⟨hv, .inl ⟨_, rfl, h1⟩⟩
    · exact ⟨hv, .inr h1⟩
  case assign =>
    intro l x W K hK
    refine region_round (by kernel_rfl) (then_in (fun ⟨_, _, h⟩ => h)) ?_
    go_wp2_with fail
    exact hK
  case body =>
    rintro l pre x W hI ⟨post, hpost⟩ hlt
    have hx : x ∈ L := (nodes_mem h.ok).1 (by rw [hpost]; simp)
    obtain ⟨e0, e1, e2, e3, _⟩ := el_cells (hI.tree.el x hx)
    obtain ⟨be, ebe⟩ : ∃ b, b = ad x.id := ⟨_, rfl⟩
    rw [← ebe] at e3
    have HE := Lib.hid ebe
    obtain ⟨g, eg⟩ : ∃ g, g = w.heap.size := ⟨_, rfl⟩
    obtain ⟨ga, ega⟩ : ∃ g, g = w.heap.size + 1 := ⟨_, rfl⟩
    obtain ⟨gb, egb⟩ : ∃ g, g = w.heap.size + 1 + 1 := ⟨_, rfl⟩
    rw [← ebe, ← egb, ← ega, ← eg]
    have c1 : W.cell? ⟨g, 0, none⟩ = some (.int .i64 ((n - (liveL G pre).length : Nat) : Int)) := by rw [eg]; simp [World.cell?, hI.cn]
    have c2 : W.cell? ⟨ga, 0, none⟩ = some (.pointer (some ⟨ad (lastL G pre), 0, none⟩)) := by rw [ega]; simp [World.cell?, hI.ca]
    have c3 : W.cell? ⟨gb, 0, none⟩ = some (.pointer none) := by rw [egb]; simp [World.cell?, hI.cb]
    have f1 : W.frozen? ⟨g, 0, none⟩ = false := by rw [eg]; exact cells_free hI.cn 0
    have f2 : W.frozen? ⟨ga, 0, none⟩ = false := by rw [ega]; exact cells_free hI.ca 0
    have f3 : W.frozen? ⟨gb, 0, none⟩ = false := by rw [egb]; exact cells_free hI.cb 0
    obtain ⟨q, eq⟩ : ∃ q, q = n - (liveL G pre).length := ⟨_, rfl⟩
    obtain ⟨la, ela⟩ : ∃ b, b = ad (lastL G pre) := ⟨_, rfl⟩
    rw [← eq] at c1
    rw [← ela] at c2
    have HN := Lib.hid (show ga ≠ gb ∧ g ≠ ga by omega)
    have HI := Lib.hid (And.intro hI (And.intro eq (And.intro ela (And.intro eg (And.intro ega (And.intro egb (And.intro hpost (And.intro hs1 (And.intro hin hx)))))))))
    have hq4 : q ≤ 4096 := by omega
    clear hI eq ela eg ega egb hpost ebe e0 e1 e2 h hin hb1 hs1 hc1 hl hn hn4 hlt hx
    refine wpIn_block (wpIn_seq ?_)
    by_cases hq : q = 0
    · subst hq
      clear e3 hq4 f1
      have k3 : ∀ v, (W.setCell ⟨ga, 0, none⟩ v).cell? ⟨gb, 0, none⟩ = some (.pointer none) := fun v => (World.cell?_of_block (set_other W v HN.out.1.symm)).trans c3
      have kf3 : ∀ v, (W.setCell ⟨ga, 0, none⟩ v).frozen? ⟨gb, 0, none⟩ = false := fun v => (World.frozen?_of_block (set_other W v HN.out.1.symm)).trans f3
      clear c3 f3
      refine wpIn_seq ?_
      refine region_round (by kernel_rfl) (then_in (then_in (inBlock_in roundQ_in))) ?_
      go_wp2_with fail
      clear c1
      refine wpIn_cond_true rfl (wpIn_seq ?_)
      refine region_round (by kernel_rfl) (then_in (then_in (inBlock_in roundQ_in))) ?_
      go_wp2_with fail
      refine wpIn_ret ?_
      obtain ⟨hI, eq, ela, eg, ega, egb, hpost, hs1, hin, hx⟩ := HI.out
      have hD : ∀ k, k ≠ ga → k ≠ gb → ((W.setCell ⟨ga, 0, none⟩ (.pointer (some ⟨la, 0, none⟩))).setCell ⟨gb, 0, none⟩ (.pointer (some ⟨be, 0, none⟩))).heap[k]? = W.heap[k]? := fun k h1 h2 => by rw [set_other _ _ h2, set_other _ _ h1]
      refine ⟨⟨hD _ (by omega) (by omega), hD _ (by omega) (by omega)⟩, ⟨(hI.below.setCell (p := ⟨ga, 0, none⟩) (by show w.heap.size ≤ ga; omega) _).setCell (p := ⟨gb, 0, none⟩) (by show w.heap.size ≤ gb; omega) _, by rw [set_size, set_size]; exact hI.size, pre, x, post, rfl, hpost, hI.least (by have := hI.le; omega), ?_, ?_⟩⟩
      · have := hI.ca
        rw [← ega] at this ⊢
        rw [set_other _ _ HN.out.1, set_block this 0, ← ela]
        rfl
      · have h1 := hI.cb
        rw [← egb] at h1 ⊢
        have h2 := (set_other (k := 0) W (.pointer (some ⟨la, 0, none⟩)) HN.out.1.symm).trans h1
        rw [set_block h2 0, ← HE.out]
        rfl
    · have hqb : ((q : Int) == 0) = false := by simp [hq]
      have hq1 : (1 : Int) ≤ (q : Int) := by omega
      have HQ := Lib.hid hq
      clear c3 f3 hq
      refine wpIn_seq ?_
      refine region_round (by kernel_rfl) (then_in (then_in (inBlock_in roundQ_in))) ?_
      go_wp2_with fail
      clear hqb
      refine wpIn_cond_false rfl (wpIn_skip ?_)
      refine wpIn_seq ?_
      refine region_round (by kernel_rfl) (then_in (inBlock_in roundQ_in)) ?_
      obtain ⟨gn, egn⟩ : ∃ q, q = goneB G x.id := ⟨_, rfl⟩
      rw [← egn] at e3
      have HG := Lib.hid egn
      clear egn
      cases gn with
      | true =>
        clear c1 c2 f1 f2
        go_wp2_with fail
        refine wpIn_cond_false rfl (wpIn_skip ?_)
        obtain ⟨hI, eq, ela, eg, ega, egb, hpost, hs1, hin, hx⟩ := HI.out
        have hlv : liveL G (pre ++ [x]) = liveL G pre := by rw [live_snoc, if_pos HG.out.symm]
        refine ⟨⟨rfl, rfl⟩, hI.tree, hI.below, hI.size, by rw [hlv]; exact hI.le, fun h => ?_, by rw [hlv]; exact hI.cn, ?_, hI.cb⟩
        · rw [hlv] at h
          have := HQ.out
          omega
        · unfold lastL
          rw [hlv]
          exact hI.ca
      | false =>
        go_wp2_with fail
        clear e3
        refine wpIn_cond_true rfl (wpIn_seq ?_)
        refine region_round (by kernel_rfl) (then_in (inBlock_in roundQ_in)) ?_
        have k1 : ∀ v, (W.setCell ⟨ga, 0, none⟩ v).cell? ⟨g, 0, none⟩ = some (.int .i64 (q : Int)) := fun v => (World.cell?_of_block (set_other W v HN.out.2)).trans c1
        have kf1 : ∀ v, (W.setCell ⟨ga, 0, none⟩ v).frozen? ⟨g, 0, none⟩ = false := fun v => (World.frozen?_of_block (set_other W v HN.out.2)).trans f1
        clear c1 f1
        go_wp2_with fail
        refine region_round (by kernel_rfl) (inBlock_in roundQ_in) ?_
        clear c2 f2
        go_wp2_with fail
        obtain ⟨hI, eq, ela, eg, ega, egb, hpost, hs1, hin, hx⟩ := HI.out
        have hxG : x.id ∉ G := by have := HG.out; rw [goneB_eq] at this; exact of_decide_eq_false this.symm
        have hlv : liveL G (pre ++ [x]) = liveL G pre ++ [x] := by rw [live_snoc, if_neg (by rw [← HG.out]; decide)]
        have hq := HQ.out
        have hD : ∀ k, k ≠ ga → k ≠ g → ((W.setCell ⟨ga, 0, none⟩ (.pointer (some ⟨be, 0, none⟩))).setCell ⟨g, 0, none⟩ (.int .i64 ((q : Int) - 1))).heap[k]? = W.heap[k]? := fun k h1 h2 => by rw [set_other _ _ h2, set_other _ _ h1]
        refine ⟨⟨hD _ (by omega) (by omega), hD _ (by omega) (by omega)⟩, hI.tree.keep (fun k hk => hD k (by have := hin k hk; omega) (by have := hin k hk; omega)), (hI.below.setCell (p := ⟨ga, 0, none⟩) (by show w.heap.size ≤ ga; omega) _).setCell (p := ⟨g, 0, none⟩) (by show w.heap.size ≤ g; omega) _, by rw [set_size, set_size]; exact hI.size, ?_, fun h => ⟨h, .inr ⟨pre, x, rfl, hxG⟩⟩, ?_, ?_, ?_⟩
        · rw [hlv, List.length_append, List.length_singleton]
          omega
        · have h1 := hI.cn
          rw [← eg] at h1 ⊢
          have h2 := (set_other (k := 0) W (.pointer (some ⟨be, 0, none⟩)) HN.out.2).trans h1
          rw [set_block h2 0, hlv, List.length_append, List.length_singleton, show ((q : Int) - 1) = ((n - ((liveL G pre).length + 1) : Nat) : Int) by omega]
          rfl
        · have h1 := hI.ca
          rw [← ega] at h1 ⊢
          have e1 : lastL G (pre ++ [x]) = x.id := by unfold lastL; rw [hlv, List.getLast?_concat]; rfl
          rw [set_other _ _ (fun e => HN.out.2 e.symm), set_block h1 0, e1, ← HE.out]
          rfl
        · exact (hD _ (by omega) (by omega)).trans hI.cb
  case done =>
    rintro xs W rfl hI hK
    rw [hs1] at hK
    rw [hs1]
    obtain ⟨g, eg⟩ : ∃ g, g = w.heap.size := ⟨_, rfl⟩
    obtain ⟨ga, ega⟩ : ∃ g, g = w.heap.size + 1 := ⟨_, rfl⟩
    obtain ⟨gb, egb⟩ : ∃ g, g = w.heap.size + 1 + 1 := ⟨_, rfl⟩
    obtain ⟨gd, egd⟩ : ∃ g, g = w.heap.size + 3 := ⟨_, rfl⟩
    rw [← egd] at hK
    rw [← egd, ← egb, ← ega, ← eg]
    have c2 : W.cell? ⟨ga, 0, none⟩ = some (.pointer (some ⟨ad (lastL G (nodesL L)), 0, none⟩)) := by rw [ega]; simp [World.cell?, hI.ca]
    have c3 : W.cell? ⟨gb, 0, none⟩ = some (.pointer none) := by rw [egb]; simp [World.cell?, hI.cb]
    have f2 : W.frozen? ⟨ga, 0, none⟩ = false := by rw [ega]; exact cells_free hI.ca 0
    have f3 : W.frozen? ⟨gb, 0, none⟩ = false := by rw [egb]; exact cells_free hI.cb 0
    obtain ⟨la, ela⟩ : ∃ b, b = ad (lastL G (nodesL L)) := ⟨_, rfl⟩
    rw [← ela] at c2
    have hne : ga ≠ gb := by omega
    have k3 : ∀ v, (W.setCell ⟨ga, 0, none⟩ v).cell? ⟨gb, 0, none⟩ = some (.pointer none) := fun v => (World.cell?_of_block (set_other W v hne.symm)).trans c3
    have kf3 : ∀ v, (W.setCell ⟨ga, 0, none⟩ v).frozen? ⟨gb, 0, none⟩ = false := fun v => (World.frozen?_of_block (set_other W v hne.symm)).trans f3
    have HB := Lib.hid (And.intro hI (And.intro hK (And.intro eg (And.intro ega (And.intro egb (And.intro egd (And.intro ela hne)))))))
    have HN := Lib.hid hn
    clear hI hK eg ega egb egd ela h hin hb1 hs1 hc1 hl hn hn4 c3 f3 hne
    go_wp2_with fail
    obtain ⟨hI, hK, eg, ega, egb, egd, ela, hne⟩ := HB.out
    have hD : ∀ k, k ≠ ga → k ≠ gb → ((W.setCell ⟨ga, 0, none⟩ (.pointer (some ⟨la, 0, none⟩))).setCell ⟨gb, 0, none⟩ (.pointer none)).heap[k]? = W.heap[k]? := fun k h1 h2 => by rw [set_other _ _ h2, set_other _ _ h1]
    have hK2 := (hD gd (by omega) (by omega)).trans hK
    have htw : Twin gd ((W.setCell ⟨ga, 0, none⟩ (.pointer (some ⟨la, 0, none⟩))).setCell ⟨gb, 0, none⟩ (.pointer none)) (((W.setCell ⟨ga, 0, none⟩ (.pointer (some ⟨la, 0, none⟩))).setCell ⟨gb, 0, none⟩ (.pointer none)).putObj gd (.deferred none)) := Twin.put _ _ (.inl rfl) rfl
    have h1 := hI.ca
    have h2 := hI.cb
    rw [← ega, ← ela] at h1
    rw [← egb] at h2
    have h3 := (set_other (k := 0) W (.pointer (some ⟨la, 0, none⟩)) hne.symm).trans h2
    have q2 := (htw.block ga (by omega) (by omega)).trans ((set_other (k := 0) (W.setCell ⟨ga, 0, none⟩ (.pointer (some ⟨la, 0, none⟩))) (.pointer none) hne).trans (set_block h1 0 (.pointer (some ⟨la, 0, none⟩))))
    have q3 := (htw.block gb (by omega) (by omega)).trans (set_block h3 0 (.pointer none))
    have hlen : (liveL G (nodesL L)).length = n := Nat.le_antisymm hI.le HN.out
    refine ⟨by simp, .inl ⟨_, _, rfl, run_takeDeferred hK2, ?_⟩⟩
    refine ⟨_, ptr_res2 Try.results41 _ (g1 := ga) (g2 := gb) (a := some ⟨la, 0, none⟩) (b := none) (by simp [World.cell?, q2]) (by simp [World.cell?, q3]) rfl rfl, nodesL L, [], by simp, hI.least hlen, by rw [ela]; rfl, ?_⟩
    exact ((hI.below.setCell (p := ⟨ga, 0, none⟩) (by show w.heap.size ≤ ga; omega) _).setCell (p := ⟨gb, 0, none⟩) (by show w.heap.size ≤ gb; omega) _).trans (htw.below (by omega))
  case stop =>
    rintro pre' W ⟨hb, hsz, pre, e, post, _, hpost, hleast, ca, cb⟩ hK
    rw [hs1] at hK
    rw [hs1]
    have htw : Twin (w.heap.size + 3) W (W.putObj (w.heap.size + 3) (.deferred none)) := Twin.put _ _ (.inl rfl) rfl
    have q2 := (htw.block _ (by omega) (by omega)).trans ca
    have q3 := (htw.block _ (by omega) (by omega)).trans cb
    refine ⟨by simp, .inl ⟨_, _, rfl, run_takeDeferred hK, ?_⟩⟩
    refine ⟨_, ptr_res2 Try.results41 _ (g1 := w.heap.size + 1) (g2 := w.heap.size + 1 + 1) (a := some ⟨ad (lastL G pre), 0, none⟩) (b := some ⟨ad e.id, 0, none⟩) (by simp [World.cell?, q2]) (by simp [World.cell?, q3]) rfl rfl, pre, e :: post, hpost, hleast, rfl, hb.trans (htw.below (by omega))⟩
end Go.Proofs.Ytljciakgdpihdaa
