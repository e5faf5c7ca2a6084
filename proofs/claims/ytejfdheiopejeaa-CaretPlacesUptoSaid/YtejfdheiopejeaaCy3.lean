/-
  Layer 17, the landed code: the carets one by one as a closure; Places. By an AI agent.
-/
import Derived.Test.YtejfdheiopejeaaCy2
namespace Go.Proofs.Ytejfdheiopejeaa
open Go Go.RowKit
set_option maxRecDepth 20000
theorem infoCp : (Try.prog.info? 30).map (fun i => (i.zero, i.size, i.bytes)) = some (some (.complex .f64 0 0), 1, 16) := by kernel_rfl
theorem hmk17 (fn : Fn) (first cap : Array Value) (w : World) : (Instr.makeFunc fn first cap).run Try.prog w = .ok (.func fn first cap) w := rfl
theorem carets_any {s : ByteArray} {k : Int} (w : World) : Calls Try.prog 20 #[.string s, .int .i64 k] w fun e w' =>
    e = .returned (.func (.func 22) #[] #[.pointer (some ⟨w.heap.size, 0, none⟩), .pointer (some ⟨w.heap.size + 1, 0, none⟩)]) ∧ w' = (w.alloc (.cells #[.string s] 9)).alloc (.cells #[.int .i64 k] 3) := by
  obtain ⟨v, hv⟩ : ∃ v, v = (w.alloc (.cells #[.string s] 9)).alloc (.cells #[.int .i64 k] 3) := ⟨_, rfl⟩
  have hmk := fun (fn : Fn) (first cap : Array Value) (w : World) => hmk17 fn first cap w
  go_enter Try.func20, Try.ntmps20
  go_wp2_with fail
  go_ret
  exact ⟨by first | rfl | simp, rfl⟩
theorem run_mkc0 (t e : TypeId) (i : TypeInfo) (ht : Try.prog.underlying t = some (.slice e)) (hi : Try.prog.info? e = some i) (hz : i.zero = some (.complex .f64 0 0))
    (hsize : i.size = 1) (hby : i.bytes = 16) {n : Nat} (hn : n ≤ 17592186044416) (w : World) :
    (Instr.makeSlice t (.int .i64 0) (.int .i64 (n : Int))).run Try.prog w = .ok (.slice (some ⟨w.heap.size, 0, none⟩) 0 n) (w.alloc (.cells (madeCells #[.complex .f64 0 0] n) e)) := by
  have h := run_make (P := Try.prog) w t e i (.complex .f64 0 0) ht hi hz .i64 .i64 0 n (by omega) (by omega) (by rw [hby]; omega) (by omega)
  simpa [hsize, Value.cells] using h
theorem OwnR.madec {w : World} {B n : Nat} (e : TypeId) (hB : B ≤ w.heap.size) (hn : n ≤ maxLen) : OwnR cpE (w.alloc (.cells (madeCells #[.complex .f64 0 0] n) e)) B e (some ⟨w.heap.size, 0, none⟩) n [] :=
  World.ownsRow_made w _ n hB hn (by show _ = n * 1; simp [madeCells])
theorem places_bad {s : ByteArray} {k : Int} (h : ¬ (2 ≤ k ∧ k ≤ 200)) (w : World) :
    Calls Try.prog 8 #[.string s, .int .i64 k] w fun e w' => e = .returned (.tuple #[.slice none 0 0, .int .i64 6]) ∧ w' = w := by
  refine (callsIn_wide (n := 4)).1 (callsIn_of_wp_marks Try.func8 rfl trivial ?_)
  refine wpIn_wide.2 ?_
  simp only [Try.ntmps8, List.size_toArray, List.length_cons, List.length_nil, Nat.reduceAdd, Nat.reduceSub, Array.replicate_succ, Array.replicate_zero, List.push_toArray, List.append_toArray, List.nil_append, List.cons_append]
  have hd := decide_eq_false h
  clear h
  go_wp2_with (go_at_call 18; refine (right_any k w).mono ?_; rintro z wz ⟨rfl, hwz⟩; rw [hwz, hd]; clear hwz wz)
  exact ⟨_, results_tmp2 rfl _ _ _, rfl, rfl⟩
/-- Between two rounds of Places: the box at g holds what has come. -/
def PlI (w0 : World) (g r : Nat) (s : ByteArray) (k : Int) (pre : List (Nat × IDt)) (W : World) : Prop :=
  Below w0.heap.size w0 W ∧ g + 6 ≤ W.heap.size ∧ W.cell? ⟨g + 1, 0, none⟩ = some (.string s) ∧ W.cell? ⟨g + 2, 0, none⟩ = some (.int .i64 k) ∧
    ∃ A c, W.heap[g]? = some (.cells #[.slice A pre.length c] 22) ∧ OwnR cpE W w0.heap.size 30 A c (pre.map Prod.snd) ∧ ∀ ad, A = some ad → ad.block = r ∨ g + 6 ≤ ad.block
theorem grown17 {W w8 : World} {A A8 : Option Addr} {r g : Nat} (h : GrewS W w8 A A8) (h7 : ∀ ad, A = some ad → ad.block = r ∨ g ≤ ad.block) : ∀ k, k < W.heap.size → (k ≠ r ∧ k < g) → w8.heap[k]? = W.heap[k]? := by
  intro k hk hn
  refine (h.1 0 0).block k hk ?_
  cases A with
  | none => simp [Value.ownBlock]
  | some a =>
    have := h7 a rfl
    simp only [Value.ownBlock, ne_eq, Option.some.injEq]
    omega
set_option maxHeartbeats 6400000 in
theorem places_any {s : ByteArray} {k : Int} (hk : 2 ≤ k ∧ k ≤ 200) (hs : s.size ≤ 1048576) (w : World) :
    Calls Try.prog 8 #[.string s, .int .i64 k] w fun e w' => ∃ A c, e = .returned (.tuple #[.slice A (spotsR k (runesFrom s 0) (0, 0)).length c, .int .i64 0]) ∧ OwnR cpE w' w.heap.size 30 A c (spotsR k (runesFrom s 0) (0, 0)) ∧ Below w.heap.size w w' := by
  refine (callsIn_wide (n := 4)).1 (callsIn_of_wp_marks Try.func8 rfl trivial ?_)
  refine wpIn_wide.2 ?_
  simp only [Try.ntmps8, List.size_toArray, List.length_cons, List.length_nil, Nat.reduceAdd, Nat.reduceSub, Array.replicate_succ, Array.replicate_zero, List.push_toArray, List.append_toArray, List.nil_append, List.cons_append]
  have hd := decide_eq_true hk
  obtain ⟨n, en⟩ : ∃ n, n = (runesFrom s 0).length := ⟨_, rfl⟩
  have hn : n ≤ 1048576 := by have := runes_len s s.size 0 rfl; omega
  obtain ⟨i0, hi0, hz0, hz1, hz2⟩ := info_parts infoCp
  have HI := Lib.hid (And.intro hi0 (And.intro hz0 (And.intro hz1 hz2)))
  have hmk := fun w => run_mkc0 (n := n + 1) 22 30 i0 Try.underlying22 hi0 hz0 hz1 hz2 (by omega) w
  rw [Int.natCast_add, Int.natCast_one] at hmk
  have HK := Lib.hid (And.intro hk (And.intro hs en))
  clear hk hs hi0 hz0 hz1 hz2 en
  have HN := Lib.hid hn
  go_upto_region 3 with (go_at_call 18; refine (right_any k w).mono ?_; rintro z wz ⟨rfl, hwz⟩; rw [hwz, hd]; clear hwz wz)
  go_wp2_with (go_at_call 19; refine (count_any HK.out.2.1 w).mono ?_; rintro z w1 ⟨rfl, hb1⟩; rw [← HK.out.2.2]; have HB1 := Lib.hid hb1; clear hb1)
  obtain ⟨r, er⟩ : ∃ r, r = w1.heap.size := ⟨_, rfl⟩
  obtain ⟨v1, ev1⟩ : ∃ v, v = ((w1.alloc (.cells (madeCells #[.complex .f64 0 0] (n + 1)) 30)).alloc (.cells #[.slice (some ⟨w1.heap.size, 0, none⟩) 0 (n + 1)] 22)) := ⟨_, rfl⟩
  rw [← ev1, ← er]
  obtain ⟨v2, ev2⟩ : ∃ v, v = (v1.alloc (.cells #[.string s] 9)).alloc (.cells #[.int .i64 k] 3) := ⟨_, rfl⟩
  have hs1 : v1.heap.size = r + 2 := by rw [ev1, er]; simp
  have hs2 : v2.heap.size = r + 4 := by rw [ev2]; simp [hs1]
  have hw1 := HB1.out
  have hrw : w.heap.size ≤ r := by rw [er]; exact hw1.size
  have hb12 : Below r w1 v1 := by rw [ev1, er]; exact ((Below.refl _ _).alloc (Nat.le_refl _) _).alloc (by simp) _
  have hb2 : Below v1.heap.size v1 v2 := by rw [ev2]; exact ((Below.refl _ _).alloc (Nat.le_refl _) _).alloc (by simp) _
  have hbw : Below w.heap.size w v2 := (hw1.trans (hb12.mono hrw)).trans (hb2.mono (by omega))
  have hown : OwnR cpE v2 w.heap.size 30 (some ⟨r, 0, none⟩) (n + 1) [] := by
    have h1 := OwnR.madec (w := w1) (n := n + 1) (B := w.heap.size) 30 hw1.size (by have := HN.out; simp [maxLen]; omega)
    rw [← er] at h1
    have h2 : Below (w1.alloc (.cells (madeCells #[.complex .f64 0 0] (n + 1)) 30)).heap.size (w1.alloc (.cells (madeCells #[.complex .f64 0 0] (n + 1)) 30)) v1 := by rw [ev1]; exact (Below.refl _ _).alloc (Nat.le_refl _) _
    exact (h1.keep h2).keep hb2
  have hout : v2.heap[r + 1]? = some (.cells #[.slice (some ⟨r, 0, none⟩) 0 (n + 1)] 22) := by
    refine (hb2.block _ (by omega)).trans ?_
    rw [ev1, er]
    have := (MapKept.heap_alloc (w1.alloc (.cells (madeCells #[.complex .f64 0 0] (n + 1)) 30)) (.cells #[.slice (some ⟨w1.heap.size, 0, none⟩) 0 (n + 1)] 22)).1
    simpa using this
  have hc1 : v2.cell? ⟨r + 2, 0, none⟩ = some (.string s) := by rw [ev2, ← hs1]; simp
  have hc2 : v2.cell? ⟨r + 3, 0, none⟩ = some (.int .i64 k) := by rw [ev2, show r + 3 = v1.heap.size + 1 by omega]; simp
  have HV := Lib.hid (And.intro hbw (And.intro hown (And.intro hout (And.intro hc1 (And.intro hc2 (And.intro hs2 hrw))))))
  have HC := Lib.hid (carets_any (s := s) (k := k) v1)
  rw [← ev2, hs1] at HC
  clear hmk ev1 ev2 hs1 hs2 hw1 hrw hb12 hb2 hbw hown hout hc1 hc2 er hd
  refine HC.out.mono ?_
  rintro z wz ⟨rfl, hwz⟩
  rw [hwz]
  clear hwz wz HC
  go_wp2_with fail
  have hv := HV.out
  obtain ⟨all, eall⟩ : ∃ l, l = spotsR k (runesFrom s 0) (0, 0) := ⟨_, rfl⟩
  have HA := Lib.hid (And.intro eall (show all.length ≤ n + 1 by rw [eall, spotsR_len, HK.out.2.2]; exact Nat.le_refl _))
  refine wp_range_walk (gf := 22) (caps := #[.pointer (some ⟨r + 2, 0, none⟩), .pointer (some ⟨r + 2 + 1, 0, none⟩)]) rfl (enters_of Try.func22 (by kernel_rfl) rfl) encC (fun _ => rfl) (fun xs => xs.map Prod.snd = all) (Nxt all)
    (PlI w (r + 1) r s k) (fun _ _ => False) ?hI (fun _ _ _ h _ => h) ?h0 (fun x => { tmps := #[.string s, .int .i64 k, undef, undef, .slice none 0 0, .int .i64 0, .pointer (some ⟨r + 1, 0, none⟩), undef, cpV x.2, .int .i64 k, .bool true, .bool false, .string s, .int .i64 (n : Int), .int .i64 ((n : Int) + 1), .slice (some ⟨r, 0, none⟩) 0 (n + 1), .string s, .int .i64 k, .func (.func 22) #[] #[.pointer (some ⟨r + 2, 0, none⟩), .pointer (some ⟨r + 2 + 1, 0, none⟩)], .int .i64 (x.1 : Int), cpV x.2, undef, undef, undef, undef, undef], defers := [] }) ?hseq ?assign ?body ?done (fun _ _ h _ => h.elim)
  case hI =>
    rintro pre W W' ⟨h1, h2, h3, h4, A, c, h5, h6, h7⟩ ht
    rw [hv.2.2.2.2.2.1] at ht
    exact ⟨h1.trans (ht.below (by have := hv.2.2.2.2.2.2; omega)), by rw [ht.size]; exact h2, (World.cell?_of_block (ht.block (r + 1 + 1) (by omega))).trans h3, (World.cell?_of_block (ht.block (r + 1 + 2) (by omega))).trans h4, A, c, (ht.block _ (by omega)).trans h5,
      h6.keep0 fun ad e => ht.block _ (by have := h7 ad e; omega), h7⟩
  case h0 =>
    intro o1 o2 o3
    have hb : Below v2.heap.size v2 (((v2.alloc o1).alloc o2).alloc o3) := (((Below.refl _ _).alloc (Nat.le_refl _) _).alloc (by simp) _).alloc (by simp; omega) _
    have hsz := hv.2.2.2.2.2.1
    exact ⟨hv.1.trans (hb.mono hv.1.size), by simp; omega, (hb.cell (p := ⟨r + 2, 0, none⟩) (by show r + 2 < _; omega)).trans hv.2.2.2.1, (hb.cell (p := ⟨r + 3, 0, none⟩) (by show r + 3 < _; omega)).trans hv.2.2.2.2.1, _, _, (hb.block _ (by omega)).trans hv.2.2.1, hv.2.1.keep hb, fun ad e => .inl (by rw [← Option.some.inj e])⟩
  case hseq =>
    intro l J Jx W hl hW hJI hJp hY h0
    have hj := hJI _ _ (h0 (.stringIter s 0))
    have hsz := hv.2.2.2.2.2.1
    refine (seq_any (J := J) (Jx := Jx) HK.out.1 HK.out.2.1 eall (fun pre W hj => ⟨(hJI pre W hj).2.2.1, (hJI pre W hj).2.2.2.1⟩) hJp hY W hW ?_ h0).mono ?_
    · have h3 := hj.2.2.1
      rwa [((Below.refl W.heap.size W).alloc (Nat.le_refl _) (.stringIter s 0)).cell (p := ⟨r + 1 + 1, 0, none⟩) (by show r + 2 < _; omega)] at h3
    · rintro e W' ⟨hv', h1 | h1⟩
      · exact ⟨hv', .inl h1⟩
      · exact ⟨hv', .inr h1⟩
  case assign =>
    intro l x W K hK
    unfold encC
    refine region_round (by kernel_rfl) (then_lets (fun ⟨_, _, h⟩ => h)) ?_
    go_wp2_with fail
    exact hK
  case body =>
    rintro l pre x W ⟨h1, h2, h3, h4, A, c, h5, h6, h7⟩ ⟨hx, post, hpost⟩ hlt
    have hmn : pre.length ≤ n := by
      have h1 := HA.out.2
      rw [hpost, List.length_append, List.length_map, List.length_cons] at h1
      omega
    have hgl : r + 1 < W.heap.size := by omega
    have hcc : W.cell? ⟨r + 1, 0, none⟩ = some (.slice A pre.length c) := by simp [World.cell?, h5]
    obtain ⟨m, em⟩ : ∃ m, m = pre.length := ⟨_, rfl⟩
    obtain ⟨fx, efx⟩ : ∃ v, v = fi x.2.1 := ⟨_, rfl⟩
    obtain ⟨fy, efy⟩ : ∃ v, v = fi x.2.2 := ⟨_, rfl⟩
    have epv : Value.complex .f64 fx fy = cpV x.2 := by rw [efx, efy]; rfl
    clear efx efy
    obtain ⟨x1, ex1⟩ : ∃ q, q = (x.1 : Int) := ⟨_, rfl⟩
    rw [← em] at hcc
    rw [← epv, ← ex1]
    have HB := Lib.hid (And.intro h1 (And.intro h2 (And.intro h3 (And.intro h4 (And.intro h5 (And.intro h6 (And.intro h7 (And.intro em (And.intro epv (And.intro hlt hv))))))))))
    have HM := Lib.hid (show (pre.map Prod.snd).length = m by rw [List.length_map, em])
    have hn9 := HN.out
    have HLN := Lib.hid (show m + 1 ≤ 140737488355328 ∧ (m + 1) * 16 ≤ 140737488355328 by omega)
    have hm9 : m ≤ 1048576 := by omega
    clear h1 h2 h3 h4 h5 h6 h7 em epv hx hpost hlt hv hmn hn hn9 ex1 HA eall
    refine wpIn_block ?_
    refine region_round (by kernel_rfl) (inBlock_lets roundW_in) ?_
    go_wp2_with (at_builtin; refine wpList_appR1 W rfl (.tmp 21) (.tmp 23) _ rfl w.heap.size 30 i0 _ Try.underlying22 HI.out.1 HI.out.2.1 HI.out.2.2.1 HI.out.2.2.2 rfl HM.out rfl HB.out.2.2.2.2.2.1 (y := x.2) (by rw [HB.out.2.2.2.2.2.2.2.2.1]; rfl) rfl HLN.out.1 HLN.out.2 HB.out.1.size ?_; intro A8 c8 w8 o8 hb8 hg8; have hgr := grown17 hg8 HB.out.2.2.2.2.2.2.1; have hfg := (hgr (r + 1) hgl (by omega)).trans HB.out.2.2.2.2.1; have kc : w8.cell? ⟨r + 1, 0, none⟩ = some (.slice A pre.length c) := (by simp [World.cell?, hfg]); have kf := w_free hfg 0; have H8 := Lib.hid (And.intro o8 (And.intro hb8 (And.intro hg8 (And.intro hgr hfg)))); clear o8 hb8 hg8 hgr hfg)
    obtain ⟨o8, hb8, hg8, hgr, hfg⟩ := H8.out
    obtain ⟨b1, b2, b3, b4, b5, b6, b7, bm, bp, blt, b8, _, _, _, _, b9, b10⟩ := HB.out
    have hne : ∀ ad, A8 = some ad → ad.block = r ∨ r + 1 + 6 ≤ ad.block := fun ad e => (hg8.2 ad e).elim (fun ⟨a0, e0, h0⟩ => by have := b7 a0 e0; omega) (fun h => .inr (by omega))
    have hD : ∀ k, k < r + 1 + 6 → k ≠ r → k ≠ r + 1 → (w8.setCell ⟨r + 1, 0, none⟩ (.slice A8 (m + 1) c8)).heap[k]? = W.heap[k]? := fun k h1 h2 h3 => by
      rw [w_other _ _ h3, hgr k (by omega) (by omega)]
    refine ⟨⟨?_, ?_, ?_⟩, ?_, ?_, ?_, ?_, A8, c8, ?_, ?_, hne⟩
    · exact hD _ (by omega) (by omega) (by omega)
    · exact hD _ (by omega) (by omega) (by omega)
    · exact hD _ (by omega) (by omega) (by omega)
    · exact (b1.trans hb8).setCell (p := ⟨r + 1, 0, none⟩) (by show w.heap.size ≤ r + 1; omega) _
    · rw [w_size]
      exact Nat.le_trans b2 (hg8.1 0 0).size
    · exact (World.cell?_of_block (hD (r + 1 + 1) (by omega) (by omega) (by omega))).trans b3
    · exact (World.cell?_of_block (hD (r + 1 + 2) (by omega) (by omega) (by omega))).trans b4
    · have := w_block hfg 0 (.slice A8 (m + 1) c8)
      rw [this, List.length_append, List.length_singleton, ← bm]
      rfl
    · rw [List.map_append, List.map_singleton]
      exact o8.keep0 fun ad ha => w_other _ _ (by have := hne ad ha; omega)
  case done =>
    rintro xs W hxs ⟨h1, h2, h3, h4, A, c, h5, h6, h7⟩ hK
    rw [hv.2.2.2.2.2.1] at hK
    rw [hv.2.2.2.2.2.1]
    have hlx : xs.length = all.length := by rw [← hxs, List.length_map]
    rw [hlx] at h5
    rw [hxs] at h6
    have kc : W.cell? ⟨r + 1, 0, none⟩ = some (.slice A all.length c) := by simp [World.cell?, h5]
    have HB := Lib.hid (And.intro h1 (And.intro h2 (And.intro h6 (And.intro h7 (And.intro hK hv.2.2.2.2.2.2)))))
    have HA := Lib.hid eall
    clear h1 h2 h3 h4 h5 h6 h7 hK hlx hxs hv eall
    go_wp2_with fail
    obtain ⟨b1, b2, b3, b4, bK, b5⟩ := HB.out
    refine ⟨by simp, .inl ⟨_, _, rfl, run_takeDeferred bK, ?_⟩⟩
    have htw : Trip (r + 4) W (W.putObj (r + 4) (.deferred none)) := Trip.put W _ (by omega)
    refine ⟨_, results_tmp2 rfl _ _ _, A, c, ?_, ?_, b1.trans (htw.below (by omega))⟩
    · rw [← HA.out]
      rfl
    · rw [← HA.out]
      exact b3.keep0 fun ad e => htw.block _ (by have := b4 ad e; omega)
end Go.Proofs.Ytejfdheiopejeaa
