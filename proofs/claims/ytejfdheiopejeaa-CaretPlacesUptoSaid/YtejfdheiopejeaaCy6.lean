/-
  Layer 17, the landed code: Move by nothing. By an AI agent.
-/
import Derived.Test.YtejfdheiopejeaaCy5
namespace Go.Proofs.Ytejfdheiopejeaa
open Go Go.RowKit
set_option maxRecDepth 20000
attribute [local go_sem] Oper.semAt_some run_store_float17 run_store_complex17
/-- The boxes of a call of Move, from block a on. -/
structure MvB (w0 : World) (a : Nat) (s : ByteArray) (k i : Int) (r1 r2 : Int) (W : World) : Prop where
  below : Below w0.heap.size w0 W
  size : a + 11 ≤ W.heap.size
  b0 : W.heap[a]? = some (.cells #[.string s] 9)
  b1 : W.heap[a + 1]? = some (.cells #[.int .i64 k] 3)
  b2 : W.heap[a + 2]? = some (.cells #[.int .i64 i] 3)
  b3 : W.heap[a + 3]? = some (.cells #[.complex .f64 0 0] 30)
  b4 : W.heap[a + 4]? = some (.cells #[.int .i64 r1] 3)
  b5 : W.heap[a + 5]? = some (.cells #[.int .i64 r2] 23)
  b6 : W.heap[a + 6]? = some (.cells #[.string s] 9)
  b7 : W.heap[a + 7]? = some (.cells #[.int .i64 k] 3)
section
variable {w0 W W' : World} {a : Nat} {s : ByteArray} {k i r1 r2 : Int}
theorem MvB.keep (h : MvB w0 a s k i r1 r2 W) (hb : Below w0.heap.size W W') (hk : ∀ j, j < a + 8 → W'.heap[j]? = W.heap[j]?) : MvB w0 a s k i r1 r2 W' :=
  ⟨h.below.trans hb, Nat.le_trans h.size hb.size, (hk _ (by omega)).trans h.b0, (hk _ (by omega)).trans h.b1, (hk _ (by omega)).trans h.b2, (hk _ (by omega)).trans h.b3, (hk _ (by omega)).trans h.b4, (hk _ (by omega)).trans h.b5, (hk _ (by omega)).trans h.b6, (hk _ (by omega)).trans h.b7⟩
theorem MvB.cells (h : MvB w0 a s k i r1 r2 W) :
    W.cell? ⟨a, 0, none⟩ = some (.string s) ∧ W.cell? ⟨a + 1, 0, none⟩ = some (.int .i64 k) ∧ W.cell? ⟨a + 2, 0, none⟩ = some (.int .i64 i) ∧ W.cell? ⟨a + 3, 0, none⟩ = some (.complex .f64 0 0) ∧ W.cell? ⟨a + 4, 0, none⟩ = some (.int .i64 r1) ∧ W.cell? ⟨a + 5, 0, none⟩ = some (.int .i64 r2) ∧
      W.frozen? ⟨a + 4, 0, none⟩ = false ∧ W.frozen? ⟨a + 5, 0, none⟩ = false := by
  refine ⟨?_, ?_, ?_, ?_, ?_, ?_, w_free h.b4 0, w_free h.b5 0⟩
  · simp [World.cell?, h.b0]
  · simp [World.cell?, h.b1]
  · simp [World.cell?, h.b2]
  · simp [World.cell?, h.b3]
  · simp [World.cell?, h.b4]
  · simp [World.cell?, h.b5]
theorem MvB.set45 (h : MvB w0 a s k i r1 r2 W) (ha : w0.heap.size ≤ a) (g1 g2 : Int) : MvB w0 a s k i g1 g2 ((W.setCell ⟨a + 4, 0, none⟩ (.int .i64 g1)).setCell ⟨a + 5, 0, none⟩ (.int .i64 g2)) := by
  have ho : ∀ j, j ≠ a + 4 → j ≠ a + 5 → ((W.setCell ⟨a + 4, 0, none⟩ (.int .i64 g1)).setCell ⟨a + 5, 0, none⟩ (.int .i64 g2)).heap[j]? = W.heap[j]? := fun j h1 h2 => (w_other _ _ h2).trans (w_other W _ h1)
  exact ⟨(h.below.setCell (p := ⟨a + 4, 0, none⟩) (by show _ ≤ a + 4; omega) _).setCell (p := ⟨a + 5, 0, none⟩) (by show _ ≤ a + 5; omega) _, by rw [w_size, w_size]; exact h.size, (ho _ (by omega) (by omega)).trans h.b0, (ho _ (by omega) (by omega)).trans h.b1, (ho _ (by omega) (by omega)).trans h.b2, (ho _ (by omega) (by omega)).trans h.b3,
    (w_other _ _ (by omega)).trans (w_block h.b4 0 _), w_block ((w_other W _ (by omega)).trans h.b5) 0 _, (ho _ (by omega) (by omega)).trans h.b6, (ho _ (by omega) (by omega)).trans h.b7⟩
end
theorem heap_new6 (w : World) (o1 o2 o3 o4 o5 o6 : Obj) : ∀ v, v = ((((((w.alloc o1).alloc o2).alloc o3).alloc o4).alloc o5).alloc o6) → v.heap[w.heap.size]? = some o1 ∧ v.heap[w.heap.size + 1]? = some o2 ∧ v.heap[w.heap.size + 2]? = some o3 ∧ v.heap[w.heap.size + 3]? = some o4 ∧ v.heap[w.heap.size + 4]? = some o5 ∧ v.heap[w.heap.size + 5]? = some o6 := by
  rintro v rfl
  obtain ⟨h1, h2, h3, h4, h5⟩ := heap_new5 w o1 o2 o3 o4 o5
  have h6 := World.alloc_heap_new (((((w.alloc o1).alloc o2).alloc o3).alloc o4).alloc o5) o6
  simp only [World.size_alloc] at h6
  have k : ∀ (j : Nat), j < w.heap.size + 5 → ((((((w.alloc o1).alloc o2).alloc o3).alloc o4).alloc o5).alloc o6).heap[j]? = (((((w.alloc o1).alloc o2).alloc o3).alloc o4).alloc o5).heap[j]? := fun j h => Below.heap_alloc _ o6 j (by simp only [World.size_alloc]; omega)
  exact ⟨(k _ (by omega)).trans h1, (k _ (by omega)).trans h2, (k _ (by omega)).trans h3, (k _ (by omega)).trans h4, (k _ (by omega)).trans h5, h6⟩
set_option maxHeartbeats 6400000 in
theorem move_any {s : ByteArray} {k : Int} {n : Nat} {st : IDt} (hk : 2 ≤ k ∧ k ≤ 200) (hs : s.size ≤ 1048576) (hn : (spotsR k (runesFrom s 0) (0, 0))[n]? = some st) (w : World) :
    Calls Try.prog 17 #[.string s, .int .i64 k, .int .i64 (n : Int), .complex .f64 0 0] w fun e w' => e = .returned (.tuple #[.int .i64 (caL st.1 st.2 (spotsR k (runesFrom s 0) (0, 0)) 0 0 0 : Nat), .int .i64 0]) ∧ Below w.heap.size w w' := by
  have hd := decide_eq_true hk
  obtain ⟨all, eall⟩ : ∃ l, l = spotsR k (runesFrom s 0) (0, 0) := ⟨_, rfl⟩
  have hfit : ∀ st, st ∈ all → (0 ≤ st.1 ∧ st.1 ≤ k) ∧ (0 ≤ st.2 ∧ st.2 ≤ 2097152) ∧ Fit st.1 ∧ Fit st.2 := by
    intro st hst
    rw [eall] at hst
    exact spots_fit hk hs st hst
  obtain ⟨ans, eans⟩ : ∃ q, q = caL st.1 st.2 all 0 0 0 := ⟨_, rfl⟩
  have hat : ∀ w, Calls Try.prog 16 #[.string s, .int .i64 k, cpV st] w fun e w' => e = .returned (.tuple #[.int .i64 (ans : Int), .int .i64 0]) ∧ Below w.heap.size w w' := by
    intro w
    obtain ⟨h1, h2, h3, h4⟩ := hfit st (by rw [eall]; exact List.mem_of_getElem? hn)
    obtain ⟨p, q⟩ := st
    dsimp only at h1 h2
    obtain ⟨p', rfl⟩ : ∃ p' : Nat, p = p' := ⟨p.toNat, by omega⟩
    obtain ⟨q', rfl⟩ : ∃ q' : Nat, q = q' := ⟨q.toNat, by omega⟩
    rw [eans, eall]
    exact at_any hk hs (by omega) (by omega) w
  rw [← eall, ← eans]
  rw [← eall] at hn
  obtain ⟨i, ei⟩ : ∃ i : Int, i = n := ⟨_, rfl⟩
  rw [← ei]
  have HF := Lib.hid (And.intro hat (And.intro hn (And.intro ei (And.intro hk (And.intro hs (And.intro hfit (And.intro eall eans)))))))
  clear hat hn ei hk hs hfit eall eans
  refine (callsIn_wide (n := 4)).1 (callsIn_of_wp_marks Try.func17 rfl trivial ?_)
  refine wpIn_wide.2 ?_
  simp only [Try.ntmps17, List.size_toArray, List.length_cons, List.length_nil, Nat.reduceAdd, Nat.reduceSub, Array.replicate_succ, Array.replicate_zero, List.push_toArray, List.append_toArray, List.nil_append, List.cons_append]
  go_upto_region 3 with (go_at_call 18; with_reducible refine (right_any k _).mono ?_; rintro z wz ⟨rfl, hwz⟩; rw [hwz, hd]; clear hwz wz)
  obtain ⟨a, ea⟩ : ∃ a, a = w.heap.size := ⟨_, rfl⟩
  obtain ⟨v1, ev1⟩ : ∃ v, v = ((((((w.alloc (.cells #[.string s] 9)).alloc (.cells #[.int .i64 k] 3)).alloc (.cells #[.int .i64 i] 3)).alloc (.cells #[.complex .f64 0 0] 30)).alloc (.cells #[.int .i64 0] 3)).alloc (.cells #[.int .i64 0] 23)) := ⟨_, rfl⟩
  rw [← ev1, ← ea]
  obtain ⟨v2, ev2⟩ : ∃ v, v = (v1.alloc (.cells #[.string s] 9)).alloc (.cells #[.int .i64 k] 3) := ⟨_, rfl⟩
  have hs1 : v1.heap.size = a + 6 := by rw [ev1, ea]; simp
  have hs2 : v2.heap.size = a + 8 := by rw [ev2]; simp [hs1]
  have hb2 : Below v1.heap.size v1 v2 := by rw [ev2]; exact ((Below.refl _ _).alloc (Nat.le_refl _) _).alloc (by simp) _
  have hb1 : Below w.heap.size w v1 := by rw [ev1]; exact ((((((Below.refl _ _).alloc (Nat.le_refl _) _).alloc (by simp) _).alloc (by simp; omega) _).alloc (by simp; omega) _).alloc (by simp; omega) _).alloc (by simp; omega) _
  obtain ⟨n0, n1, n2, n3, n4, n5⟩ := heap_new6 w _ _ _ _ _ _ v1 ev1
  rw [← ea] at n0 n1 n2 n3 n4 n5
  have hbx : ∀ o1 o2 o3, MvB w a s k i 0 0 (((v2.alloc o1).alloc o2).alloc o3) := by
    intro o1 o2 o3
    have hb : Below v2.heap.size v2 (((v2.alloc o1).alloc o2).alloc o3) := (((Below.refl _ _).alloc (Nat.le_refl _) _).alloc (by simp) _).alloc (by simp; omega) _
    have hh : ∀ j, j < a + 6 → (((v2.alloc o1).alloc o2).alloc o3).heap[j]? = v1.heap[j]? := fun j hj => (hb.block j (by omega)).trans (hb2.block j (by omega))
    refine ⟨(hb1.trans (hb2.mono hb1.size)).trans (hb.mono (by omega)), by simp [hs2], (hh _ (by omega)).trans n0, (hh _ (by omega)).trans n1, (hh _ (by omega)).trans n2, (hh _ (by omega)).trans n3, (hh _ (by omega)).trans n4, (hh _ (by omega)).trans n5, (hb.block _ (by omega)).trans ?_, (hb.block _ (by omega)).trans ?_⟩
    · rw [ev2, ← hs1]; exact (heap_new2 v1 _ _).1
    · rw [ev2, show a + 7 = v1.heap.size + 1 by omega]; exact (heap_new2 v1 _ _).2
  have hc6 : v2.cell? ⟨a + 6, 0, none⟩ = some (.string s) := by rw [ev2, ← hs1]; simp
  have hv0 : v1.cell? ⟨a, 0, none⟩ = some (.string s) := by simp [World.cell?, n0]
  have hv1 : v1.cell? ⟨a + 1, 0, none⟩ = some (.int .i64 k) := by simp [World.cell?, n1]
  have HC := Lib.hid (carets_any (s := s) (k := k) v1)
  rw [← ev2, hs1] at HC
  have HV := Lib.hid (And.intro hbx (And.intro hs2 (And.intro hc6 (show w.heap.size ≤ a by omega))))
  clear hs1 hs2 hb2 hb1 hbx hc6 ev1 ev2 ea hd n0 n1 n2 n3 n4 n5
  go_wp2_with (go_at_call 20; refine HC.out.mono ?_; rintro z wz ⟨rfl, hwz⟩; rw [hwz]; clear hwz wz)
  clear HC hv0 hv1
  have hv := HV.out
  refine wp_range_walk (gf := 22) (caps := #[.pointer (some ⟨a + 6, 0, none⟩), .pointer (some ⟨a + 6 + 1, 0, none⟩)]) rfl (enters_of Try.func22 (by kernel_rfl) rfl) encC (fun _ => rfl) (fun xs => xs.map Prod.snd = all) (Nxt all)
    (fun pre W => MvB w a s k i 0 0 W ∧ pre.length ≤ n) (fun pre W => MvB w a s k i (ans : Nat) 0 W) ?hI ?hIx ?h0 (fun z => { tmps := #[.string s, .int .i64 k, .int .i64 i, .complex .f64 0 0, .pointer (some ⟨a, 0, none⟩), .pointer (some ⟨a + 1, 0, none⟩), .pointer (some ⟨a + 2, 0, none⟩), .pointer (some ⟨a + 3, 0, none⟩), .pointer (some ⟨a + 4, 0, none⟩), .pointer (some ⟨a + 5, 0, none⟩), .int .i64 (z.1 : Int), cpV z.2, .int .i64 k, .bool true, .bool false, .string s, .int .i64 k, .func (.func 22) #[] #[.pointer (some ⟨a + 6, 0, none⟩), .pointer (some ⟨a + 7, 0, none⟩)], .int .i64 (z.1 : Int), cpV z.2, undef, undef, undef, undef, undef, undef, undef, undef, undef, undef, undef], defers := [] }) ?hseq ?assign ?body ?done ?stop
  case hI =>
    rintro pre W W' ⟨h1, h2⟩ ht
    rw [hv.2.1] at ht
    exact ⟨h1.keep (ht.below (by omega)) (fun j hj => ht.block j (by omega)), h2⟩
  case hIx =>
    rintro pre W W' h1 ht
    rw [hv.2.1] at ht
    exact h1.keep (ht.below (by omega)) (fun j hj => ht.block j (by omega))
  case h0 =>
    intro o1 o2 o3
    exact ⟨hv.1 o1 o2 o3, Nat.zero_le _⟩
  case hseq =>
    intro l J Jx W hl hW hJI hJp hY h0
    obtain ⟨hj, _⟩ := hJI _ _ (h0 (.stringIter s 0))
    have hsz := hv.2.1
    refine (seq_any (b1 := a + 6) (b2 := a + 6 + 1) (J := J) (Jx := Jx) HF.out.2.2.2.1 HF.out.2.2.2.2.1 HF.out.2.2.2.2.2.2.1 (fun pre W hj => by
      obtain ⟨h1, _⟩ := hJI pre W hj
      exact ⟨by simp [World.cell?, h1.b6], by simp [World.cell?, h1.b7]⟩) hJp hY W hW ?_ h0).mono ?_
    · have h3 : (W.alloc (.stringIter s 0)).cell? ⟨a + 6, 0, none⟩ = some (.string s) := by simp [World.cell?, hj.b6]
      rwa [((Below.refl W.heap.size W).alloc (Nat.le_refl _) (.stringIter s 0)).cell (p := ⟨a + 6, 0, none⟩) (by show a + 6 < _; omega)] at h3
    · rintro e W' ⟨hv', h1 | h1⟩
      · exact ⟨hv', .inl h1⟩
      · exact ⟨hv', .inr h1⟩
  case assign =>
    intro l z W K hK
    unfold encC
    refine wpIn_seq ?_
    refine region_round (by kernel_rfl) (then_lets (then_lets (fun ⟨_, _, h⟩ => h))) ?_
    go_wp2_with fail
    refine region_round (by kernel_rfl) (then_lets (fun ⟨_, _, h⟩ => h)) ?_
    go_wp2_with fail
    exact hK
  case body =>
    rintro l pre ⟨zi, stz⟩ W ⟨h1, h2⟩ ⟨hz, post, hpost⟩ hlt
    dsimp only at hz hpost
    obtain ⟨c0, c1, c2, c3, c4, c5, f4, f5⟩ := h1.cells
    by_cases hi : zi = n
    · have hst : stz = st := by
        have h3 := HF.out.2.1
        rw [hpost, List.getElem?_append_right (by rw [List.length_map]; omega), List.length_map, ← hz, hi, Nat.sub_self] at h3
        simpa using h3
      obtain ⟨hp, hq, hp9, hq9⟩ := HF.out.2.2.2.2.2.1 stz (by rw [hpost]; simp)
      have hzn : (zi : Int) = i := by rw [hi, HF.out.2.2.1]
      have hadd := fun w t => run_cadd (P := Try.prog) w t (a := stz.1) (b := stz.2) (c := 0) (d := 0) hp9 hq9 (by unfold Fit; omega) (by unfold Fit; omega) (by rw [Int.add_zero]; exact hp9) (by rw [Int.add_zero]; exact hq9)
      have HAT := Lib.hid HF.out.1
      rw [← hst] at HAT
      unfold cpV at HAT
      unfold cpV
      dsimp only
      rw [Int.add_zero, Int.add_zero] at hadd
      rw [fi_zero] at hadd
      obtain ⟨fp, efp⟩ : ∃ v, v = fi stz.1 := ⟨_, rfl⟩
      obtain ⟨fq, efq⟩ : ∃ v, v = fi stz.2 := ⟨_, rfl⟩
      rw [← efp, ← efq] at HAT hadd ⊢
      rw [hzn]
      have HB := Lib.hid (And.intro h1 (And.intro hlt hv))
      clear h1 h2 hz hpost hlt hv hst hp hq hp9 hq9 efp efq hi hzn
      refine wpIn_block (wpIn_seq ?_)
      refine region_round (by kernel_rfl) (by repeat (first | with_reducible exact roundW_in | with_reducible apply inBlock_lets | with_reducible apply then_lets)) ?_
      go_wp2_with fail
      refine wpIn_cond_true rfl (wpIn_seq ?_)
      refine region_round (by kernel_rfl) (by repeat (first | with_reducible exact roundW_in | with_reducible apply inBlock_lets | with_reducible apply then_lets)) ?_
      have HS := Lib.hid (fun wz (hz : Below W.heap.size W wz) => (HB.out.1.keep (hz.mono HB.out.1.below.size) (fun j hj => hz.block j (by have := HB.out.1.size; omega)) : MvB w a s k i 0 0 wz))
      go_wp2_with (go_at_call 16; refine (HAT.out _).mono ?_; rintro e9 w9 ⟨rfl, hb9⟩; obtain ⟨_, _, _, _, d4, d5, e4, e5⟩ := (HS.out w9 hb9).cells; have H9 := Lib.hid hb9; clear hb9)
      refine wpIn_ret ?_
      obtain ⟨h1, hlt, hv⟩ := HB.out
      have hsz := hv.2.1
      have h6 := (h1.keep (W' := w9) (H9.out.mono h1.below.size) (fun j hj => H9.out.block j (by have := h1.size; omega))).set45 hv.2.2.2 (ans : Nat) 0
      have hD : ∀ j, a + 8 ≤ j → j < a + 11 → ((w9.setCell ⟨a + 4, 0, none⟩ (.int .i64 (ans : Nat))).setCell ⟨a + 5, 0, none⟩ (.int .i64 0)).heap[j]? = W.heap[j]? := fun j hj hj2 => (w_other _ _ (by omega)).trans ((w_other w9 _ (by omega)).trans (H9.out.block j (by have := h1.size; omega)))
      exact ⟨⟨hD _ (by omega) (by omega), hD _ (by omega) (by omega), hD _ (by omega) (by omega)⟩, h6⟩
    · have hzi : ((zi : Int) == i) = false := by rw [HF.out.2.2.1]; simp only [beq_eq_false_iff_ne, ne_eq]; omega
      have hzn : ¬ (zi : Int) = i := by rw [HF.out.2.2.1]; omega
      obtain ⟨zj, ezj⟩ : ∃ q : Int, q = zi := ⟨_, rfl⟩
      rw [← ezj] at hzi hzn ⊢
      have HB := Lib.hid (And.intro h1 (show (pre ++ [(zi, stz)]).length ≤ n by rw [List.length_append, List.length_singleton]; omega))
      clear h1 h2 hz hpost hlt hv hi ezj
      unfold cpV
      refine wpIn_block (wpIn_seq ?_)
      refine region_round (by kernel_rfl) (by repeat (first | with_reducible exact roundW_in | with_reducible apply inBlock_lets | with_reducible apply then_lets)) ?_
      go_wp2_with fail
      refine wpIn_cond_false rfl (wpIn_skip ?_)
      exact ⟨⟨rfl, rfl, rfl⟩, HB.out⟩
  case done =>
    rintro xs W hxs ⟨h1, h2⟩ hK
    exfalso
    have h3 := (List.getElem?_eq_some_iff.1 HF.out.2.1).1
    rw [← hxs, List.length_map] at h3
    omega
  case stop =>
    rintro pre W h1 hK
    rw [hv.2.1] at hK
    rw [hv.2.1]
    have haw := hv.2.2.2
    refine ⟨by simp, .inl ⟨_, _, rfl, run_takeDeferred hK, ?_⟩⟩
    have htw : Trip (a + 8) W (W.putObj (a + 8) (.deferred none)) := Trip.put W _ (by omega)
    have h5 := h1.keep (htw.below (by omega)) (fun j hj => htw.block j (by omega))
    obtain ⟨_, _, _, _, d1, d2, _⟩ := h5.cells
    exact ⟨_, at_res rfl _ d1 d2 rfl rfl, rfl, h5.below⟩
end Go.Proofs.Ytejfdheiopejeaa
