/-
  Layer 17, the landed code: At. By an AI agent.
-/
import Derived.Test.YtejfdheiopejeaaCy4
namespace Go.Proofs.Ytejfdheiopejeaa
open Go Go.RowKit
set_option maxRecDepth 20000
attribute [local go_sem] Oper.semAt_some run_store_float17 run_store_complex17
/-- The caret that At finds, from the i-th one on. -/
def caL (x y : Int) : List IDt → Nat → Nat → Int → Nat
  | [], _, f, _ => f
  | st :: r, i, f, ln => if ln < st.2 ∧ y < st.2 then f else if ln < st.2 then caL x y r (i + 1) i st.2 else if st.1 ≤ x then caL x y r (i + 1) i ln else caL x y r (i + 1) f ln
/-- The boxes of a call of At, from block a on. -/
structure AtB (w0 : World) (a : Nat) (s : ByteArray) (k : Int) (fx fy : Nat) (f : Int) (fl : Nat) (r1 r2 : Int) (W : World) : Prop where
  below : Below w0.heap.size w0 W
  size : a + 10 ≤ W.heap.size
  b0 : W.heap[a]? = some (.cells #[.complex .f64 fx fy] 30)
  b1 : W.heap[a + 1]? = some (.cells #[.int .i64 r1] 3)
  b2 : W.heap[a + 2]? = some (.cells #[.int .i64 r2] 23)
  b3 : W.heap[a + 3]? = some (.cells #[.int .i64 f] 3)
  b4 : W.heap[a + 4]? = some (.cells #[.float .f64 fl] 47)
  b5 : W.heap[a + 5]? = some (.cells #[.string s] 9)
  b6 : W.heap[a + 6]? = some (.cells #[.int .i64 k] 3)
theorem AtB.keep {w0 W W' : World} {a : Nat} {s : ByteArray} {k : Int} {fx fy : Nat} {f : Int} {fl : Nat} {r1 r2 : Int} (h : AtB w0 a s k fx fy f fl r1 r2 W) (hb : Below w0.heap.size W W') (hk : ∀ j, j < a + 7 → W'.heap[j]? = W.heap[j]?) : AtB w0 a s k fx fy f fl r1 r2 W' :=
  ⟨h.below.trans hb, Nat.le_trans h.size hb.size, (hk _ (by omega)).trans h.b0, (hk _ (by omega)).trans h.b1, (hk _ (by omega)).trans h.b2, (hk _ (by omega)).trans h.b3, (hk _ (by omega)).trans h.b4, (hk _ (by omega)).trans h.b5, (hk _ (by omega)).trans h.b6⟩
/-- The same as cells. -/
theorem AtB.cells {w0 W : World} {a : Nat} {s : ByteArray} {k : Int} {fx fy : Nat} {f : Int} {fl : Nat} {r1 r2 : Int} (h : AtB w0 a s k fx fy f fl r1 r2 W) :
    W.cell? ⟨a, 0, none⟩ = some (.complex .f64 fx fy) ∧ W.cell? ⟨a + 1, 0, none⟩ = some (.int .i64 r1) ∧ W.cell? ⟨a + 2, 0, none⟩ = some (.int .i64 r2) ∧ W.cell? ⟨a + 3, 0, none⟩ = some (.int .i64 f) ∧ W.cell? ⟨a + 4, 0, none⟩ = some (.float .f64 fl) ∧
      W.frozen? ⟨a + 1, 0, none⟩ = false ∧ W.frozen? ⟨a + 2, 0, none⟩ = false ∧ W.frozen? ⟨a + 3, 0, none⟩ = false ∧ W.frozen? ⟨a + 4, 0, none⟩ = false := by
  refine ⟨?_, ?_, ?_, ?_, ?_, w_free h.b1 0, w_free h.b2 0, w_free h.b3 0, w_free h.b4 0⟩
  · simp [World.cell?, h.b0]
  · simp [World.cell?, h.b1]
  · simp [World.cell?, h.b2]
  · simp [World.cell?, h.b3]
  · simp [World.cell?, h.b4]
theorem AtB.set3 {w0 W : World} {a : Nat} {s : ByteArray} {k : Int} {fx fy : Nat} {f : Int} {fl : Nat} {r1 r2 : Int} (h : AtB w0 a s k fx fy f fl r1 r2 W) (ha : w0.heap.size ≤ a) (g : Int) : AtB w0 a s k fx fy g fl r1 r2 (W.setCell ⟨a + 3, 0, none⟩ (.int .i64 g)) :=
  ⟨h.below.setCell (p := ⟨a + 3, 0, none⟩) (by show _ ≤ a + 3; omega) _, by rw [w_size]; exact h.size, (w_other W _ (by omega)).trans h.b0, (w_other W _ (by omega)).trans h.b1, (w_other W _ (by omega)).trans h.b2, w_block h.b3 0 _, (w_other W _ (by omega)).trans h.b4, (w_other W _ (by omega)).trans h.b5, (w_other W _ (by omega)).trans h.b6⟩
theorem AtB.set4 {w0 W : World} {a : Nat} {s : ByteArray} {k : Int} {fx fy : Nat} {f : Int} {fl : Nat} {r1 r2 : Int} (h : AtB w0 a s k fx fy f fl r1 r2 W) (ha : w0.heap.size ≤ a) (g : Nat) : AtB w0 a s k fx fy f g r1 r2 (W.setCell ⟨a + 4, 0, none⟩ (.float .f64 g)) :=
  ⟨h.below.setCell (p := ⟨a + 4, 0, none⟩) (by show _ ≤ a + 4; omega) _, by rw [w_size]; exact h.size, (w_other W _ (by omega)).trans h.b0, (w_other W _ (by omega)).trans h.b1, (w_other W _ (by omega)).trans h.b2, (w_other W _ (by omega)).trans h.b3, w_block h.b4 0 _, (w_other W _ (by omega)).trans h.b5, (w_other W _ (by omega)).trans h.b6⟩
theorem AtB.set12 {w0 W : World} {a : Nat} {s : ByteArray} {k : Int} {fx fy : Nat} {f : Int} {fl : Nat} {r1 r2 : Int} (h : AtB w0 a s k fx fy f fl r1 r2 W) (ha : w0.heap.size ≤ a) (g1 g2 : Int) :
    AtB w0 a s k fx fy f fl g1 g2 ((W.setCell ⟨a + 1, 0, none⟩ (.int .i64 g1)).setCell ⟨a + 2, 0, none⟩ (.int .i64 g2)) :=
  ⟨(h.below.setCell (p := ⟨a + 1, 0, none⟩) (by show _ ≤ a + 1; omega) _).setCell (p := ⟨a + 2, 0, none⟩) (by show _ ≤ a + 2; omega) _, by rw [w_size, w_size]; exact h.size, (w_other _ _ (by omega)).trans ((w_other W _ (by omega)).trans h.b0), (w_other _ _ (by omega)).trans (w_block h.b1 0 _), w_block ((w_other W _ (by omega)).trans h.b2) 0 _,
    (w_other _ _ (by omega)).trans ((w_other W _ (by omega)).trans h.b3), (w_other _ _ (by omega)).trans ((w_other W _ (by omega)).trans h.b4), (w_other _ _ (by omega)).trans ((w_other W _ (by omega)).trans h.b5), (w_other _ _ (by omega)).trans ((w_other W _ (by omega)).trans h.b6)⟩
theorem spots_in {k : Int} (hk : 2 ≤ k) : ∀ (l : List Int) (st : IDt), (0 ≤ st.1 ∧ st.1 ≤ k ∧ 0 ≤ st.2) → ∀ t, t ∈ spotsR k l st → 0 ≤ t.1 ∧ t.1 ≤ k ∧ st.2 ≤ t.2 ∧ t.2 ≤ st.2 + 2 * (l.length : Int)
  | [], st, h, t, ht => by
    obtain rfl : t = st := List.mem_singleton.1 ht
    exact ⟨h.1, h.2.1, Int.le_refl _, by simp⟩
  | c :: r, st, h, t, ht => by
    have hc := cap_on hk h c
    have hp := pen_on hk h c
    rw [List.length_cons]
    rcases List.mem_cons.1 ht with rfl | ht
    · exact ⟨hc.1, hc.2.1, hc.2.2.2.1, by omega⟩
    · have := spots_in hk r _ ⟨hp.1, hp.2.1, by omega⟩ t ht
      omega
theorem spots_fit {s : ByteArray} {k : Int} (hk : 2 ≤ k ∧ k ≤ 200) (hs : s.size ≤ 1048576) : ∀ st, st ∈ spotsR k (runesFrom s 0) (0, 0) → (0 ≤ st.1 ∧ st.1 ≤ k) ∧ (0 ≤ st.2 ∧ st.2 ≤ 2097152) ∧ Fit st.1 ∧ Fit st.2 := by
  intro st hst
  have h := spots_in hk.1 _ _ ⟨Int.le_refl _, by show (0 : Int) ≤ k; omega, Int.le_refl _⟩ st hst
  have hl := runes_len s s.size 0 rfl
  dsimp only at h
  unfold Fit
  omega
theorem heap_new2 (w : World) (o1 o2 : Obj) : ((w.alloc o1).alloc o2).heap[w.heap.size]? = some o1 ∧ ((w.alloc o1).alloc o2).heap[w.heap.size + 1]? = some o2 := by
  refine ⟨(Below.heap_alloc _ _ _ (by simp)).trans (World.alloc_heap_new w _), ?_⟩
  have := World.alloc_heap_new (w.alloc o1) o2
  rwa [World.size_alloc] at this
theorem heap_new5 (w : World) (o1 o2 o3 o4 o5 : Obj) : (((((w.alloc o1).alloc o2).alloc o3).alloc o4).alloc o5).heap[w.heap.size]? = some o1 ∧ (((((w.alloc o1).alloc o2).alloc o3).alloc o4).alloc o5).heap[w.heap.size + 1]? = some o2 ∧ (((((w.alloc o1).alloc o2).alloc o3).alloc o4).alloc o5).heap[w.heap.size + 2]? = some o3 ∧
    (((((w.alloc o1).alloc o2).alloc o3).alloc o4).alloc o5).heap[w.heap.size + 3]? = some o4 ∧ (((((w.alloc o1).alloc o2).alloc o3).alloc o4).alloc o5).heap[w.heap.size + 4]? = some o5 := by
  have g1 := heap_new2 w o1 o2
  have g2 := heap_new2 ((w.alloc o1).alloc o2) o3 o4
  have g3 := World.alloc_heap_new ((((w.alloc o1).alloc o2).alloc o3).alloc o4) o5
  simp only [World.size_alloc] at g2 g3
  have k : ∀ (v : World) (o : Obj) (j : Nat), j < v.heap.size → (v.alloc o).heap[j]? = v.heap[j]? := fun v o j h => Below.heap_alloc v o j h
  refine ⟨?_, ?_, ?_, ?_, g3⟩
  · rw [k _ _ _ (by simp only [World.size_alloc]; omega), k _ _ _ (by simp only [World.size_alloc]; omega), k _ _ _ (by simp only [World.size_alloc]; omega), g1.1]
  · rw [k _ _ _ (by simp only [World.size_alloc]; omega), k _ _ _ (by simp only [World.size_alloc]; omega), k _ _ _ (by simp only [World.size_alloc]; omega), g1.2]
  · rw [k _ _ _ (by simp only [World.size_alloc]; omega), g2.1]
  · rw [k _ _ _ (by simp only [World.size_alloc]; omega), g2.2]
/-- Two results in cells. -/
theorem at_res {fn : Func} {p q : Tmp} (h : fn.results = #[.cell p 3, .cell q 23]) (tmps : Array Value) {w : World} {g1 g2 : Nat} {a b : Value} (c1 : w.cell? ⟨g1, 0, none⟩ = some a) (c2 : w.cell? ⟨g2, 0, none⟩ = some b)
    (hp : tmps.getD p undef = .pointer (some ⟨g1, 0, none⟩)) (hq : tmps.getD q undef = .pointer (some ⟨g2, 0, none⟩)) : (results fn tmps).run Try.prog w = .ok (.tuple #[a, b]) w := by
  have hp' : tmps[p]?.getD undef = .pointer (some ⟨g1, 0, none⟩) := by simpa using hp
  have hq' : tmps[q]?.getD undef = .pointer (some ⟨g2, 0, none⟩) := by simpa using hq
  simp only [results, h]
  simp [Result.andThen, hp', hq', asAddr, go_sem, c1, c2]
set_option maxHeartbeats 400000 in
theorem at_any {s : ByteArray} {k : Int} {x y : Nat} (hk : 2 ≤ k ∧ k ≤ 200) (hs : s.size ≤ 1048576) (hx : x < 9007199254740992) (hy : y < 9007199254740992) (w : World) :
    Calls Try.prog 16 #[.string s, .int .i64 k, cpV ((x : Int), (y : Int))] w fun e w' => e = .returned (.tuple #[.int .i64 (caL x y (spotsR k (runesFrom s 0) (0, 0)) 0 0 0 : Nat), .int .i64 0]) ∧ Below w.heap.size w w' := by
  have hf1 := fun w => finite_any hx w
  have hf2 := fun w => finite_any hy w
  unfold cpV
  dsimp only
  obtain ⟨fx, efx⟩ : ∃ q, q = fi (x : Int) := ⟨_, rfl⟩
  obtain ⟨fy, efy⟩ : ∃ q, q = fi (y : Int) := ⟨_, rfl⟩
  rw [← efx] at hf1
  rw [← efy] at hf2
  rw [← efx, ← efy]
  have HF := Lib.hid (And.intro hf1 (And.intro hf2 (And.intro efx (And.intro efy (And.intro hk (And.intro hs (And.intro hx hy)))))))
  have hd := decide_eq_true hk
  clear hf1 hf2 efx efy hs hx hy hk
  refine (callsIn_wide (n := 4)).1 (callsIn_of_wp_marks Try.func16 rfl trivial ?_)
  refine wpIn_wide.2 ?_
  simp only [Try.ntmps16, List.size_toArray, List.length_cons, List.length_nil, Nat.reduceAdd, Nat.reduceSub, Array.replicate_succ, Array.replicate_zero, List.push_toArray, List.append_toArray, List.nil_append, List.cons_append]
  go_upto_region 6 with (first | (go_at_call 18; with_reducible refine (right_any k _).mono ?_; rintro z wz ⟨rfl, hwz⟩; rw [hwz, hd]; clear hwz wz) | (go_at_call 21; with_reducible refine (HF.out.1 _).mono ?_; rintro z wz ⟨rfl, hwz⟩; rw [hwz]; clear hwz wz) | (go_at_call 21; with_reducible refine (HF.out.2.1 _).mono ?_; rintro z wz ⟨rfl, hwz⟩; rw [hwz]; clear hwz wz))
  go_upto_region 6 with fail
  obtain ⟨a, ea⟩ : ∃ a, a = w.heap.size := ⟨_, rfl⟩
  obtain ⟨v1, ev1⟩ : ∃ v, v = (((((w.alloc (.cells #[.complex .f64 fx fy] 30)).alloc (.cells #[.int .i64 0] 3)).alloc (.cells #[.int .i64 0] 23)).alloc (.cells #[.int .i64 0] 3)).alloc (.cells #[.float .f64 0] 47)) := ⟨_, rfl⟩
  rw [← ev1, ← ea]
  obtain ⟨v2, ev2⟩ : ∃ v, v = (v1.alloc (.cells #[.string s] 9)).alloc (.cells #[.int .i64 k] 3) := ⟨_, rfl⟩
  have hs1 : v1.heap.size = a + 5 := by rw [ev1, ea]; simp
  have hs2 : v2.heap.size = a + 7 := by rw [ev2]; simp [hs1]
  have hb2 : Below v1.heap.size v1 v2 := by rw [ev2]; exact ((Below.refl _ _).alloc (Nat.le_refl _) _).alloc (by simp) _
  have hb1 : Below w.heap.size w v1 := by rw [ev1]; exact (((((Below.refl _ _).alloc (Nat.le_refl _) _).alloc (by simp) _).alloc (by simp; omega) _).alloc (by simp; omega) _).alloc (by simp; omega) _
  have hbx : ∀ o1 o2 o3, AtB w a s k fx fy 0 0 0 0 (((v2.alloc o1).alloc o2).alloc o3) := by
    intro o1 o2 o3
    have hb : Below v2.heap.size v2 (((v2.alloc o1).alloc o2).alloc o3) := (((Below.refl _ _).alloc (Nat.le_refl _) _).alloc (by simp) _).alloc (by simp; omega) _
    have hh : ∀ j, j < a + 5 → (((v2.alloc o1).alloc o2).alloc o3).heap[j]? = v1.heap[j]? := fun j hj => (hb.block j (by omega)).trans (hb2.block j (by omega))
    refine ⟨(hb1.trans (hb2.mono hb1.size)).trans (hb.mono (by omega)), by simp [hs2], (hh _ (by omega)).trans ?_, (hh _ (by omega)).trans ?_, (hh _ (by omega)).trans ?_, (hh _ (by omega)).trans ?_, (hh _ (by omega)).trans ?_, (hb.block _ (by omega)).trans ?_, (hb.block _ (by omega)).trans ?_⟩
    · rw [ev1, ea]; exact heap_new5 w _ _ _ _ _ |>.1
    · rw [ev1, ea]; exact heap_new5 w _ _ _ _ _ |>.2.1
    · rw [ev1, ea]; exact heap_new5 w _ _ _ _ _ |>.2.2.1
    · rw [ev1, ea]; exact heap_new5 w _ _ _ _ _ |>.2.2.2.1
    · rw [ev1, ea]; exact heap_new5 w _ _ _ _ _ |>.2.2.2.2
    · rw [ev2, ← hs1]; exact (heap_new2 v1 _ _).1
    · rw [ev2, show a + 6 = v1.heap.size + 1 by omega]; exact (heap_new2 v1 _ _).2
  have hc5 : v2.cell? ⟨a + 5, 0, none⟩ = some (.string s) := by rw [ev2, ← hs1]; simp
  have HC := Lib.hid (carets_any (s := s) (k := k) v1)
  rw [← ev2, hs1] at HC
  have HV := Lib.hid (And.intro hbx (And.intro hs2 (And.intro hc5 (show w.heap.size ≤ a by omega))))
  clear hs1 hs2 hb2 hb1 hbx hc5 ev1 ev2 ea hd
  go_wp2_with (go_at_call 20; refine HC.out.mono ?_; rintro z wz ⟨rfl, hwz⟩; rw [hwz]; clear hwz wz)
  clear HC
  have hv := HV.out
  obtain ⟨all, eall⟩ : ∃ l, l = spotsR k (runesFrom s 0) (0, 0) := ⟨_, rfl⟩
  obtain ⟨ans, eans⟩ : ∃ n, n = caL x y all 0 0 0 := ⟨_, rfl⟩
  have hfit : ∀ st, st ∈ all → Fit st.1 ∧ Fit st.2 := by
    intro st hst
    rw [eall] at hst
    exact (spots_fit HF.out.2.2.2.2.1 HF.out.2.2.2.2.2.1 st hst).2.2
  refine wp_range_walk (gf := 22) (caps := #[.pointer (some ⟨a + 5, 0, none⟩), .pointer (some ⟨a + 5 + 1, 0, none⟩)]) rfl (enters_of Try.func22 (by kernel_rfl) rfl) encC (fun _ => rfl) (fun xs => xs.map Prod.snd = all) (Nxt all)
    (fun pre W => ∃ (f : Nat) (ln : Int), AtB w a s k fx fy f (fi ln) 0 0 W ∧ Fit ln ∧ ∀ post, all = pre.map Prod.snd ++ post → ans = caL x y post pre.length f ln)
    (fun pre W => ∃ (f : Nat) (ln : Int), AtB w a s k fx fy f (fi ln) (ans : Nat) 0 W) ?hI ?hIx ?h0 (fun z => { tmps := #[Value.string s, .int .i64 k, .complex .f64 fx fy, undef, undef, .pointer (some ⟨a, 0, none⟩), .pointer (some ⟨a + 1, 0, none⟩), .pointer (some ⟨a + 2, 0, none⟩), .pointer (some ⟨a + 3, 0, none⟩), .pointer (some ⟨a + 4, 0, none⟩), .int .i64 (z.1 : Int), cpV z.2, .bool false, .int .i64 k, .bool true, .bool false, .bool false, .complex .f64 fx fy, .float .f64 fx, .bool true, .bool false, .bool false, .complex .f64 fx fy, .float .f64 fy, .bool true, .bool false, .bool false, .string s, .int .i64 k, .func (.func 22) #[] #[.pointer (some ⟨a + 5, 0, none⟩), .pointer (some ⟨a + 6, 0, none⟩)], .int .i64 (z.1 : Int), cpV z.2, undef, undef, undef, undef, undef, undef, undef, undef, undef, undef, undef, undef, undef, undef, undef, undef, undef, undef, undef, undef, undef, undef, undef, undef, undef, undef, undef, undef, undef], defers := [] }) ?hseq ?assign ?body ?done ?stop
  case hI =>
    rintro pre W W' ⟨f, ln, h1, h2, h3⟩ ht
    rw [hv.2.1] at ht
    exact ⟨f, ln, h1.keep (ht.below (by omega)) (fun j hj => ht.block j (by omega)), h2, h3⟩
  case hIx =>
    rintro pre W W' ⟨f, ln, h1⟩ ht
    rw [hv.2.1] at ht
    exact ⟨f, ln, h1.keep (ht.below (by omega)) (fun j hj => ht.block j (by omega))⟩
  case h0 =>
    intro o1 o2 o3
    exact ⟨0, 0, by rw [fi_zero]; exact hv.1 o1 o2 o3, by unfold Fit; omega, fun post hp => by rw [eans, hp]; rfl⟩
  case hseq =>
    intro l J Jx W hl hW hJI hJp hY h0
    obtain ⟨f0, ln0, hj, _⟩ := hJI _ _ (h0 (.stringIter s 0))
    have hsz := hv.2.1
    refine (seq_any (b1 := a + 5) (b2 := a + 5 + 1) (J := J) (Jx := Jx) HF.out.2.2.2.2.1 HF.out.2.2.2.2.2.1 eall (fun pre W hj => by
      obtain ⟨f, ln, h1, _⟩ := hJI pre W hj
      exact ⟨by simp [World.cell?, h1.b5], by simp [World.cell?, h1.b6]⟩) hJp hY W hW ?_ h0).mono ?_
    · have h3 : (W.alloc (.stringIter s 0)).cell? ⟨a + 5, 0, none⟩ = some (.string s) := by simp [World.cell?, hj.b5]
      rwa [((Below.refl W.heap.size W).alloc (Nat.le_refl _) (.stringIter s 0)).cell (p := ⟨a + 5, 0, none⟩) (by show a + 5 < _; omega)] at h3
    · rintro e W' ⟨hv', h1 | h1⟩
      · exact ⟨hv', .inl h1⟩
      · exact ⟨hv', .inr h1⟩
  case assign =>
    intro l z W K hK
    unfold encC
    refine wpIn_seq ?_
    refine region_round (by kernel_rfl) (then_lets (then_lets (fun ⟨_, _, h⟩ => h))) ?_
    go_wp2_with fail
    refine region_round (by kernel_rfl) (then_lets (fun ⟨_, _, h⟩ => h)) ?_
    go_wp2_with fail
    exact hK
  case body =>
    rintro l pre ⟨zi, st⟩ W ⟨f, ln, h1, h2, h3⟩ ⟨hz, post, hpost⟩ hlt
    obtain ⟨p, q⟩ := st
    dsimp only at hz hpost
    have hans := h3 _ hpost
    rw [← hz] at hans
    obtain ⟨hp, hq⟩ := hfit (p, q) (by rw [hpost]; simp)
    have hx9 := HF.out.2.2.2.2.2.2.1
    have hy9 := HF.out.2.2.2.2.2.2.2
    have g1 := gt_fit hq h2
    have g2 := gt_fit hq (show Fit (y : Int) by unfold Fit; omega)
    have g3 := le_fit hp (show Fit (x : Int) by unfold Fit; omega)
    obtain ⟨c0, c1, c2, c3, c4, f1, f2, f3, f4⟩ := h1.cells
    obtain ⟨fp, efp⟩ : ∃ v, v = fi p := ⟨_, rfl⟩
    obtain ⟨fq, efq⟩ : ∃ v, v = fi q := ⟨_, rfl⟩
    obtain ⟨fl, efl⟩ : ∃ v, v = fi ln := ⟨_, rfl⟩
    rw [show floatOfInt .f64 q = fq from efq.symm, show floatOfInt .f64 ln = fl from efl.symm] at g1
    rw [show floatOfInt .f64 q = fq from efq.symm, show floatOfInt .f64 (y : Int) = fy from HF.out.2.2.2.1.symm] at g2
    rw [show floatOfInt .f64 p = fp from efp.symm, show floatOfInt .f64 (x : Int) = fx from HF.out.2.2.1.symm] at g3
    rw [← efl] at c4 h1
    have hps : (pre ++ [(zi, ((p, q) : IDt))]).map Prod.snd = pre.map Prod.snd ++ [((p, q) : IDt)] := by rw [List.map_append]; rfl
    have hkp : ∀ f' ln', (ans = caL x y post (zi + 1) f' ln') → ∀ post', all = (pre ++ [(zi, ((p, q) : IDt))]).map Prod.snd ++ post' → ans = caL x y post' (pre ++ [(zi, ((p, q) : IDt))]).length f' ln' := fun f' ln' h post' hp' => by
      rw [hps, hpost, List.append_assoc, List.singleton_append, List.append_cancel_left_eq, List.cons_inj_right] at hp'
      rw [← hp', List.length_append, List.length_singleton, ← hz]
      exact h
    have HB := Lib.hid (And.intro h1 (And.intro h2 (And.intro hans (And.intro hkp (And.intro efl (And.intro efq (And.intro hq (And.intro hlt (And.intro hv efp)))))))))
    clear h1 h2 h3 hz hpost hlt hv hans hkp hps efp efq efl hp hx9 hy9 eall eans hfit
    unfold cpV
    dsimp only
    rw [show fi p = fp from HB.out.2.2.2.2.2.2.2.2.2.symm, show fi q = fq from HB.out.2.2.2.2.2.1.symm]
    refine wpIn_block (wpIn_block (wpIn_seq ?_))
    by_cases hA : ln < q
    · rw [decide_eq_true hA] at g1
      by_cases hB : (y : Int) < q
      · rw [decide_eq_true hB] at g2
        have HA := Lib.hid (And.intro hA hB)
        clear hA hB g3
        refine region_round (by kernel_rfl) (by repeat (first | with_reducible exact roundW_in | with_reducible apply inBlock_lets | with_reducible apply then_lets)) ?_
        go_wp2_with fail
        refine wpIn_cond_true rfl (wpIn_seq ?_)
        refine region_round (by kernel_rfl) (by repeat (first | with_reducible exact roundW_in | with_reducible apply inBlock_lets | with_reducible apply then_lets)) ?_
        go_wp2_with fail
        refine wpIn_ret ?_
        obtain ⟨h1, h2, hans, hkp, efl, efq, hq, hlt, hv, efp⟩ := HB.out
        have hsz := hv.2.1
        have haw := hv.2.2.2
        have hD : ∀ j, a + 7 ≤ j → ((W.setCell ⟨a + 1, 0, none⟩ (.int .i64 f)).setCell ⟨a + 2, 0, none⟩ (.int .i64 0)).heap[j]? = W.heap[j]? := fun j hj => (w_other _ _ (by omega)).trans (w_other W _ (by omega))
        have e1 : ans = f := by rw [hans, caL, if_pos HA.out]
        refine ⟨⟨hD _ (by omega), hD _ (by omega), hD _ (by omega)⟩, f, ln, ?_⟩
        rw [e1, ← efl]
        exact h1.set12 haw f 0
      · rw [decide_eq_false hB] at g2
        have HA := Lib.hid (And.intro hA hB)
        clear hA hB g3
        refine region_round (by kernel_rfl) (by repeat (first | with_reducible exact roundW_in | with_reducible apply inBlock_lets | with_reducible apply then_lets)) ?_
        go_wp2_with fail
        refine wpIn_cond_false rfl (wpIn_seq ?_)
        refine region_round (by kernel_rfl) (by repeat (first | with_reducible exact roundW_in | with_reducible apply inBlock_lets | with_reducible apply then_lets)) ?_
        go_wp2_with fail
        refine wpIn_cond_true rfl ?_
        refine region_round (by kernel_rfl) (by repeat (first | with_reducible exact roundW_in | with_reducible apply inBlock_lets | with_reducible apply then_lets)) ?_
        go_wp2_with fail
        obtain ⟨h1, h2, hans, hkp, efl, efq, hq, hlt, hv, efp⟩ := HB.out
        have hsz := hv.2.1
        have haw := hv.2.2.2
        have hD : ∀ j, a + 7 ≤ j → ((W.setCell ⟨a + 3, 0, none⟩ (.int .i64 zi)).setCell ⟨a + 4, 0, none⟩ (.float .f64 fq)).heap[j]? = W.heap[j]? := fun j hj => (w_other _ _ (by omega)).trans (w_other W _ (by omega))
        have e1 : ans = caL x y post (zi + 1) zi q := by have ha := HA.out; rw [hans, caL, if_neg (by omega), if_pos (by omega)]
        refine ⟨⟨hD _ (by omega), hD _ (by omega), hD _ (by omega)⟩, zi, q, ?_, hq, hkp _ _ e1⟩
        rw [← efq]
        exact (h1.set3 haw zi).set4 haw fq
    · rw [decide_eq_false hA] at g1
      by_cases hB : p ≤ (x : Int)
      · rw [decide_eq_true hB] at g3
        have HA := Lib.hid (And.intro hA hB)
        clear hA hB g2
        refine region_round (by kernel_rfl) (by repeat (first | with_reducible exact roundW_in | with_reducible apply inBlock_lets | with_reducible apply then_lets)) ?_
        go_wp2_with fail
        refine wpIn_cond_false rfl (wpIn_seq ?_)
        refine region_round (by kernel_rfl) (by repeat (first | with_reducible exact roundW_in | with_reducible apply inBlock_lets | with_reducible apply then_lets)) ?_
        go_wp2_with fail
        refine wpIn_cond_false rfl (wpIn_seq ?_)
        refine region_round (by kernel_rfl) (by repeat (first | with_reducible exact roundW_in | with_reducible apply inBlock_lets | with_reducible apply then_lets)) ?_
        go_wp2_with fail
        refine wpIn_cond_true rfl ?_
        refine region_round (by kernel_rfl) (by repeat (first | with_reducible exact roundW_in | with_reducible apply inBlock_lets | with_reducible apply then_lets)) ?_
        go_wp2_with fail
        obtain ⟨h1, h2, hans, hkp, efl, efq, hq, hlt, hv, efp⟩ := HB.out
        have hsz := hv.2.1
        have haw := hv.2.2.2
        have hD : ∀ j, a + 7 ≤ j → (W.setCell ⟨a + 3, 0, none⟩ (.int .i64 zi)).heap[j]? = W.heap[j]? := fun j hj => w_other W _ (by omega)
        have e1 : ans = caL x y post (zi + 1) zi ln := by have ha := HA.out; rw [hans, caL, if_neg (by omega), if_neg (by omega), if_pos (by omega)]
        refine ⟨⟨hD _ (by omega), hD _ (by omega), hD _ (by omega)⟩, zi, ln, ?_, h2, hkp _ _ e1⟩
        rw [← efl]
        exact h1.set3 haw zi
      · rw [decide_eq_false hB] at g3
        have HA := Lib.hid (And.intro hA hB)
        clear hA hB g2
        refine region_round (by kernel_rfl) (by repeat (first | with_reducible exact roundW_in | with_reducible apply inBlock_lets | with_reducible apply then_lets)) ?_
        go_wp2_with fail
        refine wpIn_cond_false rfl (wpIn_seq ?_)
        refine region_round (by kernel_rfl) (by repeat (first | with_reducible exact roundW_in | with_reducible apply inBlock_lets | with_reducible apply then_lets)) ?_
        go_wp2_with fail
        refine wpIn_cond_false rfl (wpIn_seq ?_)
        refine region_round (by kernel_rfl) (by repeat (first | with_reducible exact roundW_in | with_reducible apply inBlock_lets | with_reducible apply then_lets)) ?_
        go_wp2_with fail
        refine wpIn_cond_false rfl (wpIn_skip ?_)
        obtain ⟨h1, h2, hans, hkp, efl, efq, hq, hlt, hv, efp⟩ := HB.out
        have hsz := hv.2.1
        have haw := hv.2.2.2
        have e1 : ans = caL x y post (zi + 1) f ln := by have ha := HA.out; rw [hans, caL, if_neg (by omega), if_neg (by omega), if_neg (by omega)]
        refine ⟨⟨rfl, rfl, rfl⟩, f, ln, ?_, h2, hkp _ _ e1⟩
        rw [← efl]
        exact h1
  case done =>
    rintro xs W hxs ⟨f, ln, h1, h2, h3⟩ hK
    rw [hv.2.1] at hK
    rw [hv.2.1]
    obtain ⟨c0, c1, c2, c3, c4, f1, f2, f3, f4⟩ := h1.cells
    have e1 : ans = f := h3 [] (by rw [hxs, List.append_nil])
    have HB := Lib.hid (And.intro h1 (And.intro e1 (And.intro eans (And.intro eall (And.intro hK hv.2.2.2)))))
    clear h1 h2 h3 hK hxs hv hfit eans eall e1
    go_wp2_with fail
    obtain ⟨h1, e1, eans, eall, hK, haw⟩ := HB.out
    refine ⟨by simp, .inl ⟨_, _, rfl, run_takeDeferred ((w_other _ _ (by omega)).trans ((w_other W _ (by omega)).trans hK)), ?_⟩⟩
    have h4 := h1.set12 haw f 0
    obtain ⟨v, ev⟩ : ∃ v, v = (W.setCell ⟨a + 1, 0, none⟩ (.int .i64 f)).setCell ⟨a + 2, 0, none⟩ (.int .i64 0) := ⟨_, rfl⟩
    rw [← ev] at h4 ⊢
    have htw : Trip (a + 7) v (v.putObj (a + 7) (.deferred none)) := Trip.put v _ (by omega)
    have h5 := h4.keep (htw.below (by omega)) (fun j hj => htw.block j (by omega))
    obtain ⟨_, d1, d2, _⟩ := h5.cells
    exact ⟨_, at_res rfl _ d1 d2 rfl rfl, by rw [← eall, ← eans, e1], h5.below⟩
  case stop =>
    rintro pre W ⟨f, ln, h1⟩ hK
    rw [hv.2.1] at hK
    rw [hv.2.1]
    have haw := hv.2.2.2
    refine ⟨by simp, .inl ⟨_, _, rfl, run_takeDeferred hK, ?_⟩⟩
    have htw : Trip (a + 7) W (W.putObj (a + 7) (.deferred none)) := Trip.put W _ (by omega)
    have h5 := h1.keep (htw.below (by omega)) (fun j hj => htw.block j (by omega))
    obtain ⟨_, d1, d2, _⟩ := h5.cells
    exact ⟨_, at_res rfl _ d1 d2 rfl rfl, by rw [← eall, ← eans], h5.below⟩
end Go.Proofs.Ytejfdheiopejeaa
