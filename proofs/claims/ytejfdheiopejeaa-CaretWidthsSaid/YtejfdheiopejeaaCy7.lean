/-
  Layer 17, the landed code: Box. By an AI agent.
-/
import Derived.Test.YtejfdheiopejeaaCy6
namespace Go.Proofs.Ytejfdheiopejeaa
open Go Go.RowKit
set_option maxRecDepth 20000
attribute [local go_sem] Oper.semAt_some run_store_float17 run_store_complex17
theorem run_fmin {P : Program} (w : World) (ts : Array TypeId) (t : TypeId) {x y : Int} (hx : Fit x) (hy : Fit y) : (Builtin.min_ ts t #[.float .f64 (fi x), .float .f64 (fi y)]).run P w = .ok (.float .f64 (fi (min x y))) w := by
  have h := ord_fit hx hy
  rcases Int.lt_trichotomy x y with h1 | h1 | h1
  · rw [Int.compare_eq_lt.2 h1] at h
    simp [Builtin.min_, Builtin.min2, h, Int.min_eq_left (Int.le_of_lt h1)]
  · subst h1
    rw [Int.compare_eq_eq.2 rfl] at h
    simp [Builtin.min_, Builtin.min2, h]
  · rw [Int.compare_eq_gt.2 h1] at h
    simp [Builtin.min_, Builtin.min2, h, Int.min_eq_right (Int.le_of_lt h1)]
theorem run_fmax {P : Program} (w : World) (ts : Array TypeId) (t : TypeId) {x y : Int} (hx : Fit x) (hy : Fit y) : (Builtin.max_ ts t #[.float .f64 (fi x), .float .f64 (fi y)]).run P w = .ok (.float .f64 (fi (max x y))) w := by
  have h := ord_fit hx hy
  rcases Int.lt_trichotomy x y with h1 | h1 | h1
  · rw [Int.compare_eq_lt.2 h1] at h
    simp [Builtin.max_, Builtin.max2, h, Int.max_eq_right (Int.le_of_lt h1)]
  · subst h1
    rw [Int.compare_eq_eq.2 rfl] at h
    simp [Builtin.max_, Builtin.max2, h]
  · rw [Int.compare_eq_gt.2 h1] at h
    simp [Builtin.max_, Builtin.max2, h, Int.max_eq_left (Int.le_of_lt h1)]
/-- The least, the greatest of the places from the i-th on. -/
def lowN (l : List IDt) (i : Nat) : Nat → IDt
  | 0 => l.getD i (0, 0)
  | d + 1 => (min (lowN l i d).1 (l.getD (i + (d + 1)) (0, 0)).1, min (lowN l i d).2 (l.getD (i + (d + 1)) (0, 0)).2)
def highN (l : List IDt) (i : Nat) : Nat → IDt
  | 0 => l.getD i (0, 0)
  | d + 1 => (max (highN l i d).1 (l.getD (i + (d + 1)) (0, 0)).1, max (highN l i d).2 (l.getD (i + (d + 1)) (0, 0)).2)
theorem lowN_fit {l : List IDt} {i : Nat} (h : ∀ j, Fit (l.getD j (0, 0)).1 ∧ Fit (l.getD j (0, 0)).2) : ∀ d, Fit (lowN l i d).1 ∧ Fit (lowN l i d).2
  | 0 => h i
  | d + 1 => by
    have h1 := lowN_fit (i := i) h d
    have h2 := h (i + (d + 1))
    unfold Fit at h1 h2 ⊢
    rw [lowN]
    dsimp only
    omega
theorem highN_fit {l : List IDt} {i : Nat} (h : ∀ j, Fit (l.getD j (0, 0)).1 ∧ Fit (l.getD j (0, 0)).2) : ∀ d, Fit (highN l i d).1 ∧ Fit (highN l i d).2
  | 0 => h i
  | d + 1 => by
    have h1 := highN_fit (i := i) h d
    have h2 := h (i + (d + 1))
    unfold Fit at h1 h2 ⊢
    rw [highN]
    dsimp only
    omega
/-- What Box answers. -/
def boxR (l : List IDt) (c i k : Int) : IDt × IDt × Int := if (2 ≤ c ∧ c ≤ 200) ∧ 0 ≤ i ∧ i ≤ k ∧ k < (l.length : Int) then (lowN l i.toNat (k.toNat - i.toNat), highN l i.toNat (k.toNat - i.toNat), 0) else ((0, 0), (0, 0), 6)
/-- The boxes of a call of Box, from block a on. -/
structure BxB (w0 : World) (a : Nat) (s : ByteArray) (c i k : Int) (u1 u2 r1 r2 : Nat) (er : Int) (l1 l2 m1 m2 : Nat) (W : World) : Prop where
  below : Below w0.heap.size w0 W
  size : a + 12 ≤ W.heap.size
  b0 : W.heap[a]? = some (.cells #[.int .i64 i] 3)
  b1 : W.heap[a + 1]? = some (.cells #[.int .i64 k] 3)
  b2 : W.heap[a + 2]? = some (.cells #[.complex .f64 u1 u2] 30)
  b3 : W.heap[a + 3]? = some (.cells #[.complex .f64 r1 r2] 30)
  b4 : W.heap[a + 4]? = some (.cells #[.int .i64 er] 23)
  b5 : W.heap[a + 5]? = some (.cells #[.complex .f64 l1 l2] 30)
  b6 : W.heap[a + 6]? = some (.cells #[.complex .f64 m1 m2] 30)
  b7 : W.heap[a + 7]? = some (.cells #[.string s] 9)
  b8 : W.heap[a + 8]? = some (.cells #[.int .i64 c] 3)
section
variable {w0 W W' : World} {a : Nat} {s : ByteArray} {c i k er : Int} {u1 u2 r1 r2 l1 l2 m1 m2 : Nat}
theorem BxB.keep (h : BxB w0 a s c i k u1 u2 r1 r2 er l1 l2 m1 m2 W) (hb : Below w0.heap.size W W') (hk : ∀ j, j < a + 9 → W'.heap[j]? = W.heap[j]?) : BxB w0 a s c i k u1 u2 r1 r2 er l1 l2 m1 m2 W' :=
  ⟨h.below.trans hb, Nat.le_trans h.size hb.size, (hk _ (by omega)).trans h.b0, (hk _ (by omega)).trans h.b1, (hk _ (by omega)).trans h.b2, (hk _ (by omega)).trans h.b3, (hk _ (by omega)).trans h.b4, (hk _ (by omega)).trans h.b5, (hk _ (by omega)).trans h.b6, (hk _ (by omega)).trans h.b7, (hk _ (by omega)).trans h.b8⟩
theorem BxB.cells (h : BxB w0 a s c i k u1 u2 r1 r2 er l1 l2 m1 m2 W) :
    W.cell? ⟨a, 0, none⟩ = some (.int .i64 i) ∧ W.cell? ⟨a + 1, 0, none⟩ = some (.int .i64 k) ∧ W.cell? ⟨a + 2, 0, none⟩ = some (.complex .f64 u1 u2) ∧ W.cell? ⟨a + 3, 0, none⟩ = some (.complex .f64 r1 r2) ∧ W.cell? ⟨a + 4, 0, none⟩ = some (.int .i64 er) ∧ W.cell? ⟨a + 5, 0, none⟩ = some (.complex .f64 l1 l2) ∧ W.cell? ⟨a + 6, 0, none⟩ = some (.complex .f64 m1 m2) ∧ W.frozen? ⟨a + 2, 0, none⟩ = false ∧ W.frozen? ⟨a + 3, 0, none⟩ = false ∧ W.frozen? ⟨a + 4, 0, none⟩ = false ∧ W.frozen? ⟨a + 5, 0, none⟩ = false ∧ W.frozen? ⟨a + 6, 0, none⟩ = false := by
  refine ⟨?_, ?_, ?_, ?_, ?_, ?_, ?_, w_free h.b2 0, w_free h.b3 0, w_free h.b4 0, w_free h.b5 0, w_free h.b6 0⟩
  · simp [World.cell?, h.b0]
  · simp [World.cell?, h.b1]
  · simp [World.cell?, h.b2]
  · simp [World.cell?, h.b3]
  · simp [World.cell?, h.b4]
  · simp [World.cell?, h.b5]
  · simp [World.cell?, h.b6]
theorem BxB.set2 (h : BxB w0 a s c i k u1 u2 r1 r2 er l1 l2 m1 m2 W) (ha : w0.heap.size ≤ a) (g1 g2 : Nat) : BxB w0 a s c i k g1 g2 r1 r2 er l1 l2 m1 m2 (W.setCell ⟨a + 2, 0, none⟩ (.complex .f64 g1 g2)) :=
  ⟨h.below.setCell (p := ⟨a + 2, 0, none⟩) (by show _ ≤ a + 2; omega) _, by rw [w_size]; exact h.size, (w_other W _ (by omega)).trans h.b0, (w_other W _ (by omega)).trans h.b1, w_block h.b2 0 _, (w_other W _ (by omega)).trans h.b3, (w_other W _ (by omega)).trans h.b4, (w_other W _ (by omega)).trans h.b5, (w_other W _ (by omega)).trans h.b6, (w_other W _ (by omega)).trans h.b7, (w_other W _ (by omega)).trans h.b8⟩
theorem BxB.set3 (h : BxB w0 a s c i k u1 u2 r1 r2 er l1 l2 m1 m2 W) (ha : w0.heap.size ≤ a) (g1 g2 : Nat) : BxB w0 a s c i k u1 u2 g1 g2 er l1 l2 m1 m2 (W.setCell ⟨a + 3, 0, none⟩ (.complex .f64 g1 g2)) :=
  ⟨h.below.setCell (p := ⟨a + 3, 0, none⟩) (by show _ ≤ a + 3; omega) _, by rw [w_size]; exact h.size, (w_other W _ (by omega)).trans h.b0, (w_other W _ (by omega)).trans h.b1, (w_other W _ (by omega)).trans h.b2, w_block h.b3 0 _, (w_other W _ (by omega)).trans h.b4, (w_other W _ (by omega)).trans h.b5, (w_other W _ (by omega)).trans h.b6, (w_other W _ (by omega)).trans h.b7, (w_other W _ (by omega)).trans h.b8⟩
theorem BxB.set4 (h : BxB w0 a s c i k u1 u2 r1 r2 er l1 l2 m1 m2 W) (ha : w0.heap.size ≤ a) (g : Int) : BxB w0 a s c i k u1 u2 r1 r2 g l1 l2 m1 m2 (W.setCell ⟨a + 4, 0, none⟩ (.int .i64 g)) :=
  ⟨h.below.setCell (p := ⟨a + 4, 0, none⟩) (by show _ ≤ a + 4; omega) _, by rw [w_size]; exact h.size, (w_other W _ (by omega)).trans h.b0, (w_other W _ (by omega)).trans h.b1, (w_other W _ (by omega)).trans h.b2, (w_other W _ (by omega)).trans h.b3, w_block h.b4 0 _, (w_other W _ (by omega)).trans h.b5, (w_other W _ (by omega)).trans h.b6, (w_other W _ (by omega)).trans h.b7, (w_other W _ (by omega)).trans h.b8⟩
theorem BxB.set5 (h : BxB w0 a s c i k u1 u2 r1 r2 er l1 l2 m1 m2 W) (ha : w0.heap.size ≤ a) (g1 g2 : Nat) : BxB w0 a s c i k u1 u2 r1 r2 er g1 g2 m1 m2 (W.setCell ⟨a + 5, 0, none⟩ (.complex .f64 g1 g2)) :=
  ⟨h.below.setCell (p := ⟨a + 5, 0, none⟩) (by show _ ≤ a + 5; omega) _, by rw [w_size]; exact h.size, (w_other W _ (by omega)).trans h.b0, (w_other W _ (by omega)).trans h.b1, (w_other W _ (by omega)).trans h.b2, (w_other W _ (by omega)).trans h.b3, (w_other W _ (by omega)).trans h.b4, w_block h.b5 0 _, (w_other W _ (by omega)).trans h.b6, (w_other W _ (by omega)).trans h.b7, (w_other W _ (by omega)).trans h.b8⟩
theorem BxB.set6 (h : BxB w0 a s c i k u1 u2 r1 r2 er l1 l2 m1 m2 W) (ha : w0.heap.size ≤ a) (g1 g2 : Nat) : BxB w0 a s c i k u1 u2 r1 r2 er l1 l2 g1 g2 (W.setCell ⟨a + 6, 0, none⟩ (.complex .f64 g1 g2)) :=
  ⟨h.below.setCell (p := ⟨a + 6, 0, none⟩) (by show _ ≤ a + 6; omega) _, by rw [w_size]; exact h.size, (w_other W _ (by omega)).trans h.b0, (w_other W _ (by omega)).trans h.b1, (w_other W _ (by omega)).trans h.b2, (w_other W _ (by omega)).trans h.b3, (w_other W _ (by omega)).trans h.b4, (w_other W _ (by omega)).trans h.b5, w_block h.b6 0 _, (w_other W _ (by omega)).trans h.b7, (w_other W _ (by omega)).trans h.b8⟩
end
/-- Three results in cells. -/
theorem box_res {fn : Func} {p q r : Tmp} (h : fn.results = #[.cell p 30, .cell q 30, .cell r 23]) (tmps : Array Value) {w : World} {g1 g2 g3 : Nat} {x y z : Value} (c1 : w.cell? ⟨g1, 0, none⟩ = some x) (c2 : w.cell? ⟨g2, 0, none⟩ = some y) (c3 : w.cell? ⟨g3, 0, none⟩ = some z)
    (hp : tmps.getD p undef = .pointer (some ⟨g1, 0, none⟩)) (hq : tmps.getD q undef = .pointer (some ⟨g2, 0, none⟩)) (hr : tmps.getD r undef = .pointer (some ⟨g3, 0, none⟩)) : (results fn tmps).run Try.prog w = .ok (.tuple #[x, y, z]) w := by
  have hp' : tmps[p]?.getD undef = .pointer (some ⟨g1, 0, none⟩) := by simpa using hp
  have hq' : tmps[q]?.getD undef = .pointer (some ⟨g2, 0, none⟩) := by simpa using hq
  have hr' : tmps[r]?.getD undef = .pointer (some ⟨g3, 0, none⟩) := by simpa using hr
  simp only [results, h]
  simp [Result.andThen, hp', hq', hr', asAddr, go_sem, c1, c2, c3]
set_option maxHeartbeats 6400000 in
theorem box_bad {s : ByteArray} {c i k : Int} (h : ¬ ((2 ≤ c ∧ c ≤ 200) ∧ 0 ≤ i ∧ i ≤ k)) (w : World) :
    Calls Try.prog 14 #[.string s, .int .i64 c, .int .i64 i, .int .i64 k] w fun e w' => e = .returned (.tuple #[cpV (0, 0), cpV (0, 0), .int .i64 6]) ∧ Below w.heap.size w w' := by
  unfold cpV
  rw [show fi ((0, 0) : IDt).1 = 0 from fi_zero]
  have hd : ∀ w, Calls Try.prog 18 #[.int .i64 c] w fun e w' => e = .returned (.bool (decide (2 ≤ c ∧ c ≤ 200))) ∧ w' = w := fun w => right_any c w
  have hn5 := fun (w : World) => heap_new5 w (.cells #[.int .i64 i] 3) (.cells #[.int .i64 k] 3) (.cells #[.complex .f64 0 0] 30) (.cells #[.complex .f64 0 0] 30) (.cells #[.int .i64 6] 23)
  have HN := Lib.hid hn5
  clear hn5
  refine (callsIn_wide (n := 4)).1 (callsIn_of_wp_marks Try.func14 rfl trivial ?_)
  refine wpIn_wide.2 ?_
  simp only [Try.ntmps14, List.size_toArray, List.length_cons, List.length_nil, Nat.reduceAdd, Nat.reduceSub, Array.replicate_succ, Array.replicate_zero, List.push_toArray, List.append_toArray, List.nil_append, List.cons_append]
  have fin : ∀ (tm : Array Value) (a : Nat), a = w.heap.size → tm.getD 8 undef = .pointer (some ⟨a + 2, 0, none⟩) → tm.getD 9 undef = .pointer (some ⟨a + 3, 0, none⟩) → tm.getD 10 undef = .pointer (some ⟨a + 4, 0, none⟩) →
      ∀ v', v' = (((((w.alloc (.cells #[.int .i64 i] 3)).alloc (.cells #[.int .i64 k] 3)).alloc (.cells #[.complex .f64 0 0] 30)).alloc (.cells #[.complex .f64 0 0] 30)).alloc (.cells #[.int .i64 6] 23)) →
      ∃ x, (results Try.f14 tm).run Try.prog v' = .ok x v' ∧ (Ending.returned x = .returned (.tuple #[.complex .f64 0 0, .complex .f64 0 0, .int .i64 6]) ∧ Below w.heap.size w v') := by
    rintro tm a ea h8 h9 h10 v' ev'
    obtain ⟨_, _, g2, g3, g4⟩ := HN.out w
    rw [← ev', ← ea] at g2 g3 g4
    refine ⟨_, box_res rfl tm (x := .complex .f64 0 0) (y := .complex .f64 0 0) (z := .int .i64 6) (by simp [World.cell?, g2]) (by simp [World.cell?, g3]) (by simp [World.cell?, g4]) h8 h9 h10, rfl, ?_⟩
    rw [ev']
    exact (((((Below.refl _ _).alloc (Nat.le_refl _) _).alloc (by simp) _).alloc (by simp; omega) _).alloc (by simp; omega) _).alloc (by simp; omega) _
  by_cases h1 : 2 ≤ c ∧ c ≤ 200
  · have hd1 := decide_eq_true h1
    by_cases h2 : i < 0
    · clear h h1
      go_wp2_with (go_at_call 18; with_reducible refine (hd _).mono ?_; rintro z wz ⟨rfl, hwz⟩; rw [hwz, hd1]; clear hwz wz)
      exact fin _ w.heap.size rfl rfl rfl rfl _ rfl
    · have h3 : k < i := by omega
      have h4 : 0 ≤ i := by omega
      clear h h1 h2
      go_wp2_with (go_at_call 18; with_reducible refine (hd _).mono ?_; rintro z wz ⟨rfl, hwz⟩; rw [hwz, hd1]; clear hwz wz)
      exact fin _ w.heap.size rfl rfl rfl rfl _ rfl
  · have hd1 := decide_eq_false h1
    clear h h1
    go_wp2_with (go_at_call 18; with_reducible refine (hd _).mono ?_; rintro z wz ⟨rfl, hwz⟩; rw [hwz, hd1]; clear hwz wz)
    exact fin _ w.heap.size rfl rfl rfl rfl _ rfl
set_option maxHeartbeats 6400000 in
theorem box_any {s : ByteArray} {c i k : Int} {n m : Nat} (hc : 2 ≤ c ∧ c ≤ 200) (hs : s.size ≤ 1048576) (hi : i = n) (hk : k = m) (hnm : n ≤ m) (w : World) :
    Calls Try.prog 14 #[.string s, .int .i64 c, .int .i64 i, .int .i64 k] w fun e w' => e = .returned (.tuple #[cpV (boxR (spotsR c (runesFrom s 0) (0, 0)) c i k).1, cpV (boxR (spotsR c (runesFrom s 0) (0, 0)) c i k).2.1, .int .i64 (boxR (spotsR c (runesFrom s 0) (0, 0)) c i k).2.2]) ∧ Below w.heap.size w w' := by
  have hd := decide_eq_true hc
  obtain ⟨all, eall⟩ : ∃ l, l = spotsR c (runesFrom s 0) (0, 0) := ⟨_, rfl⟩
  have hfit : ∀ j, Fit (all.getD j (0, 0)).1 ∧ Fit (all.getD j (0, 0)).2 := by
    intro j
    rcases Nat.lt_or_ge j all.length with hj | hj
    · have h1 : all.getD j (0, 0) ∈ all := by rw [List.getD_eq_getElem?_getD, List.getElem?_eq_getElem hj]; exact List.getElem_mem hj
      have h2 : all.getD j (0, 0) ∈ spotsR c (runesFrom s 0) (0, 0) := by rw [← eall]; exact h1
      exact (spots_fit hc hs _ h2).2.2
    · rw [List.getD_eq_getElem?_getD, List.getElem?_eq_none hj]
      show Fit 0 ∧ Fit 0
      unfold Fit
      omega
  rw [← eall]
  have hni : decide (i < 0) = false := decide_eq_false (by omega)
  have hnk : decide (k < i) = false := decide_eq_false (by omega)
  have HF := Lib.hid (And.intro hc (And.intro hs (And.intro hi (And.intro hk (And.intro hnm (And.intro hfit eall))))))
  clear hc hs hi hk hnm hfit eall
  refine (callsIn_wide (n := 4)).1 (callsIn_of_wp_marks Try.func14 rfl trivial ?_)
  refine wpIn_wide.2 ?_
  simp only [Try.ntmps14, List.size_toArray, List.length_cons, List.length_nil, Nat.reduceAdd, Nat.reduceSub, Array.replicate_succ, Array.replicate_zero, List.push_toArray, List.append_toArray, List.nil_append, List.cons_append]
  go_upto_region 4 with (go_at_call 18; with_reducible refine (right_any c _).mono ?_; rintro z wz ⟨rfl, hwz⟩; rw [hwz, hd]; clear hwz wz)
  obtain ⟨a, ea⟩ : ∃ a, a = w.heap.size := ⟨_, rfl⟩
  obtain ⟨v0, ev0⟩ : ∃ v, v = (((((w.alloc (.cells #[.int .i64 i] 3)).alloc (.cells #[.int .i64 k] 3)).alloc (.cells #[.complex .f64 0 0] 30)).alloc (.cells #[.complex .f64 0 0] 30)).alloc (.cells #[.int .i64 0] 23)) := ⟨_, rfl⟩
  obtain ⟨v1, ev1⟩ : ∃ v, v = ((v0.alloc (.cells #[.complex .f64 0 0] 30)).alloc (.cells #[.complex .f64 0 0] 30)) := ⟨_, rfl⟩
  rw [← ev0, ← ev1, ← ea]
  obtain ⟨v2, ev2⟩ : ∃ v, v = (v1.alloc (.cells #[.string s] 9)).alloc (.cells #[.int .i64 c] 3) := ⟨_, rfl⟩
  have hs0 : v0.heap.size = a + 5 := by rw [ev0, ea]; simp
  have hs1 : v1.heap.size = a + 7 := by rw [ev1]; simp [hs0]
  have hs2 : v2.heap.size = a + 9 := by rw [ev2]; simp [hs1]
  have hb2 : Below v1.heap.size v1 v2 := by rw [ev2]; exact ((Below.refl _ _).alloc (Nat.le_refl _) _).alloc (by simp) _
  have hb1 : Below v0.heap.size v0 v1 := by rw [ev1]; exact ((Below.refl _ _).alloc (Nat.le_refl _) _).alloc (by simp) _
  have hb0 : Below w.heap.size w v0 := by rw [ev0]; exact (((((Below.refl _ _).alloc (Nat.le_refl _) _).alloc (by simp) _).alloc (by simp; omega) _).alloc (by simp; omega) _).alloc (by simp; omega) _
  obtain ⟨n0, n1, n2, n3, n4⟩ := heap_new5 w (.cells #[.int .i64 i] 3) (.cells #[.int .i64 k] 3) (.cells #[.complex .f64 0 0] 30) (.cells #[.complex .f64 0 0] 30) (.cells #[.int .i64 0] 23)
  rw [← ev0, ← ea] at n0 n1 n2 n3 n4
  have hbx : ∀ o1 o2 o3, BxB w a s c i k 0 0 0 0 0 0 0 0 0 (((v2.alloc o1).alloc o2).alloc o3) := by
    intro o1 o2 o3
    have hb : Below v2.heap.size v2 (((v2.alloc o1).alloc o2).alloc o3) := (((Below.refl _ _).alloc (Nat.le_refl _) _).alloc (by simp) _).alloc (by simp; omega) _
    have hh : ∀ j, j < a + 7 → (((v2.alloc o1).alloc o2).alloc o3).heap[j]? = v1.heap[j]? := fun j hj => (hb.block j (by omega)).trans (hb2.block j (by omega))
    have hg : ∀ j, j < a + 5 → (((v2.alloc o1).alloc o2).alloc o3).heap[j]? = v0.heap[j]? := fun j hj => (hh j (by omega)).trans (hb1.block j (by omega))
    refine ⟨((hb0.trans (hb1.mono hb0.size)).trans (hb2.mono (by omega))).trans (hb.mono (by omega)), by simp [hs2], (hg _ (by omega)).trans n0, (hg _ (by omega)).trans n1, (hg _ (by omega)).trans n2, (hg _ (by omega)).trans n3, (hg _ (by omega)).trans n4, (hh _ (by omega)).trans ?_, (hh _ (by omega)).trans ?_, (hb.block _ (by omega)).trans ?_, (hb.block _ (by omega)).trans ?_⟩
    · rw [ev1, ← hs0]; exact (heap_new2 v0 _ _).1
    · rw [ev1, show a + 6 = v0.heap.size + 1 by omega]; exact (heap_new2 v0 _ _).2
    · rw [ev2, ← hs1]; exact (heap_new2 v1 _ _).1
    · rw [ev2, show a + 8 = v1.heap.size + 1 by omega]; exact (heap_new2 v1 _ _).2
  have hc7 : v2.cell? ⟨a + 7, 0, none⟩ = some (.string s) := by rw [ev2, ← hs1]; simp
  have HC := Lib.hid (carets_any (s := s) (k := c) v1)
  rw [← ev2, hs1] at HC
  have HV := Lib.hid (And.intro hbx (And.intro hs2 (And.intro hc7 (show w.heap.size ≤ a by omega))))
  clear hs0 hs1 hs2 hb2 hb1 hb0 hbx hc7 ev0 ev1 ev2 ea hd n0 n1 n2 n3 n4 hni hnk
  go_wp2_with (go_at_call 20; refine HC.out.mono ?_; rintro z wz ⟨rfl, hwz⟩; rw [hwz]; clear hwz wz)
  clear HC
  have hv := HV.out
  refine wp_range_walk (gf := 22) (caps := #[.pointer (some ⟨a + 7, 0, none⟩), .pointer (some ⟨a + 7 + 1, 0, none⟩)]) rfl (enters_of Try.func22 (by kernel_rfl) rfl) encC (fun _ => rfl) (fun xs => xs.map Prod.snd = all) (Nxt all)
    (fun pre W => pre.length ≤ m ∧ ∃ l1 l2 m1 m2 : Nat, BxB w a s c i k 0 0 0 0 0 l1 l2 m1 m2 W ∧ (n < pre.length → ∃ d, n + d + 1 = pre.length ∧ l1 = fi (lowN all n d).1 ∧ l2 = fi (lowN all n d).2 ∧ m1 = fi (highN all n d).1 ∧ m2 = fi (highN all n d).2))
    (fun pre W => m < all.length ∧ ∃ l1 l2 m1 m2 : Nat, BxB w a s c i k (fi (lowN all n (m - n)).1) (fi (lowN all n (m - n)).2) (fi (highN all n (m - n)).1) (fi (highN all n (m - n)).2) 0 l1 l2 m1 m2 W) ?hI ?hIx ?h0 (fun z => { tmps := #[.string s, .int .i64 c, .int .i64 i, .int .i64 k, undef, undef, .pointer (some ⟨a, 0, none⟩), .pointer (some ⟨a + 1, 0, none⟩), .pointer (some ⟨a + 2, 0, none⟩), .pointer (some ⟨a + 3, 0, none⟩), .pointer (some ⟨a + 4, 0, none⟩), .pointer (some ⟨a + 5, 0, none⟩), .pointer (some ⟨a + 6, 0, none⟩), .int .i64 (z.1 : Int), cpV z.2, .int .i64 c, .bool true, .bool false, .bool false, .int .i64 i, .bool false, .bool false, .bool false, .int .i64 i, .int .i64 k, .bool false, .bool false, .string s, .int .i64 c, .func (.func 22) #[] #[.pointer (some ⟨a + 7, 0, none⟩), .pointer (some ⟨a + 8, 0, none⟩)], .int .i64 (z.1 : Int), cpV z.2, undef, undef, undef, undef, undef, undef, undef, undef, undef, undef, undef, undef, undef, undef, undef, undef, undef, undef, undef, undef, undef, undef, undef, undef, undef, undef, undef, undef, undef, undef, undef, undef, undef, undef, undef, undef, undef], defers := [] }) ?hseq ?assign ?body ?done ?stop
  case hI =>
    rintro pre W W' ⟨h1, l1, l2, m1, m2, h2, h3⟩ ht
    rw [hv.2.1] at ht
    exact ⟨h1, l1, l2, m1, m2, h2.keep (ht.below (by omega)) (fun j hj => ht.block j (by omega)), h3⟩
  case hIx =>
    rintro pre W W' ⟨h1, l1, l2, m1, m2, h2⟩ ht
    rw [hv.2.1] at ht
    exact ⟨h1, l1, l2, m1, m2, h2.keep (ht.below (by omega)) (fun j hj => ht.block j (by omega))⟩
  case h0 =>
    intro o1 o2 o3
    exact ⟨Nat.zero_le _, _, _, _, _, hv.1 o1 o2 o3, fun h => absurd h (Nat.not_lt_zero _)⟩
  case hseq =>
    intro l J Jx W hl hW hJI hJp hY h0
    obtain ⟨_, l1, l2, m1, m2, hj, _⟩ := hJI _ _ (h0 (.stringIter s 0))
    have hsz := hv.2.1
    refine (seq_any (b1 := a + 7) (b2 := a + 7 + 1) (J := J) (Jx := Jx) HF.out.1 HF.out.2.1 HF.out.2.2.2.2.2.2 (fun pre W hj => by
      obtain ⟨_, l1, l2, m1, m2, h1, _⟩ := hJI pre W hj
      exact ⟨by simp [World.cell?, h1.b7], by simp [World.cell?, h1.b8]⟩) hJp hY W hW ?_ h0).mono ?_
    · have h3 : (W.alloc (.stringIter s 0)).cell? ⟨a + 7, 0, none⟩ = some (.string s) := by simp [World.cell?, hj.b7]
      rwa [((Below.refl W.heap.size W).alloc (Nat.le_refl _) (.stringIter s 0)).cell (p := ⟨a + 7, 0, none⟩) (by show a + 7 < _; omega)] at h3
    · rintro e W' ⟨hv', h1 | h1⟩
      · exact ⟨hv', .inl h1⟩
      · exact ⟨hv', .inr h1⟩
  case assign =>
    intro l z W K hK
    unfold encC
    refine wpIn_seq ?_
    refine region_round (by kernel_rfl) (then_lets (then_lets (fun ⟨_, _, h⟩ => h))) ?_
    go_wp2_with fail
    refine region_round (by kernel_rfl) (then_lets (fun ⟨_, _, h⟩ => h)) ?_
    go_wp2_with fail
    exact hK
  case body =>
    rintro l pre ⟨zi, ⟨p, q⟩⟩ W ⟨hpm, l1, l2, m1, m2, h1, h2⟩ ⟨hz, post, hpost⟩ hlt
    dsimp only at hz hpost
    obtain ⟨-, -, hi, hk, hnm, hfit, -⟩ := HF.out
    have hget : all.getD zi (0, 0) = (p, q) := by
      rw [List.getD_eq_getElem?_getD, hpost, List.getElem?_append_right (by rw [List.length_map]; omega), List.length_map, ← hz, Nat.sub_self]
      rfl
    have hlen : zi < all.length := by rw [hpost, List.length_append, List.length_map, List.length_cons]; omega
    obtain ⟨hp9, hq9⟩ := hfit zi
    rw [hget] at hp9 hq9
    obtain ⟨c0, c1, c2, c3, c4, c5, c6, f2, f3, f4, f5, f6⟩ := h1.cells
    obtain ⟨fp, efp⟩ : ∃ v, v = fi p := ⟨_, rfl⟩
    obtain ⟨fq, efq⟩ : ∃ v, v = fi q := ⟨_, rfl⟩
    obtain ⟨zj, ezj⟩ : ∃ q : Int, q = zi := ⟨_, rfl⟩
    have hlp : (pre ++ [(zi, ((p, q) : IDt))]).length = zi + 1 := by rw [List.length_append, List.length_singleton, hz]
    unfold cpV
    dsimp only
    rw [← efp, ← efq, ← ezj]
    rw [← hz] at h2 hpm
    have HB := Lib.hid (And.intro h1 (And.intro h2 (And.intro hpm (And.intro hget (And.intro hlen (And.intro efp (And.intro efq (And.intro ezj (And.intro hlp (And.intro hlt hv))))))))))
    refine wpIn_block (wpIn_seq (wpIn_block ?_))
    rcases Nat.lt_trichotomy zi n with hzn | hzn | hzn
    · have g1 : (zj == i) = false := beq_false_of_ne (by omega)
      have g2 : decide (i < zj) = false := decide_eq_false (by omega)
      have g3 : (zj == k) = false := beq_false_of_ne (by omega)
      have HZ := Lib.hid hzn
      clear h1 h2 hpm hpost hz hget hlen hp9 hq9 efp efq ezj hlp hlt hv hzn hi hk hnm hfit
      refine wpIn_seq ?_
      refine region_round (by kernel_rfl) (by repeat (first | with_reducible exact roundW_in | with_reducible apply inBlock_lets | with_reducible apply then_lets)) ?_
      go_wp2_with fail
      refine wpIn_cond_false rfl (wpIn_seq ?_)
      refine region_round (by kernel_rfl) (by repeat (first | with_reducible exact roundW_in | with_reducible apply inBlock_lets | with_reducible apply then_lets)) ?_
      go_wp2_with fail
      refine wpIn_cond_false rfl (wpIn_skip ?_)
      refine wpIn_seq ?_
      refine region_round (by kernel_rfl) (by repeat (first | with_reducible exact roundW_in | with_reducible apply inBlock_lets | with_reducible apply then_lets)) ?_
      go_wp2_with fail
      refine wpIn_cond_false rfl (wpIn_skip ?_)
      obtain ⟨h1, h2, hpm, hget, hlen, efp, efq, ezj, hlp, hlt, hv⟩ := HB.out
      obtain ⟨-, -, hi, hk, hnm, hfit, -⟩ := HF.out
      have hzn := HZ.out
      exact ⟨⟨rfl, rfl, rfl⟩, by rw [hlp]; omega, l1, l2, m1, m2, h1, fun h => by rw [hlp] at h; omega⟩
    · obtain rfl : zj = i := by omega
      have HZ := Lib.hid hzn
      clear h1 h2 hpm hpost hz hget hlen hp9 hq9 efp efq ezj hlp hlt hv hzn hi hk hnm hfit
      refine wpIn_seq ?_
      refine region_round (by kernel_rfl) (by repeat (first | with_reducible exact roundW_in | with_reducible apply inBlock_lets | with_reducible apply then_lets)) ?_
      go_wp2_with fail
      refine wpIn_cond_true rfl ?_
      refine region_round (by kernel_rfl) (by repeat (first | with_reducible exact roundW_in | with_reducible apply inBlock_lets | with_reducible apply then_lets)) ?_
      go_wp2_with fail
      obtain ⟨h1, h2, hpm, hget, hlen, efp, efq, ezj, hlp, hlt, hv⟩ := HB.out
      obtain ⟨-, -, hi, hk, hnm, hfit, -⟩ := HF.out
      have hzn := HZ.out
      obtain ⟨Wx, eWx⟩ : ∃ v, v = (W.setCell ⟨a + 5, 0, none⟩ (.complex .f64 fp fq)).setCell ⟨a + 6, 0, none⟩ (.complex .f64 fp fq) := ⟨_, rfl⟩
      have hx := (h1.set5 hv.2.2.2 fp fq).set6 hv.2.2.2 fp fq
      have hD : ∀ j, a + 9 ≤ j → Wx.heap[j]? = W.heap[j]? := fun j hj => by rw [eWx, w_other _ _ (by omega), w_other _ _ (by omega)]
      rw [← eWx] at hx ⊢
      have hL : ∃ d, n + d + 1 = zi + 1 ∧ fp = fi (lowN all n d).1 ∧ fq = fi (lowN all n d).2 ∧ fp = fi (highN all n d).1 ∧ fq = fi (highN all n d).2 := ⟨0, by omega, by rw [lowN, ← hzn, hget, efp], by rw [lowN, ← hzn, hget, efq], by rw [highN, ← hzn, hget, efp], by rw [highN, ← hzn, hget, efq]⟩
      obtain ⟨L1, e1⟩ : ∃ v, v = fp := ⟨_, rfl⟩
      obtain ⟨L2, e2⟩ : ∃ v, v = fq := ⟨_, rfl⟩
      obtain ⟨M1, e3⟩ : ∃ v, v = fp := ⟨_, rfl⟩
      obtain ⟨M2, e4⟩ : ∃ v, v = fq := ⟨_, rfl⟩
      have hx' : BxB w a s c zj k 0 0 0 0 0 L1 L2 M1 M2 Wx := by rw [e1, e2, e3, e4]; exact hx
      have hL' : ∃ d, n + d + 1 = zi + 1 ∧ L1 = fi (lowN all n d).1 ∧ L2 = fi (lowN all n d).2 ∧ M1 = fi (highN all n d).1 ∧ M2 = fi (highN all n d).2 := by rw [e1, e2, e3, e4]; exact hL
      clear hx hL e1 e2 e3 e4 c0 c1 c2 c3 c4 c5 c6 f2 f3 f4 f5 f6
      obtain ⟨c0, c1, c2, c3, c4, c5, c6, f2, f3, f4, f5, f6⟩ := hx'.cells
      by_cases hzk : zi = m
      · obtain rfl : zj = k := by omega
        have HT := Lib.hid (And.intro hx' (And.intro hD (And.intro hL' (And.intro hzk (And.intro hlen (And.intro hv hlt))))))
        clear h1 h2 hpm hget hlen efp efq ezj hlp hlt hv hzn hi hk hnm hfit hx' hD hL' hzk eWx
        refine wpIn_seq ?_
        refine region_round (by kernel_rfl) (by repeat (first | with_reducible exact roundW_in | with_reducible apply inBlock_lets | with_reducible apply then_lets)) ?_
        go_wp2_with fail
        refine wpIn_cond_true rfl (wpIn_seq ?_)
        obtain ⟨Wd, eWd⟩ : ∃ v, v = Wx.drew := ⟨_, rfl⟩
        have c5' : Wd.cell? ⟨a + 5, 0, none⟩ = some (.complex .f64 L1 L2) := by rw [eWd]; exact c5
        have c6' : Wd.cell? ⟨a + 6, 0, none⟩ = some (.complex .f64 M1 M2) := by rw [eWd]; exact c6
        have c2' : Wd.cell? ⟨a + 2, 0, none⟩ = some (.complex .f64 0 0) := by rw [eWd]; exact c2
        have c3' : Wd.cell? ⟨a + 3, 0, none⟩ = some (.complex .f64 0 0) := by rw [eWd]; exact c3
        have c4' : Wd.cell? ⟨a + 4, 0, none⟩ = some (.int .i64 0) := by rw [eWd]; exact c4
        have f2' : Wd.frozen? ⟨a + 2, 0, none⟩ = false := by rw [eWd]; exact f2
        have f3' : Wd.frozen? ⟨a + 3, 0, none⟩ = false := by rw [eWd]; exact f3
        have f4' : Wd.frozen? ⟨a + 4, 0, none⟩ = false := by rw [eWd]; exact f4
        have HD := Lib.hid eWd
        clear c0 c1 c2 c3 c4 c5 c6 f2 f3 f4 f5 f6
        refine region_round_draw (by kernel_rfl) (by kernel_rfl) (by repeat (first | with_reducible exact roundW_in | with_reducible apply inBlock_lets | with_reducible apply then_lets)) ?_
        show wpAny _ _ _ _ _ _ _ Wx.drew
        rw [← eWd]
        clear eWd
        have fin : ∀ fr, roundW v2.heap.size (fun pre W => pre.length ≤ m ∧ ∃ l1 l2 m1 m2 : Nat, BxB w a s c zj zj 0 0 0 0 0 l1 l2 m1 m2 W ∧ (n < pre.length → ∃ d, n + d + 1 = pre.length ∧ l1 = fi (lowN all n d).1 ∧ l2 = fi (lowN all n d).2 ∧ m1 = fi (highN all n d).1 ∧ m2 = fi (highN all n d).2))
            (fun pre W => m < all.length ∧ ∃ l1 l2 m1 m2 : Nat, BxB w a s c zj zj (fi (lowN all n (m - n)).1) (fi (lowN all n (m - n)).2) (fi (highN all n (m - n)).1) (fi (highN all n (m - n)).2) 0 l1 l2 m1 m2 W) (pre ++ [(zi, ((p, q) : IDt))]) W .ret fr (((Wd.setCell ⟨a + 2, 0, none⟩ (.complex .f64 L1 L2)).setCell ⟨a + 3, 0, none⟩ (.complex .f64 M1 M2)).setCell ⟨a + 4, 0, none⟩ (.int .i64 0)) := by
          intro fr
          obtain ⟨hx', hD, ⟨d, hd, r1, r2, r3, r4⟩, hzk, hlen, hv, hlt⟩ := HT.out
          have hxd : BxB w a s c zj zj 0 0 0 0 0 L1 L2 M1 M2 Wd := by rw [HD.out]; exact hx'.keep ((Below.refl _ _).drew) (fun j _ => rfl)
          have h9 := ((hxd.set2 hv.2.2.2 L1 L2).set3 hv.2.2.2 M1 M2).set4 hv.2.2.2 0
          have hE : ∀ j, a + 9 ≤ j → (((Wd.setCell ⟨a + 2, 0, none⟩ (.complex .f64 L1 L2)).setCell ⟨a + 3, 0, none⟩ (.complex .f64 M1 M2)).setCell ⟨a + 4, 0, none⟩ (.int .i64 0)).heap[j]? = W.heap[j]? := fun j hj => by
            rw [w_other _ _ (by omega), w_other _ _ (by omega), w_other _ _ (by omega), HD.out]
            exact hD j hj
          have hsz := hv.2.1
          refine ⟨⟨hE _ (by omega), hE _ (by omega), hE _ (by omega)⟩, by omega, L1, L2, M1, M2, ?_⟩
          rw [show m - n = d by omega, ← r1, ← r2, ← r3, ← r4]
          exact h9
        have HFN := Lib.hid fin
        clear fin
        refine wpAny_ready (rs := [0, 1]) (by kernel_rfl) (by simp) ?_
        refine AllReady.cons rfl (fun K hK => ?_) ?_
        · go_simp
          refine hK _ _ ?_
          clear hK K
          refine wpAny_ready (rs := [1, 2]) (by kernel_rfl) (by simp) ?_
          refine AllReady.cons rfl (fun K hK => ?_) ?_
          · go_simp
            refine hK _ _ ?_
            clear hK K
            refine wpAny_ready (rs := [2]) (by kernel_rfl) (by simp) ?_
            refine AllReady.cons rfl (fun K hK => ?_) AllReady.nil
            go_simp
            refine hK _ _ ?_
            clear hK K
            refine wpAny_ready (rs := [3]) (by kernel_rfl) (by simp) ?_
            refine AllReady.cons rfl (fun K hK => ?_) AllReady.nil
            go_simp
            refine hK _ _ ?_
            clear hK K
            refine wpAny_ready (rs := [4]) (by kernel_rfl) (by simp) ?_
            refine AllReady.cons rfl (fun K hK => ?_) AllReady.nil
            go_simp
            refine hK _ _ ?_
            clear hK K
            refine wpAny_done (by kernel_rfl) ?_ _
            refine wpIn_ret ?_
            exact HFN.out { tmps := #[], defers := [] }
          · refine AllReady.cons rfl (fun K hK => ?_) AllReady.nil
            go_simp
            refine hK _ _ ?_
            clear hK K
            refine wpAny_ready (rs := [1]) (by kernel_rfl) (by simp) ?_
            refine AllReady.cons rfl (fun K hK => ?_) AllReady.nil
            go_simp
            refine hK _ _ ?_
            clear hK K
            refine wpAny_ready (rs := [3]) (by kernel_rfl) (by simp) ?_
            refine AllReady.cons rfl (fun K hK => ?_) AllReady.nil
            go_simp
            refine hK _ _ ?_
            clear hK K
            refine wpAny_ready (rs := [4]) (by kernel_rfl) (by simp) ?_
            refine AllReady.cons rfl (fun K hK => ?_) AllReady.nil
            go_simp
            refine hK _ _ ?_
            clear hK K
            refine wpAny_done (by kernel_rfl) ?_ _
            refine wpIn_ret ?_
            exact HFN.out { tmps := #[], defers := [] }
        · refine AllReady.cons rfl (fun K hK => ?_) AllReady.nil
          go_simp
          refine hK _ _ ?_
          clear hK K
          refine wpAny_ready (rs := [0]) (by kernel_rfl) (by simp) ?_
          refine AllReady.cons rfl (fun K hK => ?_) AllReady.nil
          go_simp
          refine hK _ _ ?_
          clear hK K
          refine wpAny_ready (rs := [2]) (by kernel_rfl) (by simp) ?_
          refine AllReady.cons rfl (fun K hK => ?_) AllReady.nil
          go_simp
          refine hK _ _ ?_
          clear hK K
          refine wpAny_ready (rs := [3]) (by kernel_rfl) (by simp) ?_
          refine AllReady.cons rfl (fun K hK => ?_) AllReady.nil
          go_simp
          refine hK _ _ ?_
          clear hK K
          refine wpAny_ready (rs := [4]) (by kernel_rfl) (by simp) ?_
          refine AllReady.cons rfl (fun K hK => ?_) AllReady.nil
          go_simp
          refine hK _ _ ?_
          clear hK K
          refine wpAny_done (by kernel_rfl) ?_ _
          refine wpIn_ret ?_
          exact HFN.out { tmps := #[], defers := [] }
      · have g3 : (zj == k) = false := beq_false_of_ne (by omega)
        have HT := Lib.hid (And.intro hx' (And.intro hD (And.intro hL' (And.intro (show zi + 1 ≤ m by omega) (And.intro hlp (And.intro hv hlt))))))
        clear h1 h2 hpm hget hlen efp efq ezj hlp hlt hv hzn hi hk hnm hfit hx' hD hL' hzk eWx
        refine wpIn_seq ?_
        refine region_round (by kernel_rfl) (by repeat (first | with_reducible exact roundW_in | with_reducible apply inBlock_lets | with_reducible apply then_lets)) ?_
        go_wp2_with fail
        refine wpIn_cond_false rfl (wpIn_skip ?_)
        obtain ⟨hx', hD, hL', hzk, hlp, hv, hlt⟩ := HT.out
        have hsz := hv.2.1
        exact ⟨⟨hD _ (by omega), hD _ (by omega), hD _ (by omega)⟩, by rw [hlp]; exact hzk, L1, L2, M1, M2, hx', fun _ => by rw [hlp]; exact hL'⟩
    · obtain ⟨d, hd, el1, el2, em1, em2⟩ := h2 hzn
      obtain ⟨hl1, hl2⟩ := lowN_fit (i := n) hfit d
      obtain ⟨hm1, hm2⟩ := highN_fit (i := n) hfit d
      have k1 := fun w ts t => run_fmin (P := Try.prog) w ts t hl1 hp9
      have k2 := fun w ts t => run_fmin (P := Try.prog) w ts t hl2 hq9
      have k3 := fun w ts t => run_fmax (P := Try.prog) w ts t hm1 hp9
      have k4 := fun w ts t => run_fmax (P := Try.prog) w ts t hm2 hq9
      obtain ⟨L1, e1⟩ : ∃ v, v = fi (min (lowN all n d).1 p) := ⟨_, rfl⟩
      obtain ⟨L2, e2⟩ : ∃ v, v = fi (min (lowN all n d).2 q) := ⟨_, rfl⟩
      obtain ⟨M1, e3⟩ : ∃ v, v = fi (max (highN all n d).1 p) := ⟨_, rfl⟩
      obtain ⟨M2, e4⟩ : ∃ v, v = fi (max (highN all n d).2 q) := ⟨_, rfl⟩
      rw [← e1, ← el1, ← efp] at k1
      rw [← e2, ← el2, ← efq] at k2
      rw [← e3, ← em1, ← efp] at k3
      rw [← e4, ← em2, ← efq] at k4
      have hL' : ∃ d, n + d + 1 = zi + 1 ∧ L1 = fi (lowN all n d).1 ∧ L2 = fi (lowN all n d).2 ∧ M1 = fi (highN all n d).1 ∧ M2 = fi (highN all n d).2 :=
        ⟨d + 1, by omega, by rw [e1, lowN, show n + (d + 1) = zi by omega, hget], by rw [e2, lowN, show n + (d + 1) = zi by omega, hget], by rw [e3, highN, show n + (d + 1) = zi by omega, hget], by rw [e4, highN, show n + (d + 1) = zi by omega, hget]⟩
      have g1 : (zj == i) = false := beq_false_of_ne (by omega)
      have g2 : decide (i < zj) = true := decide_eq_true (by omega)
      have HZ := Lib.hid (And.intro hzn hL')
      clear h1 h2 hpm hpost hz hget hlen hp9 hq9 efp efq ezj hlp hlt hv hzn hi hk hnm hfit el1 el2 em1 em2 hl1 hl2 hm1 hm2 e1 e2 e3 e4 hd hL'
      refine wpIn_seq ?_
      refine region_round (by kernel_rfl) (by repeat (first | with_reducible exact roundW_in | with_reducible apply inBlock_lets | with_reducible apply then_lets)) ?_
      go_wp2_with fail
      refine wpIn_cond_false rfl (wpIn_seq ?_)
      refine region_round (by kernel_rfl) (by repeat (first | with_reducible exact roundW_in | with_reducible apply inBlock_lets | with_reducible apply then_lets)) ?_
      go_wp2_with fail
      refine wpIn_cond_true rfl (wpIn_seq ?_)
      refine region_round (by kernel_rfl) (by repeat (first | with_reducible exact roundW_in | with_reducible apply inBlock_lets | with_reducible apply then_lets)) ?_
      go_wp2_with fail
      refine region_round (by kernel_rfl) (by repeat (first | with_reducible exact roundW_in | with_reducible apply inBlock_lets | with_reducible apply then_lets)) ?_
      go_wp2_with fail
      obtain ⟨h1, h2, hpm, hget, hlen, efp, efq, ezj, hlp, hlt, hv⟩ := HB.out
      obtain ⟨-, -, hi, hk, hnm, hfit, -⟩ := HF.out
      obtain ⟨hzn, hL'⟩ := HZ.out
      obtain ⟨Wx, eWx⟩ : ∃ v, v = (W.setCell ⟨a + 5, 0, none⟩ (.complex .f64 L1 L2)).setCell ⟨a + 6, 0, none⟩ (.complex .f64 M1 M2) := ⟨_, rfl⟩
      have hx' := (h1.set5 hv.2.2.2 L1 L2).set6 hv.2.2.2 M1 M2
      have hD : ∀ j, a + 9 ≤ j → Wx.heap[j]? = W.heap[j]? := fun j hj => by rw [eWx, w_other _ _ (by omega), w_other _ _ (by omega)]
      rw [← eWx] at hx' ⊢
      clear k1 k2 k3 k4 g1 g2 c0 c1 c2 c3 c4 c5 c6 f2 f3 f4 f5 f6
      obtain ⟨c0, c1, c2, c3, c4, c5, c6, f2, f3, f4, f5, f6⟩ := hx'.cells
      by_cases hzk : zi = m
      · obtain rfl : zj = k := by omega
        have HT := Lib.hid (And.intro hx' (And.intro hD (And.intro hL' (And.intro hzk (And.intro hlen (And.intro hv hlt))))))
        clear h1 h2 hpm hget hlen efp efq ezj hlp hlt hv hzn hi hk hnm hfit hx' hD hL' hzk eWx
        refine wpIn_seq ?_
        refine region_round (by kernel_rfl) (by repeat (first | with_reducible exact roundW_in | with_reducible apply inBlock_lets | with_reducible apply then_lets)) ?_
        go_wp2_with fail
        refine wpIn_cond_true rfl (wpIn_seq ?_)
        obtain ⟨Wd, eWd⟩ : ∃ v, v = Wx.drew := ⟨_, rfl⟩
        have c5' : Wd.cell? ⟨a + 5, 0, none⟩ = some (.complex .f64 L1 L2) := by rw [eWd]; exact c5
        have c6' : Wd.cell? ⟨a + 6, 0, none⟩ = some (.complex .f64 M1 M2) := by rw [eWd]; exact c6
        have c2' : Wd.cell? ⟨a + 2, 0, none⟩ = some (.complex .f64 0 0) := by rw [eWd]; exact c2
        have c3' : Wd.cell? ⟨a + 3, 0, none⟩ = some (.complex .f64 0 0) := by rw [eWd]; exact c3
        have c4' : Wd.cell? ⟨a + 4, 0, none⟩ = some (.int .i64 0) := by rw [eWd]; exact c4
        have f2' : Wd.frozen? ⟨a + 2, 0, none⟩ = false := by rw [eWd]; exact f2
        have f3' : Wd.frozen? ⟨a + 3, 0, none⟩ = false := by rw [eWd]; exact f3
        have f4' : Wd.frozen? ⟨a + 4, 0, none⟩ = false := by rw [eWd]; exact f4
        have HD := Lib.hid eWd
        clear c0 c1 c2 c3 c4 c5 c6 f2 f3 f4 f5 f6
        refine region_round_draw (by kernel_rfl) (by kernel_rfl) (by repeat (first | with_reducible exact roundW_in | with_reducible apply inBlock_lets | with_reducible apply then_lets)) ?_
        show wpAny _ _ _ _ _ _ _ Wx.drew
        rw [← eWd]
        clear eWd
        have fin : ∀ fr, roundW v2.heap.size (fun pre W => pre.length ≤ m ∧ ∃ l1 l2 m1 m2 : Nat, BxB w a s c i zj 0 0 0 0 0 l1 l2 m1 m2 W ∧ (n < pre.length → ∃ d, n + d + 1 = pre.length ∧ l1 = fi (lowN all n d).1 ∧ l2 = fi (lowN all n d).2 ∧ m1 = fi (highN all n d).1 ∧ m2 = fi (highN all n d).2))
            (fun pre W => m < all.length ∧ ∃ l1 l2 m1 m2 : Nat, BxB w a s c i zj (fi (lowN all n (m - n)).1) (fi (lowN all n (m - n)).2) (fi (highN all n (m - n)).1) (fi (highN all n (m - n)).2) 0 l1 l2 m1 m2 W) (pre ++ [(zi, ((p, q) : IDt))]) W .ret fr (((Wd.setCell ⟨a + 2, 0, none⟩ (.complex .f64 L1 L2)).setCell ⟨a + 3, 0, none⟩ (.complex .f64 M1 M2)).setCell ⟨a + 4, 0, none⟩ (.int .i64 0)) := by
          intro fr
          obtain ⟨hx', hD, ⟨d, hd, r1, r2, r3, r4⟩, hzk, hlen, hv, hlt⟩ := HT.out
          have hxd : BxB w a s c i zj 0 0 0 0 0 L1 L2 M1 M2 Wd := by rw [HD.out]; exact hx'.keep ((Below.refl _ _).drew) (fun j _ => rfl)
          have h9 := ((hxd.set2 hv.2.2.2 L1 L2).set3 hv.2.2.2 M1 M2).set4 hv.2.2.2 0
          have hE : ∀ j, a + 9 ≤ j → (((Wd.setCell ⟨a + 2, 0, none⟩ (.complex .f64 L1 L2)).setCell ⟨a + 3, 0, none⟩ (.complex .f64 M1 M2)).setCell ⟨a + 4, 0, none⟩ (.int .i64 0)).heap[j]? = W.heap[j]? := fun j hj => by
            rw [w_other _ _ (by omega), w_other _ _ (by omega), w_other _ _ (by omega), HD.out]
            exact hD j hj
          have hsz := hv.2.1
          refine ⟨⟨hE _ (by omega), hE _ (by omega), hE _ (by omega)⟩, by omega, L1, L2, M1, M2, ?_⟩
          rw [show m - n = d by omega, ← r1, ← r2, ← r3, ← r4]
          exact h9
        have HFN := Lib.hid fin
        clear fin
        refine wpAny_ready (rs := [0, 1]) (by kernel_rfl) (by simp) ?_
        refine AllReady.cons rfl (fun K hK => ?_) ?_
        · go_simp
          refine hK _ _ ?_
          clear hK K
          refine wpAny_ready (rs := [1, 2]) (by kernel_rfl) (by simp) ?_
          refine AllReady.cons rfl (fun K hK => ?_) ?_
          · go_simp
            refine hK _ _ ?_
            clear hK K
            refine wpAny_ready (rs := [2]) (by kernel_rfl) (by simp) ?_
            refine AllReady.cons rfl (fun K hK => ?_) AllReady.nil
            go_simp
            refine hK _ _ ?_
            clear hK K
            refine wpAny_ready (rs := [3]) (by kernel_rfl) (by simp) ?_
            refine AllReady.cons rfl (fun K hK => ?_) AllReady.nil
            go_simp
            refine hK _ _ ?_
            clear hK K
            refine wpAny_ready (rs := [4]) (by kernel_rfl) (by simp) ?_
            refine AllReady.cons rfl (fun K hK => ?_) AllReady.nil
            go_simp
            refine hK _ _ ?_
            clear hK K
            refine wpAny_done (by kernel_rfl) ?_ _
            refine wpIn_ret ?_
            exact HFN.out { tmps := #[], defers := [] }
          · refine AllReady.cons rfl (fun K hK => ?_) AllReady.nil
            go_simp
            refine hK _ _ ?_
            clear hK K
            refine wpAny_ready (rs := [1]) (by kernel_rfl) (by simp) ?_
            refine AllReady.cons rfl (fun K hK => ?_) AllReady.nil
            go_simp
            refine hK _ _ ?_
            clear hK K
            refine wpAny_ready (rs := [3]) (by kernel_rfl) (by simp) ?_
            refine AllReady.cons rfl (fun K hK => ?_) AllReady.nil
            go_simp
            refine hK _ _ ?_
            clear hK K
            refine wpAny_ready (rs := [4]) (by kernel_rfl) (by simp) ?_
            refine AllReady.cons rfl (fun K hK => ?_) AllReady.nil
            go_simp
            refine hK _ _ ?_
            clear hK K
            refine wpAny_done (by kernel_rfl) ?_ _
            refine wpIn_ret ?_
            exact HFN.out { tmps := #[], defers := [] }
        · refine AllReady.cons rfl (fun K hK => ?_) AllReady.nil
          go_simp
          refine hK _ _ ?_
          clear hK K
          refine wpAny_ready (rs := [0]) (by kernel_rfl) (by simp) ?_
          refine AllReady.cons rfl (fun K hK => ?_) AllReady.nil
          go_simp
          refine hK _ _ ?_
          clear hK K
          refine wpAny_ready (rs := [2]) (by kernel_rfl) (by simp) ?_
          refine AllReady.cons rfl (fun K hK => ?_) AllReady.nil
          go_simp
          refine hK _ _ ?_
          clear hK K
          refine wpAny_ready (rs := [3]) (by kernel_rfl) (by simp) ?_
          refine AllReady.cons rfl (fun K hK => ?_) AllReady.nil
          go_simp
          refine hK _ _ ?_
          clear hK K
          refine wpAny_ready (rs := [4]) (by kernel_rfl) (by simp) ?_
          refine AllReady.cons rfl (fun K hK => ?_) AllReady.nil
          go_simp
          refine hK _ _ ?_
          clear hK K
          refine wpAny_done (by kernel_rfl) ?_ _
          refine wpIn_ret ?_
          exact HFN.out { tmps := #[], defers := [] }
      · have g3 : (zj == k) = false := beq_false_of_ne (by omega)
        have HT := Lib.hid (And.intro hx' (And.intro hD (And.intro hL' (And.intro (show zi + 1 ≤ m by omega) (And.intro hlp (And.intro hv hlt))))))
        clear h1 h2 hpm hget hlen efp efq ezj hlp hlt hv hzn hi hk hnm hfit hx' hD hL' hzk eWx
        refine wpIn_seq ?_
        refine region_round (by kernel_rfl) (by repeat (first | with_reducible exact roundW_in | with_reducible apply inBlock_lets | with_reducible apply then_lets)) ?_
        go_wp2_with fail
        refine wpIn_cond_false rfl (wpIn_skip ?_)
        obtain ⟨hx', hD, hL', hzk, hlp, hv, hlt⟩ := HT.out
        have hsz := hv.2.1
        exact ⟨⟨hD _ (by omega), hD _ (by omega), hD _ (by omega)⟩, by rw [hlp]; exact hzk, L1, L2, M1, M2, hx', fun _ => by rw [hlp]; exact hL'⟩
  case done =>
    rintro xs W hxs ⟨h1, l1, l2, m1, m2, h2, h3⟩ hK
    rw [hv.2.1] at hK
    rw [hv.2.1]
    obtain ⟨c0, c1, c2, c3, c4, c5, c6, f2, f3, f4, f5, f6⟩ := h2.cells
    have hlx : xs.length = all.length := by rw [← hxs, List.length_map]
    rw [hlx] at h1
    have HB := Lib.hid (And.intro h1 (And.intro h2 (And.intro hK hv.2.2.2)))
    clear h1 h2 h3 hK hxs hv hlx
    go_wp2_with fail
    obtain ⟨h1, h2, hK, haw⟩ := HB.out
    refine ⟨by simp, .inl ⟨_, _, rfl, run_takeDeferred ((w_other _ _ (by omega)).trans ((w_other _ _ (by omega)).trans ((w_other W _ (by omega)).trans hK))), ?_⟩⟩
    have h4 := ((h2.set2 haw 0 0).set3 haw 0 0).set4 haw 6
    obtain ⟨v, ev⟩ : ∃ v, v = ((W.setCell ⟨a + 2, 0, none⟩ (.complex .f64 0 0)).setCell ⟨a + 3, 0, none⟩ (.complex .f64 0 0)).setCell ⟨a + 4, 0, none⟩ (.int .i64 6) := ⟨_, rfl⟩
    rw [← ev] at h4 ⊢
    have htw : Trip (a + 9) v (v.putObj (a + 9) (.deferred none)) := Trip.put v _ (by omega)
    have h5 := h4.keep (htw.below (by omega)) (fun j hj => htw.block j (by omega))
    obtain ⟨_, _, d1, d2, d3, _⟩ := h5.cells
    obtain ⟨hc, -, hi, hk, hnm, -, -⟩ := HF.out
    refine ⟨_, box_res rfl _ d1 d2 d3 rfl rfl rfl, ?_, h5.below⟩
    unfold boxR
    rw [if_neg (by omega)]
    unfold cpV
    rw [show fi ((0, 0) : IDt).1 = 0 from fi_zero]
  case stop =>
    rintro pre W ⟨h1, l1, l2, m1, m2, h2⟩ hK
    rw [hv.2.1] at hK
    rw [hv.2.1]
    refine ⟨by simp, .inl ⟨_, _, rfl, run_takeDeferred hK, ?_⟩⟩
    have htw : Trip (a + 9) W (W.putObj (a + 9) (.deferred none)) := Trip.put W _ (by omega)
    have h5 := h2.keep (htw.below (by have := hv.2.2.2; omega)) (fun j hj => htw.block j (by omega))
    obtain ⟨_, _, d1, d2, d3, _⟩ := h5.cells
    obtain ⟨hc, -, hi, hk, hnm, -, -⟩ := HF.out
    refine ⟨_, box_res rfl _ d1 d2 d3 rfl rfl rfl, ?_, h5.below⟩
    unfold boxR
    rw [if_pos ⟨hc, by omega, by omega, by omega⟩, hi, hk, Int.toNat_natCast, Int.toNat_natCast]
    rfl
end Go.Proofs.Ytejfdheiopejeaa
