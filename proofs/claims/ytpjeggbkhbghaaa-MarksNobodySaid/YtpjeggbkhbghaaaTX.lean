/-
  Layer 15, the landed code: a scope with several labels; a range over a bound function. By an AI agent. Layer 15, the landed code: order: all elements one by one. By an AI agent. Layer 15: a strings.Builder, written rune by rune, by contracts of the shelf. By an AI agent. Layer 15: regions in the round of a range over a function, walked as everywhere. By an AI agent.
-/
import Derived.Test.YtpjeggbkhbghaaaTW
import Derived.RangeFuncRecord
import Derived.RangeFuncLeaves
import Derived.RangeFuncSeq
import Derived.RangeFuncBound
import Derived.ScopeJumps
import Derived.WalkMore
import Derived.Shelf.Abstract
import Derived.Shelf.RegionOpen
import Derived.OwnWalkIn
import Derived.TacticsInMore
import Derived.Shelf.Strings.BuilderRune
namespace Go.Proofs.Ytpjeggbkhbghaaa
open Go Go.RowKit
set_option maxRecDepth 20000
section
variable {P : Program}
/-- By a goto to any label: J; else as Q. -/
def jumps (J : Nat → Go.Act → World → Prop) (Q : Exit → Go.Act → World → Prop) : Exit → Go.Act → World → Prop
  | .goto l, a, w => J l a w
  | e, a, w => Q e a w
/-- A scope in which the run jumps to labels; at each jump a number of steps still to be done at most is known, which each pass lowers. -/
theorem wp_scope_labels {c : Code} {Q : Exit → Go.Act → World → Prop} {a : Go.Act} {w : World} (J : Nat → Nat → Go.Act → World → Prop) (rest : Nat → Code) (hf : ∀ m l a w, J m l a w → findLabel c l = some (rest l))
    (first : c.wp P (jumps (fun l a w => ∃ m, J m l a w) Q) a w)
    (pass : ∀ m l a w, J m l a w → (rest l).wp P (jumps (fun l' a' w' => ∃ m', m' < m ∧ J m' l' a' w') Q) a w) : (Code.scope c).wp P Q a w := by
  intro b k cs
  have hg : ∀ l r, findLabel c l = some r → gotoIn l (.inScope c :: k) = some (.code r :: .inScope c :: k) := fun l r h => by simp [gotoIn, h]
  have key : ∀ m l a w, J m l a w → ∃ e a' w', Q e a' w' ∧ Arrives P (lone (b.at a (.code (rest l) :: .inScope c :: k)) cs w) b k cs e a' w' := by
    intro m
    induction m using Nat.strongRecOn with
    | _ m ih =>
      intro l a w hJ
      obtain ⟨e, a₁, w₁, hq, harr⟩ := pass m l a w hJ b (.inScope c :: k) cs
      cases e with
      | normal => exact ⟨.normal, a₁, w₁, hq, Steps.trans harr (.one step_inScope)⟩
      | exit id => exact ⟨.exit id, a₁, w₁, hq, fun k' hk => harr k' (by simp [exitTo, hk])⟩
      | goto l' =>
        obtain ⟨m', hlt, hJ'⟩ := hq
        obtain ⟨e₂, a₂, w₂, hq₂, harr₂⟩ := ih m' hlt l' a₁ w₁ hJ'
        exact ⟨e₂, a₂, w₂, hq₂, .of_steps (harr _ (hg l' _ (hf _ _ _ _ hJ'))) harr₂⟩
      | ret => exact ⟨_, a₁, w₁, hq, harr⟩
      | panic ch => exact ⟨_, a₁, w₁, hq, harr⟩
      | outgrown => exact ⟨_, a₁, w₁, hq, harr⟩
  obtain ⟨e, a₁, w₁, hq, harr⟩ := first b (.inScope c :: k) cs
  cases e with
  | normal => exact ⟨.normal, a₁, w₁, hq, .head step_scope (Steps.trans harr (.one step_inScope))⟩
  | exit id => exact ⟨.exit id, a₁, w₁, hq, fun k' hk => .head step_scope (harr k' (by simp [exitTo, hk]))⟩
  | goto l' =>
    obtain ⟨m, hJ'⟩ := hq
    obtain ⟨e₂, a₂, w₂, hq₂, harr₂⟩ := key m l' a₁ w₁ hJ'
    exact ⟨e₂, a₂, w₂, hq₂, .of_steps (.head step_scope (harr _ (hg l' _ (hf _ _ _ _ hJ')))) harr₂⟩
  | ret => exact ⟨_, a₁, w₁, hq, .of_steps (.one step_scope) harr⟩
  | panic ch => exact ⟨_, a₁, w₁, hq, .of_steps (.one step_scope) harr⟩
  | outgrown => exact ⟨_, a₁, w₁, hq, .of_steps (.one step_scope) harr⟩
def isC : Obj → Bool
  | .cells .. => true
  | _ => false
/-- But for two blocks, which hold no cells, two worlds are the same. -/
structure Twin (D : Nat) (w w' : World) : Prop where
  os : w'.os = w.os
  tape : w'.tape = w.tape
  output : w'.output = w.output
  size : w'.heap.size = w.heap.size
  block : ∀ k, k ≠ D → k ≠ D + 1 → w'.heap[k]? = w.heap[k]?
  kind : ∀ k o, (k = D ∨ k = D + 1) → w'.heap[k]? = some o → w.heap[k]? = some o ∨ isC o = false
theorem Twin.put {D l : Nat} (w : World) (o : Obj) (h : l = D ∨ l = D + 1) (ho : isC o = false) : Twin D w (w.putObj l o) :=
  ⟨rfl, rfl, rfl, World.putObj_size, fun k h1 h2 => World.putObj_heap_other (by omega), fun k o' _ h2 => by
    by_cases e : k = l
    · subst e
      have hlt := (Array.getElem?_eq_some_iff.1 h2).1
      rw [World.putObj_size] at hlt
      rw [World.putObj_heap_same hlt] at h2
      exact .inr (by rw [← Option.some.inj h2]; exact ho)
    · exact .inl (by rw [← h2, World.putObj_heap_other e])⟩
/-- What a round leaves. -/
def roundQ {α : Type} (D : Nat) (I : List α → World → Prop) (Ix : List α → World → Prop) (xs : List α) (W : World) : Exit → Go.Act → World → Prop
  | .normal, _, W' => (W'.heap[D]? = W.heap[D]? ∧ W'.heap[D + 1]? = W.heap[D + 1]?) ∧ I xs W'
  | .ret, _, W' => (W'.heap[D]? = W.heap[D]? ∧ W'.heap[D + 1]? = W.heap[D + 1]?) ∧ Ix xs W'
  | _, _, _ => False
/-- Ranging over a function that is bound to its first argument. -/
theorem wp_range_bound {α : Type} {g : Operand} {ps : Array Tmp} {assign body : Code} {Q : Exit → Go.Act → World → Prop} {a : Go.Act} {w : World} {gf : Nat} {p : Value}
    (hg : a.eval g = .func (.func gf) #[p] #[]) (eg : ∀ args w, (callFunc gf args).run P w = .ok (.enter gf args) w)
    (encs : α → Array Value) (hps : ∀ x, (encs x).size = ps.size) (S : List α → Prop) (Nx : List α → α → Prop)
    (I Ix : List α → World → Prop) (hI : ∀ pre W W', I pre W → Twin w.heap.size W W' → I pre W') (hIx : ∀ pre W W', Ix pre W → Twin w.heap.size W W' → Ix pre W')
    (h0 : ∀ o1 o2, isC o1 = false → isC o2 = false → I [] ((w.alloc o1).alloc o2)) (a₁ : α → Go.Act)
    (hseq : ∀ (l : Nat) (J Jx : List α → World → Prop) (W : World), (∀ pre W, J pre W → I pre W) →
      (∀ pre x W1, J pre W1 → Nx pre x → YieldAt Fence.wide 1 P l (encs x) W1 fun e W' => (e = .returned (.bool true) ∧ J (pre ++ [x]) W') ∨ (e = .returned (.bool false) ∧ Jx (pre ++ [x]) W')) →
      J [] W → Calls P gf #[p, .func (.yield l) #[] #[]] W fun e W' => (∃ v, e = .returned v) ∧ ((∃ xs, S xs ∧ J xs W') ∨ ∃ pre, Jx pre W'))
    (hassign : ∀ (l : Nat) (x : α) (W : World) (K : Go.Act → World → Prop), K (a₁ x) W →
      assign.wpIn (Fence.wide.inRound l) 1 P (Exit.then K (fun _ _ _ => False)) { tmps := (ps.zip (encs x)).foldl (fun t (p, v) => t.setIfInBounds p v) a.tmps, defers := [] } W)
    (hbody : ∀ (l : Nat) (pre : List α) (x : α) (W : World), I pre W → Nx pre x → w.heap.size + 1 < W.heap.size → body.wpIn (Fence.wide.inRound l) 1 P (roundQ w.heap.size I Ix (pre ++ [x]) W) (a₁ x) W)
    (hdone : ∀ (xs : List α) (W : World), S xs → I xs W → W.heap[w.heap.size]? = some (.deferred (some [])) → Q .normal { a with defers := { target := .collected w.heap.size, args := #[] } :: a.defers } W)
    (hstop : ∀ (pre : List α) (W : World), Ix pre W → W.heap[w.heap.size]? = some (.deferred (some [])) → Q .ret { a with defers := { target := .collected w.heap.size, args := #[] } :: a.defers } W) :
    (Code.rangeFunc g ps assign body).wp P Q a w := by
  refine (wpIn_wide (n := 3)).1 (wpIn_rangeFunc ?_)
  intro fn hfn
  obtain ⟨rec, hrec⟩ : ∃ rec : LoopState → Option Code → Loop, rec = fun st pe => { state := st, pending := pe, fn, tmps := a.tmps, params := ps, assign, body, defers := w.heap.size } := ⟨_, rfl⟩
  obtain ⟨W1, hW1⟩ : ∃ W1, (w.alloc (.deferred (some []))).alloc (.loop (rec .ready none)) = W1 := ⟨_, rfl⟩
  have hL1 : W1.heap[w.heap.size + 1]? = some (.loop (rec .ready none)) := by
    rw [← hW1]; have := World.alloc_heap_new (w.alloc (.deferred (some []))) (.loop (rec .ready none)); rwa [World.size_alloc] at this
  have hK1 : W1.heap[w.heap.size]? = some (.deferred (some [])) := by
    rw [← hW1]; exact (Below.heap_alloc _ _ _ (by simp)).trans (World.alloc_heap_new w _)
  refine ⟨w.heap.size + 1, [{ target := .collected w.heap.size, args := #[] }], W1, { target := .fn (.func gf) #[], args := #[p, .func (.yield (w.heap.size + 1)) #[] #[]] }, W1, gf, #[p, .func (.yield (w.heap.size + 1)) #[] #[]], W1, ?_, ?_, fun _ _ => trivial, ?_, (fun h => nomatch h), ?_⟩
  · rw [← hW1, hrec]
    exact run_enterLoop_outer _ _ _ _ _
  · simp only [resolve, hg]
    simp [go_sem]
  · simp [invoke, go_sem, eg]
  · refine callsIn_wide.2 ((hseq (w.heap.size + 1)
      (fun pre W => I pre W ∧ W.heap[w.heap.size + 1]? = some (.loop (rec .ready none)) ∧ W.heap[w.heap.size]? = some (.deferred (some [])))
      (fun pre W => Ix pre W ∧ W.heap[w.heap.size + 1]? = some (.loop (rec .done (some .ret))) ∧ W.heap[w.heap.size]? = some (.deferred (some [])))
      W1 (fun _ _ h => h.1) ?_ ⟨by rw [← hW1]; exact h0 _ _ rfl rfl, hL1, hK1⟩).mono ?_)
    · rintro pre x W ⟨hi, hl, hk⟩ hnx
      have hlt : w.heap.size + 1 < W.heap.size := (Array.getElem?_eq_some_iff.1 hl).1
      have hy := run_yield (P := P) (args := encs x) hl (by rw [hrec]; exact hps x)
      rw [hrec] at hy
      refine ⟨fn, _, assign, body, hy, roundIn_of_wpIn trivial (hassign _ x W _ ⟨_, run_beginRound hl (by rw [hrec]), ?_⟩)⟩
      obtain ⟨W2, hW2⟩ : ∃ W2, W.putObj (w.heap.size + 1) (.loop { rec .ready none with state := .busy }) = W2 := ⟨_, rfl⟩
      have hl2 : W2.heap[w.heap.size + 1]? = some (.loop { rec .ready none with state := .busy }) := by rw [← hW2]; exact World.putObj_heap_same hlt
      have hk2 : W2.heap[w.heap.size]? = some (.deferred (some [])) := by rw [← hW2]; exact (World.putObj_heap_other (by omega)).trans hk
      have ht2 : Twin w.heap.size W W2 := by rw [← hW2]; exact Twin.put W _ (.inr rfl) rfl
      have hlt2 : w.heap.size + 1 < W2.heap.size := by rw [ht2.size]; exact hlt
      have fin : ∀ (jump : Option Code) (W3 : World), (W3.heap[w.heap.size]? = W2.heap[w.heap.size]? ∧ W3.heap[w.heap.size + 1]? = W2.heap[w.heap.size + 1]?) →
          (Instr.endRound (w.heap.size + 1) jump).run P W3 = .ok (.bool jump.isNone) (W3.putObj (w.heap.size + 1) (.loop (rec (if jump.isNone then .ready else .done) jump))) ∧
          (W3.putObj (w.heap.size + 1) (.loop (rec (if jump.isNone then .ready else .done) jump))).heap[w.heap.size + 1]? = some (.loop (rec (if jump.isNone then .ready else .done) jump)) ∧
          (W3.putObj (w.heap.size + 1) (.loop (rec (if jump.isNone then .ready else .done) jump))).heap[w.heap.size]? = some (.deferred (some [])) ∧ Twin w.heap.size W3 (W3.putObj (w.heap.size + 1) (.loop (rec (if jump.isNone then .ready else .done) jump))) := fun jump W3 hk3 => by
        have hl3 := hk3.2.trans hl2
        have hd3 := hk3.1.trans hk2
        have := run_endRound (P := P) jump hl3
        rw [hrec] at this ⊢
        exact ⟨this, World.putObj_heap_same (Array.getElem?_eq_some_iff.1 hl3).1, (World.putObj_heap_other (by omega)).trans hd3, Twin.put W3 _ (.inr rfl) rfl⟩
      rw [← hrec] at *
      rw [show ({ rec .ready none with state := .busy } : Loop) = { rec .ready none with state := .busy } from rfl] at *
      rw [hW2]
      refine wpIn_mono (hbody _ pre x _ (hI _ _ _ hi ht2) hnx hlt2) ?_
      rintro e a3 W3 hp
      cases e with
      | normal =>
        obtain ⟨hr, hl4, hk4, ht4⟩ := fin none W3 hp.1
        exact ⟨_, _, hr, .inl ⟨rfl, hI _ _ _ hp.2 ht4, hl4, hk4⟩⟩
      | ret =>
        obtain ⟨hr, hl4, hk4, ht4⟩ := fin (some .ret) W3 hp.1
        exact ⟨_, _, hr, .inr ⟨rfl, hIx _ _ _ hp.2 ht4, hl4, hk4⟩⟩
      | exit id => exact hp.elim
      | goto t => exact hp.elim
      | panic ch => exact hp.elim
      | outgrown => exact hp.elim
    · rintro e W2 ⟨⟨v, rfl⟩, (⟨xs, hS, hi, hl, hk⟩ | ⟨pre, hi, hl, hk⟩)⟩
      · have he := run_endLoop (P := P) hl (by rw [hrec]; simp)
        rw [hrec] at he
        exact ⟨none, _, he, hdone _ _ hS (hI _ _ _ hi (Twin.put W2 _ (.inr rfl) rfl)) ((World.putObj_heap_other (by omega)).trans hk)⟩
      · have he := run_endLoop (P := P) hl (by rw [hrec]; simp)
        rw [hrec] at he
        exact ⟨some .ret, _, he, wpIn_ret (hstop _ _ (hIx _ _ _ hi (Twin.put W2 _ (.inr rfl) rfl)) ((World.putObj_heap_other (by omega)).trans hk))⟩
end
end Go.Proofs.Ytpjeggbkhbghaaa
namespace Go.Proofs.Ytpjeggbkhbghaaa
open Go Go.RowKit
set_option maxRecDepth 20000
theorem Sits.split {L : List Ins} (hok : Ok L) {e : Ins} {P : List Ins} {n : Nat} (h : Sits L e P n) : ∃ T, nodesL L = P ++ subL L e ++ T := by
  induction h with
  | @top e A B hk =>
    refine ⟨B.flatMap (subL L), ?_⟩
    rw [nodes_blw, blw_kids hok, hk, List.flatMap_append, List.flatMap_cons]
    simp
  | @left e p A B P n _ _ hk ih =>
    obtain ⟨T, hT⟩ := ih
    refine ⟨B.flatMap (subL L) ++ p :: blw L p.id true ++ T, ?_⟩
    rw [hT]
    conv => lhs; rw [subL, blw_kids hok p.id false, hk, List.flatMap_append, List.flatMap_cons]
    simp
  | @right e p A B P n _ _ hk ih =>
    obtain ⟨T, hT⟩ := ih
    refine ⟨B.flatMap (subL L) ++ T, ?_⟩
    rw [hT]
    conv => lhs; rw [subL, blw_kids hok p.id true, hk, List.flatMap_append, List.flatMap_cons]
    simp
theorem ran_next {L : List Ins} (hok : Ok L) {e : Ins} {pre : List Ins} {m : Nat} (h : Ran L (.give e) pre m) : ∃ post, nodesL L = pre ++ e :: post := by
  obtain ⟨_, P, n, hs, rfl, _⟩ := h
  obtain ⟨T, hT⟩ := hs.split hok
  refine ⟨blw L e.id true ++ T, ?_⟩
  rw [hT, subL]
  simp
theorem jumps_mono {J J' : Nat → Go.Act → World → Prop} {Q : Exit → Go.Act → World → Prop} (h : ∀ l a w, J l a w → J' l a w) : ∀ e a w, jumps J Q e a w → jumps J' Q e a w
  | .normal, _, _, q => q
  | .exit _, _, _, q => q
  | .goto l, a, w, q => h l a w q
  | .ret, _, _, q => q
  | .panic _, _, _, q => q
  | .outgrown, _, _, q => q
/-- Four labels, of which one is fallen into from the second, another one from the third. -/
theorem wp_scope_four {P : Program} {c x0 x1 x2 x3 : Code} {Q : Exit → Go.Act → World → Prop} {a : Go.Act} {w : World} (J : Nat → Nat → Go.Act → World → Prop) (hl : ∀ m l a w, J m l a w → l < 4)
    (h0 : findLabel c 0 = some (Code.skip.seq x0)) (h1 : findLabel c 1 = some (Code.skip.seq x1)) (h2 : findLabel c 2 = some (Code.skip.seq x2)) (h3 : findLabel c 3 = some (Code.skip.seq x3))
    (p0 : ∀ m a w, J m 0 a w → x0.wp P (jumps (fun l' a' w' => ∃ m', m' < m ∧ J m' l' a' w') Q) a w)
    (p3 : ∀ m a w, J m 3 a w → x3.wp P (jumps (fun l' a' w' => ∃ m', m' < m ∧ J m' l' a' w') Q) a w)
    (p2 : (∀ m a w, J m 3 a w → x3.wp P (jumps (fun l' a' w' => ∃ m', m' < m ∧ J m' l' a' w') Q) a w) → ∀ m a w, J m 2 a w → x2.wp P (jumps (fun l' a' w' => ∃ m', m' < m ∧ J m' l' a' w') Q) a w)
    (p1 : (∀ m a w, J m 2 a w → x2.wp P (jumps (fun l' a' w' => ∃ m', m' < m ∧ J m' l' a' w') Q) a w) → ∀ m a w, J m 1 a w → x1.wp P (jumps (fun l' a' w' => ∃ m', m' < m ∧ J m' l' a' w') Q) a w)
    (first : (∀ m a w, J m 1 a w → x1.wp P (jumps (fun l a w => ∃ m, J m l a w) Q) a w) → c.wp P (jumps (fun l a w => ∃ m, J m l a w) Q) a w) : (Code.scope c).wp P Q a w := by
  refine wp_scope_labels J (fun l => (findLabel c l).getD .skip) (fun m l a w h => ?_) (first fun m a w h => wp_mono (p1 (p2 p3) m a w h) (jumps_mono fun l a w ⟨m', _, h'⟩ => ⟨m', h'⟩)) (fun m l a w h => ?_)
  · have := hl m l a w h
    have : l = 0 ∨ l = 1 ∨ l = 2 ∨ l = 3 := by omega
    rcases this with rfl | rfl | rfl | rfl
    · rw [h0]; rfl
    · rw [h1]; rfl
    · rw [h2]; rfl
    · rw [h3]; rfl
  · have := hl m l a w h
    have : l = 0 ∨ l = 1 ∨ l = 2 ∨ l = 3 := by omega
    rcases this with rfl | rfl | rfl | rfl
    · rw [h0]; exact wp_seq (wp_skip (p0 m a w h))
    · rw [h1]; exact wp_seq (wp_skip (p1 (p2 p3) m a w h))
    · rw [h2]; exact wp_seq (wp_skip (p2 p3 m a w h))
    · rw [h3]; exact wp_seq (wp_skip (p3 m a w h))
def frm (p y v : Value) (u : Nat → Value) : Go.Act := { tmps := #[p, y, undef, undef, v, u 5, u 6, u 7, u 8, u 9, u 10, u 11, u 12, u 13, u 14, u 15, u 16, u 17, u 18, u 19, u 20, u 21, u 22, u 23, u 24, u 25, u 26, u 27, u 28, u 29, u 30, u 31, u 32, u 33, u 34, u 35, u 36, u 37, u 38, u 39, u 40, u 41, u 42, u 43, u 44, u 45, u 46, u 47, u 48, u 49, u 50, u 51, u 52, u 53, u 54, u 55, u 56, u 57, u 58, u 59], defers := [] }
theorem frm_ex {A : Go.Act} {p y v : Value} (h : A = frm p y v (fun n => A.tmps.getD n undef)) : ∃ u, A = frm p y v u := ⟨_, h⟩
def valOf (ad : IDt → Nat) : Stand → Value
  | .down e => pB (ad e.id)
  | .give e => pB (ad e.id)
  | .behind (some e) => pB (ad e.id)
  | .behind none => pB (ad (0, 0))
  | .up (some e) => pB (ad e.id)
  | .up none => pB (ad (0, 0))
def labOf : Stand → Nat
  | .down _ => 2
  | .give _ => 3
  | .behind _ => 1
  | .up _ => 0
def JO (T : Nat) (ad : IDt → Nat) (L : List Ins) (y : Value) (I : List Ins → World → Prop) (m l : Nat) (a : Go.Act) (w : World) : Prop :=
  ∃ st pre, labOf st = l ∧ Ran L st pre m ∧ I pre w ∧ ∃ u, a = frm (pB T) y (valOf ad st) u
theorem order_nil (y : Value) (w : World) : Calls Try.prog 51 #[.pointer none, y] w fun e w' => (∃ v, e = .returned v) ∧ w' = w := by
  go_enter Try.func51, Try.ntmps51
  go_step3
  go_wp2_with (go_at_call 55; refine (beginning_nil _).mono ?_; rintro e w' ⟨rfl, hw⟩; rw [hw]; clear hw w')
  rw [Exit.noGoto_ret]
  go_returns
  exact ⟨⟨_, rfl⟩, rfl⟩
set_option maxHeartbeats 3200000 in
theorem order_any {T M : Nat} {ad : IDt → Nat} {L : List Ins} {G : List IDt} {l : Nat} {I : List Ins → World → Prop} {Ix : List Ins → World → Prop} (hI : ∀ pre W, I pre W → TreeH W T M ad L G)
    (hY : ∀ pre x W, I pre W → (∃ post, nodesL L = pre ++ x :: post) → YieldAt Fence.wide 1 Try.prog l #[pB (ad x.id)] W fun e W' => (e = .returned (.bool true) ∧ I (pre ++ [x]) W') ∨ (e = .returned (.bool false) ∧ Ix (pre ++ [x]) W'))
    (W : World) (h0 : I [] W) : Calls Try.prog 51 #[pB T, .func (.yield l) #[] #[]] W fun e W' => (∃ v, e = .returned v) ∧ (I (nodesL L) W' ∨ ∃ pre, Ix pre W') := by
  obtain ⟨y, ey⟩ : ∃ y, y = Value.func (.yield l) #[] #[] := ⟨_, rfl⟩
  rw [← ey]
  have HI := Lib.hid hI
  have HY := Lib.hid (And.intro ey hY)
  clear hI hY ey
  go_enter Try.func51, Try.ntmps51
  refine wp_scope_four (JO T ad L y I) ?hl rfl rfl rfl rfl ?p0 ?p3 ?p2 ?p1 ?first
  case hl =>
    rintro m l a w ⟨st, pre, rfl, _⟩
    cases st with
    | down e => exact (by decide : 2 < 4)
    | give e => exact (by decide : 3 < 4)
    | behind e => exact (by decide : 1 < 4)
    | up e => exact (by decide : 0 < 4)
  case p0 =>
    rintro m a w ⟨st, pre, hlab, hr, hi, u, rfl⟩
    cases st with
    | down e => cases hlab
    | give e => cases hlab
    | behind e => cases hlab
    | up e =>
    have ht := HI.out pre w hi
    cases e with
    | none =>
      obtain ⟨c0, c1, c2, c3, c4, c5, c6, c7, c8⟩ := el_cells ht.root
      rw [show valOf ad (.up none) = .pointer (some ⟨ad (0, 0), 0, none⟩) from rfl]
      obtain ⟨be, ebe⟩ : ∃ b, b = ad (0, 0) := ⟨_, rfl⟩
      rw [← ebe] at c4 c6 ⊢
      have HR := Lib.hid (And.intro hr.1 hi)
      clear hr hi ht hlab ebe c0 c1 c2 c3 c5 c7 c8
      unfold frm
      go_wp2_with fail
      simp only [jumps]
      go_returns
      exact ⟨⟨_, rfl⟩, .inl (by rw [← HR.out.1]; exact HR.out.2)⟩
    | some e =>
      have he := hr.1
      obtain ⟨c0, c1, c2, c3, c4, c5, c6, c7, c8⟩ := el_cells (ht.el e he)
      rw [show valOf ad (.up (some e)) = .pointer (some ⟨ad e.id, 0, none⟩) from rfl]
      obtain ⟨be, ebe⟩ : ∃ b, b = ad e.id := ⟨_, rfl⟩
      rw [← ebe] at c4 c5 c6 ⊢
      have HH := Lib.hid (And.intro hi ebe)
      cases hz : nextIn (kidsL L e.par e.right) e.id with
      | some z =>
        obtain ⟨m', hr', hlt⟩ := ran_up_next ht.ok hr hz
        rw [hz] at c6
        replace c6 : w.cell? ⟨be, 6, none⟩ = some (.pointer (some ⟨ad z.id, 0, none⟩)) := c6
        obtain ⟨bz, ebz⟩ : ∃ b, b = ad z.id := ⟨_, rfl⟩
        rw [← ebz] at c6
        have HR := Lib.hid (And.intro hr' (And.intro hlt ebz))
        clear hr hr' hlt hi ht hlab ebe ebz c0 c1 c2 c3 c4 c5 c7 c8 hz he
        unfold frm
        go_wp2_with fail
        go_step3
        exact ⟨_, HR.out.2.1, .down z, pre, rfl, HR.out.1, HH.out.1, frm_ex (by rw [HR.out.2.2]; rfl)⟩
      | none =>
        rw [hz] at c6
        replace c6 : w.cell? ⟨be, 6, none⟩ = some (.pointer none) := c6
        have hcase := ran_up_none ht.ok hr hz
        rcases hcase with ⟨hp, hs, m', hr', hlt⟩ | ⟨q, hq, hqi, hs, m', hr', hlt⟩ | ⟨q, hq, hqi, hs, m', hr', hlt⟩
        all_goals
          rw [hs] at c5
        · rw [hp] at c4
          replace c4 : w.cell? ⟨be, 4, none⟩ = some (.pointer (some ⟨ad (0, 0), 0, none⟩)) := c4
          obtain ⟨bz, ebz⟩ : ∃ b, b = ad (0, 0) := ⟨_, rfl⟩
          rw [← ebz] at c4
          have HR := Lib.hid (And.intro hr' (And.intro hlt ebz))
          clear hr hr' hlt hi ht hlab ebe ebz c0 c1 c2 c3 c7 c8 hz he hp hs
          unfold frm
          go_wp2_with fail
          go_step3
          exact ⟨_, HR.out.2.1, .up none, pre, rfl, HR.out.1, HH.out.1, frm_ex (by rw [HR.out.2.2]; rfl)⟩
        · rw [← hqi] at c4
          replace c4 : w.cell? ⟨be, 4, none⟩ = some (.pointer (some ⟨ad q.id, 0, none⟩)) := c4
          obtain ⟨bz, ebz⟩ : ∃ b, b = ad q.id := ⟨_, rfl⟩
          rw [← ebz] at c4
          have HR := Lib.hid (And.intro hr' (And.intro hlt ebz))
          clear hr hr' hlt hi ht hlab ebe ebz c0 c1 c2 c3 c7 c8 hz he hq hqi hs
          unfold frm
          go_wp2_with fail
          go_step3
          exact ⟨_, HR.out.2.1, .up (some q), pre, rfl, HR.out.1, HH.out.1, frm_ex (by rw [HR.out.2.2]; rfl)⟩
        · rw [← hqi] at c4
          replace c4 : w.cell? ⟨be, 4, none⟩ = some (.pointer (some ⟨ad q.id, 0, none⟩)) := c4
          obtain ⟨bz, ebz⟩ : ∃ b, b = ad q.id := ⟨_, rfl⟩
          rw [← ebz] at c4
          have HR := Lib.hid (And.intro hr' (And.intro hlt ebz))
          clear hr hr' hlt hi ht hlab ebe ebz c0 c1 c2 c3 c7 c8 hz he hq hqi hs
          unfold frm
          go_wp2_with fail
          go_step3
          exact ⟨_, HR.out.2.1, .give q, pre, rfl, HR.out.1, HH.out.1, frm_ex (by rw [HR.out.2.2]; rfl)⟩
  case p3 =>
    rintro m a w ⟨st, pre, hlab, hr, hi, u, rfl⟩
    cases st with
    | down e => cases hlab
    | behind e => cases hlab
    | up e => cases hlab
    | give e =>
    obtain ⟨fn, tmps, assign, body, hy, hR⟩ := HY.out.2 pre e w hi (ran_next (HI.out pre w hi).ok hr)
    obtain ⟨m', hr', hlt⟩ := ran_give hr
    have hev := HY.out.1
    subst hev
    rw [show valOf ad (.give e) = .pointer (some ⟨ad e.id, 0, none⟩) from rfl]
    obtain ⟨be, ebe⟩ : ∃ b, b = ad e.id := ⟨_, rfl⟩
    have HB := Lib.hid ebe
    rw [← ebe] at hy ⊢
    clear ebe
    have HR := Lib.hid (And.intro hr' hlt)
    clear hr hr' hlt hlab hi
    unfold frm
    refine wp_seq_k fun K1 hK1 => ?_
    have HK1 := Lib.hid hK1
    clear hK1
    refine wp_seq_k fun K2 hK2 => ?_
    have HK2 := Lib.hid hK2
    clear hK2
    refine (wpIn_wide (n := 2)).1 ?_
    gi_wp2
    refine hR.mono ?_
    rintro e' W' (⟨rfl, hi'⟩ | ⟨rfl, hix⟩)
    · gi_wp2
      refine HK2.out _ _ ?_
      go_wp2_with fail
      refine HK1.out _ _ ?_
      refine wp_seq (wp_goto ?_)
      exact ⟨_, HR.out.2, .behind (some e), pre ++ [e], rfl, HR.out.1, hi', frm_ex (by rw [HB.out]; rfl)⟩
    · gi_wp2
      refine HK2.out _ _ ?_
      go_wp2_with fail
      simp only [jumps]
      go_returns
      exact ⟨⟨_, rfl⟩, .inr ⟨_, hix⟩⟩
  case p2 =>
    intro P3
    rintro m a w ⟨st, pre, hlab, hr, hi, u, rfl⟩
    cases st with
    | give e => cases hlab
    | behind e => cases hlab
    | up e => cases hlab
    | down e =>
    have ht := HI.out pre w hi
    have he := hr.1
    obtain ⟨c0, c1, c2, c3, c4, c5, c6, c7, c8⟩ := el_cells (ht.el e he)
    rw [show valOf ad (.down e) = .pointer (some ⟨ad e.id, 0, none⟩) from rfl]
    obtain ⟨be, ebe⟩ : ∃ b, b = ad e.id := ⟨_, rfl⟩
    rw [← ebe] at c7 ⊢
    have HH := Lib.hid (And.intro hi ebe)
    have HP := Lib.hid P3
    clear P3
    refine wp_seq_k fun K1 hK1 => ?_
    have HK1 := Lib.hid hK1
    clear hK1
    cases hz : (kidsL L e.id false).head? with
    | some z =>
      obtain ⟨m', hr', hlt⟩ := ran_down_left ht.ok hr hz
      rw [hz] at c7
      replace c7 : w.cell? ⟨be, 7, none⟩ = some (.pointer (some ⟨ad z.id, 0, none⟩)) := c7
      obtain ⟨bz, ebz⟩ : ∃ b, b = ad z.id := ⟨_, rfl⟩
      rw [← ebz] at c7
      have HR := Lib.hid (And.intro hr' (And.intro hlt ebz))
      clear hr hr' hlt hi ht hlab ebe ebz c0 c1 c2 c3 c4 c5 c6 c8 hz he
      unfold frm
      go_wp2_with fail
      go_step3
      exact ⟨_, HR.out.2.1, .down z, pre, rfl, HR.out.1, HH.out.1, frm_ex (by rw [HR.out.2.2]; rfl)⟩
    | none =>
      obtain ⟨m', hr', hlt⟩ := ran_down_give ht.ok hr hz
      rw [hz] at c7
      replace c7 : w.cell? ⟨be, 7, none⟩ = some (.pointer none) := c7
      have HR := Lib.hid (And.intro hr' hlt)
      clear hr hr' hlt hi ht hlab ebe c0 c1 c2 c3 c4 c5 c6 c8 hz he
      unfold frm
      go_wp2_with fail
      refine HK1.out _ _ ?_
      refine wp_seq (wp_label ?_)
      refine wp_mono (HP.out m' _ w ⟨.give e, pre, rfl, HR.out.1, HH.out.1, frm_ex (by rw [HH.out.2]; rfl)⟩) (jumps_mono fun l a w ⟨m2, h2, h3⟩ => ⟨m2, Nat.lt_trans h2 HR.out.2, h3⟩)
  case p1 =>
    intro P2
    rintro m a w ⟨st, pre, hlab, hr, hi, u, rfl⟩
    cases st with
    | give e => cases hlab
    | down e => cases hlab
    | up e => cases hlab
    | behind e =>
    have ht := HI.out pre w hi
    have key : ∃ be : Nat, valOf ad (.behind e) = .pointer (some ⟨be, 0, none⟩) ∧ ((∃ z m', w.cell? ⟨be, 8, none⟩ = some (.pointer (some ⟨ad z.id, 0, none⟩)) ∧ Ran L (.down z) pre m' ∧ m' < m) ∨ (w.cell? ⟨be, 8, none⟩ = some (.pointer none) ∧ ∃ m', Ran L (.up e) pre m' ∧ m' < m ∧ valOf ad (.up e) = .pointer (some ⟨be, 0, none⟩))) := by
      cases e with
      | none =>
        refine ⟨ad (0, 0), rfl, ?_⟩
        obtain ⟨c0, c1, c2, c3, c4, c5, c6, c7, c8⟩ := el_cells ht.root
        cases hz : (kidsL L (0, 0) true).head? with
        | some z =>
          obtain ⟨m', hr', hlt⟩ := ran_begin_right ht.ok hr hz
          rw [hz] at c8
          exact .inl ⟨z, m', c8, hr', hlt⟩
        | none =>
          obtain ⟨m', hr', hlt⟩ := ran_begin_up ht.ok hr hz
          rw [hz] at c8
          exact .inr ⟨c8, m', hr', hlt, rfl⟩
      | some e =>
        refine ⟨ad e.id, rfl, ?_⟩
        obtain ⟨c0, c1, c2, c3, c4, c5, c6, c7, c8⟩ := el_cells (ht.el e hr.1)
        cases hz : (kidsL L e.id true).head? with
        | some z =>
          obtain ⟨m', hr', hlt⟩ := ran_behind_right ht.ok hr hz
          rw [hz] at c8
          exact .inl ⟨z, m', c8, hr', hlt⟩
        | none =>
          obtain ⟨m', hr', hlt⟩ := ran_behind_up ht.ok hr hz
          rw [hz] at c8
          exact .inr ⟨c8, m', hr', hlt, rfl⟩
    obtain ⟨be, ebe, key⟩ := key
    rw [ebe]
    have HH := Lib.hid hi
    have HP := Lib.hid P2
    clear P2 hr hlab ht ebe hi
    refine wp_seq_k fun K1 hK1 => ?_
    have HK1 := Lib.hid hK1
    clear hK1
    unfold frm
    rcases key with ⟨z, m', c8, hr', hlt⟩ | ⟨c8, m', hr', hlt, hv⟩
    · obtain ⟨bz, ebz⟩ : ∃ b, b = ad z.id := ⟨_, rfl⟩
      rw [← ebz] at c8
      have HR := Lib.hid (And.intro hr' (And.intro hlt ebz))
      clear hr' hlt ebz
      go_wp2_with fail
      refine HK1.out _ _ ?_
      refine wp_seq_k fun K2 hK2 => ?_
      have HK2 := Lib.hid hK2
      clear hK2
      go_wp2_with fail
      refine HK2.out _ _ ?_
      refine wp_seq (wp_label ?_)
      refine wp_mono (HP.out m' _ w ⟨.down z, pre, rfl, HR.out.1, HH.out, frm_ex (by rw [HR.out.2.2]; rfl)⟩) (jumps_mono fun l a w ⟨m2, h2, h3⟩ => ⟨m2, Nat.lt_trans h2 HR.out.2.1, h3⟩)
    · have HR := Lib.hid (And.intro hr' (And.intro hlt hv))
      clear hr' hlt hv
      go_wp2_with fail
      go_step3
      exact ⟨_, HR.out.2.1, .up e, pre, rfl, HR.out.1, HH.out, frm_ex (by rw [HR.out.2.2]; rfl)⟩
  case first =>
    intro P1
    have HP := Lib.hid P1
    clear P1
    have ht := HI.out [] W h0
    have hb := beginning_any ht
    have HH := Lib.hid h0
    clear h0 ht
    obtain ⟨be, ebe⟩ : ∃ b, b = ad (0, 0) := ⟨_, rfl⟩
    rw [← ebe] at hb
    have HE := Lib.hid ebe
    clear ebe
    refine wp_seq_k fun K1 hK1 => ?_
    have HK1 := Lib.hid hK1
    clear hK1
    go_wp2_with (go_at_call 55; refine hb.mono ?_; rintro e w' ⟨rfl, hw⟩; rw [hw]; clear hw w')
    refine HK1.out _ _ ?_
    refine wp_seq_k fun K2 hK2 => ?_
    have HK2 := Lib.hid hK2
    clear hK2
    go_wp2_with fail
    refine HK2.out _ _ ?_
    refine wp_seq (wp_label ?_)
    exact HP.out _ _ W ⟨.behind none, [], rfl, ⟨rfl, rfl⟩, HH.out, frm_ex (by rw [HE.out]; rfl)⟩
end Go.Proofs.Ytpjeggbkhbghaaa
namespace Go.Proofs
open Go.Shelf
/-- The numbers that this program gives to unicode/utf8.AppendRune, what it calls, their types. -/
def Try.ren242 : Go.Shelf.Ren := ⟨fun n => if n = 242 then 73 else if n = 278 then 82 else n, fun t => if t = 4 then 4 else if t = 5 then 5 else if t = 21 then 21 else if t = 37 then 100 else if t = 46 then 63 else if t = 51 then 140 else if t = 72 then 102 else t, fun g => g⟩
theorem Try.lays242 : Lays.n242 Try.prog Try.ren242 := {
  mixed := by kernel_rfl
  f242 := Try.func73.trans (congrArg some (by kernel_rfl))
  f278 := Try.func82.trans (congrArg some (by kernel_rfl))
  t4 := Try.underlying4
  a4 := Try.isAgg4
  z4 := Try.sizeOf4
  v4 := Try.zeroValue4
  t5 := Try.underlying5
  a5 := Try.isAgg5
  z5 := Try.sizeOf5
  v5 := Try.zeroValue5
  t21 := Try.underlying21
  a21 := Try.isAgg21
  z21 := Try.sizeOf21
  v21 := Try.zeroValue21
  t37 := Try.underlying100
  a37 := Try.isAgg100
  z37 := Try.sizeOf100
  v37 := Try.zeroValue100
  t46 := Try.underlying63
  a46 := Try.isAgg63
  z46 := Try.sizeOf63
  v46 := Try.zeroValue63
  t51 := Try.underlying140
  a51 := Try.isAgg140
  z51 := Try.sizeOf140
  v51 := Try.zeroValue140
}
theorem Try.extra242 : Builder.Extra Try.prog Try.ren242 := {
  sizeBuilder := by kernel_rfl
  liesBuilder := by kernel_rfl
  t5 := Try.underlying5
  a5 := Try.isAgg5
  z5 := Try.sizeOf5
  v5 := Try.zeroValue5
  infoByte := by kernel_rfl
  cellsByte := by kernel_rfl
  sizeByte := by kernel_rfl
  neB5 := by decide
}
/-- .. and to (*strings.Builder).String. -/
def Try.ren169 : Go.Shelf.Ren := ⟨fun n => if n = 169 then 53 else n, fun t => if t = 0 then 0 else if t = 3 then 3 else if t = 5 then 5 else if t = 9 then 9 else if t = 37 then 100 else if t = 70 then 99 else if t = 72 then 102 else if t = 127 then 130 else t, fun g => g⟩
theorem Try.lays169 : Lays.n169 Try.prog Try.ren169 := {
  mixed := by kernel_rfl
  f169 := Try.func53.trans (congrArg some (by kernel_rfl))
  t0 := Try.underlying0
  a0 := Try.isAgg0
  z0 := Try.sizeOf0
  v0 := Try.zeroValue0
  t3 := Try.underlying3
  a3 := Try.isAgg3
  z3 := Try.sizeOf3
  v3 := Try.zeroValue3
  t9 := Try.underlying9
  a9 := Try.isAgg9
  z9 := Try.sizeOf9
  v9 := Try.zeroValue9
  t37 := Try.underlying100
  a37 := Try.isAgg100
  z37 := Try.sizeOf100
  v37 := Try.zeroValue100
  t70 := Try.underlying99
  a70 := Try.isAgg99
  z70 := Try.sizeOf99
  v70 := Try.zeroValue99
  t72 := Try.underlying102
  a72 := Try.isAgg102
  z72 := Try.sizeOf102
  v72 := Try.zeroValue102
  t127 := Try.underlying130
  a127 := Try.isAgg130
  z127 := Try.sizeOf130
  v127 := Try.zeroValue130
}
theorem Try.extra169 : Builder.Extra Try.prog Try.ren169 := {
  sizeBuilder := by kernel_rfl
  liesBuilder := by kernel_rfl
  t5 := Try.underlying5
  a5 := Try.isAgg5
  z5 := Try.sizeOf5
  v5 := Try.zeroValue5
  infoByte := by kernel_rfl
  cellsByte := by kernel_rfl
  sizeByte := by kernel_rfl
  neB5 := by decide
}
end Go.Proofs
namespace Go.Proofs.Ytpjeggbkhbghaaa
open Go Go.RowKit
set_option maxRecDepth 20000
/-- A builder at b that holds these bytes; its row, and it, are the call's own (from B on). -/
abbrev BldF (w : World) (B b : Nat) (bs : List Value) : Prop := Lib.IsBuilderF 102 5 B b bs w
theorem append_rune (B : Nat) (v : Value) (n : Nat) (xs : List Value) (r : Int) (hr0 : -2147483648 ≤ r) (hr1 : r ≤ 2147483647) (w : World) (hown : w.ownsRowF B 5 1 v n xs) (hlen : n + 4 ≤ 140737488355328) (hBw : B ≤ w.heap.size) :
    Calls Try.prog 73 #[v, .int .i32 r] w fun e w' => ∃ v', e = .returned v' ∧ w'.ownsRowF B 5 1 v' (n + (Lib.runeCells r).length) (xs ++ Lib.runeCells r) ∧ ∃ o, (w.alloc o).grownBy w' v.ownBlock :=
  Any.utf8_AppendRune_own Try.lays242 Try.extra242 B v n xs r hr0 hr1 w hown hlen hBw
theorem builder_string (B b : Nat) (l : List UInt8) (w : World) (h : BldF w B b (Lib.byteCells l)) (hBw : B ≤ w.heap.size) :
    Calls Try.prog 53 #[.pointer (some ⟨b, 0, none⟩)] w fun e w' => e = .returned (.string ⟨l.toArray⟩) ∧ BldF w' B b (Lib.byteCells l) ∧ Below B w w' ∧ Lib.OthersKept 5 (some b) w w' :=
  Any.Builder_String_any_k Try.lays169 Try.extra169 B b l w h hBw
theorem check_used (b : Nat) (w : World) (h0 : w.cell? ⟨b, 0, none⟩ = some (.pointer (some ⟨b, 0, none⟩))) : Calls Try.prog 72 #[.pointer (some ⟨b, 0, none⟩)] w fun e w' => (∃ v, e = .returned v) ∧ w' = w := by
  obtain ⟨j, hj, hjs⟩ := Option.map_eq_some_iff.1 Try.extra169.sizeBuilder
  go_enter Try.func72, Try.ntmps72
  go_wp2_with fail
  rw [Lib.run_neq_ptr_same w _ Try.underlying99 hj]
  go_wp2_with fail
  go_end0
  exact ⟨⟨_, rfl⟩, rfl⟩
theorem check_fresh (b : Nat) (w : World) (h0 : w.cell? ⟨b, 0, none⟩ = some (.pointer none)) (hsh : w.shape? b = some (102, 2)) (hfz : w.frozen? ⟨b, 0, none⟩ = false) :
    Calls Try.prog 72 #[.pointer (some ⟨b, 0, none⟩)] w fun e w' => (∃ v, e = .returned v) ∧ w' = w.setCell ⟨b, 0, none⟩ (.pointer (some ⟨b, 0, none⟩)) := by
  obtain ⟨j, hj, hjs⟩ := Option.map_eq_some_iff.1 Try.extra169.sizeBuilder
  go_enter Try.func72, Try.ntmps72
  go_wp2_with fail
  rw [Lib.run_to_unsafe w ⟨b, 0, none⟩ Try.underlying99 Try.underlying138 hj (by rw [hjs]; decide) hsh (Nat.zero_lt_succ 1)]
  simp only [Result.andThen]
  rw [Oper.upon_value]
  go_wp2_with fail
  rw [run_callFunc_extern Try.func81 (by kernel_rfl) (by kernel_rfl) (by kernel_rfl) (e := Extern.AbiNoEscape.same) (by kernel_rfl)]
  rw [Lib.run_noEscape]
  simp only [Result.andThen]
  rw [Oper.upon_value]
  go_wp2_with fail
  rw [Lib.run_from_unsafe w ⟨b, 0, none⟩ Try.underlying138 Try.underlying99 hj hsh Try.extra169.liesBuilder]
  simp only [Result.andThen]
  rw [Oper.upon_value]
  go_wp2_with fail
  go_end0
  exact ⟨⟨_, rfl⟩, rfl⟩
theorem check_any {w : World} {B b : Nat} {bs : List Value} (h : BldF w B b bs) : Calls Try.prog 72 #[.pointer (some ⟨b, 0, none⟩)] w fun e w' => (∃ v, e = .returned v) ∧ Lib.BuilderAtF 102 5 B b (.pointer (some ⟨b, 0, none⟩)) bs w' ∧ Below B w w' ∧ Lib.OthersKept 5 (some b) w w' := by
  rcases h with h | h
  · refine (check_fresh b w h.cell0 h.shape h.frozen0).mono ?_
    rintro e w' ⟨hv, rfl⟩
    exact ⟨hv, h.used _, (Below.refl B w).setCell (p := ⟨b, 0, none⟩) h.1 _, (Lib.OthersKept.refl _ _ w).setCell ⟨b, 0, none⟩ rfl _⟩
  · refine (check_used b w h.cell0).mono ?_
    rintro e w' ⟨hv, rfl⟩
    exact ⟨hv, h, Below.refl B _, Lib.OthersKept.refl _ _ _⟩
set_option maxHeartbeats 1600000 in
theorem write_rune {w : World} {B b : Nat} {bs : List Value} (r : Int) (hr0 : -2147483648 ≤ r) (hr1 : r ≤ 2147483647) (h : BldF w B b bs) (hlen : bs.length + 4 ≤ 140737488355328) (hBw : B ≤ w.heap.size) :
    Calls Try.prog 52 #[.pointer (some ⟨b, 0, none⟩), .int .i32 r] w fun e w' => (∃ v, e = .returned v) ∧ BldF w' B b (bs ++ Lib.runeCells r) ∧ Below B w w' ∧ Lib.OthersKept 5 (some b) w w' := by
  have hk4 := Lib.runeCells_le r
  go_enter Try.func52, Try.ntmps52
  go_upto_region 2 with (go_at_call 72; refine (check_any h).mono ?_; rintro e w1 ⟨⟨vc, rfl⟩, h1, hb1, hk1⟩; have HK1 := Lib.hid (And.intro h1 (And.intro hb1 hk1)); obtain ⟨hB, v, hbk, hown, hne⟩ := h1; clear hB hb1 hk1)
  obtain ⟨ao, cap, rfl⟩ : ∃ ao cap, v = .slice ao bs.length cap := by
    rcases hown.2 with ⟨hv, h0⟩ | ⟨g, cap, cur, fz, hv, _⟩
    · exact ⟨none, 0, by rw [hv, h0]⟩
    · exact ⟨_, _, hv⟩
  have hblt := lt_of_heap hbk
  have c1 : w1.cell? ⟨b, 1, none⟩ = some (.slice ao bs.length cap) := by simp [World.cell?, hbk]
  obtain ⟨n, en⟩ : ∃ n, n = bs.length := ⟨_, rfl⟩
  have hb1 := HK1.out.2.1
  have KA := Lib.hid (append_rune B (.slice ao bs.length cap) bs.length bs r hr0 hr1 w1 hown hlen (by have := hb1.size; omega))
  rw [← en] at c1 KA hlen
  have HH := Lib.hid (And.intro hbk (And.intro hown (And.intro hne (And.intro en (And.intro hblt hBw)))))
  clear hbk hown hne en hblt hBw hb1 hr0 hr1 h
  go_wp2_with fail
  go_at_call 73
  refine KA.out.mono ?_
  rintro e w2 ⟨v', rfl, hown', o, hgrow⟩
  have HG := Lib.hid (And.intro hown' hgrow)
  clear hown' hgrow KA
  obtain ⟨hbk, hown, hne, en, hblt, hBw⟩ := HH.out
  obtain ⟨hown', hgrow⟩ := HG.out
  rw [← en] at hbk hown hne
  have hb2 : w2.heap[b]? = some (.cells #[.pointer (some ⟨b, 0, none⟩), .slice ao n cap] 102) := by
    rw [hgrow.block b (by simp; omega) (fun e => hne e.symm), (MapKept.heap_alloc w1 o).2 b hblt]
    exact hbk
  have d1 : w2.cell? ⟨b, 1, none⟩ = some (.slice ao n cap) := by simp [World.cell?, hb2]
  have f1 := cells_free hb2 1
  obtain ⟨m, em⟩ : ∃ m, m = (Lib.runeCells r).length := ⟨_, rfl⟩
  rw [← em] at hown' hk4
  obtain ⟨g, cap', rfl⟩ : ∃ g cap', v' = .slice (some ⟨g, 0, none⟩) (n + m) cap' := by
    rcases hown'.2 with ⟨_, h0⟩ | ⟨g, cap', cur, fz, hv, _⟩
    · omega
    · exact ⟨g, cap', hv⟩
  have HX := Lib.hid (And.intro hown' (And.intro hgrow (And.intro hb2 (And.intro em (And.intro hne hown)))))
  clear hown' hgrow hb2 em hne hown hbk hblt en HG
  go_wp2_with fail
  go_ret2
  have h1 := HK1.out
  have hx := HX.out
  refine ⟨⟨_, rfl⟩, .inr (Lib.BuilderAtF.put (T := 102) (e := 5) h1.1.1 hx.2.2.1 (bs' := bs ++ Lib.runeCells r) ?_ (by decide)), ?_, h1.2.2.trans (((Lib.OthersKept.refl _ _ w1).alloc _).grown hx.2.1 (Lib.ownsRowF_kind ((by have := hx.2.2.2.2.2; exact this : w1.ownsRowF B 5 1 (.slice ao n cap) n bs).alloc _)) |>.setCell ⟨b, 1, none⟩ rfl _)⟩
  · have := hx.1
    rw [hx.2.2.2.1, HH.out.2.2.2.1] at this
    rw [List.length_append]
    rw [hx.2.2.2.1, HH.out.2.2.2.1]
    exact this
  · exact h1.2.1.trans ((((Below.refl B w1).alloc (by have := h1.2.1.size; omega) _).grown hx.2.1 (by have := h1.2.1.size; simp; omega) (fun k hk => (hx.2.2.2.2.2.lt k hk).1)).setCell (p := ⟨b, 1, none⟩) h1.1.1 _)
end Go.Proofs.Ytpjeggbkhbghaaa
namespace Go.Proofs.Ytpjeggbkhbghaaa
open Go Go.RowKit
set_option maxRecDepth 20000
section
variable {P : Program} {l m : Nat} {ops : Array Oper} {Q : Exit → Go.Act → World → Prop}
theorem rows_in {row : String} {args : Array Value} {w : World} {R : Value → World → Prop} (h : Rows P row args w R) : RowsIn (Fence.wide.inRound l) m P row args w R := by
  intro c cs _
  obtain ⟨v, w', r, s⟩ := h c cs
  exact ⟨v, w', r, stepsIn_wide.2 s⟩
theorem calls_in {f : FuncId} {args : Array Value} {w : World} {R : Ending → World → Prop} (h : Calls P f args w R) : CallsIn (Fence.wide.inRound l) m P f args w R := callsIn_wide.2 h
/-- No operation is a defer statement. -/
def noDefer (ops : Array Oper) : Bool := ops.all fun o => match o.op with | .defer _ => false | _ => true
theorem op_round {o : Oper} {a : Go.Act} {w : World} {K : Go.Act → World → Prop} (hd : ∀ c, o.op ≠ .defer c) (h : o.wp P a w K Q) : o.wpIn (Fence.wide.inRound l) m P a w K Q := by
  refine ⟨fun _ _ => trivial, ?_⟩
  rw [Oper.semAt_eq _ _ _ hd]
  unfold Oper.wp at h
  generalize (execOp a.eval o).run P w = r at h
  cases r with
  | ok x w' =>
    cases x with
    | value v => exact h
    | skip => exact h
    | defer d => exact h
    | enter f args => exact ⟨(fun h => nomatch h), calls_in h⟩
    | row row args => exact ⟨(fun h => nomatch h), rows_in h⟩
    | _ => exact h.elim
  | halt x w' =>
    cases x with
    | panic v => exact h
    | _ => exact h.elim
theorem ops_round (hn : noDefer ops = true) (hQ : ¬ LetsOut Q) : ∀ (s : List Nat) (a : Go.Act) (w : World), wpOps P ops Q s a w → wpOpsIn (Fence.wide.inRound l) m P ops Q s a w
  | [], _, _, h => h
  | i :: s, a, w, h => by
    unfold wpOps at h
    unfold wpOpsIn
    cases ho : ops[i]? with
    | none =>
      rw [ho] at h
      exact ops_round hn hQ s a w h
    | some o =>
      rw [ho] at h
      simp only at h ⊢
      by_cases hw : Region.wanted o (yielded ops a.tmps) = true
      · rw [if_pos hw] at h ⊢
        have h1 := h.resolve_right fun h2 => hQ h2.2
        have hd : ∀ c, o.op ≠ .defer c := fun c e => by
          have := Array.all_eq_true.1 hn i (Array.getElem?_eq_some_iff.1 ho).1
          rw [(Array.getElem?_eq_some_iff.1 ho).2, e] at this
          cases this
        have h2 : o.wp P a w (wpOpsIn (Fence.wide.inRound l) m P ops Q s) Q := by
          unfold Oper.wp at h1 ⊢
          generalize (execOp a.eval o).run P w = r at h1
          cases r with
          | ok x w' =>
            cases x with
            | value v => exact ops_round hn hQ s _ _ h1
            | skip => exact ops_round hn hQ s _ _ h1
            | defer d => exact ops_round hn hQ s _ _ h1
            | enter f args =>
              refine Calls.mono h1 ?_
              intro e w'' h3
              cases e with
              | returned v => exact ops_round hn hQ s _ _ h3
              | panicked ch => exact h3
              | outgrown => exact h3
            | row row args => exact Rows.mono h1 fun v w'' h3 => ops_round hn hQ s _ _ h3
            | _ => exact h1.elim
          | halt x w' =>
            cases x with
            | panic v => exact h1
            | _ => exact h1.elim
        exact op_round hd h2
      · rw [if_neg hw] at h ⊢
        exact ⟨fun _ _ => trivial, ops_round hn hQ s _ w h⟩
theorem region_round {id : Nat} {a : Go.Act} {w : World} (hn : noDefer ops = true) (hQ : ¬ LetsOut Q) (h : wpList P ops Q ops.toList a w) : (Code.region id ops false).wpIn (Fence.wide.inRound l) m P Q a w := by
  refine wpIn_region (ops_round hn hQ _ a w ?_)
  rw [List.range_eq_range', ← Array.length_toList, wpOps_eq_wpList ops.toList 0 (by simp)]
  exact h
theorem region_round_draw {id : Nat} {a : Go.Act} {w : World} (hm : P.follows .mixedOrders = true) (hn : noDefer ops = true) (hQ : ¬ LetsOut Q)
    (h : wpAny P .any ops Q ops.size (Array.replicate ops.size false) a { w with drawn := w.drawn + 1 }) : (Code.region id ops true).wpIn (Fence.wide.inRound l) m P Q a w := by
  refine wpIn_region_draw fun t => ops_round hn hQ _ a _ ?_
  simp only [Region.schedule, hm, Bool.true_or, if_true]
  exact wpAny_sound ops.size t _ a _ h
theorem region_round_inv {id : Nat} {l' : List Oper} {a0 : Go.Act} {w0 : World} (n : Nat) (slots : List Nat) (D : List Know) (S : World → Prop) {mk : (Nat → Value) → Go.Act}
    (hm : P.follows .mixedOrders = true) (hd : noDefer l'.toArray = true) (hQ : ¬ LetsOut Q) (hB : invB l' n slots = true) (hSt : ∀ w w', S w → Below w.heap.size w w' → S w') (hS : S w0.drew) (hmk : ∀ u, puts a0 slots u = mk u)
    (hO : Obs P l'.toArray S D slots mk 0 (l'.take n)) (ht : ∀ u w, S w → (∀ j, j < n → (D.getD j .any).ok (uvs slots u j) w) → wpList P l'.toArray Q (l'.drop n) (mk u) w) :
    (Code.region id l'.toArray true).wpIn (Fence.wide.inRound l) m P Q a0 w0 := by
  refine region_round_draw hm hd hQ ?_
  simp only [invB, Bool.and_eq_true, decide_eq_true_eq] at hB
  obtain ⟨⟨⟨⟨⟨⟨hn, hs⟩, hc⟩, hbk⟩, hsl⟩, hnd⟩, hq⟩ := hB
  have inv0 : HeadInv .any l'.toArray n (Array.replicate l'.toArray.size false) :=
    ⟨by simp, fun j oj _ hl => (by rw [getD_replicate_false] at hl; cases hl), fun t _ ht => getD_in (by simpa using ht) (getD_replicate_false _ _)⟩
  have h := wpAny_inv (Q := Q) hn hs hc hbk hsl hnd hq hSt hmk hO ht n _ (fun s => a0.tmps.getD s undef) w0.drew inv0 (toCome_all n) hS (fun j _ hl => by rw [getD_replicate_false] at hl; cases hl)
  rw [← hmk, puts_self slots a0 _ (fun _ => rfl), show n + (l'.length - n) = l'.toArray.size by simp; omega] at h
  exact h
end
theorem roundQ_in {α : Type} {D : Nat} {I Ix : List α → World → Prop} {xs : List α} {W : World} : ¬ LetsOut (roundQ D I Ix xs W) := fun ⟨_, _, h⟩ => h
end Go.Proofs.Ytpjeggbkhbghaaa
