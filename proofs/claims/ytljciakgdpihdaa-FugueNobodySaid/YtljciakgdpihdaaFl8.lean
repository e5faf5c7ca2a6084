/-
  Layer 15, the landed code: Text and Clone of nobody. By an AI agent.
-/
import Derived.Test.YtljciakgdpihdaaFu15
namespace Go.Proofs.Ytljciakgdpihdaa
open Go Go.RowKit
set_option maxRecDepth 20000
set_option maxHeartbeats 3200000 in
theorem text_nil (w : World) : Calls Try.prog 17 #[.pointer none] w fun e w' => e = .returned (.string ⟨#[]⟩) ∧ Below w.heap.size w w' := by
  refine (callsIn_wide (n := 4)).1 (callsIn_of_wp_marks Try.func17 rfl trivial ?_)
  refine wpIn_wide.2 ?_
  simp only [Try.ntmps17, List.size_toArray, List.length_cons, List.length_nil, Nat.reduceAdd, Nat.reduceSub, Array.replicate_succ, Array.replicate_zero, List.push_toArray, List.append_toArray, List.nil_append, List.cons_append]
  obtain ⟨v1, ev⟩ : ∃ v, v = w.alloc (.cells #[.pointer none, .slice none 0 0] 83) := ⟨_, rfl⟩
  have hb1 : Below w.heap.size w v1 := by rw [ev]; exact (Below.refl _ _).alloc (Nat.le_refl _) _
  have hs1 : v1.heap.size = w.heap.size + 1 := by rw [ev]; simp
  have hc1 : v1.heap[w.heap.size]? = some (.cells #[.pointer none, .slice none 0 0] 83) := by rw [ev]; exact (MapKept.heap_alloc w _).1
  have HH := Lib.hid (And.intro hb1 (And.intro hs1 hc1))
  have HV := Lib.hid ev
  clear hb1 hs1 hc1 ev
  go_wp2_with fail
  rw [← HV.out]
  obtain ⟨hb1, hs1, hc1⟩ := HH.out
  refine wp_range_bound (gf := 37) (p := .pointer none) rfl (enters_of Try.func37 (by kernel_rfl) rfl) (fun _ : Unit => #[.pointer none]) (fun _ => rfl) (fun xs => xs = []) (fun _ _ => False)
    (fun _ W => Below w.heap.size w W ∧ w.heap.size + 3 ≤ W.heap.size ∧ NoC (w.heap.size + 1) W ∧ BldF W w.heap.size w.heap.size (Lib.byteCells [])) (fun _ _ => False) ?hI (fun _ _ _ h _ => h) ?h0 (fun _ => { tmps := #[.pointer none, undef, .string ⟨#[]⟩, .pointer (some ⟨w.heap.size, 0, none⟩), .pointer none, .pointer none, .func (.func 37) #[.pointer none] #[], .pointer none, undef, undef, undef, undef, undef, undef, undef, undef, undef, undef, undef, undef, undef], defers := [] }) ?hseq ?assign (fun _ _ _ _ _ h _ => h.elim) ?done (fun _ _ h _ => h.elim)
  case hI =>
    rintro pre W W' ⟨h2, h3, h4, h5⟩ ht
    rw [hs1] at ht
    exact ⟨h2.trans (ht.below (by omega)), by rw [ht.size]; exact h3, h4.twin ht, bld_twin h5 h4 ht⟩
  case h0 =>
    intro o1 o2 ho1 ho2
    have hb2 : Below v1.heap.size v1 ((v1.alloc o1).alloc o2) := ((Below.refl _ _).alloc (Nat.le_refl _) _).alloc (by simp) _
    have hb3 := hb1.trans (hb2.mono hb1.size)
    have d0 : ((v1.alloc o1).alloc o2).heap[w.heap.size + 1]? = some o1 := by
      rw [(MapKept.heap_alloc (v1.alloc o1) o2).2 _ (by simp; omega), ← hs1]
      exact (MapKept.heap_alloc v1 o1).1
    have d1 : ((v1.alloc o1).alloc o2).heap[w.heap.size + 1 + 1]? = some o2 := by
      have := (MapKept.heap_alloc (v1.alloc o1) o2).1
      rwa [show (v1.alloc o1).heap.size = w.heap.size + 1 + 1 by simp; omega] at this
    refine ⟨hb3, by simp; omega, ?_, .inl ⟨Nat.le_refl _, .slice none 0 0, (hb2.block _ (by omega)).trans hc1, ⟨rfl, .inl ⟨rfl, rfl⟩⟩, by simp [Value.ownBlock]⟩⟩
    rintro k o (rfl | rfl) ho
    · rw [d0] at ho
      rw [← Option.some.inj ho]
      exact ho1
    · rw [d1] at ho
      rw [← Option.some.inj ho]
      exact ho2
  case hseq =>
    intro l J Jx W hJI hY hJ0
    refine (order_nil _ W).mono ?_
    rintro e W' ⟨hv, rfl⟩
    exact ⟨hv, .inl ⟨[], rfl, hJ0⟩⟩
  case assign =>
    intro l x W K hK
    refine region_round (by kernel_rfl) (then_in (fun ⟨_, _, h⟩ => h)) ?_
    go_wp2_with fail
    exact hK
  case done =>
    rintro xs W rfl ⟨hbw, hsz, hno, hbl⟩ hK
    rw [hs1] at hK
    rw [hs1]
    have KS := Lib.hid (builder_string w.heap.size w.heap.size [] W hbl hbw.size)
    have HB := Lib.hid (And.intro hbw (And.intro hno hK))
    clear hbw hsz hno hbl hb1 hs1 hc1 hK
    go_wp2_with (go_at_call 40; refine KS.out.mono ?_; rintro e W' ⟨rfl, h1, h2, h3⟩; have H1 := Lib.hid (And.intro h1 (And.intro h2 h3)); clear h1 h2 h3)
    have hB := HB.out
    have h1 := H1.out
    have hK : W'.heap[w.heap.size + 1]? = some (.deferred (some [])) := h1.2.2 _ _ hB.2.2 (fun e => by have := Option.some.inj e; omega) (fun c fz e => by cases e)
    refine ⟨by simp, .inl ⟨_, _, rfl, run_takeDeferred hK, ?_⟩⟩
    exact ⟨_, results_tmp rfl _ _ _, rfl, (hB.1.trans h1.2.1).trans ((Twin.put W' _ (.inl rfl) rfl).below (by omega))⟩
theorem clone_nil (w : World) : Calls Try.prog 31 #[.pointer none] w fun e w' => e = .returned (.pointer none) ∧ w' = w := by
  go_enter Try.func31, Try.ntmps31
  go_wp2_with fail
  go_ret
  exact ⟨rfl, rfl⟩
end Go.Proofs.Ytljciakgdpihdaa
