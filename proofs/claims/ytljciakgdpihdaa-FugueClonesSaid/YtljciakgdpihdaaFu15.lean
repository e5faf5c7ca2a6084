/-
  Layer 15, the landed code: Text. By an AI agent.
-/
import Derived.Test.YtljciakgdpihdaaFu14
namespace Go.Proofs.Ytljciakgdpihdaa
open Go Go.RowKit
set_option maxRecDepth 20000
/-- The runes of some elements as bytes. -/
def encB (N : List Nod) : List UInt8 := N.flatMap fun y => Lib.encodeRune y.rune
theorem encB_snoc (N : List Nod) (y : Nod) : encB (N ++ [y]) = encB N ++ Lib.encodeRune y.rune := by unfold encB; rw [List.flatMap_append, List.flatMap_singleton]
theorem enc_len (r : Int) : (Lib.encodeRune r).length ≤ 4 := by
  have h1 : (Lib.byteCells (Lib.encodeRune r)).length = (Lib.runeCells r).length := by rw [Lib.byteCells_encodeRune]
  rw [Lib.byteCells_length] at h1
  have := Lib.runeCells_le r
  omega
theorem encB_len : ∀ N : List Nod, (encB N).length ≤ 4 * N.length
  | [] => Nat.le_refl _
  | y :: N => by
    have h1 := encB_len N
    have h2 := enc_len y.rune
    have e : encB (y :: N) = Lib.encodeRune y.rune ++ encB N := by unfold encB; rw [List.flatMap_cons]
    rw [e, List.length_append, List.length_cons]
    omega
theorem u8_nat (n : Nat) (a : Nat) : (((a : Nat) : Int) + ((n : Nat) : Int)).toNat.toUInt8 = UInt8.ofNat (a + n) := by
  rw [← Int.natCast_add]
  rfl
/-- A rune that may be, as bytes: the model's, and the library's. -/
theorem enc_eq {x : Ins} (h : (lowOk x || highOk x) = true) : Utf8.encode x.rune = ⟨(Lib.encodeRune x.rune).toArray⟩ := by
  have hv : (0 ≤ x.rune ∧ x.rune < 55296) ∨ (57343 < x.rune ∧ x.rune ≤ 1114111) := by
    unfold lowOk highOk at h
    simp only [Bool.or_eq_true, Bool.and_eq_true, decide_eq_true_eq] at h
    exact h
  obtain ⟨c, hc⟩ : ∃ c : Nat, x.rune = (c : Int) := ⟨x.rune.toNat, by omega⟩
  rw [hc] at hv ⊢
  have hval : Utf8.valid (c : Int) = true := by
    unfold Utf8.valid
    simp
    omega
  unfold Utf8.encode
  simp only [hval, if_true, Int.toNat_natCast]
  by_cases h1 : c < 128
  · rw [if_pos h1]
    unfold Lib.encodeRune
    rw [Lib.encodeRuneZ_one (by omega) (by omega)]
    rfl
  · rw [if_neg h1]
    by_cases h2 : c < 2048
    · rw [if_pos h2]
      unfold Lib.encodeRune
      rw [Lib.encodeRuneZ_two (by omega) (by omega)]
      simp only [List.map_cons, List.map_nil]
      rw [show ((192 : Int) + (c : Int) / 64) = ((192 : Nat) : Int) + ((c / 64 : Nat) : Int) by omega, show ((128 : Int) + (c : Int) % 64) = ((128 : Nat) : Int) + ((c % 64 : Nat) : Int) by omega, u8_nat, u8_nat]
    · rw [if_neg h2]
      by_cases h3 : c < 65536
      · rw [if_pos h3]
        unfold Lib.encodeRune
        rw [Lib.encodeRuneZ_three (by omega)]
        simp only [List.map_cons, List.map_nil]
        rw [show ((224 : Int) + (c : Int) / 4096) = ((224 : Nat) : Int) + ((c / 4096 : Nat) : Int) by omega, show ((128 : Int) + (c : Int) / 64 % 64) = ((128 : Nat) : Int) + ((c / 64 % 64 : Nat) : Int) by omega, show ((128 : Int) + (c : Int) % 64) = ((128 : Nat) : Int) + ((c % 64 : Nat) : Int) by omega, u8_nat, u8_nat, u8_nat]
      · rw [if_neg h3]
        unfold Lib.encodeRune
        rw [Lib.encodeRuneZ_four (by omega) (by omega)]
        simp only [List.map_cons, List.map_nil]
        rw [show ((240 : Int) + (c : Int) / 262144) = ((240 : Nat) : Int) + ((c / 262144 : Nat) : Int) by omega, show ((128 : Int) + (c : Int) / 4096 % 64) = ((128 : Nat) : Int) + ((c / 4096 % 64 : Nat) : Int) by omega, show ((128 : Int) + (c : Int) / 64 % 64) = ((128 : Nat) : Int) + ((c / 64 % 64 : Nat) : Int) by omega, show ((128 : Int) + (c : Int) % 64) = ((128 : Nat) : Int) + ((c % 64 : Nat) : Int) by omega, u8_nat, u8_nat, u8_nat, u8_nat]
theorem right_rune {x : Ins} (h : rightB x = true) : (lowOk x || highOk x) = true ∧ 0 ≤ x.rune ∧ x.rune ≤ 1114111 := by
  unfold rightB at h
  simp only [Bool.and_eq_true] at h
  have h2 := h.2.1
  refine ⟨h2, ?_⟩
  unfold lowOk highOk at h2
  simp only [Bool.or_eq_true, Bool.and_eq_true, decide_eq_true_eq] at h2
  omega
theorem text_enc {G : List IDt} : ∀ {N : List Ins}, (∀ x ∈ N, rightB x = true) → textN (N.map (nodeOf G)) = ⟨(encB (N.map (nodeOf G))).toArray⟩ := by
  intro N
  induction h : N.length generalizing N with
  | zero =>
    intro _
    rw [List.length_eq_zero_iff.1 h]
    rfl
  | succ n ih =>
    intro hr
    have hne : N ≠ [] := by rintro rfl; simp at h
    obtain ⟨M, x, rfl⟩ : ∃ M x, N = M ++ [x] := ⟨N.dropLast, N.getLast hne, (List.dropLast_concat_getLast hne).symm⟩
    rw [List.map_append, List.map_singleton, textN_snoc, encB_snoc, ih (by simp at h; exact h) (fun y hy => hr y (List.mem_append.2 (.inl hy)))]
    have hx := hr x (by simp)
    have : (nodeOf G x).rune = x.rune := rfl
    rw [this, enc_eq (right_rune hx).1]
    apply ByteArray.ext
    simp
/-- No cells lie there. -/
def NoC (D : Nat) (w : World) : Prop := ∀ k o, (k = D ∨ k = D + 1) → w.heap[k]? = some o → isC o = false
theorem NoC.twin {D : Nat} {w w' : World} (h : NoC D w) (ht : Twin D w w') : NoC D w' := fun k o hk ho => by
  rcases ht.kind k o hk ho with h1 | h1
  · exact h k o hk h1
  · exact h1
theorem NoC.same {D : Nat} {w w' : World} (h : NoC D w) (h1 : w'.heap[D]? = w.heap[D]?) (h2 : w'.heap[D + 1]? = w.heap[D + 1]?) : NoC D w' := fun k o hk ho => by
  rcases hk with rfl | rfl
  · exact h _ o (.inl rfl) (h1 ▸ ho)
  · exact h _ o (.inr rfl) (h2 ▸ ho)
theorem bld_twin {w w' : World} {B b D : Nat} {bs : List Value} (h : BldF w B b bs) (hn : NoC D w) (ht : Twin D w w') : BldF w' B b bs := by
  have step : ∀ p, Lib.BuilderAtF 83 5 B b p bs w → Lib.BuilderAtF 83 5 B b p bs w' := by
    rintro p ⟨hB, v, hb, hown, hne⟩
    have hblk : ∀ (k : Nat) cs e fz, w.heap[k]? = some (Obj.cells cs e fz) → w'.heap[k]? = some (Obj.cells cs e fz) := fun k cs e fz hk => by
      refine (ht.block k (fun e => ?_) (fun e => ?_)).trans hk
      · have := hn k _ (.inl e) hk
        cases this
      · have := hn k _ (.inr e) hk
        cases this
    refine ⟨hB, v, hblk _ _ _ _ hb, ⟨hown.1, ?_⟩, hne⟩
    rcases hown.2 with h1 | ⟨g, cap, cur, fz, h1, h2, h3, h4⟩
    · exact .inl h1
    · exact .inr ⟨g, cap, cur, fz, h1, h2, hblk _ _ _ _ h3, h4⟩
  rcases h with h | h
  · exact .inl (step _ h)
  · exact .inr (step _ h)
theorem TreeH.kept {w w' : World} {T M : Nat} {ad : IDt → Nat} {L : List Ins} {G : List IDt} (h : TreeH w T M ad L G) {b : Nat} (hb : ∀ k, inT T M ad L k → k ≠ b) (hk : Lib.OthersKept 5 (some b) w w') : TreeH w' T M ad L G := by
  have key : ∀ k o, inT T M ad L k → w.heap[k]? = some o → (∀ c fz, o ≠ .cells c 5 fz) → w'.heap[k]? = w.heap[k]? := fun k o hi ho hn => by
    rw [ho]
    exact hk k o ho (fun e => hb k hi (Option.some.inj e)) hn
  refine h.keep fun k hi => ?_
  rcases hi with e | e | e | ⟨x, hx, e⟩
  · rw [e]; exact key T _ (.inl rfl) h.tree (fun c fz e => by cases e)
  · obtain ⟨ps, clk, hm, _⟩ := h.map
    rw [e]; exact key M _ (.inr (.inl rfl)) hm.here (fun c fz e => by cases e)
  · rw [e]; exact key _ _ (.inr (.inr (.inl rfl))) h.root (fun c fz e => by cases e)
  · rw [e]; exact key _ _ (.inr (.inr (.inr ⟨x, hx, rfl⟩))) (h.el x hx) (fun c fz e => by cases e)
/-- Between two rounds of Text. -/
def TxtI (w0 : World) (T M : Nat) (ad : IDt → Nat) (L : List Ins) (G : List IDt) (pre : List Ins) (W : World) : Prop :=
  TreeH W T M ad L G ∧ Below w0.heap.size w0 W ∧ w0.heap.size + 3 ≤ W.heap.size ∧ NoC (w0.heap.size + 1) W ∧ BldF W w0.heap.size w0.heap.size (Lib.byteCells (encB ((liveL G pre).map (nodeOf G))))
set_option maxHeartbeats 3200000 in
theorem text_any {w : World} {T M : Nat} {ad : IDt → Nat} {L : List Ins} {G : List IDt} (h : TreeH w T M ad L G) (hl : L.length ≤ 4096) (hr : ∀ x ∈ L, rightB x = true) :
    Calls Try.prog 17 #[pB T] w fun e w' => e = .returned (.string (textN ((liveL G (nodesL L)).map (nodeOf G)))) ∧ Below w.heap.size w w' := by
  refine (callsIn_wide (n := 4)).1 (callsIn_of_wp_marks Try.func17 rfl trivial ?_)
  refine wpIn_wide.2 ?_
  simp only [Try.ntmps17, List.size_toArray, List.length_cons, List.length_nil, Nat.reduceAdd, Nat.reduceSub, Array.replicate_succ, Array.replicate_zero, List.push_toArray, List.append_toArray, List.nil_append, List.cons_append]
  have hin : ∀ k, inT T M ad L k → k < w.heap.size := fun k hk => h.lt hk
  obtain ⟨v1, ev⟩ : ∃ v, v = w.alloc (.cells #[.pointer none, .slice none 0 0] 83) := ⟨_, rfl⟩
  have hb1 : Below w.heap.size w v1 := by rw [ev]; exact (Below.refl _ _).alloc (Nat.le_refl _) _
  have hs1 : v1.heap.size = w.heap.size + 1 := by rw [ev]; simp
  have hc1 : v1.heap[w.heap.size]? = some (.cells #[.pointer none, .slice none 0 0] 83) := by rw [ev]; exact (MapKept.heap_alloc w _).1
  have HH := Lib.hid (And.intro h (And.intro hin (And.intro hb1 (And.intro hs1 (And.intro hc1 (And.intro hl hr))))))
  have HV := Lib.hid ev
  clear h hin hb1 hs1 hc1 hl hr ev
  go_wp2_with fail
  rw [← HV.out]
  obtain ⟨h, hin, hb1, hs1, hc1, hl, hr⟩ := HH.out
  refine wp_range_bound (gf := 37) (p := pB T) rfl (enters_of Try.func37 (by kernel_rfl) rfl) (fun x : Ins => #[pB (ad x.id)]) (fun _ => rfl) (fun xs => xs = nodesL L) (fun pre x => ∃ post, nodesL L = pre ++ x :: post)
    (TxtI w T M ad L G) (fun _ _ => False) ?hI (fun _ _ _ h _ => h) ?h0 (fun x => { tmps := #[pB T, undef, .string ⟨#[]⟩, .pointer (some ⟨w.heap.size, 0, none⟩), pB (ad x.id), pB T, .func (.func 37) #[pB T] #[], pB (ad x.id), undef, undef, undef, undef, undef, undef, undef, undef, undef, undef, undef, undef, undef], defers := [] }) ?hseq ?assign ?body ?done (fun _ _ h _ => h.elim)
  case hI =>
    rintro pre W W' ⟨h1, h2, h3, h4, h5⟩ ht
    rw [hs1] at ht
    exact ⟨h1.twin ht (fun k hk => by have := hin k hk; omega), h2.trans (ht.below (by omega)), by rw [ht.size]; exact h3, h4.twin ht, bld_twin h5 h4 ht⟩
  case h0 =>
    intro o1 o2 ho1 ho2
    have hb2 : Below v1.heap.size v1 ((v1.alloc o1).alloc o2) := ((Below.refl _ _).alloc (Nat.le_refl _) _).alloc (by simp) _
    have hb3 := hb1.trans (hb2.mono hb1.size)
    have d0 : ((v1.alloc o1).alloc o2).heap[w.heap.size + 1]? = some o1 := by
      rw [(MapKept.heap_alloc (v1.alloc o1) o2).2 _ (by simp; omega), ← hs1]
      exact (MapKept.heap_alloc v1 o1).1
    have d1 : ((v1.alloc o1).alloc o2).heap[w.heap.size + 1 + 1]? = some o2 := by
      have := (MapKept.heap_alloc (v1.alloc o1) o2).1
      rwa [show (v1.alloc o1).heap.size = w.heap.size + 1 + 1 by simp; omega] at this
    refine ⟨h.below hb3, hb3, by simp; omega, ?_, .inl ⟨Nat.le_refl _, .slice none 0 0, (hb2.block _ (by omega)).trans hc1, ⟨rfl, .inl ⟨rfl, rfl⟩⟩, by simp [Value.ownBlock]⟩⟩
    rintro k o (rfl | rfl) ho
    · rw [d0] at ho
      rw [← Option.some.inj ho]
      exact ho1
    · rw [d1] at ho
      rw [← Option.some.inj ho]
      exact ho2
  case hseq =>
    intro l J Jx W hJI hY hJ0
    refine (order_any (I := J) (Ix := Jx) (fun pre W hj => (hJI pre W hj).1) (fun pre x W hj hnx => hY pre x W hj hnx) W hJ0).mono ?_
    rintro e W' ⟨hv, h1 | h1⟩
    · exact ⟨hv, .inl ⟨_, rfl, h1⟩⟩
    · exact ⟨hv, .inr h1⟩
  case assign =>
    intro l x W K hK
    refine region_round (by kernel_rfl) (then_in (fun ⟨_, _, h⟩ => h)) ?_
    go_wp2_with fail
    exact hK
  case body =>
    rintro l pre x W ⟨ht, hbw, hsz, hno, hbl⟩ ⟨post, hpost⟩ hlt
    have hx : x ∈ L := (nodes_mem h.ok).1 (by rw [hpost]; simp)
    have hln : (liveL G pre).length + 1 ≤ 4096 := by
      have h1 := nodes_len h.ok
      rw [hpost] at h1
      simp at h1
      have h2 : (liveL G pre).length ≤ pre.length := List.length_filter_le _ _
      omega
    obtain ⟨e0, e1, e2, e3, _⟩ := el_cells (ht.el x hx)
    have hrr := right_rune (hr x hx)
    obtain ⟨be, ebe⟩ : ∃ b, b = ad x.id := ⟨_, rfl⟩
    rw [← ebe] at e0 e1 e2 e3
    obtain ⟨g, eg⟩ : ∃ g, g = w.heap.size := ⟨_, rfl⟩
    rw [← ebe, ← eg]
    obtain ⟨r, er⟩ : ∃ r, r = x.rune := ⟨_, rfl⟩
    rw [← er] at e2 hrr
    have hlive : liveL G (pre ++ [x]) = if goneB G x.id = true then liveL G pre else liveL G pre ++ [x] := by
      rw [live_app]
      by_cases hg : goneB G x.id = true
      · rw [if_pos hg, live_off (by rw [goneB_eq] at hg; exact of_decide_eq_true hg)]
        exact List.append_nil _
      · rw [if_neg hg, live_on (by rw [goneB_eq] at hg; exact fun h => hg (decide_eq_true h))]
        rfl
    obtain ⟨gn, egn⟩ : ∃ q, q = goneB G x.id := ⟨_, rfl⟩
    rw [← egn] at e3 hlive
    have HB := Lib.hid (And.intro ht (And.intro hbw (And.intro hsz (And.intro hno (And.intro hbl (And.intro eg (And.intro hlive (And.intro hs1 (And.intro hin (And.intro er hlt))))))))))
    have HLN := Lib.hid (And.intro hln hrr)
    clear hpost hx hln hrr ebe er eg egn ht hbw hsz hno hbl hlive h hin hb1 hs1 hc1 hl hlt e0 e1 hr
    refine wpIn_block (wpIn_seq ?_)
    refine region_round (by kernel_rfl) (then_in (inBlock_in roundQ_in)) ?_
    cases gn with
    | true =>
      clear e2
      go_wp2_with fail
      refine wpIn_cond_false rfl (wpIn_skip ?_)
      have hB := HB.out
      refine ⟨⟨rfl, rfl⟩, hB.1, hB.2.1, hB.2.2.1, hB.2.2.2.1, ?_⟩
      rw [hB.2.2.2.2.2.2.1, if_pos (by trivial)]
      exact hB.2.2.2.2.1
    | false =>
      go_wp2_with fail
      clear e3
      refine wpIn_cond_true rfl ?_
      refine region_round (by kernel_rfl) (inBlock_in roundQ_in) ?_
      have hB := HB.out
      have hlen : (Lib.byteCells (encB ((liveL G pre).map (nodeOf G)))).length + 4 ≤ 140737488355328 := by
        rw [Lib.byteCells_length]
        have := encB_len ((liveL G pre).map (nodeOf G))
        rw [List.length_map] at this
        have := HLN.out.1
        omega
      have KW := write_rune r (by have := HLN.out.2; omega) (by have := HLN.out.2; omega) hB.2.2.2.2.1 hlen (by have := hB.2.1.size; omega)
      rw [← hB.2.2.2.2.2.1] at KW
      have KW := Lib.hid KW
      clear hB hlen
      go_wp2_with (go_at_call 39; refine KW.out.mono ?_; rintro e W' ⟨⟨v, rfl⟩, h1, h2, h3⟩; have H1 := Lib.hid (And.intro h1 (And.intro h2 h3)); clear h1 h2 h3)
      have hB := HB.out
      have h1 := H1.out
      have hg : g = w.heap.size := hB.2.2.2.2.2.1
      rw [hg] at h1
      have hsame : ∀ k, (k = w.heap.size + 1 ∨ k = w.heap.size + 1 + 1) → W'.heap[k]? = W.heap[k]? := fun k hk => by
        have hlt : k < W.heap.size := by have := hB.2.2.1; omega
        obtain ⟨o, ho⟩ : ∃ o, W.heap[k]? = some o := ⟨W.heap[k], Array.getElem?_eq_getElem hlt⟩
        rw [ho]
        refine h1.2.2 k o ho (fun e => by have := Option.some.inj e; omega) (fun c fz e => ?_)
        have := hB.2.2.2.1 k o hk ho
        rw [e] at this
        cases this
      have hs := hB.2.2.2.2.2.2.2.1
      refine ⟨⟨?_, ?_⟩, hB.1.kept (fun k hk => by have := hB.2.2.2.2.2.2.2.2.1 k hk; omega) h1.2.2, hB.2.1.trans h1.2.1, ?_, hB.2.2.2.1.same (hsame _ (.inl rfl)) (hsame _ (.inr rfl)), ?_⟩
      · rw [hs]; exact hsame _ (.inl rfl)
      · rw [hs]; exact hsame _ (.inr rfl)
      · exact Nat.le_trans hB.2.2.1 h1.2.1.size
      · rw [hB.2.2.2.2.2.2.1, if_neg (by simp), List.map_append, List.map_singleton, encB_snoc, Lib.byteCells_append, Lib.byteCells_encodeRune]
        have := h1.1
        rw [hB.2.2.2.2.2.2.2.2.2.1] at this
        exact this
  case done =>
    rintro xs W rfl ⟨ht, hbw, hsz, hno, hbl⟩ hK
    rw [hs1] at hK
    rw [hs1]
    have KS := Lib.hid (builder_string w.heap.size w.heap.size (encB ((liveL G (nodesL L)).map (nodeOf G))) W hbl hbw.size)
    have HB := Lib.hid (And.intro hbw (And.intro hno hK))
    have HE := Lib.hid (text_enc (G := G) (N := liveL G (nodesL L)) (fun x hx => hr x ((nodes_mem h.ok).1 (List.mem_filter.1 hx).1)))
    clear ht hbw hsz hno hbl h hin hb1 hs1 hc1 hl hK hr
    go_wp2_with (go_at_call 40; refine KS.out.mono ?_; rintro e W' ⟨rfl, h1, h2, h3⟩; have H1 := Lib.hid (And.intro h1 (And.intro h2 h3)); clear h1 h2 h3)
    have hB := HB.out
    have h1 := H1.out
    have hK : W'.heap[w.heap.size + 1]? = some (.deferred (some [])) := h1.2.2 _ _ hB.2.2 (fun e => by have := Option.some.inj e; omega) (fun c fz e => by cases e)
    refine ⟨by simp, .inl ⟨_, _, rfl, run_takeDeferred hK, ?_⟩⟩
    exact ⟨_, results_tmp rfl _ _ _, by rw [HE.out]; rfl, (hB.1.trans h1.2.1).trans ((Twin.put W' _ (.inl rfl) rfl).below (by omega))⟩
end Go.Proofs.Ytljciakgdpihdaa
