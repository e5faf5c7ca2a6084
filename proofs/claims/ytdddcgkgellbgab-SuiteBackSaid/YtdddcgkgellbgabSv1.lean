/-
  Layer 19, the landed code: the ideal suite's names. By an AI agent.
-/
import Derived.Test.YtdddcgkgellbgabSu9
namespace Go.Proofs.Ytdddcgkgellbgab
open Go Go.RowKit
set_option maxRecDepth 20000
attribute [local irreducible] e8 calledT
/-- Rows of bytes laid in a row. -/
theorem rds_lit {w : World} (e : TypeId) (l : List (Option Addr × Nat × List UInt8)) (h : ∀ x ∈ l, Rd w w.heap.size x.1 x.2.1 x.2.2) :
    Rds (w.alloc (.cells (l.map fun x => Value.slice x.1 x.2.2.length x.2.1).toArray e)) (w.alloc (.cells (l.map fun x => Value.slice x.1 x.2.2.length x.2.1).toArray e)).heap.size (some ⟨w.heap.size, 0, none⟩) l.length (l.map fun x => x.2.2) := by
  have ha := (Below.refl w.heap.size w).alloc (Nat.le_refl _) (.cells (l.map fun x => Value.slice x.1 x.2.2.length x.2.1).toArray e)
  refine ⟨by simp, fun h => (nomatch h), fun _ => ⟨w.heap.size, 0, rfl, by simp, fun k hk => ?_⟩⟩
  have hk' : k < l.length := by simpa using hk
  refine ⟨l[k].1, l[k].2.1, ?_, ?_⟩
  · have hq := (MapKept.heap_alloc w (.cells (l.map fun x => Value.slice x.1 x.2.2.length x.2.1).toArray e)).1
    unfold World.cell?
    simp only [hq, Nat.zero_add]
    simp [hk', row_get hk]
  · rw [row_get hk]
    have := ((h l[k] (List.getElem_mem hk')).keep ha).mono ha.size
    simpa using this
theorem TabR.type {w : World} {F S : Nat → Prop} {T : Nat} {L : List Trm} {D I : Nat} {c : Array Value} (h : TabR w F S T L D) (hI : w.heap[I]? = some (.cells c 54)) : ¬ F I ∧ ¬ S I := by
  obtain ⟨M, A, c, clk, es, X, H, e, hF, hS⟩ := h
  refine ⟨fun hf => ?_, fun hs => ?_⟩
  · rcases (hF I).1 hf with e | e | ⟨ad, ea, e⟩
    · have := H.table; rw [← e, hI] at this; simp at this
    · have := H.map; rw [← e, hI] at this; cases this
    · obtain ⟨cs, hc⟩ := rows_block H.rows ad ea
      rw [e, hI] at hc; simp at hc
  · obtain ⟨x, hx, e⟩ := (hS I).1 hs
    have := H.parts x hx
    rw [e, hI] at this; simp at this
/-- What a table is told, an ideal suite over it is told. -/
theorem told_up {w wv w' : World} {F F0 S : Nat → Prop} {I T : Nat} {L L' : List Trm} {D D' c : Nat} {A : Option Addr} {ans : List UInt8} (hI : w.heap[I]? = some (.cells #[ptB T] 54)) (hF : ∀ k, F k ↔ k = I ∨ F0 k) (h0 : TabR w F0 S T L D)
    (ho : OutF F0 w wv) (ht : ToldT wv F0 S T L' D' A c ans w') : Told IdR w F S (ptB I) L' D' A c ans w' := by
  obtain ⟨own, ho2, F5, S5, hR, h1, h2, h3⟩ := ht
  have hn := (h0.type hI).1
  have hlt := w_lt hI
  have hIv : wv.heap[I]? = some (.cells #[ptB T] 54) := (ho.block I hlt hn).trans hI
  have hI' : w'.heap[I]? = some (.cells #[ptB T] 54) := (ho2.block I (w_lt hIv) hn).trans hIv
  refine ⟨own.mono ho.size, ⟨ho2.os.trans ho.os, ho2.tape.trans ho.tape, ho2.output.trans ho.output, Nat.le_trans ho.size ho2.size, fun k hk hf => ?_⟩, fun k => k = I ∨ F5 k, S5, ⟨I, T, F5, rfl, hI', hR, fun _ => Iff.rfl⟩, fun k hk => ?_, fun k hk => (h2 k hk).imp id fun h => Nat.le_trans ho.size h, fun ad ea => ⟨fun hq => ?_, (h3 ad ea).2⟩⟩
  · have hf0 : ¬ F0 k := fun q => hf ((hF k).2 (.inr q))
    exact (ho2.block k (Nat.lt_of_lt_of_le hk ho.size) hf0).trans (ho.block k hk hf0)
  · rcases hk with e | hk
    · exact .inl ((hF k).2 (.inl e))
    · rcases h1 k hk with h | h
      · exact .inl ((hF k).2 (.inr h))
      · exact .inr (Nat.le_trans ho.size h)
  · rcases hq with e | hq
    · have := own_ge own ad ea
      have := w_lt hIv
      omega
    · exact (h3 ad ea).1 hq
theorem ic_cell {w : World} {I T : Nat} (h : w.heap[I]? = some (.cells #[ptB T] 54)) : w.cell? ⟨I, 0, none⟩ = some (ptB T) := by simp [World.cell?, h]
theorem made_any {F S : Nat → Prop} {p : Value} {L : List Trm} {D : Nat} (w : World) (h : IdR w F S p L D) : Calls Try.prog 37 #[p] w fun e w' => e = .returned (.bool true) ∧ Below w.heap.size w w' := by
  obtain ⟨I, T, F0, rfl, hI, hT, hF⟩ := h
  have c0 := ic_cell hI
  go_enter Try.func37, Try.ntmps37
  go_wp2_with fail
  go_ret
  exact ⟨rfl, Below.refl _ _⟩
theorem IdR.next {F S : Nat → Prop} {p : Value} {L : List Trm} {D : Nat} {w w' : World} (h : IdR w F S p L D) (hb : Below w.heap.size w w') : IdR w' F S p L D := h.keep fun k hk => hb.block k (h.lt k hk)
theorem new_any (w : World) : Calls Try.prog 9 #[] w fun x w' => ∃ p F S, x = .returned p ∧ IdR w' F S p [] 0 ∧ (∀ k, F k ∨ S k → w.heap.size ≤ k) ∧ Below w.heap.size w w' := by
  obtain ⟨w1, ew1⟩ : ∃ v, v = w.alloc (.map #[] 0) := ⟨_, rfl⟩
  have hmk : (Instr.makeMap 60 none).run Try.prog w = .ok (.map (some w.heap.size)) w1 := by rw [ew1]; rfl
  have h1 : w1.heap[w.heap.size]? = some (mapV strV ([] : List EntS) 0) := by rw [ew1]; exact (MapKept.heap_alloc w (.map #[] 0)).1
  have hb1 : Below w.heap.size w w1 := by rw [ew1]; exact (Below.refl _ _).alloc (Nat.le_refl _) _
  have HW := Lib.hid (And.intro h1 hb1)
  clear h1 hb1 ew1
  go_enter Try.func9, Try.ntmps9
  go_wp2_with fail
  go_ret
  obtain ⟨h1, hb1⟩ := HW.out
  generalize hT : (Obj.cells #[.slice none 0 0, .map (some w.heap.size), .int .i64 0] 63) = oT
  have a1 := MapKept.heap_alloc w1 oT
  have a2 := MapKept.heap_alloc (w1.alloc oT) (.cells #[ptB w1.heap.size] 54)
  have b1 := (Below.refl w1.heap.size w1).alloc (Nat.le_refl _) oT
  have b2 := (Below.refl (w1.alloc oT).heap.size (w1.alloc oT)).alloc (Nat.le_refl _) (.cells #[ptB w1.heap.size] 54)
  have e2 : (w1.alloc oT).heap.size = w1.heap.size + 1 := by simp
  rw [e2] at a2
  have hR : TabR ((w1.alloc oT).alloc (.cells #[ptB w1.heap.size] 54)) (fun k => k = w1.heap.size ∨ k = w.heap.size ∨ ∃ ad, (none : Option Addr) = some ad ∧ ad.block = k) (fun k => ∃ x ∈ ([] : List TrmB), x.2 = k) w1.heap.size [] 0 := by
    refine ⟨w.heap.size, none, 0, 0, [], [], ⟨?_, OwnR.nothing _ _ _ _, ?_, fun u _ => rfl, fun x hx => (nomatch hx), fun x hx => (nomatch hx), List.nodup_nil⟩, rfl, fun _ => Iff.rfl, fun _ => Iff.rfl⟩
    · rw [a2.2 w1.heap.size (by omega), a1.1, ← hT]; rfl
    · have h9 := w_lt h1
      rw [a2.2 w.heap.size (by omega), a1.2 w.heap.size (by omega)]; exact h1
  refine ⟨ptB (w1.heap.size + 1), fun k => k = w1.heap.size + 1 ∨ (k = w1.heap.size ∨ k = w.heap.size ∨ ∃ ad, (none : Option Addr) = some ad ∧ ad.block = k), _, rfl, ⟨w1.heap.size + 1, w1.heap.size, _, rfl, a2.1, hR, fun _ => Iff.rfl⟩, fun k hk => ?_, (hb1.trans (b1.mono hb1.size)).trans (b2.mono (by have := hb1.size; omega))⟩
  have h9 := hb1.size
  rcases hk with (e | e | e | ⟨ad, ea, _⟩) | ⟨x, hx, _⟩
  · omega
  · omega
  · omega
  · cases ea
  · cases hx
/-- A question that is answered by nothing. -/
theorem told_none {F S : Nat → Prop} {p : Value} {L : List Trm} {D : Nat} {w w' : World} (h : IdR w F S p L D) (hb : Below w.heap.size w w') : Told IdR w F S p L D none 0 [] w' :=
  ⟨World.ownsRow_nil _ _ _ _, OutF.of hb, F, S, h.next hb, fun _ h => .inl h, fun _ h => .inl h, fun ad ea => by cases ea⟩
theorem called_32 {t : Trm} (h1 : t.kind ≠ 103) (h2 : t.kind ≠ 98) : sizeT t = 32 := by unfold sizeT; rw [if_neg h1, if_neg h2]
set_option maxHeartbeats 800000 in
theorem keyed_any {F S : Nat → Prop} {p : Value} {L : List Trm} {D c : Nat} {A : Option Addr} {k : UInt8} {P : List (List UInt8)} (w : World) (h : IdR w F S p L D) (hr : Rds w w.heap.size A c P) (ht : okT ⟨k, P⟩) (hL : L.length ≤ 1000000) :
    AskQ IdR 41 #[p, .int .u8 (k.toNat : Int), .slice A P.length c] w F S p (knowK L ⟨k, P⟩) D (ansK L ⟨k, P⟩) := by
  obtain ⟨I, T, F0, rfl, hI, hT, hF⟩ := id h
  have c0 := ic_cell hI
  have hP : 0 < P.length := by
    have := ht.ar
    unfold arT at this
    dsimp only at this
    split at this <;> (try split at this) <;> omega
  obtain ⟨b, o, rfl, hb, Ak, ck, hc, hk⟩ := hr.at_ hP
  rw [Nat.add_zero] at hc
  have HM := Lib.hid (made_any w h)
  have HN := Lib.hid (fun v (hv : Below w.heap.size w v) => name_any v (hT.keep fun q hq => hv.block q (hT.lt q hq)) (hr.next hv) ht hL)
  have HU := Lib.hid (And.intro hI (And.intro hF (And.intro hT h)))
  have HC := Lib.hid (fun v (hv : Below w.heap.size w v) => (hv.cell (p := ⟨I, 0, none⟩) (w_lt hI)).trans c0)
  have HC2 := Lib.hid (fun v (hv : Below w.heap.size w v) => (hv.cell (p := ⟨b, o, none⟩) hb).trans hc)
  obtain ⟨n, en⟩ : ∃ n, n = P.length := ⟨_, rfl⟩
  have HN2 := Lib.hid en
  obtain ⟨m, em⟩ : ∃ n, n = (row P 0).length := ⟨_, rfl⟩
  have HM2 := Lib.hid em
  rw [← em] at HC2
  rw [← en] at hP ⊢
  clear h hI hT hF c0 hr ht hc hk em en hL
  go_enter Try.func41, Try.ntmps41
  go_wp2_with fail
  go_at_call 37
  refine HM.out.mono ?_
  rintro e v ⟨rfl, hv⟩
  have cI := HC.out v hv
  have cP := HC2.out v hv
  have HV := Lib.hid hv
  clear hv HC HC2 HM
  by_cases h32 : m = 32
  · have g1 : ((m : Int) != 32) = false := by rw [h32]; rfl
    have HK := Lib.hid (And.intro (show knowK L ⟨k, P⟩ = knowT L ⟨k, P⟩ from if_pos (by rw [← HM2.out]; exact h32)) (show ansK L ⟨k, P⟩ = calledT ⟨k, P⟩ (numT L ⟨k, P⟩) from if_pos (by rw [← HM2.out]; exact h32)))
    clear h32
    go_wp2_with fail
    rw [HN2.out]
    refine (HN.out v HV.out).mono ?_
    rintro e w2 ⟨Aq, cq, rfl, ht⟩
    have H2 := Lib.hid ht
    clear ht
    go_wp2_with fail
    go_ret
    rw [HK.out.1, HK.out.2]
    refine ⟨Aq, cq, by rw [calledT_len]; rfl, told_up HU.out.1 HU.out.2.1 HU.out.2.2.1 (OutF.of HV.out) H2.out⟩
  · have g1 : ((m : Int) != 32) = true := by simp; omega
    have HK := Lib.hid (And.intro (show knowK L ⟨k, P⟩ = L from if_neg (by rw [← HM2.out]; exact h32)) (show ansK L ⟨k, P⟩ = [] from if_neg (by rw [← HM2.out]; exact h32)))
    clear h32
    go_wp2_with fail
    go_ret
    rw [HK.out.1, HK.out.2]
    exact ⟨none, 0, rfl, told_none HU.out.2.2.2 HV.out⟩
end Go.Proofs.Ytdddcgkgellbgab
