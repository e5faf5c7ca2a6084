/-
  Layer 16, the landed code: slices.Insert of one mark. By an AI agent. Layer 16, the landed code: slices.Insert of one mark, walked. By an AI agent. Layer 16, the landed Add. By an AI agent.
-/
import Derived.Test.YtpjeggbkhbghaaaTS
import Derived.Test.YtpjeggbkhbghaaaTQ
import Derived.Shelf.Spec.SlicesInsert
import Derived.Lib.AppendZerosOnto
import Derived.Lib.Overlaps
import Derived.Laws.NewBlocks
import Derived.Test.YtpjeggbkhbghaaaPar
namespace Go.Proofs.Ytpjeggbkhbghaaa
open Go Go.RowKit
set_option maxRecDepth 20000
/-- copy between rows of elements of so many cells: all is read before anything is written. -/
theorem run_copy_k {P : Program} (w : World) (dT sT ty elem : TypeId) (k b o dLen dCap : Nat) (a : Addr) (sLen sCap m : Nat) (cs : List Value)
    (hu : P.underlying dT = some (.slice elem)) (hs : (P.info? elem).map (·.size) = some k) (hm : Nat.min sLen dLen = m) (hn : cs.length = m * k)
    (hsrc : ∀ j v, cs[j]? = some v → w.cell? (a.add j) = some v) (hc : ∀ j, j < cs.length → (w.cell? ⟨b, o + j, none⟩).isSome = true) (hf : ∀ j, j < cs.length → w.frozen? ⟨b, o + j, none⟩ = false) (h1 : ∀ v ∈ cs, v.oneCell' = true) :
    (Builtin.copy_ #[dT, sT] ty #[.slice (some ⟨b, o, none⟩) dLen dCap, .slice (some a) sLen sCap]).run P w = .ok (goInt m) (w.setCells b o cs) := by
  have hl := run_loadCells_list (P := P) w a cs hsrc
  have hst := run_storeCells_cells (P := P) b o cs 0 w (by simpa using hc) (by simpa using hf) h1
  cases hq : P.info? elem with
  | none => simp [hq] at hs
  | some i =>
    have hi : i.size = k := by simpa [hq] using hs
    simp [Builtin.copy_, run_underlying hu, Builtin.lenOf, Builtin.firstCells, sizeOf, typeInfo, hq, hi, hm, ← hn, hl, hst]
/-- Three pieces make a list. -/
theorem splice_eq {zs T V D : List Value} (hl : zs.length = T.length + (V.length + D.length)) (h1 : ∀ k, k < T.length → zs[k]? = T[k]?) (h2 : ∀ k, k < V.length → zs[T.length + k]? = V[k]?) (h3 : ∀ k, k < D.length → zs[T.length + V.length + k]? = D[k]?) : zs = T ++ (V ++ D) := by
  refine List.ext_getElem? fun k => ?_
  by_cases a : k < T.length
  · rw [h1 k a, List.getElem?_append_left a]
  · rw [List.getElem?_append_right (by omega)]
    by_cases b : k < T.length + V.length
    · rw [List.getElem?_append_left (by omega), ← h2 (k - T.length) (by omega), show T.length + (k - T.length) = k by omega]
    · rw [List.getElem?_append_right (by omega)]
      by_cases c : k < T.length + V.length + D.length
      · rw [← h3 (k - T.length - V.length) (by omega), show T.length + V.length + (k - T.length - V.length) = k by omega]
      · rw [List.getElem?_eq_none (by omega), List.getElem?_eq_none (by omega)]
/-- A row with room for one more is a row of one more. -/
theorem ownsRow_more {w : World} {B c n g size : Nat} {e : TypeId} {xs : List Value} (h : w.ownsRow B e size (.slice (some ⟨g, 0, none⟩) n c) n xs) (hr : n + 1 ≤ c) : ∃ ys, w.ownsRow B e size (.slice (some ⟨g, 0, none⟩) (n + 1) c) (n + 1) (xs ++ ys) := by
  obtain ⟨hl, h2⟩ := h
  rcases h2 with ⟨hv, _⟩ | ⟨g2, cap, cur, hv, hB, hh, hn, hm, hs, ht⟩
  · simp only [Value.slice.injEq] at hv
    exact absurd hv.1 (by simp)
  · simp only [Value.slice.injEq, Option.some.injEq, Addr.mk.injEq, and_true, true_and] at hv
    obtain ⟨rfl, rfl⟩ := hv
    have hle : (n + 1) * size ≤ cur.toList.length := by rw [Array.length_toList, hs]; exact Nat.mul_le_mul_right _ hr
    refine ⟨(cur.toList.drop (n * size)).take size, ?_, .inr ⟨g, c, cur, rfl, hB, hh, hr, hm, hs, ?_⟩⟩
    · rw [List.length_append, hl, List.length_take, List.length_drop, Nat.succ_mul]
      rw [Nat.succ_mul] at hle
      omega
    · rw [← ht, Nat.succ_mul, List.take_add]
theorem own_cells {w : World} {B c g : Nat} {e : TypeId} {L : List Mrk} (h : OwnR mrkE w B e (some ⟨g, 0, none⟩) c L) : ∀ k, k < c * 10 → (w.cell? ⟨g, k, none⟩).isSome = true := by
  obtain ⟨hl, h2⟩ := h
  rcases h2 with ⟨hv, _⟩ | ⟨g2, cap, cur, hv, hB, hh, hn, hm, hs, ht⟩
  · simp only [Value.slice.injEq] at hv
    exact absurd hv.1 (by simp)
  · simp only [Value.slice.injEq, Option.some.injEq, Addr.mk.injEq, and_true, true_and] at hv
    obtain ⟨rfl, rfl⟩ := hv
    intro k hk
    rw [cell_of_row w g k cur e (0, 0) hh]
    have : k < cur.size := by rw [hs]; exact hk
    simp [this]
theorem setsOut (g : Nat) : ∀ (vs : List Value) (o : Nat) (w : World), OutF (fun k => k = g) w (w.setCells g o vs)
  | [], _, w => ⟨rfl, rfl, rfl, Nat.le_refl _, fun _ _ _ => rfl⟩
  | v :: r, o, w => by
    have h := setsOut g r (o + 1) (w.setCell ⟨g, o, none⟩ v)
    have hb := (Below.refl 0 w).setCell (p := ⟨g, o, none⟩) (Nat.zero_le _) v
    exact ⟨h.os.trans hb.os, h.tape.trans hb.tape, h.output.trans hb.output, Nat.le_trans hb.size h.size, fun k hk hn => (h.block k (Nat.lt_of_lt_of_le hk hb.size) hn).trans (Below.heap_setCell w ⟨g, o, none⟩ v k hn)⟩
theorem isSome_sets (b : Nat) (vs : List Value) (o : Nat) (w : World) (h : ∀ j, j < vs.length → (w.cell? ⟨b, o + j, none⟩).isSome = true) (k : Nat) (hk : (w.cell? ⟨b, k, none⟩).isSome = true) : ((w.setCells b o vs).cell? ⟨b, k, none⟩).isSome = true := by
  by_cases hin : o ≤ k ∧ k < o + vs.length
  · have := World.cell?_setCells_in b vs o w h (k - o) (by omega)
    rw [show o + (k - o) = k by omega] at this
    rw [this]; rfl
  · rw [World.cell?_setCells_out b vs o w ⟨b, k, none⟩ (fun _ _ => by show k < o ∨ o + vs.length ≤ k; omega)]
    exact hk
abbrev insL (L : List Mrk) (i : Nat) (m : Mrk) : List Mrk := L.take i ++ m :: L.drop i
theorem insL_all (L : List Mrk) (i : Nat) (m : Mrk) : mrkE.all (insL L i m) = mrkE.all (L.take i) ++ (mrkE.enc m ++ mrkE.all (L.drop i)) := by
  rw [mrkE.all_app]
  rfl
theorem all_take (L : List Mrk) {i : Nat} (hi : i ≤ L.length) : mrkE.all (L.take i) = (mrkE.all L).take (i * 10) := by
  have h : mrkE.all L = mrkE.all (L.take i) ++ mrkE.all (L.drop i) := by rw [← mrkE.all_app, List.take_append_drop]
  have hl : (mrkE.all (L.take i)).length = i * 10 := by rw [mrkE.all_len, List.length_take, Nat.min_eq_left hi]; rfl
  rw [h, ← hl, List.take_left]
theorem all_drop (L : List Mrk) {i : Nat} (hi : i ≤ L.length) : mrkE.all (L.drop i) = (mrkE.all L).drop (i * 10) := by
  have h : mrkE.all L = mrkE.all (L.take i) ++ mrkE.all (L.drop i) := by rw [← mrkE.all_app, List.take_append_drop]
  have hl : (mrkE.all (L.take i)).length = i * 10 := by rw [mrkE.all_len, List.length_take, Nat.min_eq_left hi]; rfl
  rw [h, ← hl, List.drop_left]
/-- A row into which both pieces were written is the longer list's. -/
theorem own_spliced {w2 : World} {c g n i : Nat} {L : List Mrk} {m : Mrk} {xs zs : List Value} (hn : L.length = n) (hi : i ≤ n) (hx : xs.length = (n + 1) * 10) (hxl : ∀ k, k < i * 10 → xs[k]? = (mrkE.all L)[k]?)
    (o : w2.ownsRow 0 31 10 (.slice (some ⟨g, 0, none⟩) (n + 1) c) (n + 1) zs) (hl : zs.length = xs.length) (h1 : ∀ k, k < i * 10 → zs[k]? = xs[k]?) (h2 : ∀ k, k < 10 → zs[i * 10 + k]? = (mrkE.enc m)[k]?) (h3 : ∀ k, k < (n - i) * 10 → zs[(i + 1) * 10 + k]? = (mrkE.all (L.drop i))[k]?) :
    OwnR mrkE w2 0 31 (some ⟨g, 0, none⟩) c (insL L i m) := by
  have e : zs = mrkE.all (insL L i m) := by
    rw [insL_all]
    have t1 : (mrkE.all (L.take i)).length = i * 10 := by rw [mrkE.all_len, List.length_take, hn, Nat.min_eq_left hi]; rfl
    have t2 : (mrkE.enc m).length = 10 := mrkE.len m
    have t3 : (mrkE.all (L.drop i)).length = (n - i) * 10 := by rw [mrkE.all_len, List.length_drop, hn]; rfl
    refine splice_eq (by rw [hl, hx, t1, t2, t3]; omega) (fun k hk => ?_) (fun k hk => ?_) (fun k hk => ?_)
    · rw [t1] at hk
      rw [h1 k hk, hxl k hk, all_take L (by omega), List.getElem?_take, if_pos hk]
    · rw [t1]; exact h2 k (by rwa [t2] at hk)
    · rw [t1, t2, show i * 10 + 10 = (i + 1) * 10 by omega]; exact h3 k (by rwa [t3] at hk)
  have hlen : (insL L i m).length = n + 1 := by
    show (L.take i ++ m :: L.drop i).length = _
    rw [List.length_append, List.length_cons, List.length_take, List.length_drop]
    omega
  unfold OwnR
  rw [hlen, ← e]
  exact o
end Go.Proofs.Ytpjeggbkhbghaaa
namespace Go.Proofs.Ytpjeggbkhbghaaa
open Go Go.RowKit
set_option maxRecDepth 20000
abbrev InsPost (L : List Mrk) (A : Option Addr) (n i : Nat) (m : Mrk) (w : World) : Ending → World → Prop := fun e w' => ∃ A' c', e = .returned (.slice A' (n + 1) c') ∧ OwnR mrkE w' 0 31 A' c' (insL L i m) ∧ OutF (fun k => ∃ ad, A = some ad ∧ ad.block = k) w w' ∧ (∀ ad', A' = some ad' → (∃ ad, A = some ad ∧ ad.block = ad'.block) ∨ w.heap.size ≤ ad'.block)
theorem outf_of_grown {A : Option Addr} {w w' : World} (h : ∀ c n, w.grownBy w' (Value.slice A n c).ownBlock) : OutF (fun k => ∃ ad, A = some ad ∧ ad.block = k) w w' := by
  have h := h 0 0
  refine ⟨h.os, h.tape, h.output, h.size, fun k hk hn => h.block k hk fun e => hn ?_⟩
  cases A with
  | none => simp [Value.ownBlock] at e
  | some ad => simp only [Value.ownBlock, Option.some.injEq] at e; exact ⟨ad, rfl, e.symm⟩
set_option maxHeartbeats 1600000 in
theorem insert_end {A : Option Addr} {c n gv Bv : Nat} {L : List Mrk} {m : Mrk} (w : World) (o : OwnR mrkE w 0 31 A c L) (hn : L.length = n) (hl : n ≤ 600) (ov : OwnR mrkE w Bv 31 (some ⟨gv, 0, none⟩) 1 [m]) :
    Calls Try.prog 42 #[.slice A n c, .int .i64 (n : Int), .slice (some ⟨gv, 0, none⟩) 1 1] w (InsPost L A n n m w) := by
  obtain ⟨i0, hi0, hz0, hz1, hz2⟩ := info_parts infoMrk
  have HI := Lib.hid (And.intro hi0 (And.intro hz0 (And.intro hz1 hz2)))
  have hnc := o.rd.cap
  rw [hn] at hnc
  have hnc' : (n : Int) ≤ (c : Int) := by omega
  have HIL := Lib.hid (show L ++ [m] = insL L n m by show _ = L.take n ++ m :: L.drop n; rw [← hn, List.take_length, List.drop_length])
  have HO := Lib.hid (And.intro o (And.intro ov.rd hn))
  have HLN := Lib.hid (show n + 1 ≤ 140737488355328 ∧ (n + 1) * 80 ≤ 140737488355328 by omega)
  have hbase : ∃ b, A = none ∧ c = 0 ∧ n = 0 ∨ A = some ⟨b, 0, none⟩ := by
    obtain ⟨hl0, h2⟩ := o
    rcases h2 with ⟨hv, h0⟩ | ⟨g2, cap, cur, hv, _⟩
    · simp only [Value.slice.injEq] at hv
      exact ⟨0, .inl ⟨hv.1, hv.2.2, by omega⟩⟩
    · simp only [Value.slice.injEq] at hv
      exact ⟨g2, .inr hv.1⟩
  clear o ov hn hi0 hz0 hz1 hz2
  obtain ⟨b, hA⟩ := hbase
  rcases hA with ⟨rfl, rfl, rfl⟩ | rfl
  · go_enter Try.func42, Try.ntmps42
    go_wp2_with (at_builtin; refine wpList_appR w rfl (.tmp 23) (.tmp 24) _ rfl 0 31 i0 _ Try.underlying22 HI.out.1 HI.out.2.1 HI.out.2.2.1 HI.out.2.2.2 rfl HO.out.2.2 rfl HO.out.1 (M := [m]) rfl rfl HO.out.2.1 HLN.out.1 HLN.out.2 (Nat.zero_le _) ?_; intro A8 c8 w8 o8 hb8 hg8; have HW := Lib.hid (And.intro o8 hg8); clear o8 hb8 hg8)
    go_ret
    exact ⟨A8, c8, rfl, by rw [← HIL.out]; exact HW.out.1, outf_of_grown HW.out.2.1, fun ad' e => (HW.out.2.2 ad' e).imp id fun h => by rw [h]; exact Nat.le_refl _⟩
  · by_cases hcn : c = n
    · subst hcn
      go_enter Try.func42, Try.ntmps42
      go_wp2_with (at_builtin; refine wpList_appR w rfl (.tmp 23) (.tmp 24) _ rfl 0 31 i0 _ Try.underlying22 HI.out.1 HI.out.2.1 HI.out.2.2.1 HI.out.2.2.2 rfl HO.out.2.2 rfl HO.out.1 (M := [m]) rfl rfl HO.out.2.1 HLN.out.1 HLN.out.2 (Nat.zero_le _) ?_; intro A8 c8 w8 o8 hb8 hg8; have HW := Lib.hid (And.intro o8 hg8); clear o8 hb8 hg8)
      go_ret
      exact ⟨A8, c8, rfl, by rw [← HIL.out]; exact HW.out.1, outf_of_grown HW.out.2.1, fun ad' e => (HW.out.2.2 ad' e).imp id fun h => by rw [h]; exact Nat.le_refl _⟩
    · go_enter Try.func42, Try.ntmps42
      go_wp2_with (at_builtin; refine wpList_appR w rfl (.tmp 23) (.tmp 24) _ rfl 0 31 i0 _ Try.underlying22 HI.out.1 HI.out.2.1 HI.out.2.2.1 HI.out.2.2.2 rfl HO.out.2.2 rfl HO.out.1 (M := [m]) rfl rfl HO.out.2.1 HLN.out.1 HLN.out.2 (Nat.zero_le _) ?_; intro A8 c8 w8 o8 hb8 hg8; have HW := Lib.hid (And.intro o8 hg8); clear o8 hb8 hg8)
      go_ret
      exact ⟨A8, c8, rfl, by rw [← HIL.out]; exact HW.out.1, outf_of_grown HW.out.2.1, fun ad' e => (HW.out.2.2 ad' e).imp id fun h => by rw [h]; exact Nat.le_refl _⟩
set_option maxHeartbeats 6400000 in
theorem insert_shift {g c n i gv Bv : Nat} {L : List Mrk} {m : Mrk} (w : World) (o : OwnR mrkE w 0 31 (some ⟨g, 0, none⟩) c L) (hn : L.length = n) (hl : n ≤ 600) (hi : i < n) (hr : n + 1 ≤ c) (ov : OwnR mrkE w Bv 31 (some ⟨gv, 0, none⟩) 1 [m]) (hne : gv ≠ g) :
    Calls Try.prog 42 #[.slice (some ⟨g, 0, none⟩) n c, .int .i64 (i : Int), .slice (some ⟨gv, 0, none⟩) 1 1] w (InsPost L (some ⟨g, 0, none⟩) n i m w) := by
  have hu := Try.underlying22
  have hsz : (Try.prog.info? 31).map (·.size) = some 10 := by kernel_rfl
  have hcm : c ≤ 9223372036854775807 := by
    obtain ⟨_, h2⟩ := o
    rcases h2 with ⟨hv, _⟩ | ⟨g2, cap, cur, hv, _, _, _, hm, _⟩
    · simp only [Value.slice.injEq] at hv
      exact absurd hv.1 (by simp)
    · simp only [Value.slice.injEq, true_and] at hv
      rw [hv.2]
      unfold maxLen at hm
      omega
  obtain ⟨curg, hcg⟩ : ∃ cur, w.heap[g]? = some (.cells cur 31 (0, 0)) ∧ cur.size = c * 10 := by
    obtain ⟨_, h2⟩ := o
    rcases h2 with ⟨hv, _⟩ | ⟨g2, cap, cur, hv, _, hh, _, _, hs, _⟩
    · simp only [Value.slice.injEq] at hv
      exact absurd hv.1 (by simp)
    · simp only [Value.slice.injEq, Option.some.injEq, Addr.mk.injEq, and_true, true_and] at hv
      obtain ⟨rfl, rfl⟩ := hv
      exact ⟨cur, hh, hs⟩
  obtain ⟨curv, hcv⟩ : ∃ cur, w.heap[gv]? = some (.cells cur 31 (0, 0)) ∧ cur.size = 1 * 10 := by
    obtain ⟨_, h2⟩ := ov
    rcases h2 with ⟨hv, _⟩ | ⟨g2, cap, cur, hv, _, hh, _, _, hs, _⟩
    · simp only [Value.slice.injEq] at hv
      exact absurd hv.1 (by simp)
    · simp only [Value.slice.injEq, Option.some.injEq, Addr.mk.injEq, and_true, true_and] at hv
      obtain ⟨rfl, rfl⟩ := hv
      exact ⟨cur, hh, hs⟩
  have hfv := fun k => ov.free10 k
  have hov : ∀ lb cb, (callFunc 63 #[.slice (some ⟨gv, 0, none⟩) 1 1, .slice (some ⟨g, (i + 1) * 10, none⟩) lb cb]).run Try.prog w = .ok (.value (.bool false)) w := fun lb cb => by
    rw [run_callFunc_extern Try.func63 (by kernel_rfl) (by kernel_rfl) (by kernel_rfl) (e := Extern.SlicesOverlaps.overlaps #[22, 22] #[4]) (by kernel_rfl),
      Lib.run_overlaps_apart w 22 4 31 hu 10 Try.sizeOf31 ⟨gv, 0, none⟩ ⟨g, (i + 1) * 10, none⟩ 1 1 lb cb hne 31 31 10 (c * 10) (by simp [World.shape?, hcv.1, hcv.2]) (by simp [World.shape?, hcg.1, hcg.2]) (by omega) (hfv 0) (hfv 10)]
    rfl
  have hDl : (mrkE.all (L.drop i)).length = (n - i) * 10 := by rw [mrkE.all_len, List.length_drop, hn]; rfl
  have hVl : (mrkE.enc m).length = 10 := mrkE.len m
  have hcells := own_cells o
  have hfg := fun k => o.free10 k
  have hread : ∀ j v, (mrkE.all (L.drop i))[j]? = some v → w.cell? ⟨g, i * 10 + j, none⟩ = some v := fun j v hj => by
    obtain ⟨b, o2, e2, _, hc⟩ := o.rd.some_ (by rintro rfl; simp at hn; omega)
    simp only [Option.some.injEq, Addr.mk.injEq, and_true] at e2
    obtain ⟨rfl, rfl⟩ := e2
    have := hc (i * 10 + j) v (by rw [all_drop L (by omega), List.getElem?_drop] at hj; exact hj)
    rwa [Nat.zero_add] at this
  have hreadv : ∀ j v, (mrkE.enc m)[j]? = some v → w.cell? ⟨gv, 0 + j, none⟩ = some v := fun j v hj => by
    obtain ⟨b, o2, e2, _, hc⟩ := ov.rd.some_ (by simp)
    simp only [Option.some.injEq, Addr.mk.injEq, and_true] at e2
    obtain ⟨rfl, rfl⟩ := e2
    exact hc j v (by simpa [Enc.all] using hj)
  obtain ⟨D, eD⟩ : ∃ D, D = mrkE.all (L.drop i) := ⟨_, rfl⟩
  obtain ⟨V, eV⟩ : ∃ V, V = mrkE.enc m := ⟨_, rfl⟩
  have h1D : ∀ v ∈ D, v.oneCell' = true := by rw [eD]; exact mrkE.all_one _
  have h1V : ∀ v ∈ V, v.oneCell' = true := by rw [eV]; exact mrkE.one m
  rw [← eD] at hDl hread
  rw [← eV] at hVl hreadv
  obtain ⟨W1, hW1⟩ : ∃ W1, W1 = w.drew.setCells g ((i + 1) * 10) D := ⟨_, rfl⟩
  obtain ⟨W2, hW2⟩ : ∃ W2, W2 = W1.setCells g (i * 10) V := ⟨_, rfl⟩
  have hcp1 : ∀ ty dl dc sl sc, Nat.min sl dl = n - i → (Builtin.copy_ #[22, 22] ty #[.slice (some ⟨g, (i + 1) * 10, none⟩) dl dc, .slice (some ⟨g, i * 10, none⟩) sl sc]).run Try.prog w.drew = .ok (goInt ((n - i : Nat) : Int)) W1 := fun ty dl dc sl sc hmin => by
    rw [hW1]
    exact run_copy_k w.drew 22 22 ty 31 10 g ((i + 1) * 10) dl dc ⟨g, i * 10, none⟩ sl sc (n - i) D hu hsz hmin hDl
      (fun j v hj => by rw [Addr.add_lit]; exact hread j v hj)
      (fun j hj => hcells _ (by omega)) (fun j _ => hfg _) h1D
  have hsp1 : ∀ k, k < c * 10 → (W1.cell? ⟨g, k, none⟩).isSome = true := fun k hk => by
    rw [hW1]
    exact isSome_sets g D _ w.drew (fun j hj => hcells _ (by omega)) k (hcells k hk)
  have hcp2 : ∀ (W : World), (∀ x, W.cell? x = W1.cell? x) → (∀ x, W.frozen? x = W1.frozen? x) → ∀ ty dc, (Builtin.copy_ #[22, 22] ty #[.slice (some ⟨g, i * 10, none⟩) (n + 1 - i) dc, .slice (some ⟨gv, 0, none⟩) 1 1]).run Try.prog W = .ok (goInt 1) (W.setCells g (i * 10) V) := fun W hWc hWf ty dc =>
    run_copy_k W 22 22 ty 31 10 g (i * 10) (n + 1 - i) dc ⟨gv, 0, none⟩ 1 1 1 V hu hsz (by simp only [Nat.min_def]; split <;> omega) hVl
      (fun j v hj => by
        rw [Addr.add_lit, hWc, hW1, World.cell?_setCells_out g _ _ _ _ (fun h _ => absurd h hne)]
        exact hreadv j v hj)
      (fun j hj => by rw [hWc]; exact hsp1 _ (by omega)) (fun j _ => by rw [hWf, hW1, World.frozen?_setCells]; exact hfg _) h1V
  have HFIN := Lib.hid (show InsPost L (some ⟨g, 0, none⟩) n i m w (.returned (.slice (some ⟨g, 0, none⟩) (n + 1) c)) W2 from by
    obtain ⟨ys, hmore⟩ := ownsRow_more o (by rw [hn]; exact hr)
    rw [hn] at hmore
    have hx : (mrkE.all L ++ ys).length = (n + 1) * 10 := hmore.1
    obtain ⟨z1, a1, a2, a3, a4⟩ := ownsRow_sets16 D ((i + 1) * 10) w.drew _ hmore
    rw [← hW1] at a1
    obtain ⟨z2, b1, b2, b3, b4⟩ := ownsRow_sets16 V (i * 10) W1 _ a1
    rw [← hW2] at b1
    refine ⟨some ⟨g, 0, none⟩, c, rfl, own_spliced hn (Nat.le_of_lt hi) hx (fun k hk => ?_) b1 (b2.trans a2) (fun k hk => ?_) (fun k hk => ?_) (fun k hk => ?_), ?_, fun ad' e => .inl ⟨ad', e, rfl⟩⟩
    · rw [List.getElem?_append_left (by rw [mrkE.all_len, hn]; show k < n * 10; omega)]
    · rw [b4 k (.inl hk), a4 k (.inl (by omega))]
    · rw [← eV]; exact b3 k (by rw [hVl]; exact hk) (by rw [a2, hx]; omega)
    · rw [b4 _ (.inr (by rw [hVl]; omega)), ← eD]
      exact a3 k (by rw [hDl]; exact hk) (by rw [hx]; omega)
    · have q1 := setsOut g D ((i + 1) * 10) w.drew
      have q2 := setsOut g V (i * 10) W1
      rw [← hW1] at q1
      rw [← hW2] at q2
      exact ⟨q2.os.trans q1.os, q2.tape.trans q1.tape, q2.output.trans q1.output, Nat.le_trans q1.size q2.size, fun k hk hnk => by
        have hkg : ¬ k = g := fun e => hnk ⟨_, rfl, e.symm⟩
        exact (q2.block k (Nat.lt_of_lt_of_le hk q1.size) hkg).trans (q1.block k hk hkg)⟩)
  have mixed : Try.prog.follows .mixedOrders = true := by kernel_rfl
  have HCP1 := Lib.hid hcp1
  have HCP2 := Lib.hid hcp2
  have HOV := hov
  have HW2 := Lib.hid hW2
  have hi2 : ¬ ((i : Int) = (n : Int)) := by omega
  have hw1 : IntKind.i64.wrap ((i : Int) + 1) = (i : Int) + 1 := by rw [IntKind.wrap_i64]; omega
  have hw2 : IntKind.i64.wrap ((n : Int) + 1) = (n : Int) + 1 := by rw [IntKind.wrap_i64]; omega
  have hb0 : (i : Int) ≤ (n : Int) := by omega
  have hb1 : (0 : Int) ≤ (i : Int) + 1 := by omega
  have hb2 : ¬ (c = i + 1) := by omega
  have hb3 : (i : Int) ≤ (n : Int) + 1 := by omega
  have hb4 : ¬ (c = i) := by omega
  have hb5 : ¬ ((c : Int) < (n : Int) + 1) := by omega
  have hb6 : (n : Int) + 1 ≤ (c : Int) := by omega
  have hb7 : (i : Int) + 1 ≤ (n : Int) + 1 := by omega
  have htn : ((i : Int) + 1).toNat = i + 1 := by omega
  have htn2 : ((n : Int) + 1).toNat = n + 1 := by omega
  clear o ov hn hcells hfg hread hreadv h1D h1V hcp1 hcp2 hsp1 hfv hcg hcv hDl hVl eD eV hW1 hW2 hne hov hsz hu
  go_enter Try.func42, Try.ntmps42
  go_wp2_with (simp only [HOV])
  go_region_law_o (refine step_copy_runI rfl _ _ 22 22 rfl (.slice (some ⟨g, (i + 1) * 10, none⟩) (n + 1 - (i + 1)) (c - (i + 1))) (.slice (some ⟨g, i * 10, none⟩) (n + 1 - i) (c - i)) (by simp [Act.eval, Act.put]) (by simp [Act.eval, Act.put]) (HCP1.out _ _ _ _ _ (by simp only [Nat.min_def]; split <;> omega)) ?_)
  go_wp2_with (refine wpList_copy_runI W1 rfl _ _ 22 22 rfl (.slice (some ⟨g, i * 10, none⟩) (n + 1 - i) (c - i)) (.slice (some ⟨gv, 0, none⟩) 1 1) rfl rfl (HCP2.out W1 (fun _ => rfl) (fun _ => rfl) _ _) ?_)
  rw [← HW2.out]
  go_ret
  exact HFIN.out
set_option maxHeartbeats 6400000 in
theorem insert_grow {g c n i gv Bv : Nat} {L : List Mrk} {m : Mrk} (w : World) (o : OwnR mrkE w 0 31 (some ⟨g, 0, none⟩) c L) (hn : L.length = n) (hl : n ≤ 600) (hi : i < n) (hr : ¬ n + 1 ≤ c) (ov : OwnR mrkE w Bv 31 (some ⟨gv, 0, none⟩) 1 [m]) :
    Calls Try.prog 42 #[.slice (some ⟨g, 0, none⟩) n c, .int .i64 (i : Int), .slice (some ⟨gv, 0, none⟩) 1 1] w (InsPost L (some ⟨g, 0, none⟩) n i m w) := by
  obtain ⟨i0, hi0, hz0, hzs, hzb⟩ := info_parts infoMrk
  have hu := Try.underlying22
  have hsz : (Try.prog.info? 31).map (·.size) = some 10 := by kernel_rfl
  have hnc := o.rd.cap
  rw [hn] at hnc
  obtain ⟨T, eT⟩ : ∃ T, T = mrkE.all (L.take i) := ⟨_, rfl⟩
  obtain ⟨D, eD⟩ : ∃ D, D = mrkE.all (L.drop i) := ⟨_, rfl⟩
  obtain ⟨V, eV⟩ : ∃ V, V = mrkE.enc m := ⟨_, rfl⟩
  have hTl : T.length = i * 10 := by rw [eT, mrkE.all_len, List.length_take, hn, Nat.min_eq_left (Nat.le_of_lt hi)]; rfl
  have hDl : D.length = (n - i) * 10 := by rw [eD, mrkE.all_len, List.length_drop, hn]; rfl
  have hVl : V.length = 10 := by rw [eV]; exact mrkE.len m
  have h1D : ∀ v ∈ D, v.oneCell' = true := by rw [eD]; exact mrkE.all_one _
  have h1V : ∀ v ∈ V, v.oneCell' = true := by rw [eV]; exact mrkE.one m
  have hcell : ∀ j v, (mrkE.all L)[j]? = some v → w.cell? ⟨g, j, none⟩ = some v := fun j v hj => by
    obtain ⟨b, o2, e2, _, hc⟩ := o.rd.some_ (by rintro rfl; simp at hn; omega)
    simp only [Option.some.injEq, Addr.mk.injEq, and_true] at e2
    obtain ⟨rfl, rfl⟩ := e2
    have := hc j v hj
    rwa [Nat.zero_add] at this
  have hreadD : ∀ j v, D[j]? = some v → w.cell? ⟨g, i * 10 + j, none⟩ = some v := fun j v hj => hcell _ v (by rw [eD, all_drop L (by omega), List.getElem?_drop] at hj; exact hj)
  have hreadT : ∀ j v, T[j]? = some v → w.cell? ⟨g, 0 + j, none⟩ = some v := fun j v hj => by
    rw [eT, all_take L (by omega), List.getElem?_take] at hj
    split at hj
    · rw [Nat.zero_add]; exact hcell j v hj
    · cases hj
  have hreadv : ∀ j v, V[j]? = some v → w.cell? ⟨gv, 0 + j, none⟩ = some v := fun j v hj => by
    obtain ⟨b, o2, e2, _, hc⟩ := ov.rd.some_ (by simp)
    simp only [Option.some.injEq, Addr.mk.injEq, and_true] at e2
    obtain ⟨rfl, rfl⟩ := e2
    exact hc j v (by rw [eV] at hj; simpa [Enc.all] using hj)
  have hgw : g < w.heap.size := (o.blk _ rfl).2
  have hvw : gv < w.heap.size := (ov.blk _ rfl).2
  obtain ⟨N, eN⟩ : ∃ N, N = w.heap.size := ⟨_, rfl⟩
  have hold : (Builtin.firstCells i0.size i (.slice (some ⟨g, 0, none⟩) i c)).run Try.prog w.drew = .ok T.toArray w.drew := by
    rw [hzs]
    exact run_firstCells_some w.drew 10 i ⟨g, 0, none⟩ i c T (by rw [hTl]) (fun j v hj => by rw [Addr.add_lit]; exact hreadT j v hj)
  obtain ⟨G, hG⟩ : ∃ G, G = grownCap w (n + 1) c 31 := ⟨_, rfl⟩
  obtain ⟨zz, hzz⟩ : ∃ z : Value, z = .agg #[.int .i64 0, .int .i64 0, .int .i64 0, .int .i64 0, .bool false, .int .i64 0, .int .i64 0, .bool false, .int .i64 0, .int .i64 0] := ⟨_, rfl⟩
  have hzc : zz.cells.size = 10 := by rw [hzz]; rfl
  rw [← hzz] at hz0
  obtain ⟨ROW, hROW⟩ : ∃ ROW : Array Value, ROW = T.toArray ++ Builtin.zeroCells zz.cells (n + 1 - i) ++ Builtin.zeroCells zz.cells (G - (n + 1)) := ⟨_, rfl⟩
  obtain ⟨W1, hW1⟩ : ∃ W1, W1 = w.drew.alloc (.cells ROW 31) := ⟨_, rfl⟩
  have hik : i + (n + 1 - i) = n + 1 := by omega
  have hrz : ∀ ty, (Builtin.append_ #[22, 3] ty #[.slice (some ⟨g, 0, none⟩) i c, .int .i64 ((n : Int) + 1 - (i : Int))]).run Try.prog w = .ok (.slice (some ⟨N, 0, none⟩) (n + 1) G) W1 := fun ty => by
    have h := Lib.run_append_grow_zeros w 22 3 ty 31 i0 zz .i64 .i64 hu Try.underlying3 hi0 hz0 (some ⟨g, 0, none⟩) i c T hold (n + 1 - i) (by omega) (by rw [hzs]; decide) (by omega) (by omega) (by rw [hzb]; omega) (by rw [hzb, hik]; exact growslice_fits (by omega) (by omega))
    rw [hik, ← hG, ← hROW, ← hW1, ← eN] at h
    rw [show (n : Int) + 1 - (i : Int) = ((n + 1 - i : Nat) : Int) by omega]
    exact h
  have hGn : n + 1 ≤ G := by rw [hG]; exact grownCap_ge w _ _ _
  have hGm : G ≤ maxLen := by rw [hG]; exact grownCap_le_maxLen w (n + 1) c 31 (by unfold maxLen; omega)
  have hRs : ROW.size = G * 10 := by
    rw [hROW, Array.size_append, Array.size_append, size_zeroCells, size_zeroCells, hzc, List.size_toArray, hTl]
    omega
  have hblk : W1.heap[N]? = some (.cells ROW 31 (0, 0)) := by rw [hW1, eN]; exact heap_alloc_new w.drew _
  have hsize1 : W1.heap.size = N + 1 := by rw [hW1, eN]; simp
  have hbel : Below N w W1 := by rw [hW1, eN]; exact (Below.refl _ w).drew.alloc (Nat.le_refl _) _
  have hOw : ∀ b j v, b < w.heap.size → w.cell? ⟨b, j, none⟩ = some v → W1.cell? ⟨b, j, none⟩ = some v := fun b j v hb h => (hbel.cell (p := ⟨b, j, none⟩) (by rw [eN]; exact hb)).trans h
  have hown0 : W1.ownsRow 0 31 10 (.slice (some ⟨N, 0, none⟩) (n + 1) G) (n + 1) (ROW.toList.take ((n + 1) * 10)) :=
    ⟨by rw [List.length_take, Array.length_toList, hRs]; omega, .inr ⟨N, G, ROW, rfl, Nat.zero_le _, hblk, hGn, hGm, hRs, rfl⟩⟩
  have hNc : ∀ k, k < G * 10 → (W1.cell? ⟨N, k, none⟩).isSome = true := fun k hk => by
    rw [cell_of_row W1 N k ROW 31 (0, 0) hblk]
    simp [hRs, hk]
  have hNf : ∀ k, W1.frozen? ⟨N, k, none⟩ = false := fun k => World.ownsRow.frozenAt hown0 k
  obtain ⟨W2, hW2⟩ : ∃ W2, W2 = W1.setCells N (i * 10) V := ⟨_, rfl⟩
  obtain ⟨W3, hW3⟩ : ∃ W3, W3 = W2.drew.setCells N ((i + 1) * 10) D := ⟨_, rfl⟩
  have hcp1 : ∀ ty dc, (Builtin.copy_ #[22, 22] ty #[.slice (some ⟨N, i * 10, none⟩) (n + 1 - i) dc, .slice (some ⟨gv, 0, none⟩) 1 1]).run Try.prog W1 = .ok (goInt 1) W2 := fun ty dc => by
    rw [hW2]
    exact run_copy_k W1 22 22 ty 31 10 N (i * 10) (n + 1 - i) dc ⟨gv, 0, none⟩ 1 1 1 V hu hsz (by simp only [Nat.min_def]; split <;> omega) hVl
      (fun j v hj => by rw [Addr.add_lit]; exact hOw _ _ v hvw (hreadv j v hj)) (fun j hj => hNc _ (by omega)) (fun j _ => hNf _) h1V
  have hcp2 : ∀ ty dc sc, (Builtin.copy_ #[22, 22] ty #[.slice (some ⟨N, (i + 1) * 10, none⟩) (n + 1 - (i + 1)) dc, .slice (some ⟨g, i * 10, none⟩) (n - i) sc]).run Try.prog W2.drew = .ok (goInt ((n - i : Nat) : Int)) W3 := fun ty dc sc => by
    rw [hW3]
    exact run_copy_k W2.drew 22 22 ty 31 10 N ((i + 1) * 10) (n + 1 - (i + 1)) dc ⟨g, i * 10, none⟩ (n - i) sc (n - i) D hu hsz (by simp only [Nat.min_def]; split <;> omega) hDl
      (fun j v hj => by
        rw [Addr.add_lit]
        show W2.cell? _ = _
        rw [hW2, World.cell?_setCells_out N _ _ _ _ (fun h _ => absurd h (by show g ≠ N; omega))]
        exact hOw _ _ v hgw (hreadD j v hj))
      (fun j hj => by show (W2.cell? _).isSome = true; rw [hW2]; exact isSome_sets N V _ W1 (fun t ht => hNc _ (by omega)) _ (hNc _ (by omega)))
      (fun j _ => by show W2.frozen? _ = false; rw [hW2, World.frozen?_setCells]; exact hNf _) h1D
  have HFIN := Lib.hid (show InsPost L (some ⟨g, 0, none⟩) n i m w (.returned (.slice (some ⟨N, 0, none⟩) (n + 1) G)) W3 from by
    have hx : (ROW.toList.take ((n + 1) * 10)).length = (n + 1) * 10 := hown0.1
    obtain ⟨z1, a1, a2, a3, a4⟩ := ownsRow_sets16 V (i * 10) W1 _ hown0
    rw [← hW2] at a1
    obtain ⟨z2, b1, b2, b3, b4⟩ := ownsRow_sets16 D ((i + 1) * 10) W2.drew _ a1
    rw [← hW3] at b1
    refine ⟨some ⟨N, 0, none⟩, G, rfl, own_spliced hn (Nat.le_of_lt hi) hx (fun k hk => ?_) b1 (b2.trans a2) (fun k hk => ?_) (fun k hk => ?_) (fun k hk => ?_), ?_, fun ad' e => .inr (by rw [Option.some.injEq] at e; rw [← e, eN]; exact Nat.le_refl _)⟩
    · rw [List.getElem?_take, if_pos (by omega), hROW, Array.toList_append, Array.toList_append, List.append_assoc, List.getElem?_append_left (by rw [hTl]; exact hk)]
      show T[k]? = _
      rw [eT, all_take L (by omega), List.getElem?_take, if_pos hk]
    · rw [b4 k (.inl (by omega)), a4 k (.inl hk)]
    · rw [b4 _ (.inl (by omega)), ← eV]
      exact a3 k (by rw [hVl]; exact hk) (by rw [hx]; omega)
    · rw [← eD]
      exact b3 k (by rw [hDl]; exact hk) (by rw [a2, hx]; omega)
    · have q1 := setsOut N V (i * 10) W1
      have q2 := setsOut N D ((i + 1) * 10) W2.drew
      rw [← hW2] at q1
      rw [← hW3] at q2
      have q2' : OutF (fun k => k = N) W2 W3 := ⟨q2.os, q2.tape, q2.output, q2.size, q2.block⟩
      exact ⟨q2'.os.trans (q1.os.trans hbel.os), q2'.tape.trans (q1.tape.trans hbel.tape), q2'.output.trans (q1.output.trans hbel.output), Nat.le_trans hbel.size (Nat.le_trans q1.size q2'.size), fun k hk _ => by
        have hkN : ¬ k = N := by omega
        have hk1 := Nat.lt_of_lt_of_le hk hbel.size
        exact (q2'.block k (Nat.lt_of_lt_of_le hk1 q1.size) hkN).trans ((q1.block k hk1 hkN).trans (hbel.block k (by omega)))⟩)
  have mixed : Try.prog.follows .mixedOrders = true := by kernel_rfl
  have HRZ := Lib.hid hrz
  have HCP1 := Lib.hid hcp1
  have HCP2 := Lib.hid hcp2
  have hi2 : ¬ ((i : Int) = (n : Int)) := by omega
  have hw1 : IntKind.i64.wrap ((i : Int) + 1) = (i : Int) + 1 := by rw [IntKind.wrap_i64]; omega
  have hw2 : IntKind.i64.wrap ((n : Int) + 1) = (n : Int) + 1 := by rw [IntKind.wrap_i64]; omega
  have hw3 : IntKind.i64.wrap ((n : Int) + 1 - (i : Int)) = (n : Int) + 1 - (i : Int) := by rw [IntKind.wrap_i64]; omega
  have hG63 : G ≤ 9223372036854775807 := by unfold maxLen at hGm; omega
  have hb0 : (i : Int) ≤ (n : Int) := by omega
  have hb1 : (0 : Int) ≤ (i : Int) + 1 := by omega
  have hb2 : ¬ (G = i + 1) := by omega
  have hb3 : (i : Int) ≤ (n : Int) + 1 := by omega
  have hb4 : ¬ (c = i) := by omega
  have hb5 : (c : Int) < (n : Int) + 1 := by omega
  have hb6 : (i : Int) ≤ (c : Int) := by omega
  have hb7 : (i : Int) + 1 ≤ (n : Int) + 1 := by omega
  have hb8 : ¬ (G = i) := by omega
  have htn : ((i : Int) + 1).toNat = i + 1 := by omega
  clear o ov hn hnc hTl hDl hVl eT eD eV h1D h1V hcell hreadD hreadT hreadv hgw hvw eN hold hG hzz hzc hz0 hROW hW1 hik hrz hGm hRs hblk hsize1 hbel hOw hown0 hNc hNf hW2 hW3 hcp1 hcp2 hi0 hzs hzb hsz hu
  go_enter Try.func42, Try.ntmps42
  go_wp2_with (first
    | (at_builtin; refine Lib.wpList_append_run _ rfl _ _ _ _ rfl _ _ rfl rfl _ _ (HRZ.out _) ?_)
    | (refine wpList_copy_runI W1 rfl _ _ 22 22 rfl (.slice (some ⟨N, i * 10, none⟩) (n + 1 - i) (G - i)) (.slice (some ⟨gv, 0, none⟩) 1 1) rfl rfl (HCP1.out _ _) ?_))
  go_region_law_o (refine step_copy_runI rfl _ _ 22 22 rfl (.slice (some ⟨N, (i + 1) * 10, none⟩) (n + 1 - (i + 1)) (G - (i + 1))) (.slice (some ⟨g, i * 10, none⟩) (n - i) (c - i)) (by simp [Act.eval, Act.put]) (by simp [Act.eval, Act.put]) (HCP2.out _ _ _) ?_)
  go_wp2_with fail
  go_ret
  exact HFIN.out
theorem insert_any {A : Option Addr} {c n i gv Bv : Nat} {L : List Mrk} {m : Mrk} (w : World) (o : OwnR mrkE w 0 31 A c L) (hn : L.length = n) (hl : n ≤ 600) (hi : i ≤ n) (ov : OwnR mrkE w Bv 31 (some ⟨gv, 0, none⟩) 1 [m]) (hne : ∀ ad, A = some ad → gv ≠ ad.block) :
    Calls Try.prog 42 #[.slice A n c, .int .i64 (i : Int), .slice (some ⟨gv, 0, none⟩) 1 1] w (InsPost L A n i m w) := by
  by_cases h : i = n
  · rw [h]; exact insert_end w o hn hl ov
  · obtain ⟨g, rfl⟩ := o.ptr16 (by rintro rfl; simp at hn; omega)
    by_cases hr : n + 1 ≤ c
    · exact insert_shift w o hn hl (by omega) hr ov (hne _ rfl)
    · exact insert_grow w o hn hl (by omega) hr ov
end Go.Proofs.Ytpjeggbkhbghaaa
namespace Go.Proofs.Ytpjeggbkhbghaaa
open Go Go.RowKit
set_option maxRecDepth 20000
set_option maxHeartbeats 6400000 in
theorem add16_any {F : Nat → Prop} {p : Value} {L : List Mrk} (m : Mrk) (w : World) (h : BkR w F p L) :
    Calls Try.prog 15 #[p, mrkV m] w fun e w' => e = .returned (.int .i64 (maddR L m).2) ∧ ∃ F' : Nat → Prop, BkR w' F' p (maddR L m).1 ∧ (∀ k, F' k → F k ∨ w.heap.size ≤ k) ∧ OutF F w w' := by
  have hlt := h.le
  have h0 := h
  obtain ⟨T, A, c, rfl, o, r, hd, hF, hg, hl⟩ := h
  obtain ⟨v1, ev⟩ : ∃ v, v = w.alloc (.cells #[.int .i64 m.clock, .int .i64 m.author, .int .i64 m.from_.id.1, .int .i64 m.from_.id.2, .bool m.from_.behind, .int .i64 m.upto.id.1, .int .i64 m.upto.id.2, .bool m.upto.behind, .int .i64 m.name, .int .i64 m.value] 31) := ⟨_, rfl⟩
  obtain ⟨g, eg⟩ : ∃ g, g = w.heap.size := ⟨_, rfl⟩
  have hb : Below w.heap.size w v1 := by rw [ev]; exact (Below.refl _ _).alloc (Nat.le_refl _) _
  have hq : MrkB v1 g m := by rw [ev, eg]; exact mrk_box w m
  have hgl : g < v1.heap.size := by rw [ev, eg]; simp
  obtain ⟨n, en⟩ : ∃ n, n = L.length := ⟨_, rfl⟩
  have HB := Lib.hid hb
  have HV := Lib.hid (And.intro ev eg)
  have HK := Lib.hid (fun wz (hz : Below v1.heap.size v1 wz) => (h0.keep (fun k hk => (hb.trans (hz.mono hb.size)).block k (hlt k hk)) : BkR wz F (pB T) L))
  rw [← en] at o hl
  have HS := Lib.hid (fun wz (hz : Below v1.heap.size v1 wz) => And.intro (OwnF.cell (OwnF.keep o (hb.trans (hz.mono hb.size))) (k := 0) (by decide)) (hq.keep hz hgl))
  have HRT := Lib.hid (right16_any m v1)
  have HFD := Lib.hid (fun wz (hz : Below v1.heap.size v1 wz) => show Calls Try.prog 41 #[pB T, .int .i64 m.clock, .int .i64 m.author] wz fun e w' => e = .returned (.tuple #[.int .i64 (posM L (keyM m) : Int), .bool (mhasB L m.clock m.author)]) ∧ Below wz.heap.size wz w' from by
    obtain ⟨A2, c2, hr⟩ := recv_of (HK.out wz hz)
    exact find16_any hr m.clock m.author)
  obtain ⟨i, ei⟩ : ∃ i, i = posM L (keyM m) := ⟨_, rfl⟩
  rw [← ei] at HFD
  have HN := Lib.hid (And.intro en.symm (And.intro hl (show i ≤ n by rw [ei, en]; exact posM_le _ _)))
  have HO := Lib.hid (And.intro r o)
  have HX := Lib.hid (And.intro hd (And.intro hF (And.intro hg (And.intro ei hlt))))
  obtain ⟨q, eq⟩ : ∃ q, q = (maddR L m).2 := ⟨_, rfl⟩
  have hcase : (rightM m = false ∧ maddR L m = (L, 1)) ∨ (rightM m = true ∧ mhasB L m.clock m.author = true ∧ maddR L m = (L, 12)) ∨ (rightM m = true ∧ mhasB L m.clock m.author = false ∧ n = 512 ∧ maddR L m = (L, 14)) ∨ (rightM m = true ∧ mhasB L m.clock m.author = false ∧ ¬ n = 512 ∧ maddR L m = (maddL L m, 0)) := by
    unfold maddR
    cases h1 : rightM m with
    | false => exact .inl ⟨rfl, by rw [if_pos rfl]⟩
    | true =>
      rw [if_neg (by decide)]
      cases h2 : mhasB L m.clock m.author with
      | true => exact .inr (.inl ⟨rfl, rfl, by rw [if_pos rfl]⟩)
      | false =>
        rw [if_neg (by decide)]
        by_cases h3 : n = 512
        · exact .inr (.inr (.inl ⟨rfl, rfl, h3, by rw [if_pos (by omega)]⟩))
        · exact .inr (.inr (.inr ⟨rfl, rfl, h3, by rw [if_neg (by omega)]⟩))
  obtain ⟨q0, q1, q2, q3, q4, q5, q6, q7, q8, q9⟩ := hq
  have mixed : Try.prog.follows .mixedOrders = true := by kernel_rfl
  rcases hcase with ⟨h1, hm⟩ | ⟨h1, h2, hm⟩ | ⟨h1, h2, h3, hm⟩ | ⟨h1, h2, h3, hm⟩
  · rw [h1] at HRT
    rw [hm]
    clear h1 hm eq ei en ev eg hb hgl o r hd hF hg h0 hlt
    go_enter Try.func15, Try.ntmps15
    go_upto_region 1 with fail
    rw [← HV.out.1, ← HV.out.2]
    clear HV
    go_wp2_with fail
    go_at_call 13
    refine HRT.out.mono ?_
    rintro e v2 ⟨rfl, h2⟩
    have HB2 := Lib.hid h2
    clear h2 HRT q0 q1 q2 q3 q4 q5 q6 q7 q8 q9
    go_wp2_with fail
    go_ret
    exact ⟨rfl, _, HK.out v2 HB2.out, fun k hk => .inl hk, OutF.of (HB.out.trans (HB2.out.mono HB.out.size))⟩

  · rw [h1] at HRT
    rw [h2] at HFD
    rw [hm]
    clear h1 h2 hm eq ei en ev eg hb hgl o r hd hF hg h0 hlt
    go_enter Try.func15, Try.ntmps15
    go_upto_region 1 with fail
    rw [← HV.out.1, ← HV.out.2]
    clear HV
    go_wp2_with fail
    go_at_call 13
    refine HRT.out.mono ?_
    rintro e v2 ⟨rfl, h2⟩
    have HB2 := Lib.hid h2
    clear h2 HRT q0 q1 q2 q3 q4 q5 q6 q7 q8 q9
    obtain ⟨_, q0, q1, _⟩ := HS.out v2 HB2.out
    go_wp2_with fail
    go_at_call 41
    refine (HFD.out v2 HB2.out).mono ?_
    rintro e v3 ⟨rfl, h3⟩
    have HB3 := Lib.hid (HB2.out.trans (h3.mono HB2.out.size))
    clear h3 HFD q0 q1
    go_wp2_with fail
    go_ret
    exact ⟨rfl, _, HK.out v3 HB3.out, fun k hk => .inl hk, OutF.of (HB.out.trans (HB3.out.mono HB.out.size))⟩

  · rw [h1] at HRT
    rw [h2] at HFD
    rw [hm]
    have g5 : (512 : Int) ≤ (n : Int) := by omega
    clear h1 h2 h3 hm eq ei en ev eg hb hgl o r hd hF hg h0 hlt
    go_enter Try.func15, Try.ntmps15
    go_upto_region 1 with fail
    rw [← HV.out.1, ← HV.out.2]
    clear HV
    go_wp2_with fail
    go_at_call 13
    refine HRT.out.mono ?_
    rintro e v2 ⟨rfl, h2⟩
    have HB2 := Lib.hid h2
    clear h2 HRT q0 q1 q2 q3 q4 q5 q6 q7 q8 q9
    obtain ⟨_, q0, q1, _⟩ := HS.out v2 HB2.out
    go_wp2_with fail
    go_at_call 41
    refine (HFD.out v2 HB2.out).mono ?_
    rintro e v3 ⟨rfl, h3⟩
    have HB3 := Lib.hid (HB2.out.trans (h3.mono HB2.out.size))
    clear h3 HFD q0 q1
    have k0 := (HS.out v3 HB3.out).1
    go_wp2_with fail
    go_ret
    exact ⟨rfl, _, HK.out v3 HB3.out, fun k hk => .inl hk, OutF.of (HB.out.trans (HB3.out.mono HB.out.size))⟩

  · have HRH := Lib.hid (And.intro h1 (And.intro h2 h3))
    rw [h1] at HRT
    rw [h2] at HFD
    rw [hm]
    have hml : maddL L m = insL L i m := by rw [maddL_pos hg.ord, ei]
    have hgood := maddR_good hg (by omega) m
    rw [hm, hml] at hgood
    rw [hml]
    have HGG := Lib.hid hgood
    have g5 : ¬ (512 : Int) ≤ (n : Int) := by omega
    clear h1 h2 h3 hm hml eq ei en ev eg hb hgl o r hd hF hg h0 hlt hgood
    go_enter Try.func15, Try.ntmps15
    go_upto_region 1 with fail
    rw [← HV.out.1, ← HV.out.2]
    clear HV
    go_wp2_with fail
    go_at_call 13
    refine HRT.out.mono ?_
    rintro e v2 ⟨rfl, h2⟩
    have HB2 := Lib.hid h2
    clear h2 HRT q0 q1 q2 q3 q4 q5 q6 q7 q8 q9
    obtain ⟨_, q0, q1, _⟩ := HS.out v2 HB2.out
    go_wp2_with fail
    go_at_call 41
    refine (HFD.out v2 HB2.out).mono ?_
    rintro e v3 ⟨rfl, h3⟩
    have HB3 := Lib.hid (HB2.out.trans (h3.mono HB2.out.size))
    clear h3 HFD q0 q1
    have k0 := (HS.out v3 HB3.out).1
    have HS := Lib.hid (fun wz (hz : Below v3.heap.size v3 wz) => HS.out wz (HB3.out.trans (hz.mono HB3.out.size)))
    have hb3 := HB.out.trans (HB3.out.mono HB.out.size)
    have HO := Lib.hid (And.intro (HO.out.1.keep hb3) (And.intro (OwnF.keep HO.out.2 hb3) hb3))
    clear hb3 HK
    go_upto_region 10 with fail
    refine wp_region_par 11 12 [some 28, some 29, some 30, some 31, some 32, some 33, some 34, some 35, some 36, some 37, some 38] [7, 8] [some (.pointer (some ⟨T, 0, none⟩)), some (.pointer (some ⟨T, 0, none⟩)), some (.pointer (some ⟨T, 0, none⟩)), some (.pointer (some ⟨T, 0, none⟩)), some (.slice A n c), some (.int .i64 (i : Int)), some (mrkV m), none, none, some (.pointer (some ⟨T, 0, none⟩)), some (.pointer (some ⟨T, 0, none⟩))]
      (fun Lb Vb wz => (Lb 8 = false → Below v3.heap.size v3 wz) ∧ (Lb 7 = true → Lb 8 = false → ∃ gv, Vb 7 = .slice (some ⟨gv, 0, none⟩) 1 1 ∧ v3.heap.size ≤ gv ∧ OwnR mrkE wz v3.heap.size 31 (some ⟨gv, 0, none⟩) 1 [m]) ∧ (Lb 8 = true → ∃ A' c', Vb 8 = .slice A' (n + 1) c' ∧ OwnR mrkE wz 0 31 A' c' (insL L i m) ∧ OutF (fun k => ∃ ad, A = some ad ∧ ad.block = k) v3 wz ∧ ∀ ad', A' = some ad' → (∃ ad, A = some ad ∧ ad.block = ad'.block) ∨ v3.heap.size ≤ ad'.block))
      (by kernel_rfl) (by kernel_rfl)
      (fun _ => ⟨fun _ => (Below.refl v3.heap.size v3).drew, fun h => absurd h (by decide), fun h => absurd h (by decide)⟩) (fun u => by simp only [List.filterMap_cons, List.filterMap_nil, puts, List.foldl_cons, List.foldl_nil]; go_simp; exact rfl) ?_ ?_
    · simp only [List.take_succ_cons, List.take_zero]
      refine Par.soft rfl rfl (.pointer (some ⟨T, 0, none⟩)) rfl (fun u w Lb Vb hT hh => ⟨rfl, by go_simp⟩) ?_
      refine Par.soft rfl rfl (.pointer (some ⟨T, 0, none⟩)) rfl (fun u w Lb Vb hT hh => ⟨rfl, by go_simp⟩) ?_
      refine Par.soft rfl rfl (.pointer (some ⟨T, 0, none⟩)) rfl (fun u w Lb Vb hT hh => ⟨rfl, by have d29 : u 29 = .pointer (some ⟨T, 0, none⟩) := hh.val 1 _ rfl rfl; rw [d29]; go_simp⟩) ?_
      refine Par.soft rfl rfl (.pointer (some ⟨T, 0, none⟩)) rfl (fun u w Lb Vb hT hh => ⟨rfl, by have d30 : u 30 = .pointer (some ⟨T, 0, none⟩) := hh.val 2 _ rfl rfl; rw [d30]; go_simp⟩) ?_
      refine Par.soft rfl rfl (.slice A n c) rfl (fun u w Lb Vb hT hh => ⟨rfl, by have d31 : u 31 = .pointer (some ⟨T, 0, none⟩) := hh.val 3 _ rfl rfl; rw [d31]; have k0 := (HS.out w (hT.1 (hh.not_ 8 (by rfl)))).1; go_simp⟩) ?_
      refine Par.soft rfl rfl (.int .i64 (i : Int)) rfl (fun u w Lb Vb hT hh => ⟨rfl, by go_simp⟩) ?_
      refine Par.soft rfl rfl (mrkV m) rfl (fun u w Lb Vb hT hh => ⟨rfl, by obtain ⟨_, q0, q1, q2, q3, q4, q5, q6, q7, q8, q9⟩ := HS.out w (hT.1 (hh.not_ 8 (by rfl))); go_simp⟩) ?_
      refine Par.hard rfl (fun u wz Lb Vb hT hh => ?_) ?_
      · have d34 : u 34 = mrkV m := hh.val 6 _ rfl rfl
        rw [d34]
        have b8 := hh.not_ 8 (by rfl)
        have hb := hT.1 b8
        have ha := (Below.refl wz.heap.size wz).alloc (Nat.le_refl _) (.cells #[.int .i64 m.clock, .int .i64 m.author, .int .i64 m.from_.id.1, .int .i64 m.from_.id.2, .bool m.from_.behind, .int .i64 m.upto.id.1, .int .i64 m.upto.id.2, .bool m.upto.behind, .int .i64 m.name, .int .i64 m.value] 31)
        refine StepP.of rfl (StepC.run (.slice (some ⟨wz.heap.size, 0, none⟩) 1 1) (wz.alloc (.cells #[.int .i64 m.clock, .int .i64 m.author, .int .i64 m.from_.id.1, .int .i64 m.from_.id.2, .bool m.from_.behind, .int .i64 m.upto.id.1, .int .i64 m.upto.id.2, .bool m.upto.behind, .int .i64 m.name, .int .i64 m.value] 31)) rfl (by go_simp) ⟨fun c hc => by simp at hc, fun _ => hb.trans (ha.mono hb.size), fun _ _ => ⟨wz.heap.size, by simp [vset], hb.size, OwnR.lit (E := mrkE) (w := wz) 31 hb.size _ [m] (by simp [maxLen]) rfl⟩, fun h => absurd h (by simp [lset, b8])⟩)
      refine Par.hard rfl (fun u wz Lb Vb hT hh => ?_) ?_
      · have d32 : u 32 = .slice A n c := hh.val 4 _ rfl rfl
        have d33 : u 33 = .int .i64 (i : Int) := hh.val 5 _ rfl rfl
        have b8 := hh.not_ 8 (by rfl)
        have hb := hT.1 b8
        obtain ⟨gv, ev, hgv, ov⟩ := hT.2.1 (hh.been 7 (by rfl) rfl) b8
        have d35 : u 35 = .slice (some ⟨gv, 0, none⟩) 1 1 := (hh.hv 7 rfl).symm.trans ev
        rw [d32, d33, d35]
        refine StepP.of rfl (StepC.call 42 #[.slice A n c, .int .i64 (i : Int), .slice (some ⟨gv, 0, none⟩) 1 1] rfl (by go_simp) ((insert_any wz (HO.out.1.keep hb) HN.out.1 (Nat.le_trans HN.out.2.1 (by decide)) HN.out.2.2 ov (fun ad e => by have := (HO.out.1.blk ad e).2; omega)).mono ?_))
        rintro e w' ⟨A', c', rfl, o', hout, hA'⟩
        refine ⟨_, rfl, fun c hc => by simp at hc, fun h => absurd h (by simp [lset]), fun _ h => absurd h (by simp [lset]), fun _ => ⟨A', c', by simp [vset], o', ⟨hout.os.trans hb.os, hout.tape.trans hb.tape, hout.output.trans hb.output, Nat.le_trans hb.size hout.size, fun k hk hn => (hout.block k (Nat.lt_of_lt_of_le hk hb.size) hn).trans (hb.block k hk)⟩, fun ad' e => (hA' ad' e).imp id fun h => Nat.le_trans hb.size h⟩⟩
      refine Par.soft rfl rfl (.pointer (some ⟨T, 0, none⟩)) rfl (fun u w Lb Vb hT hh => ⟨rfl, by have d28 : u 28 = .pointer (some ⟨T, 0, none⟩) := hh.val 0 _ rfl rfl; rw [d28]; go_simp⟩) ?_
      refine Par.soft rfl rfl (.pointer (some ⟨T, 0, none⟩)) rfl (fun u w Lb Vb hT hh => ⟨rfl, by have d37 : u 37 = .pointer (some ⟨T, 0, none⟩) := hh.val 9 _ rfl rfl; rw [d37]; go_simp⟩) Par.nil
    rintro u v5 hv ⟨Lb, Vb, ⟨_, _, t3⟩, hl2⟩
    obtain ⟨A', c', eV, oA, hout, hA'⟩ := t3 (hl2 8 (by decide) rfl).1
    have d36 : u 36 = .slice A' (n + 1) c' := (hl2 8 (by decide) rfl).2.symm.trans eV
    have d38 : u 38 = .pointer (some ⟨T, 0, none⟩) := hv 10 _ (by decide) rfl
    rw [d36, d38]
    have hTlt : T < v3.heap.size := OwnF.lt HO.out.2.1
    have hTA : ¬ ∃ ad, A = some ad ∧ ad.block = T := fun ⟨ad, e, e2⟩ => HX.out.1 ad e e2
    have oT := OwnF.same_ HO.out.2.1 (hout.block T hTlt hTA)
    have kT := OwnF.cell oT (k := 0) (by decide)
    have fT := OwnF.free oT 0
    obtain ⟨v6, ev6⟩ : ∃ v, v = v5.setCell ⟨T, 0, none⟩ (.slice A' (n + 1) c') := ⟨_, rfl⟩
    have hAT : ∀ ad, A' = some ad → ad.block ≠ T := fun ad e e2 => by
      rcases hA' ad e with ⟨ad0, e0, e1⟩ | h9
      · exact HX.out.1 ad0 e0 (e1.trans e2)
      · omega
    have hset : ∀ k, k ≠ T → v6.heap[k]? = v5.heap[k]? := fun k hk => by rw [ev6]; exact Below.heap_setCell v5 ⟨T, 0, none⟩ _ k hk
    have hb6 : Below 0 v5 v6 := by rw [ev6]; exact (Below.refl _ _).setCell (p := ⟨T, 0, none⟩) (Nat.zero_le _) _
    have hlen : (insL L i m).length = n + 1 := by
      show (L.take i ++ m :: L.drop i).length = _
      rw [List.length_append, List.length_cons, List.length_take, List.length_drop]
      have := HN.out
      omega
    have HFIN := Lib.hid (show ∃ F' : Nat → Prop, BkR v6 F' (pB T) (insL L i m) ∧ (∀ k, F' k → F k ∨ w.heap.size ≤ k) ∧ OutF F w v6 from by
      refine ⟨fun k => k = T ∨ ∃ ad, A' = some ad ∧ ad.block = k, ⟨T, A', c', rfl, ?_, oA.keep0 (fun ad e => hset _ (hAT ad e)), hAT, fun k => Iff.rfl, HGG.out.1, HGG.out.2.2⟩, fun k hk => ?_, ⟨hb6.os.trans (hout.os.trans HO.out.2.2.os), hb6.tape.trans (hout.tape.trans HO.out.2.2.tape), hb6.output.trans (hout.output.trans HO.out.2.2.output), Nat.le_trans HO.out.2.2.size (Nat.le_trans hout.size hb6.size), fun k hk hn => ?_⟩⟩
      · rw [ev6, hlen]
        exact OwnF.congr (OwnF.set_ oT 0 _) fun k hk => by
          obtain rfl : k = 0 := by omega
          rfl
      · rcases hk with rfl | ⟨ad, e, rfl⟩
        · exact .inl ((HX.out.2.1 k).2 (.inl rfl))
        · rcases hA' ad e with ⟨ad0, e0, e1⟩ | h9
          · exact .inl ((HX.out.2.1 _).2 (.inr ⟨ad0, e0, e1⟩))
          · exact .inr (Nat.le_trans HO.out.2.2.size h9)
      · have hkT : k ≠ T := fun e => hn ((HX.out.2.1 k).2 (.inl e))
        have hkA : ¬ ∃ ad, A = some ad ∧ ad.block = k := fun h => hn ((HX.out.2.1 k).2 (.inr h))
        exact (hset k hkT).trans ((hout.block k (Nat.lt_of_lt_of_le hk HO.out.2.2.size) hkA).trans (HO.out.2.2.block k hk)))
    have HV6 := Lib.hid ev6
    clear hv t3 hl2 d36 d38 hTlt hTA oT hAT hset hb6 hlen ev6 eV oA hout hA'
    simp only [List.drop_succ_cons, List.drop_zero]
    go_wp2_with fail
    rw [← HV6.out]
    go_ret
    exact ⟨rfl, HFIN.out⟩
end Go.Proofs.Ytpjeggbkhbghaaa
