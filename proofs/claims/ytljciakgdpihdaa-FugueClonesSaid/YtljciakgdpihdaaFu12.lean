/-
  Layer 15: a strings.Builder, written rune by rune, by contracts of the shelf. By an AI agent.
-/
import Derived.Test.YtljciakgdpihdaaFu11
import Derived.Shelf.Strings.BuilderRune
namespace Go.Proofs
open Go.Shelf
/-- The numbers that this program gives to unicode/utf8.AppendRune, what it calls, their types. -/
def Try.ren242 : Go.Shelf.Ren := ⟨fun n => if n = 242 then 51 else if n = 278 then 57 else n, fun t => if t = 4 then 4 else if t = 5 then 5 else if t = 21 then 21 else if t = 37 then 81 else if t = 46 then 59 else if t = 51 then 103 else if t = 72 then 83 else t, fun g => g⟩
theorem Try.lays242 : Lays.n242 Try.prog Try.ren242 := {
  mixed := by kernel_rfl
  f242 := Try.func51.trans (congrArg some (by kernel_rfl))
  f278 := Try.func57.trans (congrArg some (by kernel_rfl))
  t4 := Try.underlying4
  a4 := Try.isAgg4
  z4 := Try.sizeOf4
  v4 := Try.zeroValue4
  t5 := Try.underlying5
  a5 := Try.isAgg5
  z5 := Try.sizeOf5
  v5 := Try.zeroValue5
  t21 := Try.underlying21
  a21 := Try.isAgg21
  z21 := Try.sizeOf21
  v21 := Try.zeroValue21
  t37 := Try.underlying81
  a37 := Try.isAgg81
  z37 := Try.sizeOf81
  v37 := Try.zeroValue81
  t46 := Try.underlying59
  a46 := Try.isAgg59
  z46 := Try.sizeOf59
  v46 := Try.zeroValue59
  t51 := Try.underlying103
  a51 := Try.isAgg103
  z51 := Try.sizeOf103
  v51 := Try.zeroValue103
}
theorem Try.extra242 : Builder.Extra Try.prog Try.ren242 := {
  sizeBuilder := by kernel_rfl
  liesBuilder := by kernel_rfl
  t5 := Try.underlying5
  a5 := Try.isAgg5
  z5 := Try.sizeOf5
  v5 := Try.zeroValue5
  infoByte := by kernel_rfl
  cellsByte := by kernel_rfl
  sizeByte := by kernel_rfl
  neB5 := by decide
}
/-- .. and to (*strings.Builder).String. -/
def Try.ren169 : Go.Shelf.Ren := ⟨fun n => if n = 169 then 40 else n, fun t => if t = 0 then 0 else if t = 3 then 3 else if t = 5 then 5 else if t = 9 then 9 else if t = 37 then 81 else if t = 70 then 80 else if t = 72 then 83 else if t = 127 then 97 else t, fun g => g⟩
theorem Try.lays169 : Lays.n169 Try.prog Try.ren169 := {
  mixed := by kernel_rfl
  f169 := Try.func40.trans (congrArg some (by kernel_rfl))
  t0 := Try.underlying0
  a0 := Try.isAgg0
  z0 := Try.sizeOf0
  v0 := Try.zeroValue0
  t3 := Try.underlying3
  a3 := Try.isAgg3
  z3 := Try.sizeOf3
  v3 := Try.zeroValue3
  t9 := Try.underlying9
  a9 := Try.isAgg9
  z9 := Try.sizeOf9
  v9 := Try.zeroValue9
  t37 := Try.underlying81
  a37 := Try.isAgg81
  z37 := Try.sizeOf81
  v37 := Try.zeroValue81
  t70 := Try.underlying80
  a70 := Try.isAgg80
  z70 := Try.sizeOf80
  v70 := Try.zeroValue80
  t72 := Try.underlying83
  a72 := Try.isAgg83
  z72 := Try.sizeOf83
  v72 := Try.zeroValue83
  t127 := Try.underlying97
  a127 := Try.isAgg97
  z127 := Try.sizeOf97
  v127 := Try.zeroValue97
}
theorem Try.extra169 : Builder.Extra Try.prog Try.ren169 := {
  sizeBuilder := by kernel_rfl
  liesBuilder := by kernel_rfl
  t5 := Try.underlying5
  a5 := Try.isAgg5
  z5 := Try.sizeOf5
  v5 := Try.zeroValue5
  infoByte := by kernel_rfl
  cellsByte := by kernel_rfl
  sizeByte := by kernel_rfl
  neB5 := by decide
}
end Go.Proofs
namespace Go.Proofs.Ytljciakgdpihdaa
open Go Go.RowKit
set_option maxRecDepth 20000
/-- A builder at b that holds these bytes; its row, and it, are the call's own (from B on). -/
abbrev BldF (w : World) (B b : Nat) (bs : List Value) : Prop := Lib.IsBuilderF 83 5 B b bs w
theorem append_rune (B : Nat) (v : Value) (n : Nat) (xs : List Value) (r : Int) (hr0 : -2147483648 ≤ r) (hr1 : r ≤ 2147483647) (w : World) (hown : w.ownsRowF B 5 1 v n xs) (hlen : n + 4 ≤ 140737488355328) (hBw : B ≤ w.heap.size) :
    Calls Try.prog 51 #[v, .int .i32 r] w fun e w' => ∃ v', e = .returned v' ∧ w'.ownsRowF B 5 1 v' (n + (Lib.runeCells r).length) (xs ++ Lib.runeCells r) ∧ ∃ o, (w.alloc o).grownBy w' v.ownBlock :=
  Any.utf8_AppendRune_own Try.lays242 Try.extra242 B v n xs r hr0 hr1 w hown hlen hBw
theorem builder_string (B b : Nat) (l : List UInt8) (w : World) (h : BldF w B b (Lib.byteCells l)) (hBw : B ≤ w.heap.size) :
    Calls Try.prog 40 #[.pointer (some ⟨b, 0, none⟩)] w fun e w' => e = .returned (.string ⟨l.toArray⟩) ∧ BldF w' B b (Lib.byteCells l) ∧ Below B w w' ∧ Lib.OthersKept 5 (some b) w w' :=
  Any.Builder_String_any_k Try.lays169 Try.extra169 B b l w h hBw
theorem check_used (b : Nat) (w : World) (h0 : w.cell? ⟨b, 0, none⟩ = some (.pointer (some ⟨b, 0, none⟩))) : Calls Try.prog 50 #[.pointer (some ⟨b, 0, none⟩)] w fun e w' => (∃ v, e = .returned v) ∧ w' = w := by
  obtain ⟨j, hj, hjs⟩ := Option.map_eq_some_iff.1 Try.extra169.sizeBuilder
  go_enter Try.func50, Try.ntmps50
  go_wp2_with fail
  rw [Lib.run_neq_ptr_same w _ Try.underlying80 hj]
  go_wp2_with fail
  go_end0
  exact ⟨⟨_, rfl⟩, rfl⟩
theorem check_fresh (b : Nat) (w : World) (h0 : w.cell? ⟨b, 0, none⟩ = some (.pointer none)) (hsh : w.shape? b = some (83, 2)) (hfz : w.frozen? ⟨b, 0, none⟩ = false) :
    Calls Try.prog 50 #[.pointer (some ⟨b, 0, none⟩)] w fun e w' => (∃ v, e = .returned v) ∧ w' = w.setCell ⟨b, 0, none⟩ (.pointer (some ⟨b, 0, none⟩)) := by
  obtain ⟨j, hj, hjs⟩ := Option.map_eq_some_iff.1 Try.extra169.sizeBuilder
  go_enter Try.func50, Try.ntmps50
  go_wp2_with fail
  rw [Lib.run_to_unsafe w ⟨b, 0, none⟩ Try.underlying80 Try.underlying101 hj (by rw [hjs]; decide) hsh (Nat.zero_lt_succ 1)]
  simp only [Result.andThen]
  rw [Oper.upon_value]
  go_wp2_with fail
  rw [run_callFunc_extern Try.func56 (by kernel_rfl) (by kernel_rfl) (by kernel_rfl) (e := Extern.AbiNoEscape.same) (by kernel_rfl)]
  rw [Lib.run_noEscape]
  simp only [Result.andThen]
  rw [Oper.upon_value]
  go_wp2_with fail
  rw [Lib.run_from_unsafe w ⟨b, 0, none⟩ Try.underlying101 Try.underlying80 hj hsh Try.extra169.liesBuilder]
  simp only [Result.andThen]
  rw [Oper.upon_value]
  go_wp2_with fail
  go_end0
  exact ⟨⟨_, rfl⟩, rfl⟩
theorem check_any {w : World} {B b : Nat} {bs : List Value} (h : BldF w B b bs) : Calls Try.prog 50 #[.pointer (some ⟨b, 0, none⟩)] w fun e w' => (∃ v, e = .returned v) ∧ Lib.BuilderAtF 83 5 B b (.pointer (some ⟨b, 0, none⟩)) bs w' ∧ Below B w w' ∧ Lib.OthersKept 5 (some b) w w' := by
  rcases h with h | h
  · refine (check_fresh b w h.cell0 h.shape h.frozen0).mono ?_
    rintro e w' ⟨hv, rfl⟩
    exact ⟨hv, h.used _, (Below.refl B w).setCell (p := ⟨b, 0, none⟩) h.1 _, (Lib.OthersKept.refl _ _ w).setCell ⟨b, 0, none⟩ rfl _⟩
  · refine (check_used b w h.cell0).mono ?_
    rintro e w' ⟨hv, rfl⟩
    exact ⟨hv, h, Below.refl B _, Lib.OthersKept.refl _ _ _⟩
set_option maxHeartbeats 1600000 in
theorem write_rune {w : World} {B b : Nat} {bs : List Value} (r : Int) (hr0 : -2147483648 ≤ r) (hr1 : r ≤ 2147483647) (h : BldF w B b bs) (hlen : bs.length + 4 ≤ 140737488355328) (hBw : B ≤ w.heap.size) :
    Calls Try.prog 39 #[.pointer (some ⟨b, 0, none⟩), .int .i32 r] w fun e w' => (∃ v, e = .returned v) ∧ BldF w' B b (bs ++ Lib.runeCells r) ∧ Below B w w' ∧ Lib.OthersKept 5 (some b) w w' := by
  have hk4 := Lib.runeCells_le r
  go_enter Try.func39, Try.ntmps39
  go_upto_region 2 with (go_at_call 50; refine (check_any h).mono ?_; rintro e w1 ⟨⟨vc, rfl⟩, h1, hb1, hk1⟩; have HK1 := Lib.hid (And.intro h1 (And.intro hb1 hk1)); obtain ⟨hB, v, hbk, hown, hne⟩ := h1; clear hB hb1 hk1)
  obtain ⟨ao, cap, rfl⟩ : ∃ ao cap, v = .slice ao bs.length cap := by
    rcases hown.2 with ⟨hv, h0⟩ | ⟨g, cap, cur, fz, hv, _⟩
    · exact ⟨none, 0, by rw [hv, h0]⟩
    · exact ⟨_, _, hv⟩
  have hblt := lt_of_heap hbk
  have c1 : w1.cell? ⟨b, 1, none⟩ = some (.slice ao bs.length cap) := by simp [World.cell?, hbk]
  obtain ⟨n, en⟩ : ∃ n, n = bs.length := ⟨_, rfl⟩
  have hb1 := HK1.out.2.1
  have KA := Lib.hid (append_rune B (.slice ao bs.length cap) bs.length bs r hr0 hr1 w1 hown hlen (by have := hb1.size; omega))
  rw [← en] at c1 KA hlen
  have HH := Lib.hid (And.intro hbk (And.intro hown (And.intro hne (And.intro en (And.intro hblt hBw)))))
  clear hbk hown hne en hblt hBw hb1 hr0 hr1 h
  go_wp2_with fail
  go_at_call 51
  refine KA.out.mono ?_
  rintro e w2 ⟨v', rfl, hown', o, hgrow⟩
  have HG := Lib.hid (And.intro hown' hgrow)
  clear hown' hgrow KA
  obtain ⟨hbk, hown, hne, en, hblt, hBw⟩ := HH.out
  obtain ⟨hown', hgrow⟩ := HG.out
  rw [← en] at hbk hown hne
  have hb2 : w2.heap[b]? = some (.cells #[.pointer (some ⟨b, 0, none⟩), .slice ao n cap] 83) := by
    rw [hgrow.block b (by simp; omega) (fun e => hne e.symm), (MapKept.heap_alloc w1 o).2 b hblt]
    exact hbk
  have d1 : w2.cell? ⟨b, 1, none⟩ = some (.slice ao n cap) := by simp [World.cell?, hb2]
  have f1 := cells_free hb2 1
  obtain ⟨m, em⟩ : ∃ m, m = (Lib.runeCells r).length := ⟨_, rfl⟩
  rw [← em] at hown' hk4
  obtain ⟨g, cap', rfl⟩ : ∃ g cap', v' = .slice (some ⟨g, 0, none⟩) (n + m) cap' := by
    rcases hown'.2 with ⟨_, h0⟩ | ⟨g, cap', cur, fz, hv, _⟩
    · omega
    · exact ⟨g, cap', hv⟩
  have HX := Lib.hid (And.intro hown' (And.intro hgrow (And.intro hb2 (And.intro em (And.intro hne hown)))))
  clear hown' hgrow hb2 em hne hown hbk hblt en HG
  go_wp2_with fail
  go_ret2
  have h1 := HK1.out
  have hx := HX.out
  refine ⟨⟨_, rfl⟩, .inr (Lib.BuilderAtF.put (T := 83) (e := 5) h1.1.1 hx.2.2.1 (bs' := bs ++ Lib.runeCells r) ?_ (by decide)), ?_, h1.2.2.trans (((Lib.OthersKept.refl _ _ w1).alloc _).grown hx.2.1 (Lib.ownsRowF_kind ((by have := hx.2.2.2.2.2; exact this : w1.ownsRowF B 5 1 (.slice ao n cap) n bs).alloc _)) |>.setCell ⟨b, 1, none⟩ rfl _)⟩
  · have := hx.1
    rw [hx.2.2.2.1, HH.out.2.2.2.1] at this
    rw [List.length_append]
    rw [hx.2.2.2.1, HH.out.2.2.2.1]
    exact this
  · exact h1.2.1.trans ((((Below.refl B w1).alloc (by have := h1.2.1.size; omega) _).grown hx.2.1 (by have := h1.2.1.size; simp; omega) (fun k hk => (hx.2.2.2.2.2.lt k hk).1)).setCell (p := ⟨b, 1, none⟩) h1.1.1 _)
end Go.Proofs.Ytljciakgdpihdaa
