/-
  Layer 15: awake, over what is asked of the landed tree. By an AI agent.
-/
import Derived.Test.YtljciakgdpihdaaFc2
namespace Go.Proofs.Ytljciakgdpihdaa
open Go Go.RowKit
set_option maxRecDepth 20000
def x0 : Ins := ⟨(0, 1), (0, 0), true, 97⟩
theorem awake_facts : addR [] x0 = ([x0], 0) ∧ addR [x0] x0 = ([x0], 12) ∧ nodesL [x0] = [x0] ∧ dropR [x0] [] (0, 1) = ([(0, 1)], 0) := by
  refine ⟨rfl, rfl, ?_, rfl⟩
  exact plan_only (Ok.snoc (L := []) .nil (fun y hy => nomatch hy) (by decide) (.inl ⟨rfl, rfl⟩))
theorem awake_text : textN ((liveL [] [x0]).map (nodeOf [])) = ⟨#[97]⟩ ∧ (liveL [] [x0]).length = 1 ∧ textN ((liveL [(0, 1)] [x0]).map (nodeOf [(0, 1)])) = ⟨#[]⟩ := by
  refine ⟨?_, ?_, ?_⟩ <;> decide +kernel
theorem ins_res {fn : Func} {p : Tmp} (h : fn.results = #[.cell p 33]) (tmps : Array Value) {w : World} {g : Nat} {v0 v1 v2 v3 v4 v5 : Value} (c0 : w.cell? ⟨g, 0, none⟩ = some v0) (c1 : w.cell? ⟨g, 1, none⟩ = some v1) (c2 : w.cell? ⟨g, 2, none⟩ = some v2) (c3 : w.cell? ⟨g, 3, none⟩ = some v3) (c4 : w.cell? ⟨g, 4, none⟩ = some v4) (c5 : w.cell? ⟨g, 5, none⟩ = some v5) (hp : tmps.getD p undef = .pointer (some ⟨g, 0, none⟩)) :
    (results fn tmps).run Try.prog w = .ok (.agg #[v0, v1, v2, v3, v4, v5]) w := by
  have hp' : tmps[p]?.getD undef = .pointer (some ⟨g, 0, none⟩) := by simpa using hp
  simp only [results, h]
  simp [Result.andThen, hp', asAddr, go_sem, c0, c1, c2, c3, c4, c5]
theorem first_any (w : World) : Calls Try.prog 34 #[] w fun e w' => e = .returned (insV x0) ∧ Below w.heap.size w w' := by
  obtain ⟨v1, ev⟩ : ∃ v, v = w.alloc (.cells #[.int .i64 0, .int .i64 1, .int .i64 0, .int .i64 0, .bool true, .int .i32 97] 33) := ⟨_, rfl⟩
  have hb : Below w.heap.size w v1 := by rw [ev]; exact (Below.refl _ _).alloc (Nat.le_refl _) _
  have hq : v1.cell? ⟨w.heap.size, 0, none⟩ = some (.int .i64 0) ∧ v1.cell? ⟨w.heap.size, 1, none⟩ = some (.int .i64 1) ∧ v1.cell? ⟨w.heap.size, 2, none⟩ = some (.int .i64 0) ∧ v1.cell? ⟨w.heap.size, 3, none⟩ = some (.int .i64 0) ∧ v1.cell? ⟨w.heap.size, 4, none⟩ = some (.bool true) ∧ v1.cell? ⟨w.heap.size, 5, none⟩ = some (.int .i32 97) := by
    rw [ev]
    simp
  have HQ := Lib.hid (And.intro ev (And.intro hb hq))
  clear ev hb hq
  go_enter Try.func34, Try.ntmps34
  go_wp2_with fail
  rw [← HQ.out.1]
  obtain ⟨_, hb, c0, c1, c2, c3, c4, c5⟩ := HQ.out
  exact bodyPost_ret (ins_res Try.results34 _ c0 c1 c2 c3 c4 c5 rfl) rfl ⟨rfl, hb⟩
set_option maxHeartbeats 3200000 in
theorem awake15 {R : TreeP} (K : FugC R) (w : World) : Calls Try.prog 11 #[] w fun e w' => e = .returned (.bool true) ∧ Below w.heap.size w w' := by
  obtain ⟨a1, a2, a3, a4⟩ := awake_facts
  obtain ⟨b1, b2, b3⟩ := awake_text
  have ok0 : Ok ([] : List Ins) := .nil
  have ok1 : Ok [x0] := Ok.snoc (L := []) .nil (fun y hy => nomatch hy) (by decide) (.inl ⟨rfl, rfl⟩)
  have HF := Lib.hid (fun v => first_any v)
  have HA := Lib.hid (And.intro a1 (And.intro a2 (And.intro a3 a4)))
  have HB := Lib.hid (And.intro b1 (And.intro b2 b3))
  have HN := Lib.hid (K.new w)
  have HK := Lib.hid (And.intro ok0 ok1)
  clear a1 a2 a3 a4 b1 b2 b3 ok0 ok1
  go_enter Try.func11, Try.ntmps11
  go_wp2_with fail
  go_at_call 12
  refine HN.out.mono ?_
  rintro e v1 ⟨p, F, rfl, r1, hF, h1⟩
  have HF1 := Lib.hid hF
  have HC1 := Lib.hid h1
  have HR1 := Lib.hid r1
  clear r1 hF h1 HN
  go_wp2_with fail
  go_at_call 34
  refine (HF.out v1).mono ?_
  rintro e v2 ⟨rfl, h2⟩
  have HC2 := Lib.hid (HC1.out.trans (h2.mono HC1.out.size))
  have HR2 := Lib.hid (K.next HR1.out h2)
  clear h2
  go_wp2_with fail
  go_at_call 30
  refine (K.add x0 v2 HR2.out HK.out.1 (by decide)).mono ?_
  rintro e v3 ⟨rfl, F3, r3, hF3, h3⟩
  rw [HA.out.1] at r3 ⊢
  have hg3 : ∀ k, F3 k → w.heap.size ≤ k := fun k hk => by rcases hF3 k hk with h9 | h9; exact HF1.out k h9; exact Nat.le_trans HC2.out.size h9
  have HC3 := Lib.hid (HC2.out.trans (OutF.below h3 HF1.out HC2.out.size))
  have HR3 := Lib.hid r3
  have HF3 := Lib.hid hg3
  clear r3 hF3 h3 hg3
  go_wp2_with fail
  go_at_call 34
  refine (HF.out v3).mono ?_
  rintro e v4 ⟨rfl, h4⟩
  have HC4 := Lib.hid (HC3.out.trans (h4.mono HC3.out.size))
  have HR4 := Lib.hid (K.next HR3.out h4)
  clear h4
  go_wp2_with fail
  go_at_call 30
  refine (K.add x0 v4 HR4.out HK.out.2 (by decide)).mono ?_
  rintro e v5 ⟨rfl, F5, r5, hF5, h5⟩
  rw [HA.out.2.1] at r5 ⊢
  have hg5 : ∀ k, F5 k → w.heap.size ≤ k := fun k hk => by rcases hF5 k hk with h9 | h9; exact HF3.out k h9; exact Nat.le_trans HC4.out.size h9
  have HC5 := Lib.hid (HC4.out.trans (OutF.below h5 HF3.out HC4.out.size))
  have HR5 := Lib.hid r5
  have HF5 := Lib.hid hg5
  clear r5 hF5 h5 hg5
  go_wp2_with fail
  go_at_call 17
  refine (K.text v5 HR5.out HK.out.2 (by decide)).mono ?_
  rintro e v6 ⟨rfl, h6⟩
  rw [HA.out.2.2.1, HB.out.1]
  have HC6 := Lib.hid (HC5.out.trans (h6.mono HC5.out.size))
  have HR6 := Lib.hid (K.next HR5.out h6)
  clear h6
  go_wp2_with fail
  go_at_call 19
  refine (K.len v6 HR6.out HK.out.2 (by decide)).mono ?_
  rintro e v7 ⟨rfl, h7⟩
  rw [HA.out.2.2.1, HB.out.2.1]
  have HC7 := Lib.hid (HC6.out.trans (h7.mono HC6.out.size))
  have HR7 := Lib.hid (K.next HR6.out h7)
  clear h7
  go_wp2_with fail
  go_at_call 33
  refine (K.drop (0, 1) v7 HR7.out HK.out.2 (by decide)).mono ?_
  rintro e v8 ⟨rfl, F8, r8, hF8, h8⟩
  rw [HA.out.2.2.2] at r8 ⊢
  have HC8 := Lib.hid (HC7.out.trans (OutF.below h8 HF5.out HC7.out.size))
  have HR8 := Lib.hid r8
  clear r8 hF8 h8
  go_wp2_with fail
  go_at_call 17
  refine (K.text v8 HR8.out HK.out.2 (by decide)).mono ?_
  rintro e v9 ⟨rfl, h9⟩
  rw [HA.out.2.2.1, HB.out.2.2]
  have HC9 := Lib.hid (HC8.out.trans (h9.mono HC8.out.size))
  clear h9
  go_wp2_with fail
  go_ret
  exact ⟨rfl, HC9.out⟩
end Go.Proofs.Ytljciakgdpihdaa
