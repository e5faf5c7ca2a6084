/-
  More of slices: up to a place, and up to a place with no room behind (beside N25). By an AI agent.
-/
import Derived.Test.YthamhpgjjbiplaaDoorSb
namespace Go.Proofs.YthamhpgjjbiplaaDoor
open Go Go.RowKit
theorem slice_run_hi (w : World) {A : Option Addr} {n c h : Nat} (h1 : h ≤ c) : (Instr.slice 27 (.slice A n c) none (some (.int .i64 (h : Int))) none).run Tryd.prog w = .ok (.slice (subA A c 0) h c) w := by
  unfold Instr.slice Instr.sliceBounds Instr.sliceBound subA
  simp [Sem.run_bind, asIntOf, run_underlying Tryd.underlying27 w, size_u8 w, h1]
theorem slice_arm_hi {ops : Array Oper} {rest : List Oper} {a : Act} {w : World} {Q : Exit → Act → World → Prop} {dst : Option Nat} {tp : TypeId} {ps : String} {af : Array Edge} {x hi : Operand} {A : Option Addr} {n c : Nat} (h : Nat) (h1 : h ≤ c) (e1 : a.eval x = .slice A n c) (e2 : a.eval hi = .int .i64 (h : Int))
    (hh : wpList Tryd.prog ops Q rest (a.put dst (.slice (subA A c 0) h c)) w) : wpList Tryd.prog ops Q (⟨dst, .slice 27 x none (some hi) none, tp, ps, af, none⟩ :: rest) a w :=
  wpList_plain rfl fun _ hK => by
    unfold Oper.wp execOp
    simp only [e1, e2, Option.map_some, Option.map_none, Instr.sliceAt, Sem.run_bind, run_underlying Tryd.underlying27 w, slice_run_hi w h1, Result.andThen_ok, Sem.run_pure]
    exact hK _ _ hh
theorem slice_run_3 (w : World) {A : Option Addr} {n c h m : Nat} (h1 : h ≤ m) (h2 : m ≤ c) : (Instr.slice 27 (.slice A n c) none (some (.int .i64 (h : Int))) (some (.int .i64 (m : Int)))).run Tryd.prog w = .ok (.slice (subA A m 0) h m) w := by
  unfold Instr.slice Instr.sliceBounds Instr.sliceBound subA
  simp [Sem.run_bind, asIntOf, run_underlying Tryd.underlying27 w, size_u8 w, h1, h2]
theorem slice_arm_3 {ops : Array Oper} {rest : List Oper} {a : Act} {w : World} {Q : Exit → Act → World → Prop} {dst : Option Nat} {tp : TypeId} {ps : String} {af : Array Edge} {x hi mx : Operand} {A : Option Addr} {n c : Nat} (h m : Nat) (h1 : h ≤ m) (h2 : m ≤ c) (e1 : a.eval x = .slice A n c) (e2 : a.eval hi = .int .i64 (h : Int)) (e3 : a.eval mx = .int .i64 (m : Int))
    (hh : wpList Tryd.prog ops Q rest (a.put dst (.slice (subA A m 0) h m)) w) : wpList Tryd.prog ops Q (⟨dst, .slice 27 x none (some hi) (some mx), tp, ps, af, none⟩ :: rest) a w :=
  wpList_plain rfl fun _ hK => by
    unfold Oper.wp execOp
    simp only [e1, e2, e3, Option.map_some, Option.map_none, Instr.sliceAt, Sem.run_bind, run_underlying Tryd.underlying27 w, slice_run_3 w h1 h2, Result.andThen_ok, Sem.run_pure]
    exact hK _ _ hh
/-- The first n bytes. -/
theorem Rd.pre {w : World} {B c n : Nat} {A : Option Addr} {bs : List UInt8} (h : Rd w B A c bs) (hn : n ≤ bs.length) (h0 : 0 < n) : Rd w B A c (bs.take n) := by
  have hl : (bs.take n).length = n := by rw [List.length_take]; omega
  have hcap := h.cap
  obtain ⟨b, o, rfl, hb, _⟩ := h.at_ (k := 0) (by omega)
  refine ⟨by omega, fun h => by simp at h, fun _ => ⟨b, o, rfl, hb, fun k hk => ?_⟩⟩
  obtain ⟨b2, o2, e2, _, c2⟩ := h.at_ (k := k) (by omega)
  simp only [Option.some.injEq, Addr.mk.injEq] at e2
  obtain ⟨rfl, rfl, _⟩ := e2
  rw [c2]
  unfold nth
  rw [List.getElem?_take, if_pos (by omega)]
/-- The first n bytes, with no room behind. -/
theorem Rd.cut_ {w : World} {B c n : Nat} {A : Option Addr} {bs : List UInt8} (h : Rd w B A c bs) (hn : n ≤ bs.length) : Rd w B (subA A n 0) n (bs.take n) := by
  have hl : (bs.take n).length = n := by rw [List.length_take]; omega
  by_cases h0 : n = 0
  · subst h0
    exact ⟨Nat.le_refl _, fun _ => ⟨rfl, rfl⟩, fun hne => absurd (List.take_zero) hne⟩
  · obtain ⟨b, o, rfl, hb, _⟩ := h.at_ (k := 0) (by omega)
    have e : subA (some ⟨b, o, none⟩) n 0 = some ⟨b, o, none⟩ := by
      unfold subA
      rw [if_neg h0]
      simp [Addr.add_mid]
    rw [e]
    refine ⟨by omega, fun h => by simp at h, fun _ => ⟨b, o, rfl, hb, fun k hk => ?_⟩⟩
    obtain ⟨b2, o2, e2, _, c2⟩ := h.at_ (k := k) (by omega)
    simp only [Option.some.injEq, Addr.mk.injEq] at e2
    obtain ⟨rfl, rfl, _⟩ := e2
    rw [c2]
    unfold nth
    rw [List.getElem?_take, if_pos (by omega)]
/-- The first bytes, if none, too. -/
theorem Rd.pre0 {w : World} {B c n : Nat} {A : Option Addr} {bs : List UInt8} (h : Rd w B A c bs) (hn : n ≤ bs.length) : Rd w B A c (bs.take n) := by
  rcases Nat.eq_zero_or_pos n with h0 | h0
  · subst h0
    rw [List.take_zero]
    exact ⟨Nat.zero_le _, fun e => ⟨rfl, (h.nil e).2⟩, fun e => absurd rfl e⟩
  · exact h.pre hn h0
end Go.Proofs.YthamhpgjjbiplaaDoor
