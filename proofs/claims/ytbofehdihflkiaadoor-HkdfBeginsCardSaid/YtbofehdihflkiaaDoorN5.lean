/-
  The document's Kind as a value (layer 6); cut, shift, turn. By an AI agent.
-/
import Derived.Test.YtbofehdihflkiaaDoorN4
import Derived.Deep.MidRow
namespace Go.Proofs.YtbofehdihflkiaaDoor
open Go Go.RowKit
/-- One of both sums: bits of a word, rounds, turns, the rounds' numbers, the words at first. -/
structure Ks where
  bits : Nat
  rounds : Nat
  u : Nat × Nat × Nat
  d : Nat × Nat × Nat
  e : Nat × Nat × Nat
  l : Nat × Nat × Nat
  keys : List Nat
  first : List Nat
/-- .. as it lies in memory. -/
structure Kd extends Ks where
  ka : Option Addr
  kc : Nat
  fa : Option Addr
  fc : Nat
def Kd.cells (K : Kd) : List Value := [.int .i64 (K.bits : Int), .int .i64 (K.rounds : Int), .int .i64 (K.u.1 : Int), .int .i64 (K.u.2.1 : Int), .int .i64 (K.u.2.2 : Int), .int .i64 (K.d.1 : Int), .int .i64 (K.d.2.1 : Int), .int .i64 (K.d.2.2 : Int),
  .int .i64 (K.e.1 : Int), .int .i64 (K.e.2.1 : Int), .int .i64 (K.e.2.2 : Int), .int .i64 (K.l.1 : Int), .int .i64 (K.l.2.1 : Int), .int .i64 (K.l.2.2 : Int), .slice K.ka K.keys.length K.kc, .slice K.fa K.first.length K.fc]
def kf (K : Kd) (i : Nat) : Value := K.cells.getD i undef
theorem Kd.len (K : Kd) : K.cells.length = 16 := rfl
theorem Kd.get (K : Kd) {i : Nat} (h : i < 16) : K.cells[i]? = some (kf K i) := by
  unfold kf
  rw [List.getD_eq_getElem?_getD, List.getElem?_eq_getElem (by rw [K.len]; exact h)]
  rfl
theorem Kd.map (K : Kd) : K.cells = (List.range 16).map (kf K) := rfl
abbrev kv (K : Kd) : Value := .agg K.cells.toArray
abbrev AK (K : Kd) : Obj := .cells K.cells.toArray 46
def OK (w : World) (B g : Nat) (K : Kd) : Prop := OwnF w B 46 (some ⟨g, 0, none⟩) 16 16 (kf K)
section
variable {w w' : World} {B g : Nat} {K : Kd}
theorem OK.keep (h : OK w B g K) (hb : Below w.heap.size w w') : OK w' B g K := OwnF.keep h hb
theorem OK.alloc (h : OK w B g K) (o : Obj) : OK (w.alloc o) B g K := OwnF.keep h ((Below.refl _ w).alloc (Nat.le_refl _) o)
theorem OK.new (hB : B ≤ w.heap.size) (K : Kd) : OK (w.alloc (AK K)) B w.heap.size K := OwnF.lit _ hB _ 16 _ (by decide) K.map
theorem OK.drew (h : OK w B g K) : OK w.drew B g K := OwnF.drew h
theorem OK.lt (h : OK w B g K) : g < w.heap.size := OwnF.lt h
theorem OK.mono {B' : Nat} (h : OK w B g K) (hb : B' ≤ B) : OK w B' g K := OwnF.mono h hb
theorem OK.cell_ (h : OK w B g K) {k : Nat} (hk : k < 16) : w.cell? ⟨g, k, none⟩ = some (kf K k) := OwnF.cell h hk
theorem OK.bits (h : OK w B g K) : w.cell? ⟨g, 0, none⟩ = some (.int .i64 (K.bits : Int)) := h.cell_ (by decide)
theorem OK.rounds (h : OK w B g K) : w.cell? ⟨g, 1, none⟩ = some (.int .i64 (K.rounds : Int)) := h.cell_ (by decide)
end
theorem OwnF.rng {w : World} {B g : Nat} {e : TypeId} {c n : Nat} {f : Nat → Value} (h : OwnF w B e (some ⟨g, 0, none⟩) c n f) {cs : List Value} (hl : cs.length ≤ n) (hc : ∀ k, k < cs.length → cs[k]? = some (f k)) : w.rangeAt g 0 cs := by
  intro j v hv
  have hj : j < cs.length := (List.getElem?_eq_some_iff.1 hv).1
  rw [hc j hj] at hv
  simp only [Option.some.injEq] at hv
  subst hv
  simpa using OwnF.cell h (k := j) (by omega)
theorem k_info : (Tryd.prog.info? 46).map (·.size) = some 16 := by kernel_rfl
section
variable {ops : Array Oper} {rest : List Oper} {a : Act} {w : World} {Q : Exit → Act → World → Prop} {B g : Nat} {K : Kd} {dst : Option Nat} {tp : TypeId} {ps : String} {af : Array Edge} {x y : Operand} {o : Oper}
theorem run_kload {s : Operand} (ho : o.op = .load 46 s) (h1 : a.eval s = .pointer (some ⟨g, 0, none⟩)) (h : OK w B g K) : (execOp a.eval o).run Tryd.prog w = .ok (.value (kv K)) w := by
  have h2 := run_loadAt_mid (P := Tryd.prog) w g 0 46 K.cells _ (OwnF.rng h (by rw [K.len]; exact Nat.le_refl _) fun k hk => K.get (by rwa [K.len] at hk)) Tryd.underlying46 rfl (by rw [K.len]; exact k_info)
  unfold execOp
  simp only [ho, h1, Sem.run_bind, h2, Result.andThen_ok, Sem.run_pure]
theorem k_load (h0 : OK w B g K) (hx : a.eval x = .pointer (some ⟨g, 0, none⟩)) (h : wpList Tryd.prog ops Q rest (a.put dst (kv K)) w) : wpList Tryd.prog ops Q (⟨dst, .load 46 x, tp, ps, af, none⟩ :: rest) a w :=
  wpList_load_mid rfl _ x rfl g 0 hx K.cells _ (OwnF.rng h0 (by rw [K.len]; exact Nat.le_refl _) fun k hk => K.get (by rwa [K.len] at hk)) Tryd.underlying46 rfl (by rw [K.len]; exact k_info) h
end
def cutN (K : Ks) (x : Nat) : Nat := if K.bits = 32 then x % 4294967296 else x
attribute [local irreducible] Kd.cells kf
set_option maxRecDepth 20000
theorem cut_any {K : Kd} {x : Nat} (w : World) : Calls Tryd.prog 41 #[kv K, .int .u64 (x : Int)] w fun en w' => en = .returned (.int .u64 ((cutN K.toKs x : Nat) : Int)) ∧ Below w.heap.size w w' := by
  obtain ⟨r, hr⟩ : ∃ r, r = cutN K.toKs x := ⟨_, rfl⟩
  rw [← hr]
  have ok := OK.new (w := w) (Nat.le_refl _) K
  have cb := ok.bits
  have hb := (Below.refl w.heap.size w).alloc (Nat.le_refl _) (AK K)
  unfold cutN at hr
  by_cases h32 : K.bits = 32
  · rw [if_pos h32] at hr
    have g1 : ((K.bits : Int) == 32) = true := by rw [h32]; rfl
    have g2 : (x : Int).tmod 4294967296 = (r : Int) := by rw [Int.tmod_eq_emod_of_nonneg (by omega), hr]; omega
    have g3 : (x : Int) % 4294967296 = (r : Int) := by rw [hr]; omega
    clear h32 hr ok
    go_enter Tryd.func41, Tryd.ntmps41
    go_wp2_with fail
    go_ret
    exact ⟨rfl, hb⟩
  · rw [if_neg h32] at hr
    have g1 : ((K.bits : Int) == 32) = false := by simp; omega
    subst hr
    clear h32 ok
    go_enter Tryd.func41, Tryd.ntmps41
    go_wp2_with fail
    go_ret
    exact ⟨rfl, hb⟩
end Go.Proofs.YtbofehdihflkiaaDoor
