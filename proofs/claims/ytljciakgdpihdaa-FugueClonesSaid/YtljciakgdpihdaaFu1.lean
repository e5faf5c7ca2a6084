/-
  Layer 15, the landed code: a map of elements by their names, in memory. By an AI agent.
-/
import Derived.Test.YtljciakgdpihdaaFc4
import Derived.WideKeyRuns
import Derived.Maps.RangeRun
namespace Go.Proofs.Ytljciakgdpihdaa
open Go Go.RowKit
set_option maxRecDepth 20000
theorem id_equal (a b : IDt) (w : World) : (Op.equal 31 (idV a) (idV b)).run Try.prog w = .ok (decide (a = b)) w := by
  have h : decide (a = b) = (a.1 == b.1 && a.2 == b.2) := by
    rw [Bool.eq_iff_iff]
    simp [Prod.ext_iff]
  rw [h]
  show (Op.equalIn 10000 31 (idV a) (idV b)).run Try.prog w = _
  go_simp
  by_cases h1 : a.1 = b.1 <;> by_cases h2 : a.2 = b.2 <;> simp [h1, h2]
theorem check_int (e : Bool) (n : Nat) (x : Int) (w : World) : (Instr.checkKey e (n + 1) 3 (.int .i64 x)).run Try.prog w = .ok () w := by
  simp only [Instr.checkKey, Sem.run_bind, run_underlying Try.underlying3, Result.andThen_ok, Sem.run_pure]
theorem id_check' (e : Bool) (n : Nat) (a : IDt) (w : World) : (Instr.checkKey e (n + 2) 31 (idV a)).run Try.prog w = .ok () w := by
  rw [Instr.checkKey]
  simp [Sem.run_bind, run_underlying Try.underlying31, Result.andThen_ok, Sem.run_pure, go_sem, check_int]
theorem id_check (e : Bool) (a : IDt) (w : World) : (Instr.checkKey e 10000 31 (idV a)).run Try.prog w = .ok () w := id_check' e 9998 a w
/-- An entry: a name, the element's block, when it came. -/
def entE (ad : IDt → Nat) (p : IDt × Nat) : MapEntry := ⟨idV p.1, .pointer (some ⟨ad p.1, 0, none⟩), p.2⟩
/-- Block M is a map of these entries. -/
structure MapIs (w : World) (M : Nat) (ad : IDt → Nat) (ps : List (IDt × Nat)) (clk : Nat) : Prop where
  here : w.heap[M]? = some (.map (ps.map (entE ad)).toArray clk)
  keys : (ps.map Prod.fst).Nodup
  borns : (ps.map Prod.snd).Nodup
  old : ∀ p ∈ ps, p.2 < clk
theorem MapIs.keep {w w' : World} {M : Nat} {ad : IDt → Nat} {ps : List (IDt × Nat)} {clk : Nat} (h : MapIs w M ad ps clk) (hb : w'.heap[M]? = w.heap[M]?) : MapIs w' M ad ps clk :=
  ⟨hb.trans h.here, h.keys, h.borns, h.old⟩
/-- What a look-up tells. -/
def ptK (ad : IDt → Nat) (ps : List (IDt × Nat)) (i : IDt) : Value := if i ∈ ps.map Prod.fst then .pointer (some ⟨ad i, 0, none⟩) else .pointer none
theorem find_none (ad : IDt → Nat) (i : IDt) (w : World) : ∀ (ps : List (IDt × Nat)) (j : Nat), i ∉ ps.map Prod.fst → (Instr.findAsking 31 (idV i) (ps.map (entE ad)) j).run Try.prog w = .ok none w
  | [], j, _ => by simp [Instr.findAsking]
  | p :: ps, j, h => by
    rw [List.map_cons, List.mem_cons, not_or] at h
    rw [List.map_cons, Instr.findAsking, Sem.run_bind]
    show ((Op.equal 31 (idV i) (idV p.1)).run Try.prog w).andThen _ = _
    rw [id_equal, decide_eq_false h.1]
    exact find_none ad i w ps (j + 1) h.2
theorem find_some (ad : IDt → Nat) (i : IDt) (w : World) : ∀ (ps : List (IDt × Nat)) (j : Nat), i ∈ ps.map Prod.fst → ∃ k, (Instr.findAsking 31 (idV i) (ps.map (entE ad)) j).run Try.prog w = .ok (some (k, .pointer (some ⟨ad i, 0, none⟩))) w
  | [], j, h => by simp at h
  | p :: ps, j, h => by
    rw [List.map_cons, Instr.findAsking, Sem.run_bind]
    show ∃ k, ((Op.equal 31 (idV i) (idV p.1)).run Try.prog w).andThen _ = _
    rw [id_equal]
    by_cases e : i = p.1
    · rw [decide_eq_true e]
      refine ⟨j, ?_⟩
      rw [e]
      rfl
    · rw [decide_eq_false e]
      rw [List.map_cons, List.mem_cons] at h
      exact find_some ad i w ps (j + 1) (h.resolve_left e)
theorem find_eq (w : World) (x : Value) (es : List MapEntry) : (Instr.findKey 31 x es).run Try.prog w = (Instr.findAsking 31 x es).run Try.prog w := run_findKey_eq w (by rw [Try.underlying31]) x es
theorem zero_ptr (w : World) : (zeroValue 69).run Try.prog w = .ok (.pointer none) w := by kernel_rfl
section
variable {w : World} {M : Nat} {ad : IDt → Nat} {ps : List (IDt × Nat)} {clk : Nat}
theorem look_run (h : MapIs w M ad ps clk) (i : IDt) : (Instr.lookup 72 (.map (some M)) (idV i) false).run Try.prog w = .ok (ptK ad ps i) w := by
  have hl : (ps.map (entE ad)).toArray.toList = ps.map (entE ad) := rfl
  unfold ptK
  by_cases hi : i ∈ ps.map Prod.fst
  · obtain ⟨k, hk⟩ := find_some ad i w ps 0 hi
    rw [if_pos hi]
    simp [Instr.lookup, run_underlying Try.underlying72, MapKept.run_getObj_map h.here, id_check, find_eq, hk, Result.andThen]
  · have hk := find_none ad i w ps 0 hi
    rw [if_neg hi]
    simp [Instr.lookup, run_underlying Try.underlying72, MapKept.run_getObj_map h.here, id_check, find_eq, hk, Result.andThen]
/-- A block is set to something else. -/
abbrev putB (w : World) (b : Nat) (o : Obj) : World := ChangeMaps.setBlock w b o
theorem putB_same {b : Nat} {o' : Obj} (hb : b < w.heap.size) : (putB w b o').heap[b]? = some o' := by simp [putB, ChangeMaps.setBlock, hb]
theorem putB_other {b k : Nat} {o' : Obj} (h : k ≠ b) : (putB w b o').heap[k]? = w.heap[k]? := by simp [putB, ChangeMaps.setBlock, Array.getElem?_setIfInBounds_ne (Ne.symm h)]
theorem putB_size {b : Nat} {o' : Obj} : (putB w b o').heap.size = w.heap.size := by simp [putB, ChangeMaps.setBlock]
/-- Another element's address. -/
def adSet (ad : IDt → Nat) (i : IDt) (b : Nat) : IDt → Nat := fun j => if j = i then b else ad j
theorem adSet_same {i : IDt} {b : Nat} : adSet ad i b i = b := if_pos rfl
theorem adSet_other {i j : IDt} {b : Nat} (h : j ≠ i) : adSet ad i b j = ad j := if_neg h
theorem store_run (h : MapIs w M ad ps clk) {i : IDt} (hi : i ∉ ps.map Prod.fst) (b : Nat) :
    (Instr.mapUpdate 72 (.map (some M)) (idV i) (.pointer (some ⟨b, 0, none⟩))).run Try.prog w = .ok () (putB w M (.map ((ps ++ [(i, clk)]).map (entE (adSet ad i b))).toArray (clk + 1))) := by
  have hk := find_none ad i w ps 0 hi
  have he : ((ps ++ [(i, clk)]).map (entE (adSet ad i b))).toArray = (ps.map (entE ad)).toArray.push ⟨idV i, .pointer (some ⟨b, 0, none⟩), clk⟩ := by
    rw [List.map_append, List.map_singleton, List.push_toArray]
    congr 2
    · refine List.map_congr_left fun p hp => ?_
      unfold entE
      rw [adSet_other (fun e => hi (by rw [← e]; exact List.mem_map.2 ⟨p, hp, rfl⟩))]
    · unfold entE
      rw [adSet_same]
  rw [he]
  simp [Instr.mapUpdate, run_underlying Try.underlying72, MapKept.run_getObj_map h.here, id_check, find_eq, hk, MapKept.run_setObj_map _ h.here, Result.andThen, putB, ChangeMaps.setBlock]
theorem MapIs.lt (h : MapIs w M ad ps clk) : M < w.heap.size := (Array.getElem?_eq_some_iff.1 h.here).1
theorem MapIs.store {w' : World} (h : MapIs w M ad ps clk) {i : IDt} (hi : i ∉ ps.map Prod.fst) (b : Nat) (hw : w'.heap[M]? = some (.map ((ps ++ [(i, clk)]).map (entE (adSet ad i b))).toArray (clk + 1))) : MapIs w' M (adSet ad i b) (ps ++ [(i, clk)]) (clk + 1) := by
  refine ⟨hw, ?_, ?_, ?_⟩
  · rw [List.map_append, List.map_singleton]
    exact List.nodup_append.2 ⟨h.keys, by simp, fun a ha b hb e => by rw [List.mem_singleton] at hb; exact hi ((show i = a from (e.trans hb).symm) ▸ ha)⟩
  · rw [List.map_append, List.map_singleton]
    refine List.nodup_append.2 ⟨h.borns, by simp, fun a ha b hb e => ?_⟩
    rw [List.mem_singleton] at hb
    obtain ⟨p, hp, rfl⟩ := List.mem_map.1 ha
    have := h.old p hp
    omega
  · intro p hp
    rcases List.mem_append.1 hp with h1 | h1
    · have := h.old p h1
      omega
    · rw [List.mem_singleton.1 h1]
      exact Nat.lt_succ_self _
theorem map_len (h : MapIs w M ad ps clk) (ty : TypeId) : (Builtin.len_ #[72] ty #[.map (some M)]).run Try.prog w = .ok (.int .i64 (ps.length : Int)) w := by
  rw [run_len_map w 72 ty M _ _ Try.underlying72 h.here]
  simp [goInt]
end
end Go.Proofs.Ytljciakgdpihdaa
