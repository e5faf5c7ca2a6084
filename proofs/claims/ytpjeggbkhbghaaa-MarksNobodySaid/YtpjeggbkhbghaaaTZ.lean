/-
  Layer 15, the landed code: a map of elements by their names, in memory. By an AI agent. The order of a text: heads, next ones, going through it element by element (layer 15; lists, of no program). By an AI agent. Layer 15, the landed code: a tree in memory; its beginning, how many are kept, which of two names is less, what may be. By an AI agent.
-/
import Derived.Test.YtpjeggbkhbghaaaTF
import Derived.WideKeyRuns
import Derived.Maps.RangeRun
import Derived.Test.YtpjeggbkhbghaaaTG
namespace Go.Proofs.Ytpjeggbkhbghaaa
open Go Go.RowKit
set_option maxRecDepth 20000
theorem id_equal (a b : IDt) (w : World) : (Op.equal 27 (idV a) (idV b)).run Try.prog w = .ok (decide (a = b)) w := by
  have h : decide (a = b) = (a.1 == b.1 && a.2 == b.2) := by
    rw [Bool.eq_iff_iff]
    simp [Prod.ext_iff]
  rw [h]
  show (Op.equalIn 10000 27 (idV a) (idV b)).run Try.prog w = _
  go_simp
  by_cases h1 : a.1 = b.1 <;> by_cases h2 : a.2 = b.2 <;> simp [h1, h2]
theorem check_int (e : Bool) (n : Nat) (x : Int) (w : World) : (Instr.checkKey e (n + 1) 3 (.int .i64 x)).run Try.prog w = .ok () w := by
  simp only [Instr.checkKey, Sem.run_bind, run_underlying Try.underlying3, Result.andThen_ok, Sem.run_pure]
theorem id_check' (e : Bool) (n : Nat) (a : IDt) (w : World) : (Instr.checkKey e (n + 2) 27 (idV a)).run Try.prog w = .ok () w := by
  rw [Instr.checkKey]
  simp [Sem.run_bind, run_underlying Try.underlying27, Result.andThen_ok, Sem.run_pure, go_sem, check_int]
theorem id_check (e : Bool) (a : IDt) (w : World) : (Instr.checkKey e 10000 27 (idV a)).run Try.prog w = .ok () w := id_check' e 9998 a w
/-- An entry: a name, the element's block, when it came. -/
def entE (ad : IDt → Nat) (p : IDt × Nat) : MapEntry := ⟨idV p.1, .pointer (some ⟨ad p.1, 0, none⟩), p.2⟩
/-- Block M is a map of these entries. -/
structure MapIs (w : World) (M : Nat) (ad : IDt → Nat) (ps : List (IDt × Nat)) (clk : Nat) : Prop where
  here : w.heap[M]? = some (.map (ps.map (entE ad)).toArray clk)
  keys : (ps.map Prod.fst).Nodup
  borns : (ps.map Prod.snd).Nodup
  old : ∀ p ∈ ps, p.2 < clk
theorem MapIs.keep {w w' : World} {M : Nat} {ad : IDt → Nat} {ps : List (IDt × Nat)} {clk : Nat} (h : MapIs w M ad ps clk) (hb : w'.heap[M]? = w.heap[M]?) : MapIs w' M ad ps clk :=
  ⟨hb.trans h.here, h.keys, h.borns, h.old⟩
/-- What a look-up tells. -/
def ptK (ad : IDt → Nat) (ps : List (IDt × Nat)) (i : IDt) : Value := if i ∈ ps.map Prod.fst then .pointer (some ⟨ad i, 0, none⟩) else .pointer none
theorem find_none (ad : IDt → Nat) (i : IDt) (w : World) : ∀ (ps : List (IDt × Nat)) (j : Nat), i ∉ ps.map Prod.fst → (Instr.findAsking 27 (idV i) (ps.map (entE ad)) j).run Try.prog w = .ok none w
  | [], j, _ => by simp [Instr.findAsking]
  | p :: ps, j, h => by
    rw [List.map_cons, List.mem_cons, not_or] at h
    rw [List.map_cons, Instr.findAsking, Sem.run_bind]
    show ((Op.equal 27 (idV i) (idV p.1)).run Try.prog w).andThen _ = _
    rw [id_equal, decide_eq_false h.1]
    exact find_none ad i w ps (j + 1) h.2
theorem find_some (ad : IDt → Nat) (i : IDt) (w : World) : ∀ (ps : List (IDt × Nat)) (j : Nat), i ∈ ps.map Prod.fst → ∃ k, (Instr.findAsking 27 (idV i) (ps.map (entE ad)) j).run Try.prog w = .ok (some (k, .pointer (some ⟨ad i, 0, none⟩))) w
  | [], j, h => by simp at h
  | p :: ps, j, h => by
    rw [List.map_cons, Instr.findAsking, Sem.run_bind]
    show ∃ k, ((Op.equal 27 (idV i) (idV p.1)).run Try.prog w).andThen _ = _
    rw [id_equal]
    by_cases e : i = p.1
    · rw [decide_eq_true e]
      refine ⟨j, ?_⟩
      rw [e]
      rfl
    · rw [decide_eq_false e]
      rw [List.map_cons, List.mem_cons] at h
      exact find_some ad i w ps (j + 1) (h.resolve_left e)
theorem find_eq (w : World) (x : Value) (es : List MapEntry) : (Instr.findKey 27 x es).run Try.prog w = (Instr.findAsking 27 x es).run Try.prog w := run_findKey_eq w (by rw [Try.underlying27]) x es
theorem zero_ptr (w : World) : (zeroValue 104).run Try.prog w = .ok (.pointer none) w := by kernel_rfl
section
variable {w : World} {M : Nat} {ad : IDt → Nat} {ps : List (IDt × Nat)} {clk : Nat}
theorem look_run (h : MapIs w M ad ps clk) (i : IDt) : (Instr.lookup 111 (.map (some M)) (idV i) false).run Try.prog w = .ok (ptK ad ps i) w := by
  have hl : (ps.map (entE ad)).toArray.toList = ps.map (entE ad) := rfl
  unfold ptK
  by_cases hi : i ∈ ps.map Prod.fst
  · obtain ⟨k, hk⟩ := find_some ad i w ps 0 hi
    rw [if_pos hi]
    simp [Instr.lookup, run_underlying Try.underlying111, MapKept.run_getObj_map h.here, id_check, find_eq, hk, Result.andThen]
  · have hk := find_none ad i w ps 0 hi
    rw [if_neg hi]
    simp [Instr.lookup, run_underlying Try.underlying111, MapKept.run_getObj_map h.here, id_check, find_eq, hk, Result.andThen]
/-- A block is set to something else. -/
abbrev putB (w : World) (b : Nat) (o : Obj) : World := ChangeMaps.setBlock w b o
theorem putB_same {b : Nat} {o' : Obj} (hb : b < w.heap.size) : (putB w b o').heap[b]? = some o' := by simp [putB, ChangeMaps.setBlock, hb]
theorem putB_other {b k : Nat} {o' : Obj} (h : k ≠ b) : (putB w b o').heap[k]? = w.heap[k]? := by simp [putB, ChangeMaps.setBlock, Array.getElem?_setIfInBounds_ne (Ne.symm h)]
theorem putB_size {b : Nat} {o' : Obj} : (putB w b o').heap.size = w.heap.size := by simp [putB, ChangeMaps.setBlock]
/-- Another element's address. -/
def adSet (ad : IDt → Nat) (i : IDt) (b : Nat) : IDt → Nat := fun j => if j = i then b else ad j
theorem adSet_same {i : IDt} {b : Nat} : adSet ad i b i = b := if_pos rfl
theorem adSet_other {i j : IDt} {b : Nat} (h : j ≠ i) : adSet ad i b j = ad j := if_neg h
theorem store_run (h : MapIs w M ad ps clk) {i : IDt} (hi : i ∉ ps.map Prod.fst) (b : Nat) :
    (Instr.mapUpdate 111 (.map (some M)) (idV i) (.pointer (some ⟨b, 0, none⟩))).run Try.prog w = .ok () (putB w M (.map ((ps ++ [(i, clk)]).map (entE (adSet ad i b))).toArray (clk + 1))) := by
  have hk := find_none ad i w ps 0 hi
  have he : ((ps ++ [(i, clk)]).map (entE (adSet ad i b))).toArray = (ps.map (entE ad)).toArray.push ⟨idV i, .pointer (some ⟨b, 0, none⟩), clk⟩ := by
    rw [List.map_append, List.map_singleton, List.push_toArray]
    congr 2
    · refine List.map_congr_left fun p hp => ?_
      unfold entE
      rw [adSet_other (fun e => hi (by rw [← e]; exact List.mem_map.2 ⟨p, hp, rfl⟩))]
    · unfold entE
      rw [adSet_same]
  rw [he]
  simp [Instr.mapUpdate, run_underlying Try.underlying111, MapKept.run_getObj_map h.here, id_check, find_eq, hk, MapKept.run_setObj_map _ h.here, Result.andThen, putB, ChangeMaps.setBlock]
theorem MapIs.lt (h : MapIs w M ad ps clk) : M < w.heap.size := (Array.getElem?_eq_some_iff.1 h.here).1
theorem MapIs.store {w' : World} (h : MapIs w M ad ps clk) {i : IDt} (hi : i ∉ ps.map Prod.fst) (b : Nat) (hw : w'.heap[M]? = some (.map ((ps ++ [(i, clk)]).map (entE (adSet ad i b))).toArray (clk + 1))) : MapIs w' M (adSet ad i b) (ps ++ [(i, clk)]) (clk + 1) := by
  refine ⟨hw, ?_, ?_, ?_⟩
  · rw [List.map_append, List.map_singleton]
    exact List.nodup_append.2 ⟨h.keys, by simp, fun a ha b hb e => by rw [List.mem_singleton] at hb; exact hi ((show i = a from (e.trans hb).symm) ▸ ha)⟩
  · rw [List.map_append, List.map_singleton]
    refine List.nodup_append.2 ⟨h.borns, by simp, fun a ha b hb e => ?_⟩
    rw [List.mem_singleton] at hb
    obtain ⟨p, hp, rfl⟩ := List.mem_map.1 ha
    have := h.old p hp
    omega
  · intro p hp
    rcases List.mem_append.1 hp with h1 | h1
    · have := h.old p h1
      omega
    · rw [List.mem_singleton.1 h1]
      exact Nat.lt_succ_self _
theorem map_len (h : MapIs w M ad ps clk) (ty : TypeId) : (Builtin.len_ #[111] ty #[.map (some M)]).run Try.prog w = .ok (.int .i64 (ps.length : Int)) w := by
  rw [run_len_map w 111 ty M _ _ Try.underlying111 h.here]
  simp [goInt]
end
end Go.Proofs.Ytpjeggbkhbghaaa
namespace Go.Proofs.Ytpjeggbkhbghaaa
/-- Who stands next behind one of this name. -/
def nextIn : List Ins → IDt → Option Ins
  | [], _ => none
  | y :: r, i => if y.id = i then r.head? else nextIn r i
theorem nextIn_at {z : Ins} {B : List Ins} : ∀ {A : List Ins}, (∀ y ∈ A, y.id ≠ z.id) → nextIn (A ++ z :: B) z.id = B.head?
  | [], _ => if_pos rfl
  | y :: A, h => by
    rw [List.cons_append, nextIn, if_neg (h y (List.mem_cons.2 (.inl rfl)))]
    exact nextIn_at fun u hu => h u (List.mem_cons.2 (.inr hu))
theorem nextIn_in {i : IDt} {B : List Ins} : ∀ {A : List Ins}, (∀ y ∈ A, y.id ≠ i) → nextIn (A ++ B) i = nextIn B i
  | [], _ => rfl
  | y :: A, h => by
    rw [List.cons_append, nextIn, if_neg (h y (List.mem_cons.2 (.inl rfl)))]
    exact nextIn_in fun u hu => h u (List.mem_cons.2 (.inr hu))
theorem nextIn_out {i : IDt} {B C : List Ins} : ∀ {A : List Ins}, (∃ y ∈ A, y.id = i) → A.getLast?.map Ins.id ≠ some i → nextIn (A ++ B) i = nextIn (A ++ C) i
  | [], h, _ => by obtain ⟨y, hy, _⟩ := h; cases hy
  | [y], h, hl => by
    obtain ⟨z, hz, e⟩ := h
    rw [List.mem_singleton.1 hz] at e
    exact absurd (by simp [e]) hl
  | y :: z :: A, h, hl => by
    show (if y.id = i then (z :: A ++ B).head? else nextIn (z :: A ++ B) i) = if y.id = i then (z :: A ++ C).head? else nextIn (z :: A ++ C) i
    by_cases hy : y.id = i
    · rw [if_pos hy, if_pos hy]
      rfl
    · rw [if_neg hy, if_neg hy]
      refine nextIn_out (A := z :: A) ?_ (by simpa using hl)
      obtain ⟨u, hu, e⟩ := h
      rcases List.mem_cons.1 hu with h1 | h1
      · exact absurd (by rw [← h1]; exact e) hy
      · exact ⟨u, h1, e⟩
/-- The first so many are less than x, the others are not: there x is put. -/
theorem insK_cut {x : Ins} {A B : List Ins} (hA : ∀ y ∈ A, idLt y.id x.id = true) (hB : ∀ y ∈ B, idLt y.id x.id = false) : insK x (A ++ B) = A ++ x :: B := by
  unfold insK
  rw [List.filter_append, List.filter_append, List.filter_eq_self.2 hA, List.filter_eq_nil_iff.2 (fun y hy => by rw [hB y hy]; decide), List.filter_eq_nil_iff.2 (fun y hy => by rw [hA y hy]; decide), List.filter_eq_self.2 (fun y hy => by rw [hB y hy]; rfl), List.append_nil, List.nil_append]
theorem sorted_cut {x z : Ins} {A B : List Ins} (h : Sorted (A ++ z :: B)) (hz : idLt z.id x.id = false) : ∀ y ∈ z :: B, idLt y.id x.id = false := by
  obtain ⟨_, h2, _⟩ := List.pairwise_append.1 h
  obtain ⟨h3, _⟩ := List.pairwise_cons.1 h2
  intro y hy
  rcases List.mem_cons.1 hy with e | hy
  · rw [e]; exact hz
  · cases hk : idLt y.id x.id with
    | false => rfl
    | true => rw [idLt_trans (h3 y hy) hk] at hz; cases hz
/-- All that hangs below one on a side, in the order. -/
def blw (L : List Ins) (p : IDt) (s : Bool) : List Ins := belL (L.length + 1) L p s
/-- One with all that hangs below it. -/
def subL (L : List Ins) (x : Ins) : List Ins := blw L x.id false ++ x :: blw L x.id true
theorem blw_kids {L : List Ins} (h : Ok L) (p : IDt) (s : Bool) : blw L p s = (kidsL L p s).flatMap (subL L) := by
  have e1 : blw L p s = belL (L.length + 1 + 1) L p s := (bel_fuel L.length s (h.deep p) 1).symm
  rw [e1, belL]
  rfl
theorem nodes_blw (L : List Ins) : nodesL L = blw L (0, 0) true := rfl
/-- An element with what hangs below it stands behind P; so many steps are to be done behind it. -/
inductive Sits (L : List Ins) : Ins → List Ins → Nat → Prop where
  | top {e : Ins} {A B : List Ins} : kidsL L (0, 0) true = A ++ e :: B → Sits L e (A.flatMap (subL L)) (4 * (B.flatMap (subL L)).length + 1)
  | left {e p : Ins} {A B P : List Ins} {n : Nat} : Sits L p P n → p ∈ L → kidsL L p.id false = A ++ e :: B → Sits L e (P ++ A.flatMap (subL L)) (4 * (B.flatMap (subL L)).length + 3 + 4 * (blw L p.id true).length + n)
  | right {e p : Ins} {A B P : List Ins} {n : Nat} : Sits L p P n → p ∈ L → kidsL L p.id true = A ++ e :: B → Sits L e (P ++ blw L p.id false ++ p :: A.flatMap (subL L)) (4 * (B.flatMap (subL L)).length + 1 + n)
/-- Where the run stands: at one that is to be gone down from, that is to be given, behind which it goes on, from which it goes up (none: the beginning). -/
inductive Stand where
  | down (e : Ins)
  | give (e : Ins)
  | behind (e : Option Ins)
  | up (e : Option Ins)
/-- What has been given there, and how many steps are to be done at most. -/
def Ran (L : List Ins) : Stand → List Ins → Nat → Prop
  | .down e, pre, m => e ∈ L ∧ ∃ n, Sits L e pre n ∧ m = 4 * (subL L e).length + n
  | .give e, pre, m => e ∈ L ∧ ∃ P n, Sits L e P n ∧ pre = P ++ blw L e.id false ∧ m = 3 + 4 * (blw L e.id true).length + n
  | .behind (some e), pre, m => e ∈ L ∧ ∃ P n, Sits L e P n ∧ pre = P ++ blw L e.id false ++ [e] ∧ m = 2 + 4 * (blw L e.id true).length + n
  | .up (some e), pre, m => e ∈ L ∧ ∃ P n, Sits L e P n ∧ pre = P ++ subL L e ∧ m = n + 1
  | .behind none, pre, m => pre = [] ∧ m = 2 + 4 * (nodesL L).length
  | .up none, pre, m => pre = nodesL L ∧ m = 1
theorem kid_mem {L : List Ins} {p : IDt} {s : Bool} {A B : List Ins} {z : Ins} (h : kidsL L p s = A ++ z :: B) : z ∈ L ∧ z.par = p ∧ z.right = s := by
  have := (mem_kids p s (L := L) (y := z)).1 (by rw [h]; simp)
  exact ⟨this.1, hangs_iff.1 this.2⟩
theorem kid_apart {L : List Ins} (hok : Ok L) {p : IDt} {s : Bool} {A B : List Ins} {z : Ins} (h : kidsL L p s = A ++ z :: B) : (∀ y ∈ A, y.id ≠ z.id) ∧ ∀ y ∈ B, y.id ≠ z.id := by
  have hd := sorted_distinct (kids_sorted p s (L := L) hok.distinct)
  rw [h] at hd
  exact distinct_mid hd
section
variable {L : List Ins} {e : Ins} {pre : List Ins} {m : Nat}
theorem head_some {α : Type} {l : List α} {z : α} (h : l.head? = some z) : ∃ B, l = z :: B := by
  cases l with
  | nil => cases h
  | cons y B => cases h; exact ⟨B, rfl⟩
theorem head_none {α : Type} {l : List α} (h : l.head? = none) : l = [] := by
  cases l with
  | nil => rfl
  | cons y B => cases h
theorem ran_down_left (hok : Ok L) (h : Ran L (.down e) pre m) {z : Ins} (hz : (kidsL L e.id false).head? = some z) : ∃ m', Ran L (.down z) pre m' ∧ m' < m := by
  obtain ⟨he, n, hs, rfl⟩ := h
  obtain ⟨B, hB⟩ := head_some hz
  have h1 := Sits.left (A := []) hs he hB
  rw [List.flatMap_nil, List.append_nil] at h1
  refine ⟨_, ⟨(kid_mem (A := []) hB).1, _, h1, rfl⟩, ?_⟩
  have h2 : (blw L e.id false).length = (subL L z).length + (B.flatMap (subL L)).length := by rw [blw_kids hok, hB, List.flatMap_cons, List.length_append]
  have h3 : (subL L e).length = (blw L e.id false).length + (blw L e.id true).length + 1 := by unfold subL; rw [List.length_append, List.length_cons]; omega
  omega
theorem ran_down_give (hok : Ok L) (h : Ran L (.down e) pre m) (hz : (kidsL L e.id false).head? = none) : ∃ m', Ran L (.give e) pre m' ∧ m' < m := by
  obtain ⟨he, n, hs, rfl⟩ := h
  have h2 : blw L e.id false = [] := by rw [blw_kids hok, head_none hz]; rfl
  refine ⟨_, ⟨he, pre, n, hs, by rw [h2, List.append_nil], rfl⟩, ?_⟩
  have h3 : (subL L e).length = (blw L e.id false).length + (blw L e.id true).length + 1 := by unfold subL; rw [List.length_append, List.length_cons]; omega
  omega
theorem ran_give (h : Ran L (.give e) pre m) : ∃ m', Ran L (.behind (some e)) (pre ++ [e]) m' ∧ m' < m := by
  obtain ⟨he, P, n, hs, rfl, rfl⟩ := h
  exact ⟨_, ⟨he, P, n, hs, rfl, rfl⟩, by omega⟩
theorem ran_behind_right (hok : Ok L) (h : Ran L (.behind (some e)) pre m) {z : Ins} (hz : (kidsL L e.id true).head? = some z) : ∃ m', Ran L (.down z) pre m' ∧ m' < m := by
  obtain ⟨he, P, n, hs, rfl, rfl⟩ := h
  obtain ⟨B, hB⟩ := head_some hz
  have h1 := Sits.right (A := []) hs he hB
  rw [List.flatMap_nil] at h1
  refine ⟨_, ⟨(kid_mem (A := []) hB).1, _, h1, rfl⟩, ?_⟩
  have h2 : (blw L e.id true).length = (subL L z).length + (B.flatMap (subL L)).length := by rw [blw_kids hok, hB, List.flatMap_cons, List.length_append]
  omega
theorem ran_behind_up (hok : Ok L) (h : Ran L (.behind (some e)) pre m) (hz : (kidsL L e.id true).head? = none) : ∃ m', Ran L (.up (some e)) pre m' ∧ m' < m := by
  obtain ⟨he, P, n, hs, rfl, rfl⟩ := h
  have h2 : blw L e.id true = [] := by rw [blw_kids hok, head_none hz]; rfl
  refine ⟨_, ⟨he, P, n, hs, ?_, rfl⟩, by omega⟩
  unfold subL
  rw [h2, List.append_assoc]
theorem ran_begin_right (hok : Ok L) (h : Ran L (.behind none) pre m) {z : Ins} (hz : (kidsL L (0, 0) true).head? = some z) : ∃ m', Ran L (.down z) pre m' ∧ m' < m := by
  obtain ⟨rfl, rfl⟩ := h
  obtain ⟨B, hB⟩ := head_some hz
  have h1 := Sits.top (A := []) hB
  rw [List.flatMap_nil] at h1
  refine ⟨_, ⟨(kid_mem (A := []) hB).1, _, h1, rfl⟩, ?_⟩
  have h2 : (nodesL L).length = (subL L z).length + (B.flatMap (subL L)).length := by rw [nodes_blw, blw_kids hok, hB, List.flatMap_cons, List.length_append]
  omega
theorem ran_begin_up (hok : Ok L) (h : Ran L (.behind none) pre m) (hz : (kidsL L (0, 0) true).head? = none) : ∃ m', Ran L (.up none) pre m' ∧ m' < m := by
  obtain ⟨rfl, rfl⟩ := h
  refine ⟨_, ⟨?_, rfl⟩, by omega⟩
  rw [nodes_blw, blw_kids hok, head_none hz]
  rfl
theorem nextIn_kids (hok : Ok L) {p : IDt} {s : Bool} {A B : List Ins} (h : kidsL L p s = A ++ e :: B) : nextIn (kidsL L e.par e.right) e.id = B.head? := by
  obtain ⟨_, h1, h2⟩ := kid_mem h
  rw [h1, h2, h]
  exact nextIn_at (kid_apart hok h).1
theorem ran_up_next (hok : Ok L) (h : Ran L (.up (some e)) pre m) {z : Ins} (hz : nextIn (kidsL L e.par e.right) e.id = some z) : ∃ m', Ran L (.down z) pre m' ∧ m' < m := by
  obtain ⟨he, P, n, hs, rfl, rfl⟩ := h
  cases hs with
  | @top _ A B hk =>
    rw [nextIn_kids hok hk] at hz
    obtain ⟨B', rfl⟩ := head_some hz
    have hk' : kidsL L (0, 0) true = (A ++ [e]) ++ z :: B' := by rw [hk]; simp
    have h1 := Sits.top hk'
    rw [List.flatMap_append, List.flatMap_singleton] at h1
    refine ⟨_, ⟨(kid_mem hk').1, _, h1, rfl⟩, ?_⟩
    rw [List.flatMap_cons, List.length_append]
    omega
  | @left _ p A B P n hs hp hk =>
    rw [nextIn_kids hok hk] at hz
    obtain ⟨B', rfl⟩ := head_some hz
    have hk' : kidsL L p.id false = (A ++ [e]) ++ z :: B' := by rw [hk]; simp
    have h1 := Sits.left hs hp hk'
    rw [List.flatMap_append, List.flatMap_singleton, ← List.append_assoc] at h1
    refine ⟨_, ⟨(kid_mem hk').1, _, h1, rfl⟩, ?_⟩
    rw [List.flatMap_cons, List.length_append]
    omega
  | @right _ p A B P n hs hp hk =>
    rw [nextIn_kids hok hk] at hz
    obtain ⟨B', rfl⟩ := head_some hz
    have hk' : kidsL L p.id true = (A ++ [e]) ++ z :: B' := by rw [hk]; simp
    have h1 := Sits.right hs hp hk'
    rw [List.flatMap_append, List.flatMap_singleton] at h1
    refine ⟨_, ⟨(kid_mem hk').1, _, by rw [List.append_assoc, List.cons_append]; exact h1, rfl⟩, ?_⟩
    rw [List.flatMap_cons, List.length_append]
    omega
/-- None stands next: up to its parent. -/
theorem ran_up_none (hok : Ok L) (h : Ran L (.up (some e)) pre m) (hz : nextIn (kidsL L e.par e.right) e.id = none) :
    (e.par = (0, 0) ∧ e.right = true ∧ ∃ m', Ran L (.up none) pre m' ∧ m' < m) ∨ (∃ p, p ∈ L ∧ p.id = e.par ∧ e.right = true ∧ ∃ m', Ran L (.up (some p)) pre m' ∧ m' < m) ∨ ∃ p, p ∈ L ∧ p.id = e.par ∧ e.right = false ∧ ∃ m', Ran L (.give p) pre m' ∧ m' < m := by
  obtain ⟨he, P, n, hs, rfl, rfl⟩ := h
  cases hs with
  | @top _ A B hk =>
    rw [nextIn_kids hok hk] at hz
    have := head_none hz
    subst this
    obtain ⟨_, h1, h2⟩ := kid_mem hk
    refine .inl ⟨h1, h2, _, ⟨?_, rfl⟩, ?_⟩
    · rw [nodes_blw, blw_kids hok, hk, List.flatMap_append, List.flatMap_singleton]
    · simp
  | @left _ p A B P n hs hp hk =>
    rw [nextIn_kids hok hk] at hz
    have := head_none hz
    subst this
    obtain ⟨_, h1, h2⟩ := kid_mem hk
    refine .inr (.inr ⟨p, hp, h1.symm, h2, _, ⟨hp, P, n, hs, ?_, rfl⟩, ?_⟩)
    · rw [blw_kids hok p.id false, hk, List.flatMap_append, List.flatMap_singleton, List.append_assoc]
    · simp <;> omega
  | @right _ p A B P n hs hp hk =>
    rw [nextIn_kids hok hk] at hz
    have := head_none hz
    subst this
    obtain ⟨_, h1, h2⟩ := kid_mem hk
    refine .inr (.inl ⟨p, hp, h1.symm, h2, _, ⟨hp, P, n, hs, ?_, rfl⟩, ?_⟩)
    · conv => rhs; rw [subL, blw_kids hok p.id true, hk, List.flatMap_append, List.flatMap_singleton]
      simp
    · simp <;> omega
end
end Go.Proofs.Ytpjeggbkhbghaaa
namespace Go.Proofs.Ytpjeggbkhbghaaa
open Go Go.RowKit
set_option maxRecDepth 20000
abbrev pB (b : Nat) : Value := .pointer (some ⟨b, 0, none⟩)
def ptO (ad : IDt → Nat) : Option Ins → Value
  | none => .pointer none
  | some y => pB (ad y.id)
/-- An element's block. -/
abbrev elC (i : IDt) (r : Int) (g : Bool) (pa : Value) (rt : Bool) (nx lf rg : Value) : Obj := .cells #[.int .i64 i.1, .int .i64 i.2, .int .i32 r, .bool g, pa, .bool rt, nx, lf, rg] 106
section
variable {w : World} {b : Nat} {i : IDt} {r : Int} {g : Bool} {pa nx lf rg : Value} {rt : Bool}
theorem el_cells (h : w.heap[b]? = some (elC i r g pa rt nx lf rg)) : w.cell? ⟨b, 0, none⟩ = some (.int .i64 i.1) ∧ w.cell? ⟨b, 1, none⟩ = some (.int .i64 i.2) ∧ w.cell? ⟨b, 2, none⟩ = some (.int .i32 r) ∧ w.cell? ⟨b, 3, none⟩ = some (.bool g) ∧ w.cell? ⟨b, 4, none⟩ = some pa ∧ w.cell? ⟨b, 5, none⟩ = some (.bool rt) ∧ w.cell? ⟨b, 6, none⟩ = some nx ∧ w.cell? ⟨b, 7, none⟩ = some lf ∧ w.cell? ⟨b, 8, none⟩ = some rg := by
  simp [World.cell?, h]
theorem cells_free {cs : Array Value} {e : TypeId} (h : w.heap[b]? = some (.cells cs e)) (k : Nat) : w.frozen? ⟨b, k, none⟩ = false := by
  simp [World.frozen?, h]
theorem set_block {cs : Array Value} {e : TypeId} (h : w.heap[b]? = some (.cells cs e)) (k : Nat) (v : Value) : (w.setCell ⟨b, k, none⟩ v).heap[b]? = some (.cells (cs.setIfInBounds k v) e) := by
  obtain ⟨hlt, hb⟩ := Array.getElem?_eq_some_iff.1 h
  unfold World.setCell
  rw [Array.getElem?_modify]
  simp [h]
end
theorem set_other (w : World) {b k j : Nat} (v : Value) (h : j ≠ b) : (w.setCell ⟨b, k, none⟩ v).heap[j]? = w.heap[j]? := Below.heap_setCell w ⟨b, k, none⟩ v j h
theorem set_size (w : World) (a : Addr) (v : Value) : (w.setCell a v).heap.size = w.heap.size := by
  unfold World.setCell
  simp
/-- A tree at T, its map at M, its elements at 'ad'. -/
structure TreeH (w : World) (T M : Nat) (ad : IDt → Nat) (L : List Ins) (G : List IDt) : Prop where
  ok : Ok L
  tree : w.heap[T]? = some (.cells #[.map (some M), .int .i64 ((liveL G L).length : Int)] 113)
  map : ∃ ps clk, MapIs w M ad ps clk ∧ (∀ i, i ∈ ps.map Prod.fst ↔ i = (0, 0) ∨ hasL L i) ∧ ps.length = L.length + 1
  root : w.heap[ad (0, 0)]? = some (elC (0, 0) 0 false (.pointer none) false (.pointer none) (ptO ad (kidsL L (0, 0) false).head?) (ptO ad (kidsL L (0, 0) true).head?))
  el : ∀ x ∈ L, w.heap[ad x.id]? = some (elC x.id x.rune (goneB G x.id) (pB (ad x.par)) x.right (ptO ad (nextIn (kidsL L x.par x.right) x.id)) (ptO ad (kidsL L x.id false).head?) (ptO ad (kidsL L x.id true).head?))
  gone : ∀ i ∈ G, hasL L i
  once : G.Nodup
/-- The blocks of a tree. -/
def inT (T M : Nat) (ad : IDt → Nat) (L : List Ins) (k : Nat) : Prop := k = T ∨ k = M ∨ k = ad (0, 0) ∨ ∃ x ∈ L, k = ad x.id
def RT : TreeP := fun w F p L G => ∃ T M ad, p = pB T ∧ TreeH w T M ad L G ∧ ∀ k, F k ↔ inT T M ad L k
section
variable {w w' : World} {T M : Nat} {ad : IDt → Nat} {L : List Ins} {G : List IDt}
theorem TreeH.keep (h : TreeH w T M ad L G) (hk : ∀ k, inT T M ad L k → w'.heap[k]? = w.heap[k]?) : TreeH w' T M ad L G := by
  obtain ⟨ps, clk, hm, hp, hl⟩ := h.map
  exact ⟨h.ok, (hk T (.inl rfl)).trans h.tree, ⟨ps, clk, hm.keep (hk M (.inr (.inl rfl))), hp, hl⟩, (hk _ (.inr (.inr (.inl rfl)))).trans h.root, fun x hx => (hk _ (.inr (.inr (.inr ⟨x, hx, rfl⟩)))).trans (h.el x hx), h.gone, h.once⟩
theorem lt_of_heap {b : Nat} {o : Obj} (h : w.heap[b]? = some o) : b < w.heap.size := (Array.getElem?_eq_some_iff.1 h).1
theorem TreeH.lt (h : TreeH w T M ad L G) {k : Nat} (hk : inT T M ad L k) : k < w.heap.size := by
  rcases hk with rfl | rfl | rfl | ⟨x, hx, rfl⟩
  · exact lt_of_heap h.tree
  · obtain ⟨ps, clk, hm, _⟩ := h.map
    exact hm.lt
  · exact lt_of_heap h.root
  · exact lt_of_heap (h.el x hx)
theorem TreeH.below (h : TreeH w T M ad L G) (hb : Below w.heap.size w w') : TreeH w' T M ad L G := h.keep fun k hk => hb.block k (h.lt hk)
/-- Unlike names stand at unlike places. -/
theorem TreeH.inj (h : TreeH w T M ad L G) {x y : Ins} (hx : x ∈ L) (hy : y ∈ L) (e : ad x.id = ad y.id) : x = y := by
  have h1 := h.el x hx
  have h2 := h.el y hy
  rw [e, h2] at h1
  simp only [Option.some.injEq, Obj.cells.injEq, Array.mk.injEq, List.cons.injEq, Value.int.injEq, true_and] at h1
  exact h.ok.distinct.eq hx hy (Prod.ext h1.1.1.symm h1.1.2.1.symm)
theorem TreeH.inj0 (h : TreeH w T M ad L G) {x : Ins} (hx : x ∈ L) : ad x.id ≠ ad (0, 0) := by
  intro e
  have h1 := h.el x hx
  rw [e, h.root] at h1
  simp only [Option.some.injEq, Obj.cells.injEq, Array.mk.injEq, List.cons.injEq, Value.int.injEq, true_and] at h1
  exact h.ok.nz x hx (Prod.ext h1.1.1.symm h1.1.2.1.symm)
theorem TreeH.apart (h : TreeH w T M ad L G) : T ≠ M ∧ T ≠ ad (0, 0) ∧ M ≠ ad (0, 0) ∧ ∀ x ∈ L, ad x.id ≠ T ∧ ad x.id ≠ M := by
  obtain ⟨ps, clk, hm, _⟩ := h.map
  have h1 := h.tree
  have h2 := hm.here
  have h3 := h.root
  refine ⟨fun e => ?_, fun e => ?_, fun e => ?_, fun x hx => ⟨fun e => ?_, fun e => ?_⟩⟩
  · rw [e, h2] at h1; cases h1
  · rw [e, h3] at h1; simp at h1
  · rw [e, h3] at h2; cases h2
  · have h4 := h.el x hx
    rw [e, h1] at h4
    simp at h4
  · have h4 := h.el x hx
    rw [e, h2] at h4
    cases h4
theorem TreeH.cells (h : TreeH w T M ad L G) : w.cell? ⟨T, 0, none⟩ = some (.map (some M)) ∧ w.cell? ⟨T, 1, none⟩ = some (.int .i64 ((liveL G L).length : Int)) := by
  have := h.tree
  simp [World.cell?, this]
/-- What a look-up tells. -/
def ptL (ad : IDt → Nat) (L : List Ins) (i : IDt) : Value := if i = (0, 0) ∨ hasB L i = true then pB (ad i) else .pointer none
theorem TreeH.look (h : TreeH w T M ad L G) (i : IDt) : (Instr.lookup 111 (.map (some M)) (idV i) false).run Try.prog w = .ok (ptL ad L i) w := by
  obtain ⟨ps, clk, hm, hp, _⟩ := h.map
  rw [look_run hm i]
  unfold ptK ptL
  by_cases hi : i ∈ ps.map Prod.fst
  · have h2 := (hp i).1 hi
    rw [if_pos hi, if_pos (h2.imp id (fun h => hasB_iff.2 h))]
  · rw [if_neg hi, if_neg (fun h2 => hi ((hp i).2 (h2.imp id (fun h => hasB_iff.1 h))))]
end
theorem liveL_perm {G : List IDt} {L : List Ins} (h : Ok L) : (liveL G (nodesL L)).length = (liveL G L).length := by
  have hp : (nodesL L).Perm L := by
    have n1 : (nodesL L).Nodup := List.Pairwise.imp (fun {a b} hab e => hab (by rw [e])) (nodes_distinct h)
    have n2 : L.Nodup := List.Pairwise.imp (fun {a b} hab e => hab (by rw [e])) h.distinct
    exact (List.perm_ext_iff_of_nodup n1 n2).2 fun y => nodes_mem h
  exact (hp.filter _).length_eq
theorem beginning_nil (w : World) : Calls Try.prog 55 #[.pointer none] w fun e w' => e = .returned (.pointer none) ∧ w' = w := by
  go_enter Try.func55, Try.ntmps55
  go_wp2_with fail
  go_ret
  exact ⟨rfl, rfl⟩
section
variable {w : World} {T M : Nat} {ad : IDt → Nat} {L : List Ins} {G : List IDt}
theorem beginning_any (h : TreeH w T M ad L G) : Calls Try.prog 55 #[pB T] w fun e w' => e = .returned (pB (ad (0, 0))) ∧ w' = w := by
  obtain ⟨c0, _⟩ := h.cells
  have hl := h.look (0, 0)
  unfold ptL at hl
  rw [if_pos (.inl rfl)] at hl
  go_enter Try.func55, Try.ntmps55
  go_wp2_with fail
  go_ret
  exact ⟨rfl, rfl⟩
theorem len_nil (w : World) : Calls Try.prog 30 #[.pointer none] w fun e w' => e = .returned (.int .i64 0) ∧ w' = w := by
  go_enter Try.func30, Try.ntmps30
  go_wp2_with fail
  go_ret
  exact ⟨rfl, rfl⟩
theorem len_any (h : TreeH w T M ad L G) : Calls Try.prog 30 #[pB T] w fun e w' => e = .returned (.int .i64 ((liveL G (nodesL L)).length : Int)) ∧ w' = w := by
  obtain ⟨_, c1⟩ := h.cells
  rw [liveL_perm h.ok]
  obtain ⟨n, en⟩ : ∃ n, n = (liveL G L).length := ⟨_, rfl⟩
  rw [← en] at c1 ⊢
  clear en
  go_enter Try.func30, Try.ntmps30
  go_wp2_with fail
  go_ret
  exact ⟨rfl, rfl⟩
end
end Go.Proofs.Ytpjeggbkhbghaaa
