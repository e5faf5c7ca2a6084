/-
  Layer 16, the landed code: where an anchor stands (places, and the function that it gives back). By an AI agent. Layer 16, the landed code: places. By an AI agent. Layer 16, the landed code: styles. By an AI agent.
-/
import Derived.Test.YtpjeggbkhbghaaaMc1
import Derived.Test.YtpjeggbkhbghaaaTL
import Derived.Test.YtpjeggbkhbghaaaTZ
import Derived.Test.YtpjeggbkhbghaaaTF
import Derived.Test.YtpjeggbkhbghaaaTS
import Derived.Test.YtpjeggbkhbghaaaTN
namespace Go.Proofs.Ytpjeggbkhbghaaa
open Go Go.RowKit
set_option maxRecDepth 20000
/-- The entries of a map of places: each element's name, its place (and when it came). -/
def entP (p : IDt × Nat) : MapEntry := ⟨idV p.1, .int .i64 (p.2 : Int), p.2⟩
def psN (N : List Nod) : List (IDt × Nat) := (N.map Nod.id).zipIdx
/-- What a look-up finds. -/
def lookP (ps : List (IDt × Nat)) (i : IDt) : Option Nat := (ps.find? fun p => decide (p.1 = i)).map Prod.snd
theorem lookP_off (i : IDt) : ∀ (N : List Nod) (k : Nat), lookP ((N.map Nod.id).zipIdx k) i = (plN N i).map (· + k)
  | [], k => rfl
  | y :: r, k => by
    have ih := lookP_off i r (k + 1)
    unfold lookP plN at *
    rw [List.map_cons, List.zipIdx_cons, List.find?_cons, List.findIdx?_cons]
    by_cases h : y.id = i
    · simp [h]
    · simp only [h, decide_false]
      rw [ih]
      cases (List.findIdx? (fun y => decide (y.id = i)) r) with
      | none => rfl
      | some q => simp; omega
theorem lookP_eq (N : List Nod) (i : IDt) : lookP (psN N) i = plN N i := by
  unfold psN
  rw [lookP_off]
  cases plN N i <;> simp
theorem pfind_none (i : IDt) (w : World) : ∀ (ps : List (IDt × Nat)) (j : Nat), lookP ps i = none → (Instr.findAsking 27 (idV i) (ps.map entP) j).run Try.prog w = .ok none w
  | [], j, _ => by simp [Instr.findAsking]
  | p :: ps, j, h => by
    have hne : ¬ i = p.1 := fun e => by unfold lookP at h; rw [List.find?_cons_of_pos (by simp [e])] at h; cases h
    have h2 : lookP ps i = none := by unfold lookP at h ⊢; rwa [List.find?_cons_of_neg (by simpa using fun e => hne e.symm)] at h
    rw [List.map_cons, Instr.findAsking, Sem.run_bind]
    show ((Op.equal 27 (idV i) (idV p.1)).run Try.prog w).andThen _ = _
    rw [id_equal, decide_eq_false hne]
    exact pfind_none i w ps (j + 1) h2
theorem pfind_some (i : IDt) (w : World) {q : Nat} : ∀ (ps : List (IDt × Nat)) (j : Nat), lookP ps i = some q → ∃ k, (Instr.findAsking 27 (idV i) (ps.map entP) j).run Try.prog w = .ok (some (k, .int .i64 (q : Int))) w
  | [], j, h => by cases h
  | p :: ps, j, h => by
    rw [List.map_cons, Instr.findAsking, Sem.run_bind]
    show ∃ k, ((Op.equal 27 (idV i) (idV p.1)).run Try.prog w).andThen _ = _
    rw [id_equal]
    by_cases e : i = p.1
    · rw [decide_eq_true e]
      refine ⟨j, ?_⟩
      unfold lookP at h
      rw [List.find?_cons_of_pos (by simp [e])] at h
      obtain rfl : p.2 = q := Option.some.inj h
      rfl
    · rw [decide_eq_false e]
      refine pfind_some i w ps (j + 1) ?_
      unfold lookP at h ⊢
      rwa [List.find?_cons_of_neg (by simpa using fun e2 => e e2.symm)] at h
def mapO (ps : List (IDt × Nat)) : Obj := .map (ps.map entP).toArray ps.length
section
variable {w : World} {M : Nat} {ps : List (IDt × Nat)}
theorem zero_int (w : World) : (zeroValue 3).run Try.prog w = .ok (.int .i64 0) w := by kernel_rfl
theorem plook_some (h : w.heap[M]? = some (mapO ps)) {i : IDt} {q : Nat} (hq : lookP ps i = some q) : (Instr.lookup 136 (.map (some M)) (idV i) true).run Try.prog w = .ok (.tuple #[.int .i64 (q : Int), .bool true]) w := by
  have hl : (ps.map entP).toArray.toList = ps.map entP := rfl
  obtain ⟨k, hk⟩ := pfind_some i w ps 0 hq
  simp [Instr.lookup, run_underlying Try.underlying136, MapKept.run_getObj_map h, id_check, find_eq, hk, Result.andThen]
theorem plook_none (h : w.heap[M]? = some (mapO ps)) {i : IDt} (hq : lookP ps i = none) : (Instr.lookup 136 (.map (some M)) (idV i) true).run Try.prog w = .ok (.tuple #[.int .i64 0, .bool false]) w := by
  have hl : (ps.map entP).toArray.toList = ps.map entP := rfl
  have hk := pfind_none i w ps 0 hq
  simp [Instr.lookup, run_underlying Try.underlying136, MapKept.run_getObj_map h, id_check, find_eq, hk, Result.andThen]
theorem pstore (h : w.heap[M]? = some (mapO ps)) {i : IDt} (hi : lookP ps i = none) :
    (Instr.mapUpdate 136 (.map (some M)) (idV i) (.int .i64 (ps.length : Int))).run Try.prog w = .ok () (putB w M (mapO (ps ++ [(i, ps.length)]))) := by
  have hk := pfind_none i w ps 0 hi
  have he : mapO (ps ++ [(i, ps.length)]) = .map ((ps.map entP).toArray.push ⟨idV i, .int .i64 (ps.length : Int), ps.length⟩) (ps.length + 1) := by
    unfold mapO
    rw [List.map_append, List.map_singleton, List.push_toArray, List.length_append]
    rfl
  rw [he]
  unfold mapO at h
  simp [Instr.mapUpdate, run_underlying Try.underlying136, MapKept.run_getObj_map h, id_check, find_eq, hk, MapKept.run_setObj_map _ h, Result.andThen, putB, ChangeMaps.setBlock]
end
theorem hmakeP (n : Nat) (w : World) : (Instr.makeMap 136 (some (.int .i64 (n : Int)))).run Try.prog w = Result.ok (.map (some w.heap.size)) (w.alloc (.map #[] 0)) := by
  simp [Instr.makeMap, run_underlying Try.underlying136]
  rfl
theorem psN_take {N : List Nod} {k : Nat} {y : Nod} (hy : N[k]? = some y) : psN (N.take (k + 1)) = psN (N.take k) ++ [(y.id, (psN (N.take k)).length)] := by
  have hk := (List.getElem?_eq_some_iff.1 hy).1
  unfold psN
  rw [take_snoc hy, List.map_append, List.map_singleton, List.zipIdx_append]
  simp
theorem psN_len (N : List Nod) (k : Nat) (hk : k ≤ N.length) : (psN (N.take k)).length = k := by unfold psN; simp; omega
/-- What the places are known by: the box of the row, the box of the map, the map. -/
structure Plc (w : World) (g1 g3 M : Nat) (A : Option Addr) (n c : Nat) (N : List Nod) : Prop where
  row : w.cell? ⟨g1, 0, none⟩ = some (.slice A n c)
  box : w.cell? ⟨g3, 0, none⟩ = some (.map (some M))
  map : w.heap[M]? = some (mapO (psN N))
  lt : g1 < w.heap.size ∧ g3 < w.heap.size ∧ M < w.heap.size
theorem Plc.keep {w w' : World} {g1 g3 M n c : Nat} {A : Option Addr} {N : List Nod} (h : Plc w g1 g3 M A n c N) (hk : ∀ b, b = g1 ∨ b = g3 ∨ b = M → w'.heap[b]? = w.heap[b]?) (hs : w.heap.size ≤ w'.heap.size) : Plc w' g1 g3 M A n c N :=
  ⟨(World.cell?_of_block (hk g1 (.inl rfl))).trans h.row, (World.cell?_of_block (hk g3 (.inr (.inl rfl)))).trans h.box, (hk M (.inr (.inr rfl))).trans h.map, Nat.lt_of_lt_of_le h.lt.1 hs, Nat.lt_of_lt_of_le h.lt.2.1 hs, Nat.lt_of_lt_of_le h.lt.2.2 hs⟩
abbrev plcF (g1 g3 : Nat) : Value := .func (.func 79) #[] #[.pointer (some ⟨g1, 0, none⟩), .pointer (some ⟨g3, 0, none⟩)]
set_option maxHeartbeats 3200000 in
theorem place_any16 {g1 g3 M n c : Nat} {A : Option Addr} {N : List Nod} (a : Anc) (w : World) (h : Plc w g1 g3 M A n c N) (hn : N.length = n) (hl : n ≤ 1000000) :
    Calls Try.prog 79 #[ancV a, .pointer (some ⟨g1, 0, none⟩), .pointer (some ⟨g3, 0, none⟩)] w fun e w' => e = .returned (.tuple #[.int .i64 (plA N a : Int), .bool (thereB N a)]) ∧ Below w.heap.size w w' := by
  obtain ⟨⟨i1, i2⟩, bh⟩ := a
  obtain ⟨v1, ev⟩ : ∃ v, v = w.alloc (.cells #[.int .i64 i1, .int .i64 i2, .bool bh] 29) := ⟨_, rfl⟩
  obtain ⟨g, eg⟩ : ∃ g, g = w.heap.size := ⟨_, rfl⟩
  have hb : Below w.heap.size w v1 := by rw [ev]; exact (Below.refl _ _).alloc (Nat.le_refl _) _
  have hq : v1.cell? ⟨g, 0, none⟩ = some (.int .i64 i1) ∧ v1.cell? ⟨g, 1, none⟩ = some (.int .i64 i2) ∧ v1.cell? ⟨g, 2, none⟩ = some (.bool bh) := by
    rw [ev, eg]
    simp
  have h1 : Plc v1 g1 g3 M A n c N := h.keep (fun b hb2 => hb.block b (by rcases hb2 with rfl | rfl | rfl; exact h.lt.1; exact h.lt.2.1; exact h.lt.2.2)) hb.size
  have HB := Lib.hid hb
  have HV := Lib.hid (And.intro ev eg)
  obtain ⟨q0, q1, q2⟩ := hq
  have r0 := h1.row
  have r1 := h1.box
  have HM := Lib.hid h1.map
  clear ev eg hb h h1
  obtain ⟨P1, eP⟩ : ∃ p, p = plA N ⟨(i1, i2), bh⟩ := ⟨_, rfl⟩
  obtain ⟨B1, eB⟩ : ∃ p, p = thereB N ⟨(i1, i2), bh⟩ := ⟨_, rfl⟩
  rw [← eP, ← eB]
  by_cases z1 : i1 = 0
  · subst z1
    by_cases z2 : i2 = 0
    · subst z2
      have HD := Lib.hid (show B1 = true ∧ P1 = if bh = true then 0 else n by
        rw [eB, eP]
        unfold thereB plA
        rw [if_pos rfl, decide_eq_true rfl, hn]
        exact ⟨rfl, rfl⟩)
      clear eP eB
      cases bh with
      | true =>
        go_enter Try.func79, Try.ntmps79
        go_upto_region 1 with fail
        rw [← HV.out.1, ← HV.out.2]
        clear HV
        go_wp2_with fail
        go_returns
        rw [HD.out.1, HD.out.2]
        exact ⟨rfl, HB.out⟩
      | false =>
        go_enter Try.func79, Try.ntmps79
        go_upto_region 1 with fail
        rw [← HV.out.1, ← HV.out.2]
        clear HV
        go_wp2_with fail
        go_returns
        rw [HD.out.1, HD.out.2]
        exact ⟨rfl, HB.out⟩
    · have hz : ¬ (0, i2) = ((0, 0) : IDt) := fun e => z2 (by injection e)
      have hpl : P1 = (plN N (0, i2)).getD 0 + (if bh = true then 1 else 0) := by rw [eP]; unfold plA; rw [if_neg hz]
      have hth : B1 = (plN N (0, i2)).isSome := by rw [eB]; unfold thereB; rw [decide_eq_false hz]; rfl
      cases hp : plN N (0, i2) with
      | none =>
        have HD := Lib.hid (show B1 = false ∧ P1 = if bh = true then 1 else 0 by rw [hth, hpl, hp]; exact ⟨rfl, Nat.zero_add _⟩)
        have hlk := plook_none HM.out (i := (0, i2)) (by rw [lookP_eq]; exact hp)
        clear eP eB hpl hth hp hz
        cases bh with
        | true =>
          go_enter Try.func79, Try.ntmps79
          go_upto_region 1 with fail
          rw [← HV.out.1, ← HV.out.2]
          clear HV
          go_wp2_with fail
          go_returns
          rw [HD.out.1, HD.out.2]
          exact ⟨by first | rfl | (simp; done) | go_num, HB.out⟩
        | false =>
          go_enter Try.func79, Try.ntmps79
          go_upto_region 1 with fail
          rw [← HV.out.1, ← HV.out.2]
          clear HV
          go_wp2_with fail
          go_returns
          rw [HD.out.1, HD.out.2]
          exact ⟨by first | rfl | (simp; done) | go_num, HB.out⟩
      | some q =>
        have hqn : q < n := by rw [← hn]; exact plN_lt hp
        have HD := Lib.hid (show B1 = true ∧ P1 = q + if bh = true then 1 else 0 by rw [hth, hpl, hp]; exact ⟨rfl, rfl⟩)
        have hlk := plook_some HM.out (i := (0, i2)) (q := q) (by rw [lookP_eq]; exact hp)
        clear eP eB hpl hth hp hz
        cases bh with
        | true =>
          go_enter Try.func79, Try.ntmps79
          go_upto_region 1 with fail
          rw [← HV.out.1, ← HV.out.2]
          clear HV
          go_wp2_with fail
          go_returns
          rw [HD.out.1, HD.out.2]
          exact ⟨by first | rfl | (simp; done) | go_num, HB.out⟩
        | false =>
          go_enter Try.func79, Try.ntmps79
          go_upto_region 1 with fail
          rw [← HV.out.1, ← HV.out.2]
          clear HV
          go_wp2_with fail
          go_returns
          rw [HD.out.1, HD.out.2]
          exact ⟨by first | rfl | (simp; done) | go_num, HB.out⟩
  · have hz : ¬ (i1, i2) = ((0, 0) : IDt) := fun e => z1 (by injection e)
    have hpl : P1 = (plN N (i1, i2)).getD 0 + (if bh = true then 1 else 0) := by rw [eP]; unfold plA; rw [if_neg hz]
    have hth : B1 = (plN N (i1, i2)).isSome := by rw [eB]; unfold thereB; rw [decide_eq_false hz]; rfl
    cases hp : plN N (i1, i2) with
    | none =>
      have HD := Lib.hid (show B1 = false ∧ P1 = if bh = true then 1 else 0 by rw [hth, hpl, hp]; exact ⟨rfl, Nat.zero_add _⟩)
      have hlk := plook_none HM.out (i := (i1, i2)) (by rw [lookP_eq]; exact hp)
      clear eP eB hpl hth hp hz
      cases bh with
      | true =>
        go_enter Try.func79, Try.ntmps79
        go_upto_region 1 with fail
        rw [← HV.out.1, ← HV.out.2]
        clear HV
        go_wp2_with fail
        go_returns
        rw [HD.out.1, HD.out.2]
        exact ⟨by first | rfl | (simp; done) | go_num, HB.out⟩
      | false =>
        go_enter Try.func79, Try.ntmps79
        go_upto_region 1 with fail
        rw [← HV.out.1, ← HV.out.2]
        clear HV
        go_wp2_with fail
        go_returns
        rw [HD.out.1, HD.out.2]
        exact ⟨by first | rfl | (simp; done) | go_num, HB.out⟩
    | some q =>
      have hqn : q < n := by rw [← hn]; exact plN_lt hp
      have HD := Lib.hid (show B1 = true ∧ P1 = q + if bh = true then 1 else 0 by rw [hth, hpl, hp]; exact ⟨rfl, rfl⟩)
      have hlk := plook_some HM.out (i := (i1, i2)) (q := q) (by rw [lookP_eq]; exact hp)
      clear eP eB hpl hth hp hz
      cases bh with
      | true =>
        go_enter Try.func79, Try.ntmps79
        go_upto_region 1 with fail
        rw [← HV.out.1, ← HV.out.2]
        clear HV
        go_wp2_with fail
        go_returns
        rw [HD.out.1, HD.out.2]
        exact ⟨by first | rfl | (simp; done) | go_num, HB.out⟩
      | false =>
        go_enter Try.func79, Try.ntmps79
        go_upto_region 1 with fail
        rw [← HV.out.1, ← HV.out.2]
        clear HV
        go_wp2_with fail
        go_returns
        rw [HD.out.1, HD.out.2]
        exact ⟨by first | rfl | (simp; done) | go_num, HB.out⟩
end Go.Proofs.Ytpjeggbkhbghaaa
namespace Go.Proofs.Ytpjeggbkhbghaaa
open Go Go.RowKit
set_option maxRecDepth 20000
theorem look_new {N : List Nod} (hd : (N.map Nod.id).Nodup) {k : Nat} {y : Nod} (hy : N[k]? = some y) : lookP (psN (N.take k)) y.id = none := by
  rw [lookP_eq]
  refine plN_none fun z hz e => ?_
  obtain ⟨j, hj⟩ := List.getElem?_of_mem hz
  rw [List.getElem?_take] at hj
  split at hj
  · rename_i hlt
    have h1 := (List.getElem?_eq_some_iff.1 hj)
    have h2 := (List.getElem?_eq_some_iff.1 hy)
    obtain ⟨l1, e1⟩ := h1
    obtain ⟨l2, e2⟩ := h2
    have := (List.pairwise_iff_getElem.1 hd) j k (by simpa using l1) (by simpa using l2) hlt
    rw [List.getElem_map, List.getElem_map, e1, e2] at this
    exact this e
  · cases hj
theorem putB_out (w : World) (M : Nat) (o : Obj) : OutF (fun b => b = M) w (putB w M o) := ⟨rfl, rfl, rfl, by rw [putB_size]; exact Nat.le_refl _, fun _ _ hn => putB_other hn⟩
set_option maxHeartbeats 3200000 in
theorem places_any {A : Option Addr} {c n : Nat} {N : List Nod} (w : World) (r : RdR nodE w w.heap.size A c N) (hn : N.length = n) (hl : n ≤ 4096) (hd : (N.map Nod.id).Nodup) :
    Calls Try.prog 69 #[.slice A n c] w fun e w' => ∃ g1 g3 M, e = .returned (plcF g1 g3) ∧ Plc w' g1 g3 M A n c N ∧ (w.heap.size ≤ g1 ∧ w.heap.size ≤ g3 ∧ w.heap.size ≤ M) ∧ Below w.heap.size w w' := by
  obtain ⟨v1, ev⟩ : ∃ v, v = w.alloc (.cells #[.slice A n c] 47) := ⟨_, rfl⟩
  obtain ⟨g1, eg⟩ : ∃ g, g = w.heap.size := ⟨_, rfl⟩
  have hb1 : Below w.heap.size w v1 := by rw [ev]; exact (Below.refl _ _).alloc (Nat.le_refl _) _
  have hs1 : v1.heap.size = g1 + 1 := by rw [ev, eg]; simp
  have q0 : v1.cell? ⟨g1, 0, none⟩ = some (.slice A n c) := by rw [ev, eg]; simp
  obtain ⟨M, eM⟩ : ∃ M, M = g1 + 1 := ⟨_, rfl⟩
  have hmk := hmakeP n v1
  rw [hs1, ← eM] at hmk
  obtain ⟨g3, eg3⟩ : ∃ g, g = v1.heap.size + 1 := ⟨_, rfl⟩
  have hg3 : g3 = g1 + 2 := by omega
  obtain ⟨v2, ev2⟩ : ∃ v, v = (v1.alloc (.map #[] 0)).alloc (.cells #[.map (some M)] 136) := ⟨_, rfl⟩
  have hb2 : Below v1.heap.size v1 v2 := by rw [ev2]; exact ((Below.refl _ _).alloc (Nat.le_refl _) _).alloc (by simp) _
  have hs2 : v2.heap.size = g1 + 3 := by rw [ev2]; simp; omega
  have hM2 : v2.heap[M]? = some (mapO (psN (N.take 0))) := by
    rw [ev2]
    have h1 := (MapKept.heap_alloc v1 (.map #[] 0)).1
    rw [hs1, ← eM] at h1
    exact (((Below.refl _ _).alloc (Nat.le_refl _) (.cells #[.map (some M)] 136)).block M (by simp; omega)).trans h1
  have hbox2 : v2.cell? ⟨g3, 0, none⟩ = some (.map (some M)) := by
    rw [ev2]
    have h1 : (v1.alloc (.map #[] 0)).heap.size = g3 := by simp; omega
    rw [← h1]
    simp
  have HV := Lib.hid (And.intro ev eg)
  have HV2 := Lib.hid (show v2 = (v1.alloc (.map #[] 0)).alloc (.cells #[.map (some M)] 136) from ev2)
  have HM := Lib.hid (And.intro eM hg3)
  have HG3 := Lib.hid eg3
  have HB := Lib.hid (And.intro (hb1.trans (hb2.mono hb1.size)) (And.intro hs2 (And.intro hM2 eg)))
  have HN := Lib.hid (And.intro hn (And.intro hl hd))
  have HC := Lib.hid (fun wz (hz : OutF (fun b => b = M) v2 wz) => show wz.cell? ⟨g1, 0, none⟩ = some (.slice A n c) ∧ wz.cell? ⟨g3, 0, none⟩ = some (.map (some M)) ∧ RdR nodE wz wz.heap.size A c N from by
    refine ⟨hz.cell (by omega) (by omega) ((hb2.cell (p := ⟨g1, 0, none⟩) (by show g1 < _; omega)).trans q0), hz.cell (by omega) (by omega) hbox2, ?_⟩
    have h2 : RdR nodE v2 w.heap.size A c N := r.keep (hb1.trans (hb2.mono hb1.size))
    exact ⟨h2.cap, h2.nil, fun hne => by
      obtain ⟨b, o, e, hlt, hc⟩ := h2.some_ hne
      have hsz := hz.size
      exact ⟨b, o, e, by omega, fun k v hk => hz.cell (by omega) (by omega) (hc k v hk)⟩⟩)
  clear ev eg hb1 hs1 ev2 hb2 hs2 hM2 hbox2 r hn hd eM hg3 eg3
  go_enter Try.func69, Try.ntmps69
  go_upto_region 1 with fail
  rw [← HV.out.1, ← HV.out.2]
  clear HV
  go_upto_region 2 with fail
  rw [← HV2.out, ← HG3.out]
  clear HV2 hmk q0 HG3
  obtain ⟨q0, q1, _⟩ := HC.out v2 (OutF.of (Below.refl _ _))
  go_wp2_with fail
  go_loopw [11] (fun i wr => ∃ k : Nat, k ≤ n ∧ i = .int .i64 (k : Int) ∧ wr.heap[M]? = some (mapO (psN (N.take k))) ∧ OutF (fun b => b = M) v2 wr) (fun i _ => n - (intF i).toNat)
  case atStart => exact ⟨0, Nat.zero_le _, rfl, HB.out.2.2.1, OutF.of (Below.refl _ _)⟩
  case round =>
    obtain ⟨k, hk, rfl, hm, ho⟩ := hrel
    clear q0 q1
    by_cases hlt : k < n
    · have gk : (k : Int) < (n : Int) := by omega
      obtain ⟨y, hy⟩ : ∃ y, N[k]? = some y := getD_of (by rw [HN.out.1]; exact hlt)
      obtain ⟨_, q1, rr⟩ := HC.out wr ho
      obtain ⟨b, o, rfl, hbB, y0, y1, y2, y3⟩ := nod_at rr hy
      obtain ⟨v5, e5⟩ : ∃ v, v = wr.alloc (.cells #[.int .i64 y.id.1, .int .i64 y.id.2, .int .i32 y.rune, .bool y.gone] 77) := ⟨_, rfl⟩
      obtain ⟨g5, eg5⟩ : ∃ g, g = wr.heap.size := ⟨_, rfl⟩
      have hb5 : Below wr.heap.size wr v5 := by rw [e5]; exact (Below.refl _ _).alloc (Nat.le_refl _) _
      have hx : v5.cell? ⟨g5, 0, none⟩ = some (.int .i64 y.id.1) ∧ v5.cell? ⟨g5, 1, none⟩ = some (.int .i64 y.id.2) := by
        rw [e5, eg5]
        simp
      have hMlt : M < wr.heap.size := (Array.getElem?_eq_some_iff.1 hm).1
      have hm5 : v5.heap[M]? = some (mapO (psN (N.take k))) := (hb5.block M hMlt).trans hm
      have hq5 : v5.cell? ⟨g3, 0, none⟩ = some (.map (some M)) := (hb5.cell (p := ⟨g3, 0, none⟩) (by show g3 < _; have := ho.size; have := HB.out.2.1; have := HM.out.2; omega)).trans q1
      have hst := pstore hm5 (look_new HN.out.2.2 hy)
      rw [← psN_take hy, psN_len N k (by rw [HN.out.1]; exact hk)] at hst
      obtain ⟨v6, e6⟩ : ∃ v, v = putB v5 M (mapO (psN (N.take (k + 1)))) := ⟨_, rfl⟩
      rw [← e6] at hst
      have hp6 : v6.heap[M]? = some (mapO (psN (N.take (k + 1)))) := by rw [e6]; exact putB_same (Nat.lt_of_lt_of_le hMlt hb5.size)
      have ho6 : OutF (fun b => b = M) v2 v6 := (ho.trans (OutF.of hb5) (F2 := fun b => b = M) (fun _ h => .inl h)).trans (by rw [e6]; exact putB_out v5 M _) (fun _ h => .inl h)
      have HF := Lib.hid (And.intro hp6 ho6)
      have HK := Lib.hid hlt
      have E5 := Lib.hid (And.intro e5 eg5)
      obtain ⟨x0, x1⟩ := hx
      clear hb5 hMlt hm5 e5 eg5 e6 hp6 ho6 hm ho hy hlt hk rr q1 hbB
      go_upto_region 5 with fail
      rw [← E5.out.1, ← E5.out.2]
      clear E5 y0 y1 y2 y3
      go_wp2_with fail
      go_roundw
      case rel => exact ⟨k + 1, HK.out, by go_num, HF.out.1, HF.out.2⟩
      case measure => simp [intF]; have := HK.out; omega
    · obtain rfl : n = k := by omega
      have hN : N.take n = N := by rw [← HN.out.1, List.take_length]
      rw [hN] at hm
      have HF := Lib.hid (And.intro hm ho)
      clear hm ho hlt hk hN
      go_wp2_with fail
      go_ret
      obtain ⟨hm, ho⟩ := HF.out
      obtain ⟨q0, q1, _⟩ := HC.out wr ho
      have h1 := HB.out.2.1
      have h2 := ho.size
      have h3 := HB.out.2.2.2
      have h4 := HM.out.1
      have h5 := HM.out.2
      refine ⟨g1, g3, M, rfl, ⟨q0, q1, hm, by omega, by omega, by omega⟩, ⟨by omega, by omega, by omega⟩, HB.out.1.trans (OutF.below ho (fun k hk => by omega) HB.out.1.size)⟩
end Go.Proofs.Ytpjeggbkhbghaaa
namespace Go.Proofs.Ytpjeggbkhbghaaa
open Go Go.RowKit
set_option maxRecDepth 20000
theorem enc_put (s : Sty) {k : Nat} (hk : k < 5) (v : Int) : styE.enc (s.put k v) = (styE.enc s).set k (.int .i64 v) := by
  rcases (by omega : k = 0 ∨ k = 1 ∨ k = 2 ∨ k = 3 ∨ k = 4) with rfl | rfl | rfl | rfl | rfl <;> rfl
/-- From f up to t a value of a name is laid. -/
def layT (S : List Sty) (k : Nat) (v : Int) (f t : Nat) : List Sty := S.mapIdx fun j s => if f ≤ j ∧ j < t then s.put k v else s
theorem layT_len (S : List Sty) (k : Nat) (v : Int) (f t : Nat) : (layT S k v f t).length = S.length := by unfold layT; rw [List.length_mapIdx]
theorem layT_at {S : List Sty} {k : Nat} {v : Int} {f t j : Nat} {s : Sty} (h : S[j]? = some s) : (layT S k v f t)[j]? = some (if f ≤ j ∧ j < t then s.put k v else s) := by unfold layT; rw [List.getElem?_mapIdx, h]; rfl
theorem layT_zero (S : List Sty) (k : Nat) (v : Int) {f t : Nat} (h : t ≤ f) : layT S k v f t = S := by
  refine List.ext_getElem? fun j => ?_
  cases hj : S[j]? with
  | none =>
    have := List.getElem?_eq_none_iff.1 hj
    rw [List.getElem?_eq_none (by rw [layT_len]; omega)]
  | some s => rw [layT_at hj, if_neg (by omega)]
theorem layT_succ {S : List Sty} {k : Nat} {v : Int} {f t : Nat} {s : Sty} (hf : f ≤ t) (h : S[t]? = some s) : layT S k v f (t + 1) = (layT S k v f t).set t (s.put k v) := by
  refine List.ext_getElem? fun j => ?_
  have ht := (List.getElem?_eq_some_iff.1 h).1
  by_cases e : j = t
  · subst e
    rw [List.getElem?_set_self (by rw [layT_len]; exact ht), layT_at h, if_pos (by omega)]
  · rw [List.getElem?_set_ne (fun e2 => e e2.symm)]
    cases hj : S[j]? with
    | none =>
      have := List.getElem?_eq_none_iff.1 hj
      rw [List.getElem?_eq_none (by rw [layT_len]; omega), List.getElem?_eq_none (by rw [layT_len]; omega)]
    | some s2 =>
      rw [layT_at hj, layT_at hj]
      by_cases h2 : f ≤ j ∧ j < t
      · rw [if_pos h2, if_pos (by omega)]
      · rw [if_neg h2, if_neg (by omega)]
theorem styL_snoc {N : List Nod} {L : List Mrk} {k : Nat} {x : Mrk} (hx : L[k]? = some x) (hh : (thereB N x.from_ && thereB N x.upto) = true) : styL N (L.take (k + 1)) = layT (styL N (L.take k)) x.name.toNat x.value (plA N x.from_) (plA N x.upto) := by
  refine List.ext_getElem? fun j => ?_
  by_cases hj : j < N.length
  · rw [styL_at _ _ hj, layT_at (styL_at _ _ hj), take_snoc hx, stR_snoc]
    unfold styS
    rw [covers_pl hj, hh, Bool.true_and]
    congr 1
    by_cases h : plA N x.from_ ≤ j ∧ j < plA N x.upto
    · rw [if_pos (by simpa using h), if_pos h]
    · rw [if_neg (by simpa using h), if_neg h]
  · rw [List.getElem?_eq_none (by rw [styL_len]; omega), List.getElem?_eq_none (by rw [layT_len, styL_len]; omega)]
theorem styL_stay {N : List Nod} {L : List Mrk} {k : Nat} {x : Mrk} (hx : L[k]? = some x) (hh : (thereB N x.from_ && thereB N x.upto) = false) : styL N (L.take (k + 1)) = styL N (L.take k) := by
  refine List.ext_getElem? fun j => ?_
  by_cases hj : j < N.length
  · rw [styL_at _ _ hj, styL_at _ _ hj, take_snoc hx, stR_snoc]
    unfold styS
    rw [covers_pl hj, hh, Bool.false_and, if_neg (by decide)]
  · rw [List.getElem?_eq_none (by rw [styL_len]; omega), List.getElem?_eq_none (by rw [styL_len]; omega)]
theorem styL_none (N : List Nod) : styL N [] = List.replicate N.length Sty.zero := by
  refine List.ext_getElem? fun j => ?_
  by_cases hj : j < N.length
  · rw [styL_at _ _ hj, List.getElem?_replicate, if_pos hj]
    rfl
  · rw [List.getElem?_eq_none (by rw [styL_len]; omega), List.getElem?_eq_none (by simp; omega)]
theorem infoSty : (Try.prog.info? 55).map (fun i => (i.zero, i.size, i.bytes)) = some (some (.agg #[.int .i64 0, .int .i64 0, .int .i64 0, .int .i64 0, .int .i64 0]), 5, 40) := by kernel_rfl
theorem made_sty (n : Nat) : (madeCells #[.int .i64 0, .int .i64 0, .int .i64 0, .int .i64 0, .int .i64 0] (n * 5)).toList = styE.all (List.replicate n Sty.zero) := by
  refine List.ext_getElem? fun k => ?_
  have hl : (styE.all (List.replicate n Sty.zero)).length = n * 5 := by rw [styE.all_len, List.length_replicate]; rfl
  by_cases hk : k < n * 5
  · have hq : (List.replicate n Sty.zero)[k / 5]? = some Sty.zero := by rw [List.getElem?_replicate, if_pos (by omega)]
    have h1 := styE.all_get hq (j := k % 5) (by show k % 5 < 5; omega)
    rw [show k / 5 * styE.size + k % 5 = k by show k / 5 * 5 + k % 5 = k; omega] at h1
    rw [h1]
    have h2 : k % 5 < 5 := Nat.mod_lt _ (by decide)
    simp only [madeCells, Array.toList_map, List.getElem?_map, Array.toList_range, List.getElem?_range hk, Option.map_some]
    show some (#[Value.int .i64 0, .int .i64 0, .int .i64 0, .int .i64 0, .int .i64 0][k % 5]!) = _
    rcases (by omega : k % 5 = 0 ∨ k % 5 = 1 ∨ k % 5 = 2 ∨ k % 5 = 3 ∨ k % 5 = 4) with h | h | h | h | h <;> rw [h] <;> rfl
  · rw [List.getElem?_eq_none (by simp [madeCells]; omega), List.getElem?_eq_none (by omega)]
set_option maxHeartbeats 12800000 in
theorem styles_any {w : World} {p : Value} {A A2 : Option Addr} {c c2 n : Nat} {L : List Mrk} {N : List Nod} (h : Recv w p A c L) (r : RdR nodE w w.heap.size A2 c2 N) (hn : N.length = n) (hl : n ≤ 4096) (hd : (N.map Nod.id).Nodup) :
    Calls Try.prog 49 #[p, .slice A2 n c2] w fun e w' => ∃ A' c', e = .returned (.slice A' n c') ∧ OwnR styE w' w.heap.size 55 A' c' (styL N L) ∧ Below w.heap.size w w' := by
  obtain ⟨hg, hml, rm, hall⟩ := h
  obtain ⟨i0, hi0, hz0, hz1, hz2⟩ := info_parts infoSty
  obtain ⟨v1, ev⟩ : ∃ v, v = w.alloc (.cells (madeCells #[.int .i64 0, .int .i64 0, .int .i64 0, .int .i64 0, .int .i64 0] (n * 5)) 55) := ⟨_, rfl⟩
  obtain ⟨g0, eg⟩ : ∃ g, g = w.heap.size := ⟨_, rfl⟩
  have hmk := run_make (P := Try.prog) w 52 55 i0 _ Try.underlying52 hi0 hz0 .i64 .i64 (n : Int) (n : Int) (by omega) (Int.le_refl _) (by rw [hz2]; omega) (by omega)
  rw [hz1, Int.toNat_natCast] at hmk
  have hmk' : (Instr.makeSlice 52 (.int .i64 (n : Int)) (.int .i64 (n : Int))).run Try.prog w = .ok (.slice (some ⟨g0, 0, none⟩) n n) v1 := by rw [ev, eg]; exact hmk
  have hb : Below w.heap.size w v1 := by rw [ev]; exact (Below.refl _ _).alloc (Nat.le_refl _) _
  have hs1 : v1.heap.size = g0 + 1 := by rw [ev, eg]; simp
  have o1 : OwnR styE v1 w.heap.size 55 (some ⟨g0, 0, none⟩) n (styL N (L.take 0)) := by
    have h0 := OwnR.lit (E := styE) (w := w) 55 (Nat.le_refl _) (madeCells #[.int .i64 0, .int .i64 0, .int .i64 0, .int .i64 0, .int .i64 0] (n * 5)) (List.replicate n Sty.zero) (by rw [List.length_replicate]; unfold maxLen; omega) (made_sty n)
    rw [← ev, ← eg, List.length_replicate] at h0
    rw [List.take_zero, styL_none, hn, eg]
    rw [← eg]
    exact h0
  have HPL := Lib.hid (places_any v1 (r.next hb) hn hl hd)
  have HAL := Lib.hid (fun wz (hz : Below v1.heap.size v1 wz) => hall wz (hb.trans (hz.mono hb.size)))
  have HRM := Lib.hid (And.intro rm hb)
  have HB := Lib.hid (And.intro hb (And.intro hs1 (And.intro o1 eg)))
  have HN := Lib.hid (And.intro hn (And.intro hl (And.intro hg hml)))
  obtain ⟨m, em⟩ : ∃ m, m = L.length := ⟨_, rfl⟩
  rw [← em] at HAL
  have HM := Lib.hid em
  have hl9 := hl
  have hm9 : m ≤ 512 := by rw [em]; exact hml
  clear hmk ev eg hb hs1 o1 r rm hall hn hd hg hml em hi0 hz0 hz1 hz2
  go_enter Try.func49, Try.ntmps49
  go_wp2_with fail
  go_at_call 69
  refine HPL.out.mono ?_
  rintro e v2 ⟨g1, g3, M, rfl, hplc, hlt, h2⟩
  have HP := Lib.hid (And.intro hplc (And.intro hlt h2))
  clear hplc hlt h2 HPL hmk'
  go_wp2_with fail
  go_at_call 44
  refine (HAL.out v2 HP.out.2.2).mono ?_
  rintro e v3 ⟨rfl, hv3⟩
  rw [hv3]
  clear hv3 v3 HAL
  have HO2 := Lib.hid (HB.out.2.2.1.keep HP.out.2.2)
  go_wp2_with fail
  go_loopw [22] (fun i wr => ∃ k : Nat, k ≤ m ∧ i = .int .i64 (k : Int) ∧ OwnR styE wr w.heap.size 55 (some ⟨g0, 0, none⟩) n (styL N (L.take k)) ∧ OutF (fun b => b = g0) v2 wr) (fun i _ => m - (intF i).toNat)
  case atStart => exact ⟨0, Nat.zero_le _, rfl, HO2.out, OutF.of (Below.refl _ _)⟩
  case round =>
    obtain ⟨k, hk, rfl, oo, ho⟩ := hrel
    clear HO2
    by_cases hlt : k < m
    case neg =>
      obtain rfl : m = k := by omega
      have hL : L.take m = L := by rw [HM.out, List.take_length]
      rw [hL] at oo
      have HF := Lib.hid (And.intro oo ho)
      clear oo ho hlt hk hL
      go_wp2_with fail
      go_ret
      refine ⟨some ⟨g0, 0, none⟩, n, rfl, HF.out.1, ?_⟩
      have h1 := HB.out.1
      exact (h1.trans (HP.out.2.2.mono h1.size)).trans (OutF.below HF.out.2 (fun b hb => by rw [hb, HB.out.2.2.2]; exact Nat.le_refl _) (Nat.le_trans h1.size HP.out.2.2.size))
    have gk : (k : Int) < (m : Int) := by omega
    obtain ⟨x, hx⟩ : ∃ x, L[k]? = some x := getD_of (by rw [← HM.out]; exact hlt)
    have hxr := right_parts (HN.out.2.2.1.right x (List.mem_of_getElem? hx))
    have rmr : RdR mrkE wr wr.heap.size A c L := by
      have h1 := HRM.out.1.next HRM.out.2
      have h2 := h1.next HP.out.2.2
      have hw : v1.heap.size ≤ v2.heap.size := HP.out.2.2.size
      exact ⟨h2.cap, h2.nil, fun hne => by
        obtain ⟨b, o, e, hlt2, hc⟩ := HRM.out.1.some_ hne
        obtain ⟨b', o', e', hlt3, hc'⟩ := h2.some_ hne
        rw [e] at e'
        simp only [Option.some.injEq, Addr.mk.injEq, and_true] at e'
        obtain ⟨rfl, rfl⟩ := e'
        have hg0 := HB.out.2.2.2
        exact ⟨b, o, e, Nat.lt_of_lt_of_le hlt3 ho.size, fun j v hj => ho.cell hlt3 (by omega) (hc' j v hj)⟩⟩
    obtain ⟨b, o, rfl, hbB, m0, m1, m2, m3, m4, m5, m6, m7, m8, m9⟩ := mrk_at rmr hx
    obtain ⟨v5, e5⟩ : ∃ v, v = wr.alloc (.cells #[.int .i64 x.clock, .int .i64 x.author, .int .i64 x.from_.id.1, .int .i64 x.from_.id.2, .bool x.from_.behind, .int .i64 x.upto.id.1, .int .i64 x.upto.id.2, .bool x.upto.behind, .int .i64 x.name, .int .i64 x.value] 31) := ⟨_, rfl⟩
    obtain ⟨g8, eg8⟩ : ∃ g, g = wr.heap.size := ⟨_, rfl⟩
    have hb5 : Below wr.heap.size wr v5 := by rw [e5]; exact (Below.refl _ _).alloc (Nat.le_refl _) _
    have hbx : MrkB v5 g8 x := by rw [e5, eg8]; exact mrk_box wr x
    have hg8 : g8 < v5.heap.size ∧ g8 ≠ g0 := ⟨by rw [e5, eg8]; simp, by have h1 := (oo.blk _ rfl).2; simp only at h1; omega⟩
    have o5 := oo.keep hb5
    have ho5 : OutF (fun b => b = g0) v2 v5 := ho.trans (OutF.of hb5) (F2 := fun b => b = g0) (fun _ h => .inl h)
    have hplc : ∀ wz, OutF (fun b => b = g0) v5 wz → Plc wz g1 g3 M A2 n c2 N := fun wz hz => by
      have ht := ho5.trans hz (fun _ h => .inl h)
      refine HP.out.1.keep (fun b' hb' => ht.block b' ?_ ?_) ht.size
      · have := HP.out.1.lt
        rcases hb' with rfl | rfl | rfl
        · exact this.1
        · exact this.2.1
        · exact this.2.2
      · have h1 := HP.out.2.1
        have h2 := HB.out.2.1
        rcases hb' with rfl | rfl | rfl <;> omega
    have HPC := Lib.hid (fun (a : Anc) wz (hz : OutF (fun b => b = g0) v5 wz) => place_any16 a wz (hplc wz hz) HN.out.1 (Nat.le_trans HN.out.2.1 (by decide)))
    have HBX := Lib.hid (fun wz (hz : Below v5.heap.size v5 wz) => hbx.keep hz hg8.1)
    have E5 := Lib.hid (And.intro e5 eg8)
    have HK := Lib.hid hlt
    have H5 := Lib.hid (And.intro o5 (And.intro ho5 hg8))
    obtain ⟨nm, enm⟩ : ∃ q : Nat, x.name = (q : Int) := ⟨x.name.toNat, by omega⟩
    have HX := Lib.hid (And.intro hx (And.intro hxr enm))
    clear hbB rmr e5 eg8 hb5 hbx hg8 o5 ho5 hplc oo ho hlt hk hx hxr enm
    go_upto_region 6 with fail
    rw [← E5.out.1, ← E5.out.2]
    clear E5 m0 m1 m2 m3 m4 m5 m6 m7 m8 m9
    obtain ⟨m0, m1, m2, m3, m4, m5, m6, m7, m8, m9⟩ := HBX.out v5 (Below.refl _ _)
    go_wp2_with fail
    go_at_call 79
    refine (HPC.out x.from_ v5 (OutF.of (Below.refl _ _))).mono ?_
    rintro e v6 ⟨rfl, h6⟩
    have H6 := Lib.hid h6
    clear m0 m1 m2 m3 m4 m5 m6 m7 m8 m9 h6
    obtain ⟨m0, m1, m2, m3, m4, m5, m6, m7, m8, m9⟩ := HBX.out v6 H6.out
    go_wp2_with fail
    go_at_call 79
    refine (HPC.out x.upto v6 (OutF.of H6.out)).mono ?_
    rintro e v7 ⟨rfl, h7⟩
    have H7 := Lib.hid (H6.out.trans (h7.mono H6.out.size))
    clear m0 m1 m2 m3 m4 m5 m6 m7 m8 m9 h7
    obtain ⟨fr, efr⟩ : ∃ q, q = plA N x.from_ := ⟨_, rfl⟩
    obtain ⟨to_, eto⟩ : ∃ q, q = plA N x.upto := ⟨_, rfl⟩
    obtain ⟨b1, eb1⟩ : ∃ q, q = thereB N x.from_ := ⟨_, rfl⟩
    obtain ⟨b2, eb2⟩ : ∃ q, q = thereB N x.upto := ⟨_, rfl⟩
    rw [← efr, ← eto, ← eb1, ← eb2]
    have HT := Lib.hid (And.intro efr (And.intro eto (And.intro eb1 eb2)))
    clear efr eto eb1 eb2
    have HO7 := Lib.hid (And.intro (H5.out.1.keep H7.out) (H5.out.2.1.trans (OutF.of H7.out) (F2 := fun b => b = g0) (fun _ h => .inl h)))
    by_cases hbb : (b1 && b2) = true
    case neg =>
      have HST := Lib.hid (show styL N (L.take (k + 1)) = styL N (L.take k) from styL_stay HX.out.1 (by rw [← HT.out.2.2.1, ← HT.out.2.2.2]; simpa using hbb))
      cases b1 with
      | false =>
        clear hbb
        go_wp2_with fail
        go_roundw
        case rel => exact ⟨k + 1, HK.out, by go_num, by rw [HST.out]; exact HO7.out.1, HO7.out.2⟩
        case measure => simp [intF]; have := HK.out; omega
      | true =>
        cases b2 with
        | true => exact absurd rfl hbb
        | false =>
          clear hbb
          go_wp2_with fail
          go_roundw
          case rel => exact ⟨k + 1, HK.out, by go_num, by rw [HST.out]; exact HO7.out.1, HO7.out.2⟩
          case measure => simp [intF]; have := HK.out; omega
    · rw [Bool.and_eq_true] at hbb
      obtain ⟨rfl, rfl⟩ := hbb
      have hton : to_ ≤ n := by rw [HT.out.2.1, ← HN.out.1]; exact plA_le N x.upto HT.out.2.2.2.symm
      obtain ⟨vl, evl⟩ : ∃ q, q = x.value := ⟨_, rfl⟩
      have hnm5 : nm < 5 := by have h1 := HX.out.2.2; have h2 := HX.out.2.1; omega
      have HST := Lib.hid (show styL N (L.take (k + 1)) = layT (styL N (L.take k)) nm vl fr to_ by
        rw [styL_snoc HX.out.1 (by rw [← HT.out.2.2.1, ← HT.out.2.2.2]; rfl), HX.out.2.2, Int.toNat_natCast, evl, HT.out.1, HT.out.2.1])
      have hnmI : (nm : Int) < 5 := by omega
      have hcell : ∀ wz : World, (∀ b', b' < v7.heap.size → b' ≠ g0 → wz.heap[b']? = v7.heap[b']?) → wz.cell? ⟨g8, 8, none⟩ = some (.int .i64 (nm : Int)) ∧ wz.cell? ⟨g8, 9, none⟩ = some (.int .i64 vl) := fun wz hz => by
        obtain ⟨_, _, _, _, _, _, _, _, c8, c9⟩ := HBX.out v7 H7.out
        rw [HX.out.2.2] at c8
        rw [← evl] at c9
        have hq := hz g8 (Nat.lt_of_lt_of_le H5.out.2.2.1 H7.out.size) H5.out.2.2.2
        exact ⟨(World.cell?_of_block hq).trans c8, (World.cell?_of_block hq).trans c9⟩
      have HCE := Lib.hid hcell
      have HTO := Lib.hid hton
      have HNM := Lib.hid hnm5
      have HLL := Lib.hid (styL_len N (L.take k))
      obtain ⟨S, eS⟩ : ∃ S, S = styL N (L.take k) := ⟨_, rfl⟩
      rw [← eS] at HST HLL HO7
      clear hton evl hnm5 hcell eS
      obtain ⟨vo, evo⟩ : ∃ v, v = wr := ⟨_, rfl⟩
      rw [← evo] at *
      clear evo wr
      go_wp2_with fail
      go_loopw [13] (fun i wr => ∃ t : Nat, fr ≤ t ∧ (t ≤ to_ ∨ t = fr) ∧ i = .int .i64 (t : Int) ∧ OwnR styE wr w.heap.size 55 (some ⟨g0, 0, none⟩) n (layT S nm vl fr t) ∧ OutF (fun b => b = g0) v7 wr) (fun i _ => to_ - (intF i).toNat)
      case atStart => exact ⟨fr, Nat.le_refl _, .inr rfl, rfl, by rw [layT_zero S nm vl (Nat.le_refl _)]; exact HO7.out.1, OutF.of (Below.refl _ _)⟩
      case round =>
        obtain ⟨t, hft, htt, rfl, ot, hot⟩ := hrel
        by_cases hlt : t < to_
        · have g1 : (t : Int) < (to_ : Int) := by omega
          have htn : t < n := Nat.lt_of_lt_of_le hlt HTO.out
          have g2 : (t : Int) < (n : Int) := by omega
          obtain ⟨s, hs⟩ : ∃ s, S[t]? = some s := getD_of (by rw [HLL.out, HN.out.1]; exact htn)
          have hat := layT_at (k := nm) (v := vl) (f := fr) (t := t) hs
          rw [if_neg (by omega)] at hat
          have HLS := Lib.hid (layT_succ (k := nm) (v := vl) hft hs)
          have HS := Lib.hid (fun wz (hz : Below wr.heap.size wr wz) => HCE.out wz (fun b' h1 h2 => (hz.block b' (Nat.lt_of_lt_of_le h1 hot.size)).trans (hot.block b' h1 h2)))
          have HOT := Lib.hid (And.intro ot (And.intro hot hat))
          have HFT := Lib.hid (And.intro hft hlt)
          clear hft htt ot hot hs hat hlt htn
          go_upto_region 12 with fail
          refine wp_region_inv 8 [52, 53, 54, 55, 56, 57, 58, 59] [.val (.slice (some ⟨g0, 0, none⟩) n n), .val (.int .i64 (t : Int)), .val (.pointer (some ⟨g8, 8, none⟩)), .val (.int .i64 (nm : Int)), .val (.pointer (some ⟨g8, 9, none⟩)), .val (.int .i64 vl), .val (.pointer (some ⟨g0, 0 + t * 5, none⟩)), .val (.pointer (some ⟨g0, 0 + t * 5 + nm, none⟩))] (fun wz => Below wr.heap.size wr wz) (by kernel_rfl) (by kernel_rfl) (fun wz wz' hz hb => hz.trans (hb.mono hz.size)) ((Below.refl _ _).drew) (fun u => by simp only [puts, List.foldl_cons, List.foldl_nil]; go_simp; exact rfl) ?_ ?_
          · simp only [List.take_succ_cons, List.take_zero]
            refine Obs.cons (fun u w hS hd => ?_) ?_
            · exact Gv.run (.slice (some ⟨g0, 0, none⟩) n n) rfl (by go_simp) rfl
            refine Obs.cons (fun u w hS hd => ?_) ?_
            · exact Gv.run (.int .i64 (t : Int)) rfl (by go_simp) rfl
            refine Obs.cons (fun u w hS hd => ?_) ?_
            · exact Gv.run (.pointer (some ⟨g8, 8, none⟩)) rfl (by go_simp) rfl
            refine Obs.cons (fun u w hS hd => ?_) ?_
            · have d54 : u 54 = .pointer (some ⟨g8, 8, none⟩) := dep hd 2 rfl
              rw [d54]
              exact Gv.run (.int .i64 (nm : Int)) rfl (by obtain ⟨k8, k9⟩ := HS.out w hS; go_simp) rfl
            refine Obs.cons (fun u w hS hd => ?_) ?_
            · exact Gv.run (.pointer (some ⟨g8, 9, none⟩)) rfl (by go_simp) rfl
            refine Obs.cons (fun u w hS hd => ?_) ?_
            · have d56 : u 56 = .pointer (some ⟨g8, 9, none⟩) := dep hd 4 rfl
              rw [d56]
              exact Gv.run (.int .i64 vl) rfl (by obtain ⟨k8, k9⟩ := HS.out w hS; go_simp) rfl
            refine Obs.cons (fun u w hS hd => ?_) ?_
            · have d52 : u 52 = .slice (some ⟨g0, 0, none⟩) n n := dep hd 0 rfl
              have d53 : u 53 = .int .i64 (t : Int) := dep hd 1 rfl
              rw [d52, d53]
              exact Gv.run (.pointer (some ⟨g0, 0 + t * 5, none⟩)) rfl (by go_simp) rfl
            refine Obs.cons (fun u w hS hd => ?_) ?_
            · have d58 : u 58 = .pointer (some ⟨g0, 0 + t * 5, none⟩) := dep hd 6 rfl
              have d55 : u 55 = .int .i64 (nm : Int) := dep hd 3 rfl
              rw [d58, d55]
              exact Gv.run (.pointer (some ⟨g0, 0 + t * 5 + nm, none⟩)) rfl (by go_simp) rfl
            exact Obs.nil
          intro u v9 hS hd
          have d59 : u 59 = .pointer (some ⟨g0, 0 + t * 5 + nm, none⟩) := hd 7 (by decide)
          have d57 : u 57 = .int .i64 vl := hd 5 (by decide)
          rw [d59, d57]
          simp only [List.drop_succ_cons, List.drop_zero]
          have HS2 := Lib.hid hS
          clear hS hd d59 d57
          have o9 := HOT.out.1.keep HS2.out
          have hset := o9.cellset (p := t) (j := nm) (v := .int .i64 vl) HOT.out.2.2 HNM.out (enc_put s HNM.out vl)
          have f9 := World.ownsRow.frozenAt o9 (t * 5 + nm)
          have c9 : (v9.cell? ⟨g0, t * 5 + nm, none⟩) = some (((styE.enc s)[nm]?).getD undef) := by
            obtain ⟨b', o', e', _, hc⟩ := o9.rd.at_ HOT.out.2.2
            simp only [Option.some.injEq, Addr.mk.injEq, and_true] at e'
            obtain ⟨rfl, rfl⟩ := e'
            have hlt5 : nm < (styE.enc s).length := by rw [styE.len]; exact HNM.out
            have := hc nm _ (List.getElem?_eq_getElem hlt5)
            rw [Nat.zero_add] at this
            rw [List.getElem?_eq_getElem hlt5]
            exact this
          have HSET := Lib.hid (And.intro hset (HOT.out.2.1.trans (OutF.of HS2.out) (F2 := fun b => b = g0) (fun _ h => .inl h)))
          have hout : ∀ wz : World, OutF (fun b => b = g0) v7 wz → OutF (fun b => b = g0) v7 (wz.setCell ⟨g0, t * 5 + nm, none⟩ (.int .i64 vl)) := fun wz hz => by
            have hb := (Below.refl 0 wz).setCell (p := ⟨g0, t * 5 + nm, none⟩) (Nat.zero_le _) (.int .i64 vl)
            exact ⟨hb.os.trans hz.os, hb.tape.trans hz.tape, hb.output.trans hz.output, Nat.le_trans hz.size hb.size, fun q hq hn => (Below.heap_setCell wz ⟨g0, t * 5 + nm, none⟩ _ q hn).trans (hz.block q hq hn)⟩
          have HOU := Lib.hid hout
          clear hset hout o9
          go_wp2_with fail
          go_roundw
          case rel => exact ⟨t + 1, by have := HFT.out; omega, .inl (by have := HFT.out; omega), by go_num, by rw [HLS.out]; exact HSET.out.1.1, HOU.out v9 HSET.out.2⟩
          case measure => simp [intF]; have := HFT.out; omega
        · have g1 : ¬ (t : Int) < (to_ : Int) := by omega
          have hlay : layT S nm vl fr t = layT S nm vl fr to_ := by
            rcases htt with h1 | h1
            · rw [show t = to_ by omega]
            · rw [h1, layT_zero S nm vl (Nat.le_refl _), layT_zero S nm vl (by omega)]
          rw [hlay, ← HST.out] at ot
          have HF := Lib.hid (And.intro ot (HO7.out.2.trans hot (fun _ h => .inl h)))
          clear hft htt ot hot hlt hlay
          go_wp2_with fail
          go_roundw
          case rel => exact ⟨k + 1, HK.out, by go_num, HF.out.1, HF.out.2⟩
          case measure => simp [intF]; have := HK.out; omega
end Go.Proofs.Ytpjeggbkhbghaaa
