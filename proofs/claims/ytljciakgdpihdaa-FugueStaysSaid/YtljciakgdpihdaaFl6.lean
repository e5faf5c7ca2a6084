/-
  Layer 15: All; gone through one by one. By an AI agent.
-/
import Derived.Test.YtljciakgdpihdaaFl4
import Derived.Test.YtljciakgdpihdaaFu2
import Derived.Test.YtljciakgdpihdaaFu14
namespace Go.Proofs.Ytljciakgdpihdaa
open Go Go.RowKit
set_option maxRecDepth 20000
/-- A block of one cell. -/
abbrev C1 (w : World) (b : Nat) (t : TypeId) (v : Value) : Prop := w.heap[b]? = some (.cells #[v] t)
theorem C1.cell {w : World} {b : Nat} {t : TypeId} {v : Value} (h : C1 w b t v) : w.cell? ⟨b, 0, none⟩ = some v := by
  have h2 : w.heap[b]? = some (.cells #[v] t) := h
  unfold World.cell?
  simp [h2]
theorem C1.free {w : World} {b : Nat} {t : TypeId} {v : Value} (h : C1 w b t v) : w.frozen? ⟨b, 0, none⟩ = false := cells_free h 0
theorem C1.set_ {w : World} {b : Nat} {t : TypeId} {v : Value} (h : C1 w b t v) (u : Value) : C1 (w.setCell ⟨b, 0, none⟩ u) b t u := by
  have := set_block h 0 u
  simpa using this
theorem C1.newz (w : World) (t : TypeId) (v : Value) : C1 (w.alloc (.cells #[v] t)) w.heap.size t v := by
  show (w.heap.push (.cells #[v] t))[w.heap.size]? = some (.cells #[v] t)
  exact Array.getElem?_push_size
theorem hmk (fn : Fn) (first cap : Array Value) (w : World) : (Instr.makeFunc fn first cap).run Try.prog w = .ok (.func fn first cap) w := rfl
theorem func_nil (f : FuncId) (a b : Array Value) (w : World) : (binOp .eql 52 (.func (.func f) a b) .nilFunc).run Try.prog w = Result.ok (.bool false) w := by
  first | rfl | simp [go_sem, binOp]
theorem sall_any (A : Option Addr) (n c : Nat) (w : World) : Calls Try.prog 44 #[.slice A n c] w fun e w' => e = .returned (.func (.func 53) #[] #[pB w.heap.size]) ∧ w' = w.alloc (.cells #[.slice A n c] 39) := by
  have hmf := hmk
  go_enter Try.func44, Try.ntmps44
  go_wp2_with fail
  go_ret
  exact ⟨rfl, rfl⟩
theorem all_any {R : TreeP} (K : FugC R) {F : Nat → Prop} {p : Value} {L : List Ins} {G : List IDt} (w : World) (h : R w F p L G) (hok : Ok L) (hl : L.length ≤ 4096) :
    Calls Try.prog 27 #[p] w fun e w' => ∃ A c g, e = .returned (.func (.func 53) #[] #[pB g]) ∧ RdR nodE w' w'.heap.size A c ((nodesL L).map (nodeOf G)) ∧ C1 w' g 39 (.slice A (nodesL L).length c) ∧ w.heap.size ≤ g ∧ (∀ ad, A = some ad → w.heap.size ≤ ad.block) ∧ Below w.heap.size w w' := by
  have HN := Lib.hid (K.nodes w h hok hl)
  clear h hok hl
  go_enter Try.func27, Try.ntmps27
  go_wp2_with fail
  go_at_call 15
  refine HN.out.mono ?_
  rintro e v1 ⟨A, c, rfl, r, hA, hb⟩
  have HR := Lib.hid (And.intro r (And.intro hA hb))
  clear r hA hb HN
  go_wp2_with fail
  go_at_call 44
  refine (sall_any A (nodesL L).length c v1).mono ?_
  rintro e v2 ⟨rfl, rfl⟩
  go_wp2_with fail
  go_ret
  obtain ⟨r, hA, hb⟩ := HR.out
  have h2 : Below v1.heap.size v1 (v1.alloc (.cells #[.slice A (nodesL L).length c] 39)) := (Below.refl _ _).alloc (Nat.le_refl _) _
  exact ⟨A, c, v1.heap.size, rfl, r.next h2, C1.newz _ _ _, hb.size, hA, hb.trans (h2.mono hb.size)⟩
theorem all_nil (w : World) : Calls Try.prog 27 #[.pointer none] w fun e w' => ∃ g, e = .returned (.func (.func 53) #[] #[pB g]) ∧ C1 w' g 39 (.slice none 0 0) ∧ w.heap.size ≤ g ∧ Below w.heap.size w w' := by
  go_enter Try.func27, Try.ntmps27
  go_wp2_with fail
  go_at_call 15
  refine (nodes_nil w).mono ?_
  rintro e v1 ⟨rfl, hb⟩
  have HB := Lib.hid hb
  clear hb
  go_wp2_with fail
  go_at_call 44
  refine (sall_any none 0 0 v1).mono ?_
  rintro e v2 ⟨rfl, rfl⟩
  go_wp2_with fail
  go_ret
  have h2 : Below v1.heap.size v1 (v1.alloc (.cells #[.slice none 0 0] 39)) := (Below.refl _ _).alloc (Nat.le_refl _) _
  exact ⟨v1.heap.size, rfl, C1.newz _ _ _, HB.out.size, HB.out.trans (h2.mono HB.out.size)⟩
/-- Nothing to go through: nobody is called. -/
theorem iter_none (y : Value) {g : Nat} (w : World) (h : C1 w g 39 (.slice none 0 0)) : Calls Try.prog 53 #[y, pB g] w fun e w' => e = .returned (.tuple #[]) ∧ w' = w := by
  have c0 := h.cell
  clear h
  go_enter Try.func53, Try.ntmps53
  go_wp2_with fail
  refine wp_loop_rounds 1 ?_
  rw [rounds_succ]
  go_wp2_with fail
  go_end0
  exact ⟨rfl, rfl⟩
set_option maxHeartbeats 3200000 in
/-- One that is told: it is the one that is wanted. -/
theorem seen_any {w : World} {bo bn bw bl m lv N cW : Nat} {AW : Option Addr} {Rows : List Nod} {x : Nod} (r : RdR nodE w w.heap.size AW cW Rows) (hN : Rows.length = N) (hx : Rows[m]? = some x) (co : C1 w bo 4 (.bool true)) (cn : C1 w bn 3 (.int .i64 (m : Int))) (cw : C1 w bw 39 (.slice AW N cW)) (cl : C1 w bl 5 (.int .u8 (lv : Int)))
    (hon : bo ≠ bn) (hlo : bl ≠ bo) (hln : bl ≠ bn) (hm : m ≤ 4096) (hlv : lv ≤ 255) :
    Calls Try.prog 28 #[.int .i64 (m : Int), nodV x, pB bo, pB bn, pB bw, pB bl] w fun e w' => e = .returned (.bool (decide ((m : Int) + 1 ≤ (lv : Int)))) ∧ C1 w' bo 4 (.bool true) ∧ C1 w' bn 3 (.int .i64 ((m + 1 : Nat) : Int)) ∧ OutF (fun b => b = bo ∨ b = bn) w w' := by
  have hmN : m < N := by rw [← hN]; exact (List.getElem?_eq_some_iff.1 hx).1
  obtain ⟨b, o, rfl, hbB, x0, x1, x2, x3⟩ := nod_at r hx
  obtain ⟨v1, ev⟩ : ∃ v, v = w.alloc (.cells #[.int .i64 x.id.1, .int .i64 x.id.2, .int .i32 x.rune, .bool x.gone] 55) := ⟨_, rfl⟩
  obtain ⟨gx, eg⟩ : ∃ g, g = w.heap.size := ⟨_, rfl⟩
  have hb : Below w.heap.size w v1 := by rw [ev]; exact (Below.refl _ _).alloc (Nat.le_refl _) _
  have hq : v1.cell? ⟨gx, 0, none⟩ = some (.int .i64 x.id.1) ∧ v1.cell? ⟨gx, 1, none⟩ = some (.int .i64 x.id.2) ∧ v1.cell? ⟨gx, 2, none⟩ = some (.int .i32 x.rune) ∧ v1.cell? ⟨gx, 3, none⟩ = some (.bool x.gone) := by rw [ev, eg]; simp
  have hg : gx < v1.heap.size := by rw [ev, eg]; simp
  have lo := lt_of_heap co
  have ln := lt_of_heap cn
  have lw := lt_of_heap cw
  have ll := lt_of_heap cl
  have HC := Lib.hid (fun wz (hz : Below w.heap.size w wz) => show C1 wz bo 4 (.bool true) ∧ C1 wz bn 3 (.int .i64 (m : Int)) ∧ C1 wz bl 5 (.int .u8 (lv : Int)) from ⟨(hz.block bo lo).trans co, (hz.block bn ln).trans cn, (hz.block bl ll).trans cl⟩)
  have HS := Lib.hid (fun wz (hz : Below v1.heap.size v1 wz) => show wz.cell? ⟨bo, 0, none⟩ = some (.bool true) ∧ wz.cell? ⟨bn, 0, none⟩ = some (.int .i64 (m : Int)) ∧ wz.cell? ⟨bw, 0, none⟩ = some (.slice (some ⟨b, o, none⟩) N cW) ∧ wz.cell? ⟨gx, 0, none⟩ = some (.int .i64 x.id.1) ∧ wz.cell? ⟨gx, 1, none⟩ = some (.int .i64 x.id.2) ∧ wz.cell? ⟨gx, 2, none⟩ = some (.int .i32 x.rune) ∧ wz.cell? ⟨gx, 3, none⟩ = some (.bool x.gone) ∧ wz.cell? ⟨b, o + m * 4, none⟩ = some (.int .i64 x.id.1) ∧ wz.cell? ⟨b, o + m * 4 + 1, none⟩ = some (.int .i64 x.id.2) ∧ wz.cell? ⟨b, o + m * 4 + 2, none⟩ = some (.int .i32 x.rune) ∧ wz.cell? ⟨b, o + m * 4 + 3, none⟩ = some (.bool x.gone) from by
    have hw := hb.trans (hz.mono hb.size)
    obtain ⟨q0, q1, q2, q3⟩ := hq
    exact ⟨C1.cell ((hw.block bo lo).trans co), C1.cell ((hw.block bn ln).trans cn), C1.cell ((hw.block bw lw).trans cw), (hz.cell (p := ⟨gx, 0, none⟩) hg).trans q0, (hz.cell (p := ⟨gx, 1, none⟩) hg).trans q1, (hz.cell (p := ⟨gx, 2, none⟩) hg).trans q2, (hz.cell (p := ⟨gx, 3, none⟩) hg).trans q3,
      (hw.cell (p := ⟨b, o + m * 4, none⟩) hbB).trans x0, (hw.cell (p := ⟨b, o + m * 4 + 1, none⟩) hbB).trans x1, (hw.cell (p := ⟨b, o + m * 4 + 2, none⟩) hbB).trans x2, (hw.cell (p := ⟨b, o + m * 4 + 3, none⟩) hbB).trans x3⟩)
  have HB := Lib.hid (And.intro hb (And.intro lo ln))
  have HV := Lib.hid (And.intro ev eg)
  have hmI : (m : Int) < (N : Int) := by omega
  clear r hN hx co cn cw cl lo ln lw ll x0 x1 x2 x3 hbB ev eg hb hq hg
  go_enter Try.func28, Try.ntmps28
  go_upto_region 1 with fail
  rw [← HV.out.1, ← HV.out.2]
  clear HV
  refine wp_region_inv 20 [9, 10, 11, 12, 13, 14, 15, 16, 17, 18, 19, 20, 21, 22, 23, 24, 25, 26, 27, 28] [.val (.bool true), .val (.bool true), .val (.int .i64 (m : Int)), .val (.int .i64 (m : Int)), .val (.bool true), .val (.bool true), .val (.bool true), .val (.int .i64 (m : Int)), .val (.slice (some ⟨b, o, none⟩) N cW), .val (.int .i64 (N : Int)), .val (.bool true), .val (.bool true), .val (.bool true), .val (.agg #[.int .i64 x.id.1, .int .i64 x.id.2, .int .i32 x.rune, .bool x.gone]), .val (.slice (some ⟨b, o, none⟩) N cW), .val (.int .i64 (m : Int)), .val (.pointer (some ⟨b, o + m * 4, none⟩)), .val (.agg #[.int .i64 x.id.1, .int .i64 x.id.2, .int .i32 x.rune, .bool x.gone]), .val (.bool true), .val (.bool true)] (fun wz => Below v1.heap.size v1 wz) (by kernel_rfl) (by kernel_rfl) (fun wz wz' hz hb => hz.trans (hb.mono hz.size)) ((Below.refl _ _).drew) (fun u => by simp only [puts, List.foldl_cons, List.foldl_nil]; go_simp; exact rfl) ?_ ?_
  · simp only [List.take_succ_cons, List.take_zero]
    refine Obs.cons (fun u w hS hd => ?_) ?_
    · exact Gv.run (.bool true) rfl (by obtain ⟨k0, k1, k2, k3, k4, k5, k6, k7, k8, k9, k10⟩ := HS.out w hS; go_simp) rfl
    refine Obs.cons (fun u w hS hd => ?_) ?_
    · have d9 : u 9 = .bool true := dep hd 0 rfl
      rw [d9]
      exact Gv.run (.bool true) rfl (by go_simp) rfl
    refine Obs.cons (fun u w hS hd => ?_) ?_
    · have d10 : u 10 = .bool true := dep hd 1 rfl
      rw [d10]
      exact Gv.run (.int .i64 (m : Int)) rfl (by go_simp) rfl
    refine Obs.cons (fun u w hS hd => ?_) ?_
    · have d10 : u 10 = .bool true := dep hd 1 rfl
      rw [d10]
      exact Gv.run (.int .i64 (m : Int)) rfl (by obtain ⟨k0, k1, k2, k3, k4, k5, k6, k7, k8, k9, k10⟩ := HS.out w hS; go_simp) rfl
    refine Obs.cons (fun u w hS hd => ?_) ?_
    · have d11 : u 11 = .int .i64 (m : Int) := dep hd 2 rfl
      have d12 : u 12 = .int .i64 (m : Int) := dep hd 3 rfl
      have d10 : u 10 = .bool true := dep hd 1 rfl
      rw [d11, d12, d10]
      exact Gv.run (.bool true) rfl (by go_simp) rfl
    refine Obs.cons (fun u w hS hd => ?_) ?_
    · have d10 : u 10 = .bool true := dep hd 1 rfl
      have d13 : u 13 = .bool true := dep hd 4 rfl
      rw [d10, d13]
      exact Gv.run (.bool true) rfl (by go_simp) rfl
    refine Obs.cons (fun u w hS hd => ?_) ?_
    · have d14 : u 14 = .bool true := dep hd 5 rfl
      rw [d14]
      exact Gv.run (.bool true) rfl (by go_simp) rfl
    refine Obs.cons (fun u w hS hd => ?_) ?_
    · have d15 : u 15 = .bool true := dep hd 6 rfl
      rw [d15]
      exact Gv.run (.int .i64 (m : Int)) rfl (by obtain ⟨k0, k1, k2, k3, k4, k5, k6, k7, k8, k9, k10⟩ := HS.out w hS; go_simp) rfl
    refine Obs.cons (fun u w hS hd => ?_) ?_
    · have d15 : u 15 = .bool true := dep hd 6 rfl
      rw [d15]
      exact Gv.run (.slice (some ⟨b, o, none⟩) N cW) rfl (by obtain ⟨k0, k1, k2, k3, k4, k5, k6, k7, k8, k9, k10⟩ := HS.out w hS; go_simp) rfl
    refine Obs.cons (fun u w hS hd => ?_) ?_
    · have d17 : u 17 = .slice (some ⟨b, o, none⟩) N cW := dep hd 8 rfl
      have d15 : u 15 = .bool true := dep hd 6 rfl
      rw [d17, d15]
      exact Gv.run (.int .i64 (N : Int)) rfl (by go_simp) rfl
    refine Obs.cons (fun u w hS hd => ?_) ?_
    · have d16 : u 16 = .int .i64 (m : Int) := dep hd 7 rfl
      have d18 : u 18 = .int .i64 (N : Int) := dep hd 9 rfl
      have d15 : u 15 = .bool true := dep hd 6 rfl
      rw [d16, d18, d15]
      exact Gv.run (.bool true) rfl (by go_simp) rfl
    refine Obs.cons (fun u w hS hd => ?_) ?_
    · have d15 : u 15 = .bool true := dep hd 6 rfl
      have d19 : u 19 = .bool true := dep hd 10 rfl
      rw [d15, d19]
      exact Gv.run (.bool true) rfl (by go_simp) rfl
    refine Obs.cons (fun u w hS hd => ?_) ?_
    · have d20 : u 20 = .bool true := dep hd 11 rfl
      rw [d20]
      exact Gv.run (.bool true) rfl (by go_simp) rfl
    refine Obs.cons (fun u w hS hd => ?_) ?_
    · have d21 : u 21 = .bool true := dep hd 12 rfl
      rw [d21]
      exact Gv.run (.agg #[.int .i64 x.id.1, .int .i64 x.id.2, .int .i32 x.rune, .bool x.gone]) rfl (by obtain ⟨k0, k1, k2, k3, k4, k5, k6, k7, k8, k9, k10⟩ := HS.out w hS; go_simp) rfl
    refine Obs.cons (fun u w hS hd => ?_) ?_
    · have d21 : u 21 = .bool true := dep hd 12 rfl
      rw [d21]
      exact Gv.run (.slice (some ⟨b, o, none⟩) N cW) rfl (by obtain ⟨k0, k1, k2, k3, k4, k5, k6, k7, k8, k9, k10⟩ := HS.out w hS; go_simp) rfl
    refine Obs.cons (fun u w hS hd => ?_) ?_
    · have d21 : u 21 = .bool true := dep hd 12 rfl
      rw [d21]
      exact Gv.run (.int .i64 (m : Int)) rfl (by obtain ⟨k0, k1, k2, k3, k4, k5, k6, k7, k8, k9, k10⟩ := HS.out w hS; go_simp) rfl
    refine Obs.cons (fun u w hS hd => ?_) ?_
    · have d23 : u 23 = .slice (some ⟨b, o, none⟩) N cW := dep hd 14 rfl
      have d24 : u 24 = .int .i64 (m : Int) := dep hd 15 rfl
      have d21 : u 21 = .bool true := dep hd 12 rfl
      rw [d23, d24, d21]
      exact Gv.run (.pointer (some ⟨b, o + m * 4, none⟩)) rfl (by go_simp) rfl
    refine Obs.cons (fun u w hS hd => ?_) ?_
    · have d25 : u 25 = .pointer (some ⟨b, o + m * 4, none⟩) := dep hd 16 rfl
      have d21 : u 21 = .bool true := dep hd 12 rfl
      rw [d25, d21]
      exact Gv.run (.agg #[.int .i64 x.id.1, .int .i64 x.id.2, .int .i32 x.rune, .bool x.gone]) rfl (by obtain ⟨k0, k1, k2, k3, k4, k5, k6, k7, k8, k9, k10⟩ := HS.out w hS; go_simp) rfl
    refine Obs.cons (fun u w hS hd => ?_) ?_
    · have d22 : u 22 = .agg #[.int .i64 x.id.1, .int .i64 x.id.2, .int .i32 x.rune, .bool x.gone] := dep hd 13 rfl
      have d26 : u 26 = .agg #[.int .i64 x.id.1, .int .i64 x.id.2, .int .i32 x.rune, .bool x.gone] := dep hd 17 rfl
      have d21 : u 21 = .bool true := dep hd 12 rfl
      rw [d22, d26, d21]
      have hbb := beq_self_eq_true x.gone
      exact Gv.run (.bool true) rfl (by go_simp) rfl
    refine Obs.cons (fun u w hS hd => ?_) ?_
    · have d21 : u 21 = .bool true := dep hd 12 rfl
      have d27 : u 27 = .bool true := dep hd 18 rfl
      rw [d21, d27]
      exact Gv.run (.bool true) rfl (by go_simp) rfl
    exact Obs.nil
  intro u v3 hS hd
  have d28 : u 28 = .bool true := hd 19 (by decide)
  rw [d28]
  simp only [List.drop_succ_cons, List.drop_zero]
  have hb3 := HB.out.1.trans (hS.mono HB.out.1.size)
  obtain ⟨co, cn, cl⟩ := HC.out v3 hb3
  have c0 := co.cell
  have c1 := cn.cell
  have c2 := cl.cell
  have f0 := co.free
  have f1 := cn.free
  have hno := hon.symm
  have HF := Lib.hid (show C1 ((v3.setCell ⟨bo, 0, none⟩ (.bool true)).setCell ⟨bn, 0, none⟩ (.int .i64 ((m : Int) + 1))) bo 4 (.bool true) ∧ C1 ((v3.setCell ⟨bo, 0, none⟩ (.bool true)).setCell ⟨bn, 0, none⟩ (.int .i64 ((m : Int) + 1))) bn 3 (.int .i64 ((m : Int) + 1)) ∧ OutF (fun b => b = bo ∨ b = bn) w ((v3.setCell ⟨bo, 0, none⟩ (.bool true)).setCell ⟨bn, 0, none⟩ (.int .i64 ((m : Int) + 1))) from by
    refine ⟨(set_other _ _ hon).trans (co.set_ _), C1.set_ (t := 3) (v := .int .i64 (m : Int)) ((set_other _ _ hno).trans cn) _, hb3.os, hb3.tape, hb3.output, ?_, fun k hk hn => ?_⟩
    · rw [set_size, set_size]; exact hb3.size
    · rw [set_other _ _ (fun e => hn (.inr e)), set_other _ _ (fun e => hn (.inl e))]
      exact hb3.block k hk)
  clear hS hd d28 hb3 co cn cl HC HS HB
  go_wp2_with fail
  go_ret
  exact ⟨rfl, HF.out.1, HF.out.2.1, HF.out.2.2⟩
set_option maxHeartbeats 3200000 in
/-- All are told, or so many as are asked for. -/
theorem iter_any {w : World} {bo bn bw bl g lv N c cW : Nat} {A AW : Option Addr} {Rows : List Nod} (r : RdR nodE w w.heap.size A c Rows) (rw_ : RdR nodE w w.heap.size AW cW Rows) (hN : Rows.length = N) (cg : C1 w g 39 (.slice A N c)) (co : C1 w bo 4 (.bool true)) (cn : C1 w bn 3 (.int .i64 0)) (cw : C1 w bw 39 (.slice AW N cW)) (cl : C1 w bl 5 (.int .u8 (lv : Int)))
    (hon : bo ≠ bn) (hlo : bl ≠ bo) (hln : bl ≠ bn) (hw : bw ≠ bo ∧ bw ≠ bn) (hA : Rows ≠ [] → ∀ ad, A = some ad → ad.block < w.heap.size → ad.block ≠ bo ∧ ad.block ≠ bn) (hAW : ∀ ad, AW = some ad → ad.block < w.heap.size → ad.block ≠ bo ∧ ad.block ≠ bn) (hN4 : N ≤ 4096) (hlv : lv ≤ 255) :
    Calls Try.prog 53 #[.func (.func 28) #[] #[pB bo, pB bn, pB bw, pB bl], pB g] w fun e w' => e = .returned (.tuple #[]) ∧ C1 w' bo 4 (.bool true) ∧ C1 w' bn 3 (.int .i64 ((min N (lv + 1) : Nat) : Int)) ∧ OutF (fun b => b = bo ∨ b = bn) w w' := by
  have c0 := cg.cell
  have HI := Lib.hid (fun wz (hz : OutF (fun b => b = bo ∨ b = bn) w wz) => show RdR nodE wz wz.heap.size A c Rows ∧ RdR nodE wz wz.heap.size AW cW Rows ∧ C1 wz bw 39 (.slice AW N cW) ∧ C1 wz bl 5 (.int .u8 (lv : Int)) from
    ⟨r.stay (fun hr ad e hlt => hz.block _ hlt (by have := hA hr ad e hlt; simp only [not_or]; exact this)) hz.size, rw_.stay (fun _ ad e hlt => hz.block _ hlt (by have := hAW ad e hlt; simp only [not_or]; exact this)) hz.size, (hz.block bw (lt_of_heap cw) (by simp only [not_or]; exact hw)).trans cw, (hz.block bl (lt_of_heap cl) (by simp only [not_or]; exact ⟨hlo, hln⟩)).trans cl⟩)
  have HC := Lib.hid (And.intro co (And.intro cn (And.intro (lt_of_heap co) (lt_of_heap cn))))
  have HN := Lib.hid hN
  clear r rw_ cg co cn cw cl hA hAW hw hN
  go_enter Try.func53, Try.ntmps53
  go_wp2_with fail
  go_loopw [7] (fun i wr => ∃ k : Nat, k ≤ N ∧ k ≤ lv ∧ i = .int .i64 (k : Int) ∧ C1 wr bo 4 (.bool true) ∧ C1 wr bn 3 (.int .i64 (k : Int)) ∧ OutF (fun b => b = bo ∨ b = bn) w wr) (fun i _ => N - (intF i).toNat)
  case atStart => exact ⟨0, Nat.zero_le _, Nat.zero_le _, rfl, HC.out.1, HC.out.2.1, OutF.of (Below.refl _ _)⟩
  case round =>
    obtain ⟨k, hk, hkl, rfl, co, cn, ho⟩ := hrel
    by_cases hlt : k < N
    · have g2 : (k : Int) < (N : Int) := by omega
      obtain ⟨x, hx⟩ := getD_of (L := Rows) (k := k) (by rw [HN.out]; exact hlt)
      obtain ⟨r1, r2, cw, cl⟩ := HI.out wr ho
      obtain ⟨b, o, rfl, hbB, x0, x1, x2, x3⟩ := nod_at r1 hx
      have x3' : wr.cell? ⟨b, o + k * 4 + 3, none⟩ = some (.bool x.gone) := x3
      obtain ⟨v1, ev⟩ : ∃ v, v = wr.alloc (.cells #[.int .i64 x.id.1, .int .i64 x.id.2, .int .i32 x.rune, .bool x.gone] 55) := ⟨_, rfl⟩
      obtain ⟨gx, eg⟩ : ∃ g, g = wr.heap.size := ⟨_, rfl⟩
      have hb : Below wr.heap.size wr v1 := by rw [ev]; exact (Below.refl _ _).alloc (Nat.le_refl _) _
      have hq : v1.cell? ⟨gx, 0, none⟩ = some (.int .i64 x.id.1) ∧ v1.cell? ⟨gx, 1, none⟩ = some (.int .i64 x.id.2) ∧ v1.cell? ⟨gx, 2, none⟩ = some (.int .i32 x.rune) ∧ v1.cell? ⟨gx, 3, none⟩ = some (.bool x.gone) := by rw [ev, eg]; simp
      have HS := Lib.hid (seen_any (r2.next hb) HN.out hx ((hb.block bo (lt_of_heap co)).trans co) ((hb.block bn (lt_of_heap cn)).trans cn) ((hb.block bw (lt_of_heap cw)).trans cw) ((hb.block bl (lt_of_heap cl)).trans cl) hon hlo hln (by omega) hlv)
      have HB := Lib.hid (show OutF (fun b => b = bo ∨ b = bn) w v1 from ho.trans (OutF.of hb) (fun n hn => .inl hn))
      have HV := Lib.hid (And.intro ev eg)
      have HQ := Lib.hid hq
      have HK := Lib.hid (And.intro hlt hkl)
      clear hx r1 r2 cw cl hbB ev eg hb hq co cn ho hlt hk hkl
      go_upto_region 3 with fail
      rw [← HV.out.1, ← HV.out.2]
      clear HV x0 x1 x2 x3 x3'
      obtain ⟨q0, q1, q2, q3⟩ := HQ.out
      go_wp2_with fail
      go_at_call 28
      refine HS.out.mono ?_
      rintro e v2 ⟨rfl, co, cn, ho2⟩
      have HO := Lib.hid (And.intro co (And.intro cn (HB.out.trans ho2 (fun n hn => .inl hn))))
      clear co cn ho2 HS HB q0 q1 q2 q3
      by_cases hle : k + 1 ≤ lv
      · have hd : decide ((k : Int) + 1 ≤ (lv : Int)) = true := decide_eq_true (by omega)
        rw [hd]
        clear hd
        go_wp2_with fail
        go_roundw
        case rel => exact ⟨k + 1, HK.out.1, hle, by go_num, HO.out.1, HO.out.2.1, HO.out.2.2⟩
        case measure => simp [intF]; have := HK.out; omega
      · have hd : decide ((k : Int) + 1 ≤ (lv : Int)) = false := decide_eq_false (by omega)
        rw [hd]
        clear hd
        go_wp2_with fail
        refine bodyPost_ret (results_none rfl _ _ _) rfl ?_
        refine ⟨rfl, HO.out.1, ?_, HO.out.2.2⟩
        have := HK.out
        rw [show min N (lv + 1) = k + 1 by omega]
        exact HO.out.2.1
    · obtain rfl : k = N := by omega
      have HO := Lib.hid (And.intro co (And.intro cn ho))
      clear co cn ho HI
      go_wp2_with fail
      go_end0
      refine ⟨rfl, HO.out.1, ?_, HO.out.2.2⟩
      rw [show min k (lv + 1) = k by omega]
      exact HO.out.2.1
end Go.Proofs.Ytljciakgdpihdaa
