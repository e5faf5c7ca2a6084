/-
  Layer 11's code: a block's number. By an AI agent.
-/
import Derived.Test.YtfpojgclebaffaaDoorPo1
import Derived.Test.YtfpojgclebaffaaDoorMF
import Derived.Test.YtfpojgclebaffaaDoorBox
namespace Go.Proofs.YtfpojgclebaffaaDoor
open Go Go.RowKit
set_option maxRecDepth 20000
abbrev ZC17 : Array Value := #[.int .u8 0, .int .u8 0, .int .u8 0, .int .u8 0, .int .u8 0, .int .u8 0, .int .u8 0, .int .u8 0, .int .u8 0, .int .u8 0, .int .u8 0, .int .u8 0, .int .u8 0, .int .u8 0, .int .u8 0, .int .u8 0, .int .u8 0]
/-- The bytes and a one behind them. -/
theorem num_cell (bs : List UInt8) {n : Nat} (hn : bs.length = n) {k : Nat} (hk : k < n + 1) : (if k = n then Value.int .u8 1 else fput (fun _ => .int .u8 0) 0 n (bvf bs) k) = bvf (bs ++ [1]) k := by
  unfold bvf fput
  by_cases h : k = n
  · rw [if_pos h]
    have e : nth (bs ++ [1]) k = 1 := by
      unfold nth
      rw [List.getElem?_append_right (by omega), show k - bs.length = 0 by omega]
      rfl
    rw [e]; rfl
  · rw [if_neg h, if_pos (by omega), Nat.sub_zero]
    have e : nth (bs ++ [1]) k = nth bs k := by
      unfold nth
      rw [List.getElem?_append_left (by omega)]
    rw [e]
theorem p_rd {w : World} {B g C N n : Nat} {e : TypeId} {f : Nat → Value} {P : List UInt8} (o : OwnF w B e (some ⟨g, 0, none⟩) C N f) (hl : P.length = n) (hn : n ≤ N) (hc : n ≤ C) (hf : ∀ k, k < n → f k = bvf P k) : Rd w w.heap.size (some ⟨g, 0, none⟩) C P :=
  ⟨by omega, fun h => by simp at h, fun _ => ⟨g, 0, rfl, OwnF.lt o, fun k hk => by rw [Nat.zero_add, OwnF.cell o (by omega), hf k (by omega)]; rfl⟩⟩
theorem from_len (w : World) {B c n : Nat} {A : Option Addr} {bs : List UInt8} (hn : bs.length = n) (hr : Rd w B A c bs) (hB : B ≤ w.heap.size) (hl : n ≤ 32) :
    Calls Tryd.prog 13 #[.slice A n c] w fun e w' => e = .returned (.tuple #[nv (vb bs), .int .i64 0]) ∧ Below w.heap.size w w' := by
  subst hn
  exact from_good w hr hB hl
theorem slice17 (w : World) {g m : Nat} (h : m ≤ 17) : (Instr.sliceAt 55 (.pointer (some ⟨g, 0, none⟩)) none (some (.int .i64 (m : Int))) none).run Tryd.prog w = .ok (.slice (some ⟨g, 0, none⟩) m 17) w := by
  have h3 := size_u8 w
  unfold Instr.sliceAt Instr.sliceBounds Instr.sliceBound
  simp [Sem.run_bind, asIntOf, run_underlying Tryd.underlying55 w, Instr.sureAddr, h3, Addr.add_mid, h]
section
attribute [local irreducible] rl setA vb wd
set_option maxHeartbeats 3200000 in
theorem number_any {A : Option Addr} {c : Nat} {bs : List UInt8} (hl : bs.length ≤ 16) (w : World) (hr : Rd w w.heap.size A c bs) :
    Calls Tryd.prog 15 #[.slice A bs.length c] w fun e w' => e = .returned (nv (vb (bs ++ [1]))) ∧ Below w.heap.size w w' := by
  obtain ⟨n, hn⟩ : ∃ n, n = bs.length := ⟨_, rfl⟩
  rw [← hn] at hl ⊢
  obtain ⟨d, ed⟩ : ∃ d, d = vb (bs ++ [1]) := ⟨_, rfl⟩
  rw [← ed]
  have HD := Lib.hid ed
  have HN := Lib.hid hn
  have HB1 := Lib.hid (show (bs ++ [1]).length = n + 1 by simp [hn])
  have HM := Lib.hid (show n = Nat.min n 17 from (Nat.min_eq_left (by omega)).symm)
  have s1 : (w.alloc Z4).heap.size = w.heap.size + 1 := by simp
  have o17 := OwnF.lit (w := w.alloc Z4) (B := w.heap.size) 55 (by omega) ZC17 17 (fun _ => .int .u8 0) (by decide) (by rfl)
  have b1 := (Below.refl w.heap.size w).alloc (Nat.le_refl _) Z4
  have b2 : Below (w.alloc Z4).heap.size (w.alloc Z4) ((w.alloc Z4).alloc (.cells ZC17 55)) := (Below.refl _ _).alloc (Nat.le_refl _) _
  have oz : O4 ((w.alloc Z4).alloc (.cells ZC17 55)) w.heap.size w.heap.size 0 := (O4.zero (own_Z4 (w := w) (Nat.le_refl _))).keep b2
  have hc := b1.trans (b2.mono (by omega))
  have hr2 := hr.keep hc
  rw [s1] at o17
  clear ed hn b1 b2 s1 hr
  go_enter Tryd.func15, Tryd.ntmps15
  go_upto_region 2 with fail
  obtain ⟨v2, e2⟩ : ∃ v, v = (w.alloc Z4).alloc (.cells ZC17 55) := ⟨_, rfl⟩
  obtain ⟨gB, eB⟩ : ∃ g, g = w.heap.size + 1 := ⟨_, rfl⟩
  obtain ⟨gz, ez⟩ : ∃ g, g = w.heap.size := ⟨_, rfl⟩
  rw [← e2] at o17 oz hc hr2 ⊢
  replace o17 : OwnF v2 w.heap.size 55 (some ⟨gB, 0, none⟩) 17 17 (fun _ => .int .u8 0) := by rw [eB]; exact o17
  replace oz : O4 v2 w.heap.size gz 0 := by rw [ez]; exact oz
  rw [← eB, ← ez]
  have hne := Lib.hid (show gB ≠ gz by omega)
  clear e2 eB ez
  have oc := av_put o17 0 n (bvf bs)
  have on := av_only v2 gB 0 n (bvf bs)
  have hcp := fun (ops : Array Oper) (rest2 : List Oper) (a : Act) (Q : Exit → Act → World → Prop) (d s : Operand) (dst : Option Nat) (tp : TypeId) (ps : String) (af : Array Edge) => copy_to (ops := ops) (rest := rest2) (a := a) (Q := Q) (d := d) (s := s) (dst := dst) (tp := tp) (ps := ps) (af := af) (off := 0) (dl := 17) (dc := 17) (m := n) o17 hr2 (by rw [← HN.out]; exact HM.out) (by omega)
  rw [← HN.out] at hcp
  have HCP := Lib.hid hcp
  clear hcp
  go_upto_region 3 with ((refine HCP.out _ _ _ _ _ _ _ _ _ _ ?_ ?_ ?_); rfl; rfl)
  obtain ⟨v3, e3⟩ : ∃ v, v = setA v2 gB 0 n (bvf bs) := ⟨_, rfl⟩
  rw [← e3] at oc on ⊢
  have HGB := Lib.hid (OwnF.ge o17)
  replace oz : O4 v3 w.heap.size gz 0 := OwnF.only oz on hne.out
  replace hc := hc.trans (on.below HGB.out)
  clear e3 on HCP o17 hr2
  have o1 := OwnF.set_ oc n (.int .u8 1)
  have oz1 : O4 (v3.setCell ⟨gB, n, none⟩ (.int .u8 1)) w.heap.size gz 0 := OwnF.other oz (p := ⟨gB, n, none⟩) hne.out _
  have hc1 := hc.setCell (p := ⟨gB, n, none⟩) HGB.out (.int .u8 1)
  have fr := OwnF.free oc n
  obtain ⟨ov, cl⟩ : ∃ u, v3.cell? ⟨gB, n, none⟩ = some u := ⟨_, OwnF.cell oc (k := n) (by omega)⟩
  have g1 : (n : Int) < 17 := by omega
  obtain ⟨m, em⟩ : ∃ m, m = n + 1 := ⟨_, rfl⟩
  have w1 : IntKind.i64.wrap ((n : Int) + 1) = (m : Int) := by rw [IntKind.wrap_i64]; omega
  have HMM := Lib.hid em
  clear em
  clear oz hc oc
  go_upto_region 4 with fail
  obtain ⟨v4, e4⟩ : ∃ v, v = v3.setCell ⟨gB, n, none⟩ (.int .u8 1) := ⟨_, rfl⟩
  rw [← e4] at o1 oz1 hc1 ⊢
  clear e4 fr cl
  have rd := p_rd o1 HB1.out (by omega) (by omega) fun k hk => num_cell bs HN.out.symm hk
  have g2 : m ≤ 17 := by rw [HMM.out]; omega
  clear o1
  have hsl := slice17 v4 (g := gB) (m := m) g2
  go_wp2_with fail
  go_at_call 13
  refine (from_len v4 (HB1.out.trans HMM.out.symm) rd (Nat.le_refl _) (by omega)).mono ?_
  rintro e v5 ⟨rfl, h0⟩
  rw [← HD.out]
  replace oz := oz1.keep h0
  replace hc := hc1.trans (h0.mono hc1.size)
  clear oz1 hc1 h0 rd
  obtain ⟨d0, d1, d2, d3⟩ := (O4.new (w := v5) (B := v5.heap.size) (Nat.le_refl _) d).c4
  replace oz := oz.alloc (A4 d)
  replace hc := hc.alloc hc.size (A4 d)
  obtain ⟨z0, z1, z2, z3⟩ := oz.c4
  obtain ⟨f0, f1, f2, f3⟩ := oz.f4
  obtain ⟨wz, ez, or, hb, _⟩ := oz.out d
  obtain ⟨r0, r1, r2, r3⟩ := or.c4
  go_wp2_with fail
  rw [← ez]
  refine bodyPost_ret (v := nv d) (by simp [results, Tryd.results15, go_sem, r0, r1, r2, r3]) rfl ⟨rfl, hc.trans hb⟩
end
end Go.Proofs.YtfpojgclebaffaaDoor
