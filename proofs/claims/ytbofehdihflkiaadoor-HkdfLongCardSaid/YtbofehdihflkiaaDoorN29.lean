/-
  The code's Sum256, Sum512, New, Clone, Sum (layer 6). Written by tools/gen_n29.py. By an AI agent.
-/
import Derived.Test.YtbofehdihflkiaaDoorN27
import Derived.Test.YtbofehdihflkiaaDoorN28
namespace Go.Proofs.YtbofehdihflkiaaDoor
open Go Go.RowKit
set_option maxRecDepth 20000
theorem sliceA_lo (w : World) {g off l : Nat} (h : l < 64) : (Instr.sliceAt 60 (.pointer (some ⟨g, off, none⟩)) (some (.int .u64 (l : Int))) none none).run Tryd.prog w = .ok (.slice (some ⟨g, off + l, none⟩) (64 - l) (64 - l)) w := by
  have h1 : l ≤ 64 := by omega
  have h2 : ¬ 64 = l := by omega
  have h3 := size_u8 w
  unfold Instr.sliceAt Instr.sliceBounds Instr.sliceBound
  simp [Sem.run_bind, asIntOf, run_underlying Tryd.underlying60 w, Instr.sureAddr, h3, Addr.add_mid, h1, h2]
theorem sliceA_hi (w : World) {g off m : Nat} (h : m ≤ 64) : (Instr.sliceAt 60 (.pointer (some ⟨g, off, none⟩)) none (some (.int .u64 (m : Int))) none).run Tryd.prog w = .ok (.slice (some ⟨g, off, none⟩) m 64) w := by
  have h3 := size_u8 w
  unfold Instr.sliceAt Instr.sliceBounds Instr.sliceBound
  simp [Sem.run_bind, asIntOf, run_underlying Tryd.underlying60 w, Instr.sureAddr, h3, Addr.add_mid, h]
theorem sliceA_all (w : World) {g off : Nat} : (Instr.sliceAt 60 (.pointer (some ⟨g, off, none⟩)) none none none).run Tryd.prog w = .ok (.slice (some ⟨g, off, none⟩) 64 64) w := by
  unfold Instr.sliceAt Instr.sliceBounds Instr.sliceBound
  simp [Sem.run_bind, run_underlying Tryd.underlying60 w, Instr.sureAddr, size_u8 w, Addr.add_mid]
section
variable {ops : Array Oper} {rest : List Oper} {a : Act} {w : World} {Q : Exit → Act → World → Prop} {dst : Option Nat} {tp : TypeId} {ps : String} {af : Array Edge} {x lo hi : Operand} {g off : Nat} {o : Oper}
theorem sliceA_arm_lo (l : Nat) (h1 : l < 64) (e1 : a.eval x = .pointer (some ⟨g, off, none⟩)) (e2 : a.eval lo = .int .u64 (l : Int)) (h : wpList Tryd.prog ops Q rest (a.put dst (.slice (some ⟨g, off + l, none⟩) (64 - l) (64 - l))) w) :
    wpList Tryd.prog ops Q (⟨dst, .slice 60 x (some lo) none none, tp, ps, af, none⟩ :: rest) a w :=
  wpList_plain rfl fun _ hK => by
    unfold Oper.wp execOp
    simp only [e1, e2, Option.map_some, Option.map_none, Sem.run_bind, sliceA_lo w h1, Result.andThen_ok, Sem.run_pure]
    exact hK _ _ h
theorem sliceA_arm_all (g off : Nat) (e1 : a.eval x = .pointer (some ⟨g, off, none⟩)) (h : wpList Tryd.prog ops Q rest (a.put dst (.slice (some ⟨g, off, none⟩) 64 64)) w) :
    wpList Tryd.prog ops Q (⟨dst, .slice 60 x none none none, tp, ps, af, none⟩ :: rest) a w :=
  wpList_plain rfl fun _ hK => by
    unfold Oper.wp execOp
    simp only [e1, Option.map_none, Sem.run_bind, sliceA_all w, Result.andThen_ok, Sem.run_pure]
    exact hK _ _ h
theorem sliceA_op_hi {m : Nat} (ho : o.op = .slice 60 x none (some hi) none) (e1 : a.eval x = .pointer (some ⟨g, off, none⟩)) (e2 : a.eval hi = .int .u64 (m : Int)) (h : m ≤ 64) : (execOp a.eval o).run Tryd.prog w = .ok (.value (.slice (some ⟨g, off, none⟩) m 64)) w := by
  unfold execOp
  simp only [ho, e1, e2, Option.map_some, Option.map_none, Sem.run_bind, sliceA_hi w h, Result.andThen_ok, Sem.run_pure]
theorem sliceA_op_all (ho : o.op = .slice 60 x none none none) (e1 : a.eval x = .pointer (some ⟨g, off, none⟩)) : (execOp a.eval o).run Tryd.prog w = .ok (.value (.slice (some ⟨g, off, none⟩) 64 64)) w := by
  unfold execOp
  simp only [ho, e1, Option.map_none, Sem.run_bind, sliceA_all w, Result.andThen_ok, Sem.run_pure]
end
theorem rd_no (w : World) (B : Nat) : Rd w B none 0 [] := ⟨Nat.le_refl _, fun _ => ⟨rfl, rfl⟩, fun h => absurd rfl h⟩
theorem fst_small (i : Nat) : fst smallS i < 4294967296 := smallOk.first.2 i
theorem fst_great (i : Nat) : fst greatS i < 18446744073709551616 := greatOk.first.2 i
section
attribute [local irreducible] rl setA bvf sumR sumN fst runs
set_option maxHeartbeats 1600000 in
theorem code256 {A0 : Option Addr} {B c0 : Nat} {bs : List UInt8} (hlen : bs.length ≤ 140737488355328) (w : World) (hG : Glb w) (hr : Rd w B A0 c0 bs) (hB : B ≤ w.heap.size) :
    Calls Tryd.prog 26 #[.slice A0 bs.length c0] w fun e w' => ∃ g, e = .returned (.slice (some ⟨g, 0, none⟩) 32 32) ∧ OwnF w' w.heap.size 5 (some ⟨g, 0, none⟩) 32 32 (bvf (sumN smallS bs)) ∧ Below w.heap.size w w' := by
  have hk := sum_32 (V := fst smallS) (A0 := A0) (B := B) (c0 := c0) (all := bs.length) (bs := bs) fst_small hlen (by omega) w hG hr hB
  rw [sumR_all (S := smallS) (.inl rfl)] at hk
  have KS := Lib.hid hk
  have hcl : Cl w 0 0 8 (iv32 (fst smallS)) := fun k hk => by rw [Nat.zero_add]; exact hG.a k hk
  have HCL := Lib.hid hcl
  have hw1 : IntKind.u64.wrap (bs.length : Int) = (bs.length : Int) := by rw [IntKind.wrap_u64]; omega
  clear hk hcl hr hG
  go_enter Tryd.func26, Tryd.ntmps26
  go_wp2_with ((with_reducible refine av_load HCL.out ty8_32 ?_ ?_); rfl)
  go_at_call 34
  refine KS.out.mono ?_
  rintro e v1 ⟨g, rfl, o, hb⟩
  go_wp2_with fail
  go_ret
  exact ⟨g, rfl, o, hb⟩
theorem hs_rest {w wz : World} {B g m : Nat} {V : Nat → Nat} {rb : List UInt8} {n : Nat} (o : OwnF w B 62 (some ⟨g, 0, none⟩) 73 73 (hcell V rb n)) (hz : Below w.heap.size w wz) (hl : rb.length = 64) (hm : m ≤ 64) : Rd wz wz.heap.size (some ⟨g, 8, none⟩) 64 (rb.take m) := by
  have o2 := OwnF.keep o hz
  have hlen : (rb.take m).length = m := by rw [List.length_take]; omega
  refine ⟨by omega, fun h => by simp at h, fun _ => ⟨g, 8, rfl, OwnF.lt o2, fun k hk => ?_⟩⟩
  rw [OwnF.cell o2 (k := 8 + k) (by omega), hcell_r (by omega)]
  unfold nth
  rw [List.getElem?_take, if_pos (by omega)]
set_option maxHeartbeats 1600000 in
theorem hsum {B g : Nat} {bs : List UInt8} (hlen : bs.length ≤ 140737488355328) (w : World) (hG : Glb w) (hs : Hs w B g bs) :
    Calls Tryd.prog 30 #[.pointer (some ⟨g, 0, none⟩)] w fun e w' => ∃ g', e = .returned (.slice (some ⟨g', 0, none⟩) 32 32) ∧ OwnF w' w.heap.size 5 (some ⟨g', 0, none⟩) 32 32 (bvf (sumN smallS bs)) ∧ Below w.heap.size w w' := by
  obtain ⟨V, rb, o, hrl, htk, hV, hVr⟩ := hs
  have cn := (OwnF.cell o (k := 72) (by decide)).trans (by rw [hcell_n])
  by_cases h0 : bs.length = 0
  · obtain rfl : bs = [] := List.eq_nil_of_length_eq_zero h0
    have KC := Lib.hid (fun w hG => code256 (A0 := none) (B := w.heap.size) (c0 := 0) (bs := []) (by decide) w hG (rd_no _ _) (Nat.le_refl _))
    have HG := Lib.hid hG
    have cn0 : w.cell? ⟨g, 72, none⟩ = some (.int .u64 0) := cn
    clear o hrl htk hVr hG cn
    go_enter Tryd.func30, Tryd.ntmps30
    go_wp2_with fail
    go_at_call 26
    refine (KC.out _ HG.out).mono ?_
    rintro e v1 ⟨g1, rfl, o1, hb⟩
    go_wp2_with fail
    go_ret
    exact ⟨g1, rfl, o1, hb⟩
  · obtain ⟨m, hm⟩ : ∃ m, m = bs.length % 64 := ⟨_, rfl⟩
    have hmk := fun wz (hz : Below w.heap.size w wz) => sum_32 (V := V) (A0 := some ⟨g, 8, none⟩) (B := wz.heap.size) (c0 := 64) (all := bs.length) (bs := rb.take m) hV (by rw [List.length_take]; omega) (by omega) wz (hG.next hz) (hs_rest o hz hrl (by omega)) (Nat.le_refl _)
    have hlm : (rb.take m).length = m := by rw [List.length_take]; omega
    have hsr : sumR smallS V (rb.take m) bs.length = sumN smallS bs := by
      rw [hm, htk, hVr h0]
      exact sumR_rest (S := smallS) (.inl rfl) bs
    rw [hlm, hsr] at hmk
    have KS := Lib.hid hmk
    have HCL := Lib.hid (fun wz (hz : Below w.heap.size w wz) => OwnF.cl (off := 0) (n := 8) (f' := iv32 V) (OwnF.keep o hz) (by decide) (fun k hk => hcell_w hk))
    have HCN := Lib.hid (fun wz (hz : Below w.heap.size w wz) => (OwnF.cell (OwnF.keep o hz) (k := 72) (by decide)).trans (by rw [hcell_n]))
    have HM := Lib.hid (show m ≤ 64 by omega)
    have E1 := Lib.hid (show (bs.length : Int) % 64 = (m : Int) by omega)
    have E2 := Lib.hid (show (bs.length : Int).tmod 64 = (m : Int) by rw [Int.tmod_eq_emod_of_nonneg (by omega)]; omega)
    have g1 : ((bs.length : Int) == 0) = false := beq_eq_false_iff_ne.2 (by omega)
    clear hmk hlm hsr hrl htk hVr hm hlen h0 hV hG o
    go_enter Tryd.func30, Tryd.ntmps30
    go_upto_region 3 with fail
    clear cn
    refine wp_region_inv 17 [13, 14, 15, 16, 17, 18, 19, 20, 21, 22, 23, 24, 25, 26, 27, 28, 29] [.val (.pointer (some ⟨g, 0, none⟩)), .val (.pointer (some ⟨g, 0, none⟩)), .val (.pointer (some ⟨g, 0, none⟩)), .val (av 8 (iv32 V)), .val (.pointer (some ⟨g, 0, none⟩)), .val (.pointer (some ⟨g, 0, none⟩)), .val (.pointer (some ⟨g, 8, none⟩)), .val (.pointer (some ⟨g, 0, none⟩)), .val (.pointer (some ⟨g, 0, none⟩)), .val (.pointer (some ⟨g, 72, none⟩)), .val (.int .u64 (bs.length : Int)), .val (.int .u64 (m : Int)), .val (.slice (some ⟨g, 8, none⟩) m 64), .val (.pointer (some ⟨g, 0, none⟩)), .val (.pointer (some ⟨g, 0, none⟩)), .val (.pointer (some ⟨g, 72, none⟩)), .val (.int .u64 (bs.length : Int))] (fun wz => Below w.heap.size w wz) (by kernel_rfl) (by kernel_rfl) (fun wz wz' hz hb => hz.trans (hb.mono hz.size)) ((Below.refl _ _).drew) (fun u => by simp only [puts, List.foldl_cons, List.foldl_nil]; go_simp; exact rfl) ?_ ?_
    · simp only [List.take_succ_cons, List.take_zero]
      refine Obs.cons (fun u w hS hd => ?_) ?_
      · exact Gv.run (.pointer (some ⟨g, 0, none⟩)) rfl (by go_simp) rfl
      refine Obs.cons (fun u w hS hd => ?_) ?_
      · have d13 : u 13 = .pointer (some ⟨g, 0, none⟩) := dep hd 0 rfl
        rw [d13]
        exact Gv.run (.pointer (some ⟨g, 0, none⟩)) rfl (by go_simp) rfl
      refine Obs.cons (fun u w hS hd => ?_) ?_
      · have d14 : u 14 = .pointer (some ⟨g, 0, none⟩) := dep hd 1 rfl
        rw [d14]
        exact Gv.run (.pointer (some ⟨g, 0, none⟩)) rfl (by go_simp) rfl
      refine Obs.cons (fun u w hS hd => ?_) ?_
      · have d15 : u 15 = .pointer (some ⟨g, 0, none⟩) := dep hd 2 rfl
        rw [d15]
        exact Gv.run (av 8 (iv32 V)) rfl (av_run rfl rfl (HCL.out w hS) ty8_32) rfl
      refine Obs.cons (fun u w hS hd => ?_) ?_
      · exact Gv.run (.pointer (some ⟨g, 0, none⟩)) rfl (by go_simp) rfl
      refine Obs.cons (fun u w hS hd => ?_) ?_
      · have d17 : u 17 = .pointer (some ⟨g, 0, none⟩) := dep hd 4 rfl
        rw [d17]
        exact Gv.run (.pointer (some ⟨g, 0, none⟩)) rfl (by go_simp) rfl
      refine Obs.cons (fun u w hS hd => ?_) ?_
      · have d18 : u 18 = .pointer (some ⟨g, 0, none⟩) := dep hd 5 rfl
        rw [d18]
        exact Gv.run (.pointer (some ⟨g, 8, none⟩)) rfl (by go_simp) rfl
      refine Obs.cons (fun u w hS hd => ?_) ?_
      · exact Gv.run (.pointer (some ⟨g, 0, none⟩)) rfl (by go_simp) rfl
      refine Obs.cons (fun u w hS hd => ?_) ?_
      · have d20 : u 20 = .pointer (some ⟨g, 0, none⟩) := dep hd 7 rfl
        rw [d20]
        exact Gv.run (.pointer (some ⟨g, 0, none⟩)) rfl (by go_simp) rfl
      refine Obs.cons (fun u w hS hd => ?_) ?_
      · have d21 : u 21 = .pointer (some ⟨g, 0, none⟩) := dep hd 8 rfl
        rw [d21]
        exact Gv.run (.pointer (some ⟨g, 72, none⟩)) rfl (by go_simp) rfl
      refine Obs.cons (fun u w hS hd => ?_) ?_
      · have d22 : u 22 = .pointer (some ⟨g, 72, none⟩) := dep hd 9 rfl
        rw [d22]
        exact Gv.run (.int .u64 (bs.length : Int)) rfl (by have h1 := HCN.out w hS; go_simp) rfl
      refine Obs.cons (fun u w hS hd => ?_) ?_
      · have d23 : u 23 = .int .u64 (bs.length : Int) := dep hd 10 rfl
        rw [d23]
        have hq := E1.out
        have hq2 := E2.out
        exact Gv.run (.int .u64 (m : Int)) rfl (by go_simp) rfl
      refine Obs.cons (fun u w hS hd => ?_) ?_
      · have d19 : u 19 = .pointer (some ⟨g, 8, none⟩) := dep hd 6 rfl
        have d24 : u 24 = .int .u64 (m : Int) := dep hd 11 rfl
        rw [d19, d24]
        exact Gv.run (.slice (some ⟨g, 8, none⟩) m 64) rfl (sliceA_op_hi rfl rfl rfl HM.out) rfl
      refine Obs.cons (fun u w hS hd => ?_) ?_
      · exact Gv.run (.pointer (some ⟨g, 0, none⟩)) rfl (by go_simp) rfl
      refine Obs.cons (fun u w hS hd => ?_) ?_
      · have d26 : u 26 = .pointer (some ⟨g, 0, none⟩) := dep hd 13 rfl
        rw [d26]
        exact Gv.run (.pointer (some ⟨g, 0, none⟩)) rfl (by go_simp) rfl
      refine Obs.cons (fun u w hS hd => ?_) ?_
      · have d27 : u 27 = .pointer (some ⟨g, 0, none⟩) := dep hd 14 rfl
        rw [d27]
        exact Gv.run (.pointer (some ⟨g, 72, none⟩)) rfl (by go_simp) rfl
      refine Obs.cons (fun u w hS hd => ?_) ?_
      · have d28 : u 28 = .pointer (some ⟨g, 72, none⟩) := dep hd 15 rfl
        rw [d28]
        exact Gv.run (.int .u64 (bs.length : Int)) rfl (by have h1 := HCN.out w hS; go_simp) rfl
      exact Obs.nil
    intro u wz hS hd
    have d16 : u 16 = av 8 (iv32 V) := hd 3 (by decide)
    have d25 : u 25 = .slice (some ⟨g, 8, none⟩) m 64 := hd 12 (by decide)
    have d29 : u 29 = .int .u64 (bs.length : Int) := hd 16 (by decide)
    rw [d16, d25, d29]
    clear hd d16 d25 d29
    simp only [List.drop_succ_cons, List.drop_zero]
    go_wp2_with fail
    go_at_call 34
    refine (KS.out wz hS).mono ?_
    rintro e v1 ⟨g1, rfl, o1, hb⟩
    go_wp2_with fail
    go_ret
    exact ⟨g1, rfl, o1.mono hS.size, hS.trans (hb.mono hS.size)⟩
set_option maxHeartbeats 1600000 in
theorem hsum_nil (w : World) (hG : Glb w) : Calls Tryd.prog 30 #[.pointer none] w fun e w' => ∃ g', e = .returned (.slice (some ⟨g', 0, none⟩) 32 32) ∧ OwnF w' w.heap.size 5 (some ⟨g', 0, none⟩) 32 32 (bvf (sumN smallS [])) ∧ Below w.heap.size w w' := by
  have KC := Lib.hid (fun w hG => code256 (A0 := none) (B := w.heap.size) (c0 := 0) (bs := []) (by decide) w hG (rd_no _ _) (Nat.le_refl _))
  have HG := Lib.hid hG
  clear hG
  go_enter Tryd.func30, Tryd.ntmps30
  go_wp2_with fail
  go_at_call 26
  refine (KC.out _ HG.out).mono ?_
  rintro e v1 ⟨g1, rfl, o1, hb⟩
  go_wp2_with fail
  go_ret
  exact ⟨g1, rfl, o1, hb⟩
theorem ty73 : ATy 62 73 := ⟨⟨_, Tryd.underlying62, rfl⟩, by kernel_rfl⟩
theorem hclone_nil (w : World) : Calls Tryd.prog 28 #[.pointer none] w fun e w' => e = .returned (.pointer none) ∧ Below w.heap.size w w' := by
  go_enter Tryd.func28, Tryd.ntmps28
  go_wp2_with fail
  go_ret
  exact ⟨rfl, Below.refl _ _⟩
theorem hwrite_nil (A : Option Addr) (n c : Nat) (w : World) : Calls Tryd.prog 29 #[.pointer none, .slice A n c] w fun e w' => e = .returned (.tuple #[]) ∧ Below w.heap.size w w' := by
  go_enter Tryd.func29, Tryd.ntmps29
  go_wp2_with fail
  exact bodyPost_ret (v := .tuple #[]) (by simp [results, Tryd.results29, go_sem]) rfl ⟨rfl, Below.refl _ _⟩
set_option maxHeartbeats 1600000 in
theorem hnew (w : World) : Calls Tryd.prog 35 #[] w fun e w' => ∃ g, e = .returned (.pointer (some ⟨g, 0, none⟩)) ∧ Hs w' w.heap.size g [] ∧ Below w.heap.size w w' := by
  have o := OwnF.lit (w := w) (B := w.heap.size) 62 (Nat.le_refl _) Tryd.zeroCells62 73 (hcell (fun _ => 0) (List.replicate 64 0) 0) (by decide) (by kernel_rfl)
  have hb := (Below.refl w.heap.size w).alloc (Nat.le_refl _) (.cells Tryd.zeroCells62 62)
  go_enter Tryd.func35, Tryd.ntmps35
  go_wp2_with fail
  go_ret
  exact ⟨w.heap.size, rfl, ⟨fun _ => 0, List.replicate 64 0, o, by simp, by simp, fun _ => (show (0 : Nat) < 4294967296 by decide), fun h => absurd rfl h⟩, hb⟩
set_option maxHeartbeats 1600000 in
theorem hclone {B g : Nat} {bs : List UInt8} (w : World) (hs : Hs w B g bs) : Calls Tryd.prog 28 #[.pointer (some ⟨g, 0, none⟩)] w fun e w' => ∃ g', e = .returned (.pointer (some ⟨g', 0, none⟩)) ∧ Hs w' w.heap.size g' bs ∧ Below w.heap.size w w' := by
  obtain ⟨V, rb, o, hr⟩ := hs
  have hcl := Lib.hid (OwnF.cl (off := 0) (n := 73) o (by decide) (fun k hk => by rw [Nat.zero_add]))
  have HR := Lib.hid hr
  clear hr
  go_enter Tryd.func28, Tryd.ntmps28
  have on := OwnF.lit (w := w) (B := w.heap.size) 62 (Nat.le_refl _) Tryd.zeroCells62 73 (hcell (fun _ => 0) (List.replicate 64 0) 0) (by decide) (by kernel_rfl)
  have hb := Lib.hid (((Below.refl w.heap.size w).alloc (Nat.le_refl _) (.cells Tryd.zeroCells62 62)).trans ((av_only (w.alloc (.cells Tryd.zeroCells62 62)) w.heap.size 0 73 (hcell V rb bs.length)).below (Nat.le_refl _)))
  have o2 := Lib.hid (av_all on (hcell V rb bs.length))
  clear o
  go_wp2_with (first | ((with_reducible refine av_load hcl.out ty73 ?_ ?_); rfl) | ((with_reducible refine av_store (off := 0) on ty73 (by decide) (hcell V rb bs.length) (fun k _ => hcell_one _ _ _ k) ?_ ?_ ?_); rfl; rfl))
  go_ret
  exact ⟨w.heap.size, rfl, ⟨V, rb, o2.out, HR.out⟩, hb.out⟩
end
end Go.Proofs.YtbofehdihflkiaaDoor
