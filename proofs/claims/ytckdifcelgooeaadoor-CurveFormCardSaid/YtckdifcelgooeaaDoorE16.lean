/-
  Layer 8's awake over contracts. By an AI agent.
-/
import Derived.Test.YtckdifcelgooeaaDoorTB
import Derived.Test.YtckdifcelgooeaaDoorTB
namespace Go.Proofs.YtckdifcelgooeaaDoor
open Go Go.RowKit
set_option maxRecDepth 20000
theorem lit_one : Value.agg #[.int .u64 1, .int .u64 0, .int .u64 0, .int .u64 0] = nv 1 := by kernel_rfl
theorem built_T1 (z : Nat) : Tryd.prog.built 26 [(1, nv z)] = some #[.int .u64 (wd 0 0 : Int), .int .u64 (wd 0 1 : Int), .int .u64 (wd 0 2 : Int), .int .u64 (wd 0 3 : Int), .int .u64 (wd z 0 : Int), .int .u64 (wd z 1 : Int), .int .u64 (wd z 2 : Int), .int .u64 (wd z 3 : Int)] := by kernel_rfl
theorem T_one {ops : Array Oper} {rest : List Oper} {a : Act} {w : World} {Q : Exit → Act → World → Prop} {dst : Option Nat} {tp : TypeId} {ps : String} {af : Array Edge} {s : Operand} {z : Nat} (hz : a.eval s = nv z) (h : wpList Tryd.prog ops Q rest (a.put dst (prv 0 z)) w) : wpList Tryd.prog ops Q (⟨dst, .build 26 #[(1, s)], tp, ps, af, none⟩ :: rest) a w := by
  have hb := run_build (P := Tryd.prog) w 26 #[(1, nv z)] _ (built_T1 z)
  refine wpList_plain rfl fun K hK => ?_
  unfold Oper.wp execOp
  simp only [List.map_toArray, List.map_cons, List.map_nil, hz, Sem.run_bind, hb, Result.andThen_ok, Sem.run_pure]
  exact hK _ _ h
theorem built_T00 : Tryd.prog.built 26 [] = some #[.int .u64 (wd 0 0 : Int), .int .u64 (wd 0 1 : Int), .int .u64 (wd 0 2 : Int), .int .u64 (wd 0 3 : Int), .int .u64 (wd 0 0 : Int), .int .u64 (wd 0 1 : Int), .int .u64 (wd 0 2 : Int), .int .u64 (wd 0 3 : Int)] := by kernel_rfl
theorem run_T0 {o : Oper} {a : Act} (ho : o.op = .build 26 #[]) (w : World) : (execOp a.eval o).run Tryd.prog w = .ok (.value (prv 0 0)) w := by
  have hb := run_build (P := Tryd.prog) w 26 #[] _ built_T00
  unfold execOp
  simp only [ho, List.map_toArray, List.map_nil, Sem.run_bind, hb, Result.andThen_ok, Sem.run_pure]
section
attribute [local irreducible] wd by8 d16 set16w fl rl setA t3f set8p set4w
set_option maxHeartbeats 3200000 in
theorem nought8 (w : World) : Calls Tryd.prog 26 #[] w fun e w' => e = .returned (prv 0 1) ∧ Below w.heap.size w w' := by
  have hc := (Below.refl w.heap.size w).alloc (Nat.le_refl _) Z8p
  have o1 := O8.newz (w := w) (B := w.heap.size) (Nat.le_refl _)
  obtain ⟨v1, e1⟩ : ∃ v, v = w.alloc Z8p := ⟨_, rfl⟩
  obtain ⟨g1, eg⟩ : ∃ g, g = w.heap.size := ⟨_, rfl⟩
  rw [← e1] at hc o1
  replace o1 : O8 v1 w.heap.size g1 0 0 := by rw [eg]; exact o1
  have hfb := Lib.hid (hc.trans (o1.below 0 1))
  have HR := Lib.hid (o1.put 0 1)
  go_enter Tryd.func26, Tryd.ntmps26
  go_upto_region 1 with fail
  rw [← e1]
  rw [show Value.pointer (some ⟨w.heap.size, 0, none⟩) = .pointer (some ⟨g1, 0, none⟩) by rw [eg]]
  clear e1 eg hc
  go_wp2_with (first | ((with_reducible refine T_one (z := 1) ?_ ?_); exact lit_one) | ((with_reducible refine p_store o1 0 1 ?_ ?_ ?_); rfl; rfl))
  exact bodyPost_ret (pres Tryd.results26 _ HR.out rfl) rfl ⟨rfl, hfb.out⟩
set_option maxHeartbeats 3200000 in
theorem awake8_gen {G : World → Prop} (hGn : ∀ w w', G w → Below w.heap.size w w' → G w') {X Y : Nat} {bs : List UInt8} (hl : bs.length = 32) (s0 : nth bs 0 = 88) (s1 : nth bs 31 = 102)
    (kb : ∀ w, G w → Calls Tryd.prog 17 #[] w fun e w' => e = .returned (prv X Y) ∧ Below w.heap.size w w')
    (ke : ∀ w, G w → Calls Tryd.prog 34 #[prv X Y] w fun e w' => ∃ A c, e = .returned (.tuple #[.slice A 32 c, .int .i64 0]) ∧ Rd w' w'.heap.size A c bs ∧ Below w.heap.size w w')
    (ko : ∀ w, G w → Calls Tryd.prog 12 #[prv 0 1] w fun e w' => e = .returned (.bool true) ∧ Below w.heap.size w w')
    (ks : ∀ w, G w → Calls Tryd.prog 21 #[prv 0 1] w fun e w' => e = .returned (.bool true) ∧ Below w.heap.size w w')
    (w : World) (hG : G w) : Calls Tryd.prog 20 #[] w fun e w' => e = .returned (.bool true) ∧ Below w.heap.size w w' := by
  have GN := Lib.hid hGn
  have KB := Lib.hid kb
  have KE := Lib.hid ke
  have KO := Lib.hid ko
  have KS := Lib.hid ks
  have HG := Lib.hid hG
  clear hGn kb ke ko ks hG
  go_enter Tryd.func20, Tryd.ntmps20
  go_wp2_with fail
  go_at_call 17
  refine (KB.out _ HG.out).mono ?_
  rintro e v1 ⟨rfl, hc⟩
  replace HG := Lib.hid (GN.out _ _ HG.out hc)
  clear KB
  go_wp2_with fail
  go_at_call 34
  refine (KE.out _ HG.out).mono ?_
  rintro e v2 ⟨A1, c1, rfl, r1, h0⟩
  replace hc := hc.trans (h0.mono hc.size)
  replace HG := Lib.hid (GN.out _ _ HG.out h0)
  clear KE h0
  obtain ⟨b1, o1, rfl, _, x0⟩ := r1.at_ (k := 0) (by omega)
  obtain ⟨b2, o2, e2, _, x1⟩ := r1.at_ (k := 31) (by omega)
  simp only [Option.some.injEq, Addr.mk.injEq] at e2
  obtain ⟨rfl, rfl, _⟩ := e2
  rw [s0, Nat.add_zero] at x0
  rw [s1] at x1
  clear s0 s1 hl r1
  go_wp2_with fail
  go_at_call 26
  refine (nought8 _).mono ?_
  rintro e v3 ⟨rfl, h0⟩
  replace hc := hc.trans (h0.mono hc.size)
  replace HG := Lib.hid (GN.out _ _ HG.out h0)
  clear h0 x0 x1
  go_wp2_with fail
  go_at_call 12
  refine (KO.out _ HG.out).mono ?_
  rintro e v4 ⟨rfl, h0⟩
  replace hc := hc.trans (h0.mono hc.size)
  replace HG := Lib.hid (GN.out _ _ HG.out h0)
  clear h0 KO
  go_wp2_with fail
  go_at_call 26
  refine (nought8 _).mono ?_
  rintro e v5 ⟨rfl, h0⟩
  replace hc := hc.trans (h0.mono hc.size)
  replace HG := Lib.hid (GN.out _ _ HG.out h0)
  clear h0
  go_wp2_with fail
  go_at_call 21
  refine (KS.out _ HG.out).mono ?_
  rintro e v6 ⟨rfl, h0⟩
  replace hc := hc.trans (h0.mono hc.size)
  clear h0 KS HG
  go_wp2_with fail
  go_ret
  exact ⟨rfl, hc⟩
end
theorem base_enc : nth (encN bx by_) 0 = 88 ∧ nth (encN bx by_) 31 = 102 := by decide +kernel
theorem ok_nought : okN 0 1 = true := by decide +kernel
theorem ok_base : okN bx by_ = true := by decide +kernel
theorem awake8 {G : World → Prop} (hGn : ∀ w w', G w → Below w.heap.size w w' → G w')
    (kb : ∀ w, G w → Calls Tryd.prog 17 #[] w fun e w' => e = .returned (prv bx by_) ∧ Below w.heap.size w w')
    (ke : ∀ w, G w → Calls Tryd.prog 34 #[prv bx by_] w fun e w' => ∃ A c, e = .returned (.tuple #[.slice A 32 c, .int .i64 0]) ∧ Rd w' w'.heap.size A c (encN bx by_) ∧ Below w.heap.size w w')
    (ko : ∀ w, G w → Calls Tryd.prog 12 #[prv 0 1] w fun e w' => e = .returned (.bool true) ∧ Below w.heap.size w w')
    (ks : ∀ w, G w → Calls Tryd.prog 21 #[prv 0 1] w fun e w' => e = .returned (.bool true) ∧ Below w.heap.size w w')
    (w : World) (hG : G w) : Calls Tryd.prog 20 #[] w fun e w' => e = .returned (.bool true) ∧ Below w.heap.size w w' :=
  awake8_gen hGn (encN_len _ _) base_enc.1 base_enc.2 kb ke ko ks w hG
end Go.Proofs.YtckdifcelgooeaaDoor
