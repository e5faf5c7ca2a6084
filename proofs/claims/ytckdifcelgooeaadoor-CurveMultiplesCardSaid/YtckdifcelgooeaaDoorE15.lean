/-
  The document's Point of bytes (layer 8). By an AI agent.
-/
import Derived.Test.YtckdifcelgooeaaDoorE14
import Derived.Test.YtckdifcelgooeaaDoorTB
namespace Go.Proofs.YtckdifcelgooeaaDoor
open Go Go.RowKit
set_option maxRecDepth 20000
theorem ml_left {i : Nat} (hi : i < P25) (h : mlN 1 i = 1) : i = 1 := by
  unfold mlN at h
  rw [Nat.one_mul, Nat.mod_eq_of_lt hi] at h
  exact h
theorem iv_one : ivN 1 = 1 := ml_left (ivN_lt 1) nought_vals.2
theorem ml_right {x i : Nat} (hi : i = 1) (hx : x < P25) : mlN x i = x := by
  subst hi
  unfold mlN
  rw [Nat.mul_one, Nat.mod_eq_of_lt hx]
theorem ml_one {x : Nat} (h : x < P25) : mlN x (ivN 1) = x := ml_right iv_one h
/-- The point that 32 bytes tell, as one number; nought and nought beside an error. -/
def decX (n : Nat) : Nat := if decE n = 0 then wxN (n % 2 ^ 255) (n / 2 ^ 255) else 0
def decY (n : Nat) : Nat := if decE n = 0 then n % 2 ^ 255 else 0
theorem dec_good {n : Nat} (h : decE n = 0) (hn : n / 2 ^ 255 < 2) : decT n = ⟨decX n, decY n, 1⟩ ∧ decX n < P25 ∧ decY n < P25 ∧ onN (decX n) (decY n) = true ∧ decX n % 2 = n / 2 ^ 255 := by
  have hd := h
  unfold decX decY
  rw [if_pos h, if_pos h]
  unfold decE at hd
  by_cases h1 : n % 2 ^ 255 < P25
  · rw [if_pos h1] at hd
    by_cases h2 : wokN (n % 2 ^ 255) (n / 2 ^ 255) = true
    · obtain ⟨a, b, c⟩ := wok_on h1 hn h2
      refine ⟨?_, c, h1, a, b⟩
      unfold decT withN
      rw [if_pos h1, if_pos h2]
    · rw [if_neg h2] at hd
      exact absurd hd (by decide)
  · rw [if_neg h1] at hd
    exact absurd hd (by decide)
theorem built_T0 : Tryd.prog.built 26 [] = some #[.int .u64 (wd 0 0 : Int), .int .u64 (wd 0 1 : Int), .int .u64 (wd 0 2 : Int), .int .u64 (wd 0 3 : Int), .int .u64 (wd 0 0 : Int), .int .u64 (wd 0 1 : Int), .int .u64 (wd 0 2 : Int), .int .u64 (wd 0 3 : Int)] := by kernel_rfl
theorem T_zero {ops : Array Oper} {rest : List Oper} {a : Act} {w : World} {Q : Exit → Act → World → Prop} {dst : Option Nat} {tp : TypeId} {ps : String} {af : Array Edge} (h : wpList Tryd.prog ops Q rest (a.put dst (prv 0 0)) w) : wpList Tryd.prog ops Q (⟨dst, .build 26 #[], tp, ps, af, none⟩ :: rest) a w := by
  have hb := run_build (P := Tryd.prog) w 26 #[] _ built_T0
  refine wpList_plain rfl fun K hK => ?_
  unfold Oper.wp execOp
  simp only [List.map_toArray, List.map_nil, Sem.run_bind, hb, Result.andThen_ok, Sem.run_pure]
  exact hK _ _ h
section
attribute [local irreducible] wd by8 d16 set16w fl rl setA t3f set8p set4w ivN mlN decT decE decX decY
set_option maxHeartbeats 3200000 in
/-- Of a Decode that tells an error, or a point. -/
theorem refPoint_gen {A : Option Addr} {n c : Nat} {T : Tr} {er x y : Nat} (her : er < 8) (w : World) (hr : ∀ v, Below w.heap.size w v → Calls Tryd.prog 64 #[.slice A n c] v fun e w' => e = .returned (.tuple #[t3v T, .int .i64 (er : Int)]) ∧ Below v.heap.size v w')
    (h0 : er ≠ 0 → x = 0 ∧ y = 0) (h1 : er = 0 → T = ⟨x, y, 1⟩ ∧ x < P25 ∧ y < P25) :
    Calls Tryd.prog 33 #[.slice A n c] w fun e w' => e = .returned (.tuple #[prv x y, .int .i64 (er : Int)]) ∧ Below w.heap.size w w' := by
  have hc := (Below.refl w.heap.size w).alloc (Nat.le_refl _) Z8p
  have o2 := O8.newz (w := w) (B := w.heap.size) (Nat.le_refl _)
  have KD := Lib.hid (hr _ hc)
  obtain ⟨v1, e1⟩ : ∃ v, v = w.alloc Z8p := ⟨_, rfl⟩
  obtain ⟨g2, eg⟩ : ∃ g, g = w.heap.size := ⟨_, rfl⟩
  rw [← e1] at hc o2 KD
  replace o2 : O8 v1 w.heap.size g2 0 0 := by rw [eg]; exact o2
  have H0 := Lib.hid h0
  have H1 := Lib.hid h1
  clear hr h0 h1
  go_enter Tryd.func33, Tryd.ntmps33
  go_upto_region 1 with fail
  rw [← e1]
  rw [show Value.pointer (some ⟨w.heap.size, 0, none⟩) = .pointer (some ⟨g2, 0, none⟩) by rw [eg]]
  clear e1 eg
  go_wp2_with fail
  go_at_call 64
  refine KD.out.mono ?_
  rintro e v2 ⟨rfl, hb⟩
  replace o2 := o2.keep hb
  replace hc := hc.trans (hb.mono hc.size)
  clear hb KD
  have on0 := z48_new (w := v2) (B := v2.heap.size) (Nat.le_refl _)
  have o4 := t3_put on0 T
  have hbz := ((Below.refl _ v2).alloc (Nat.le_refl _) Z48).trans (t3_below on0 T)
  replace o2 := o2.keep hbz
  replace hc := hc.trans (hbz.mono hc.size)
  clear hbz
  go_upto_region 2 with ((with_reducible refine t3_store on0 T ?_ ?_ ?_); rfl; rfl)
  obtain ⟨v3, ev⟩ : ∃ v, v = setA (v2.alloc Z48) v2.heap.size 0 48 (t3f T) := ⟨_, rfl⟩
  obtain ⟨g4, eg⟩ : ∃ g, g = v2.heap.size := ⟨_, rfl⟩
  rw [← ev] at o2 o4 hc ⊢
  rw [← eg] at o4 ⊢
  clear ev eg on0
  by_cases hz : er = 0
  · obtain ⟨rfl, hx, hy⟩ := H1.out hz
    subst hz
    have kp := fun w => refPoint_any (t := ⟨x, y, 1⟩) ⟨hx, hy, P25_one⟩ w
    have k1 : mlN (⟨x, y, 1⟩ : Tr).x (ivN (⟨x, y, 1⟩ : Tr).z) = x := ml_one hx
    have k2 : mlN (⟨x, y, 1⟩ : Tr).y (ivN (⟨x, y, 1⟩ : Tr).z) = y := ml_one hy
    rw [k1, k2] at kp
    have KP := Lib.hid kp
    clear kp k1 k2 hx hy H0 H1 her
    go_wp2_with (first | ((with_reducible refine t3_load o4 ?_ ?_); rfl))
    go_at_call 19
    refine (KP.out _).mono ?_
    rintro e v4 ⟨rfl, hb⟩
    replace o2 := o2.keep hb
    replace hc := hc.trans (hb.mono hc.size)
    clear hb KP o4
    have hfb := Lib.hid (hc.trans (o2.below x y))
    have HR := Lib.hid (o2.put x y)
    go_wp2_with ((with_reducible refine p_store o2 x y ?_ ?_ ?_); rfl; rfl)
    exact bodyPost_ret (pres2 Tryd.results33 _ HR.out rfl rfl) rfl ⟨rfl, hfb.out⟩
  · obtain ⟨rfl, rfl⟩ := H0.out hz
    have g1 : ((er : Int) == 0) = false := beq_eq_false_iff_ne.2 (by omega)
    have g2' : ((er : Int) != 0) = true := by simp; omega
    have hfb := Lib.hid (hc.trans (o2.below 0 0))
    have HR := Lib.hid (o2.put 0 0)
    clear H0 H1 o4 hc
    go_wp2_with (first | (with_reducible refine T_zero ?_) | ((with_reducible refine p_store o2 0 0 ?_ ?_ ?_); rfl; rfl))
    exact bodyPost_ret (pres2 Tryd.results33 _ HR.out rfl rfl) rfl ⟨rfl, hfb.out⟩
theorem decE_lt (n : Nat) : decE n < 8 := by with_unfolding_all (unfold decE; split; split; decide; decide; decide)
theorem refPt_any {A : Option Addr} {c : Nat} {us : List UInt8} (u32 : us.length = 32) (w : World) (hr : Rd w w.heap.size A c us) :
    Calls Tryd.prog 33 #[.slice A 32 c] w fun e w' => e = .returned (.tuple #[prv (decX (vb us)) (decY (vb us)), .int .i64 (decE (vb us) : Int)]) ∧ Below w.heap.size w w' :=
  refPoint_gen (decE_lt _) w (fun _ hv => refDecode_any u32 _ ((hr.keep hv).mono hv.size)) (fun h => by with_unfolding_all (unfold decX decY; rw [if_neg h, if_neg h]; exact ⟨rfl, rfl⟩))
    (fun h => by obtain ⟨a, b, c, _⟩ := dec_good h (vb_top u32).2; exact ⟨a, b, c⟩)
theorem refPt_len {A : Option Addr} {n c : Nat} (hn : n ≠ 32) (w : World) : Calls Tryd.prog 33 #[.slice A n c] w fun e w' => e = .returned (.tuple #[prv 0 0, .int .i64 1]) ∧ Below w.heap.size w w' :=
  refPoint_gen (er := 1) (by decide) w (fun _ _ => refDecode_len hn _) (fun _ => ⟨rfl, rfl⟩) (fun h => absurd h (by decide))
end
end Go.Proofs.YtckdifcelgooeaaDoor
