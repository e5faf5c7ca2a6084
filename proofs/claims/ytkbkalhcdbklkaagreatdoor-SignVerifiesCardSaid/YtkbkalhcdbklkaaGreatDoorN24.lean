/-
  The code's mix, of both words (layer 6). Written by tools/gen_n24.py. By an AI agent.
-/
import Derived.Test.YtkbkalhcdbklkaaGreatDoorN23
namespace Go.Proofs.YtkbkalhcdbklkaaGreatDoor
open Go Go.RowKit
set_option maxRecDepth 20000
def bz32 (V N : Nat → Nat) (t j : Nat) : Value := if j < t then .int .u32 ((N j : Nat) : Int) else .int .u32 ((V j : Nat) : Int)
theorem bz32_ge {V N : Nat → Nat} {t j : Nat} (h : t ≤ j) : bz32 V N t j = .int .u32 ((V j : Nat) : Int) := by unfold bz32; rw [if_neg (by omega)]
theorem bz32_succ (V N : Nat → Nat) (t j : Nat) : (if j = t then Value.int .u32 ((N t : Nat) : Int) else bz32 V N t j) = bz32 V N (t + 1) j := by
 unfold bz32
 by_cases h : j = t
 ·subst h; rw [if_pos rfl, if_pos (by omega)]
 ·rw [if_neg h]
  by_cases h2 : j < t
  ·rw [if_pos h2, if_pos (by omega)]
  ·rw [if_neg h2, if_neg (by omega)]
section
attribute [local irreducible] rl setA wz32 wf be shiftedN turnedN rnds blN bz32 rnd
end
def bz64 (V N : Nat → Nat) (t j : Nat) : Value := if j < t then .int .u64 ((N j : Nat) : Int) else .int .u64 ((V j : Nat) : Int)
theorem bz64_zero (V N : Nat → Nat) : bz64 V N 0 = iv64 V := by funext j; simp [bz64, iv64]
theorem bz64_ge {V N : Nat → Nat} {t j : Nat} (h : t ≤ j) : bz64 V N t j = .int .u64 ((V j : Nat) : Int) := by unfold bz64; rw [if_neg (by omega)]
theorem bz64_all {V N : Nat → Nat} {j : Nat} (h : j < 8) : bz64 V N 8 j = iv64 N j := by unfold bz64; rw [if_pos h]; rfl
theorem bz64_succ (V N : Nat → Nat) (t j : Nat) : (if j = t then Value.int .u64 ((N t : Nat) : Int) else bz64 V N t j) = bz64 V N (t + 1) j := by
 unfold bz64
 by_cases h : j = t
 ·subst h; rw [if_pos rfl, if_pos (by omega)]
 ·rw [if_neg h]
  by_cases h2 : j < t
  ·rw [if_pos h2, if_pos (by omega)]
  ·rw [if_neg h2, if_neg (by omega)]
theorem notN_64 {e : Nat} (h : e < 18446744073709551616) : notN 64 e = 18446744073709551615 ^^^ e := by
 unfold notN
 rw [Nat.xor_mod_two_pow, Nat.mod_eq_of_lt (a := e) (b := 2 ^ 64) h]
theorem rnd_64 (sa sb sc sd se sf sg sh kt wt : Nat) (he : se < 18446744073709551616) : rnd greatS ⟨sa, sb, sc, sd, se, sf, sg, sh⟩ kt wt =
  ⟨(sh + turnedN 64 se (14, 18, 41) + ((se &&& sf) ^^^ ((18446744073709551615 ^^^ se) &&& sg)) + kt + wt + (turnedN 64 sa (28, 34, 39) + (((sa &&& sb) ^^^ (sa &&& sc)) ^^^ (sb &&& sc)))) % 18446744073709551616, sa, sb, sc, (sd + (sh + turnedN 64 se (14, 18, 41) + ((se &&& sf) ^^^ ((18446744073709551615 ^^^ se) &&& sg)) + kt + wt)) % 18446744073709551616, se, sf, sg⟩ := by
 rw [← notN_64 he]
 rfl
theorem infoW64 : (Tryz.prog.info? 33).map (fun i => (i.zero, i.size, i.bytes)) = some (some (.int .u64 0), 1, 8) := by kernel_rfl
theorem ix_run_64 (w : World) {f : Nat → Value} {i : Nat} (hi : i < 8) : (Instr.index 86 (av 8 f) (.int .i64 (i : Int))).run Tryz.prog w = .ok (f i) w := by
 have hs : (sizeOf 33).run Tryz.prog w = .ok 1 w := by
  obtain ⟨i0, hi0, hz0, hz1, hz2⟩ := info_parts infoW64
  simp [sizeOf, typeInfo, hi0, hz1]
 have hp := run_part_plain (P := Tryz.prog) w (e := 33) (by kernel_rfl) (xs := (rl 8 f).toArray) (off := i) (v := f i) (by simpa using rl_get hi)
 unfold Instr.index
 simp [Sem.run_bind, asIntOf, run_underlying Tryz.underlying86 w, hs, hp]
 intro h
 exact absurd h (by omega)
theorem av_index_64 {ops : Array Oper} {rest : List Oper} {a : Act} {w : World} {Q : Exit → Act → World → Prop} {f : Nat → Value} {i : Nat} {dst : Option Nat} {tp : TypeId} {ps : String} {af : Array Edge} {x y : Operand} (hi : i < 8) (hx : a.eval x = av 8 f) (hy : a.eval y = .int .i64 (i : Int)) (h : wpList Tryz.prog ops Q rest (a.put dst (f i)) w) :
  wpList Tryz.prog ops Q (⟨dst, .index 86 x y, tp, ps, af, none⟩ :: rest) a w :=
 wpList_plain rfl fun _ hK => by
  unfold Oper.wp execOp
  simp only [hx, hy, Sem.run_bind, ix_run_64 w hi, Result.andThen_ok, Sem.run_pure]
  exact hK _ _ h
section
attribute [local irreducible] rl setA wz64 wf be shiftedN turnedN rnds blN bz64 rnd
set_option maxHeartbeats 3200000 in
theorem mix_64 {V : Nat → Nat} {A0 : Option Addr} {B c0 : Nat} {bs : List UInt8} (hV : ∀ i, V i < 18446744073709551616) (hbs : bs.length = 128) (w : World) (hG : GlbS w) (hr : Rd w B A0 c0 bs) (hB : B ≤ w.heap.size) :
  Calls Tryz.prog 138 #[av 8 (iv64 V), .slice A0 128 c0] w fun e w' => e = .returned (av 8 (iv64 (blN greatS V (nth bs)))) ∧ Below w.heap.size w w' := by
 have hwl : ∀ t, wf greatS (nth bs) t < 18446744073709551616 := fun t => wf_lt (S := greatS) (by first | exact .inl rfl | exact .inr rfl) (nth_lt bs) t
 have KS := Lib.hid (fun w hr hB => schedule_64 (A0 := A0) (B := B) (c0 := c0) hbs w hr hB)
 have hbl : ∀ i, blN greatS V (nth bs) i = (V i + (rnds greatS (wf greatS (nth bs)) (S8.of V) 80).at i) % 18446744073709551616 := fun i => by unfold blN; rfl
 generalize wf greatS (nth bs) = X at *
 have hrs : ∀ t, rnds greatS X (S8.of V) (t + 1) = rnd greatS (rnds greatS X (S8.of V) t) (greatS.keys.getD t 0) (X t) := fun t => rnds_succ _ _ _ _
 have hr0 : rnds greatS X (S8.of V) 0 = S8.of V := rnds_zero _ _ _
 have hrk := fun t => rnds_ok (S := greatS) (s := S8.of V) ⟨hV 0, hV 1, hV 2, hV 3, hV 4, hV 5, hV 6, hV 7⟩ X t
 have hkk : ∀ t, greatS.keys.getD t 0 < 18446744073709551616 := greatOk.keys.2
 have HRS := Lib.hid hrs
 have HRK := Lib.hid hrk
 have HBL := Lib.hid hbl
 have HXL := Lib.hid hwl
 have HKK := Lib.hid hkk
 have HV := Lib.hid hV
 clear hwl hrs hrk hbl hkk hV hbs
 have oa := OwnF.lit (w := w) (B := w.heap.size) 86 (Nat.le_refl _) (rl 8 (iv64 V)).toArray 8 (iv64 V) (by decide) (by unfold rl; simp)
 have hc := (Below.refl w.heap.size w).alloc (Nat.le_refl _) (.cells (rl 8 (iv64 V)).toArray 86)
 replace hr := hr.keep ((Below.refl B w).alloc hB (.cells (rl 8 (iv64 V)).toArray 86))
 generalize he1 : (w.alloc (.cells (rl 8 (iv64 V)).toArray 86)) = v1 at oa hc hr
 have hs1 : v1.heap.size = w.heap.size + 1 := by rw [← he1]; simp
 have oz := OwnF.lit (w := v1) (B := w.heap.size) 86 hc.size #[Value.int .u64 0, Value.int .u64 0, Value.int .u64 0, Value.int .u64 0, Value.int .u64 0, Value.int .u64 0, Value.int .u64 0, Value.int .u64 0] 8 (fun _ => .int .u64 0) (by decide) (by kernel_rfl)
 have h2 := (Below.refl v1.heap.size v1).alloc (Nat.le_refl _) (.cells #[Value.int .u64 0, Value.int .u64 0, Value.int .u64 0, Value.int .u64 0, Value.int .u64 0, Value.int .u64 0, Value.int .u64 0, Value.int .u64 0] 86)
 replace hc := bnx hc h2
 replace oa := OwnF.keep oa h2
 replace hr := hr.keep (h2.mono (by omega))
 generalize he2 : (v1.alloc (.cells #[Value.int .u64 0, Value.int .u64 0, Value.int .u64 0, Value.int .u64 0, Value.int .u64 0, Value.int .u64 0, Value.int .u64 0, Value.int .u64 0] 86)) = v2 at oa oz hc hr h2
 clear h2
 obtain ⟨gA, hgA⟩ : ∃ g, g = w.heap.size := ⟨_, rfl⟩
 obtain ⟨gR, hgR⟩ : ∃ g, g = w.heap.size + 1 := ⟨_, rfl⟩
 replace oa : OwnF v2 w.heap.size 86 (some ⟨gA, 0, none⟩) 8 8 (iv64 V) := by rw [hgA]; exact oa
 rw [hs1, ← hgR] at oz
 have hne := Lib.hid (show gR ≠ gA by omega)
 have E1 := Lib.hid he1
 have E2 := Lib.hid he2
 have HGA := Lib.hid hgA
 have HGR := Lib.hid hgR
 clear he1 he2 hgA hgR hs1
 go_enter Tryz.func138, Tryz.ntmps138
 go_wp2_with fail
 rw [E1.out, E2.out]
 rw [show (Value.pointer (some ⟨w.heap.size, 0, none⟩)) = .pointer (some ⟨gA, 0, none⟩) by rw [HGA.out], show (Value.pointer (some ⟨w.heap.size + 1, 0, none⟩)) = .pointer (some ⟨gR, 0, none⟩) by rw [HGR.out]]
 clear E1 E2 HGA HGR
 go_at_call 146
 refine (KS.out _ hr (Nat.le_trans hB hc.size)).mono ?_
 rintro e v3 ⟨rfl, h0⟩
 clear KS hr
 replace oa := OwnF.keep oa h0
 replace oz := OwnF.keep oz h0
 replace hc := bnx hc h0
 clear h0
 have o5 := OwnF.lit (w := v3) (B := w.heap.size) 165 hc.size Tryz.zeroCells165 80 (fun _ => .int .u64 0) (by decide) (by kernel_rfl)
 have h2 := (Below.refl v3.heap.size v3).alloc (Nat.le_refl _) (.cells Tryz.zeroCells165 165)
 have h3 := (av_only (v3.alloc (.cells Tryz.zeroCells165 165)) v3.heap.size 0 80 (wz64 X 80)).below (Nat.le_refl _)
 have h4 := Lib.hid (h2.trans h3)
 have ow := Lib.hid (av_all o5 (wz64 X 80))
 clear h2 h3
 go_upto_region 2 with ((with_reducible refine av_store (off := 0) o5 ty80_64 (by decide) (wz64 X 80) (fun k _ => wz64_one _ _ k) ?_ ?_ ?_); rfl; rfl)
 obtain ⟨v4, e4⟩ : ∃ v, v = setA (v3.alloc (.cells Tryz.zeroCells165 165)) v3.heap.size 0 80 (wz64 X 80) := ⟨_, rfl⟩
 have h4' := h4.out
 have ow' := ow.out
 rw [← e4] at h4' ow' ⊢
 obtain ⟨g5, e5⟩ : ∃ g, g = v3.heap.size := ⟨_, rfl⟩
 replace ow' : OwnF v4 w.heap.size 165 (some ⟨g5, 0, none⟩) 80 80 (wz64 X 80) := by rw [e5]; exact ow'
 rw [show (Value.pointer (some ⟨v3.heap.size, 0, none⟩)) = .pointer (some ⟨g5, 0, none⟩) by rw [e5]]
 replace oa := OwnF.keep oa h4'
 replace oz := OwnF.keep oz h4'
 replace hc := bnx hc h4'
 have HG := Lib.hid (fun wz (hz : Below v4.heap.size v4 wz) => hG.next (bnx hc hz))
 have d0 : v4.cell? ⟨gA, 0, none⟩ = some (.int .u64 ((V 0 : Nat) : Int)) := OwnF.cell oa (k := 0) (by decide)
 have d1 : v4.cell? ⟨gA, 1, none⟩ = some (.int .u64 ((V 1 : Nat) : Int)) := OwnF.cell oa (k := 1) (by decide)
 have d2 : v4.cell? ⟨gA, 2, none⟩ = some (.int .u64 ((V 2 : Nat) : Int)) := OwnF.cell oa (k := 2) (by decide)
 have d3 : v4.cell? ⟨gA, 3, none⟩ = some (.int .u64 ((V 3 : Nat) : Int)) := OwnF.cell oa (k := 3) (by decide)
 have d4 : v4.cell? ⟨gA, 4, none⟩ = some (.int .u64 ((V 4 : Nat) : Int)) := OwnF.cell oa (k := 4) (by decide)
 have d5 : v4.cell? ⟨gA, 5, none⟩ = some (.int .u64 ((V 5 : Nat) : Int)) := OwnF.cell oa (k := 5) (by decide)
 have d6 : v4.cell? ⟨gA, 6, none⟩ = some (.int .u64 ((V 6 : Nat) : Int)) := OwnF.cell oa (k := 6) (by decide)
 have d7 : v4.cell? ⟨gA, 7, none⟩ = some (.int .u64 ((V 7 : Nat) : Int)) := OwnF.cell oa (k := 7) (by decide)
 have HX := Lib.hid (fun wz (hz : Below v4.heap.size v4 wz) t (ht : t < 80) => show wz.cell? ⟨g5, t, none⟩ = some (.int .u64 ((X t : Nat) : Int)) from (OwnF.cell (OwnF.keep ow' hz) (k := t) (by omega)).trans (by rw [wz64_lt ht]))
 clear h4 h4' ow ow' e4 e5 o5 hG
 refine wp_region_still_tail 23 (by kernel_rfl) (by kernel_rfl) ?_
 simp only [List.take_succ_cons, List.take_zero, List.drop_succ_cons, List.drop_zero]
 repeat still_step
 refine wpStill_nil ?_
 change wpList _ _ _ _ _ v4.drew
 clear d0 d1 d2 d3 d4 d5 d6 d7
 obtain ⟨v5, e2⟩ : ∃ v, v = v4.drew := ⟨_, rfl⟩
 have hS : Below v4.heap.size v4 v5 := by rw [e2]; exact (Below.refl _ _).drew
 rw [← e2]
 clear e2
 replace oa := OwnF.keep oa hS
 replace oz := OwnF.keep oz hS
 replace hc := bnx hc hS
 have HG5 := Lib.hid (fun w (hz : Below v5.heap.size v5 w) => HG.out w (bnx hS hz))
 have HX5 := Lib.hid (fun w (hz : Below v5.heap.size v5 w) => HX.out w (bnx hS hz))
 clear HG HX hS
 go_wp2_with fail
 go_at_call 147
 refine (rounds_64 _).mono ?_
 rintro e v7 ⟨rfl, e7⟩
 subst e7
 go_wp2_with fail
 go_loopw [6, 7, 8, 9, 10, 11, 12, 13, 38] (fun a b c d e f g h i wr => ∃ t : Nat, t ≤ 80 ∧ i = .int .i64 (t : Int) ∧ (∃ s, s = rnds greatS X (S8.of V) t ∧ a = .int .u64 ((s.a : Nat) : Int) ∧ b = .int .u64 ((s.b : Nat) : Int) ∧ c = .int .u64 ((s.c : Nat) : Int) ∧ d = .int .u64 ((s.d : Nat) : Int) ∧ e = .int .u64 ((s.e : Nat) : Int) ∧ f = .int .u64 ((s.f : Nat) : Int) ∧ g = .int .u64 ((s.g : Nat) : Int) ∧ h = .int .u64 ((s.h : Nat) : Int)) ∧ Below v7.heap.size v7 wr)
  (fun _ _ _ _ _ _ _ _ i _ => 80 - (intOf i).toNat)
 case atStart => exact ⟨0, by omega, rfl, ⟨S8.of V, hr0.symm, rfl, rfl, rfl, rfl, rfl, rfl, rfl, rfl⟩, Below.refl _ _⟩
 case round =>
  obtain ⟨t, ht, rfl, ⟨s, hs, rfl, rfl, rfl, rfl, rfl, rfl, rfl, rfl⟩, hb⟩ := hrel
  have hok := HRK.out t
  rw [← hs] at hok
  by_cases hlt : t < 80
  ·have g1 : (t : Int) < 80 := by omega
   have hnext := HRS.out t
   rw [← hs] at hnext
   clear hs
   have hkt := HKK.out t
   have hwt := HXL.out t
   have IT := Lib.hid (show (0 : Int) ≤ (t : Int) ∧ (t : Int) < 80 by omega)
   have HWC := Lib.hid (fun wz (hz : Below wr.heap.size wr wz) => HX5.out wz (bnx hb hz) t hlt)
   have KN := Lib.hid (fun wz (hz : Below wr.heap.size wr wz) => (number_64 hlt wz (HG5.out wz (bnx hb hz))).mono fun e w' (h : e = _ ∧ w' = wz) => And.intro h.1 (show Below wz.heap.size wz w' by rw [h.2]; exact Below.refl _ _))
   obtain ⟨sa, sb, sc, sd, se, sf, sg, sh⟩ := s
   obtain ⟨h1, h2, h3, h4, h5, h6, h7, h8⟩ : sa < 18446744073709551616 ∧ sb < 18446744073709551616 ∧ sc < 18446744073709551616 ∧ sd < 18446744073709551616 ∧ se < 18446744073709551616 ∧ sf < 18446744073709551616 ∧ sg < 18446744073709551616 ∧ sh < 18446744073709551616 := hok
   have KT1 := Lib.hid (fun w => upper1_64 h5 w)
   have KT2 := Lib.hid (fun w => upper0_64 h1 w)
   have q1 : turnedN 64 se (14, 18, 41) < 18446744073709551616 := turnedN_lt (b := 64) (by decide) h5 _
   have q2 : turnedN 64 sa (28, 34, 39) < 18446744073709551616 := turnedN_lt (b := 64) (by decide) h1 _
   rw [rnd_64 _ _ _ _ _ _ _ _ _ _ h5] at hnext
   have N1 := Lib.hid (bits_and_u64_nat se sf h5 h6)
   have lne : 18446744073709551615 ^^^ se < 18446744073709551616 := Nat.xor_lt_two_pow (n := 64) (by decide) h5
   have NE := Lib.hid (show bits .xor .u64 (if IntKind.u64.signed = true then -1 else IntKind.u64.max) (se : Int) = ((18446744073709551615 ^^^ se : Nat) : Int) from bits_xor_u64_nat 18446744073709551615 se (by decide) h5)
   have N2 := Lib.hid (bits_and_u64_nat (18446744073709551615 ^^^ se) sg lne h7)
   have ln1 : se &&& sf < 18446744073709551616 := Nat.lt_of_le_of_lt Nat.and_le_left h5
   have ln2 : (18446744073709551615 ^^^ se) &&& sg < 18446744073709551616 := Nat.lt_of_le_of_lt Nat.and_le_right h7
   have N3 := Lib.hid (bits_xor_u64_nat _ _ ln1 ln2)
   have ln3 : (se &&& sf) ^^^ ((18446744073709551615 ^^^ se) &&& sg) < 18446744073709551616 := Nat.xor_lt_two_pow (n := 64) ln1 ln2
   have M1 := bits_and_u64_nat sa sb h1 h2
   have M2 := bits_and_u64_nat sa sc h1 h3
   have M4 := bits_and_u64_nat sb sc h2 h3
   have lm1 : sa &&& sb < 18446744073709551616 := Nat.lt_of_le_of_lt Nat.and_le_left h1
   have lm2 : sa &&& sc < 18446744073709551616 := Nat.lt_of_le_of_lt Nat.and_le_left h1
   have lm4 : sb &&& sc < 18446744073709551616 := Nat.lt_of_le_of_lt Nat.and_le_left h2
   have M3 := bits_xor_u64_nat _ _ lm1 lm2
   have lm3 : (sa &&& sb) ^^^ (sa &&& sc) < 18446744073709551616 := Nat.xor_lt_two_pow (n := 64) lm1 lm2
   have M5 := bits_xor_u64_nat _ _ lm3 lm4
   have lm5 : ((sa &&& sb) ^^^ (sa &&& sc)) ^^^ (sb &&& sc) < 18446744073709551616 := Nat.xor_lt_two_pow (n := 64) lm3 lm4
   generalize (18446744073709551615 ^^^ se) = ne at *
   generalize (se &&& sf) = n1 at *
   generalize (ne &&& sg) = n2 at *
   generalize (n1 ^^^ n2) = n3 at *
   generalize ((sa &&& sb) ^^^ (sa &&& sc)) ^^^ (sb &&& sc) = m5 at *
   generalize (sa &&& sb) ^^^ (sa &&& sc) = m3 at *
   generalize (sa &&& sb) = m1 at *
   generalize (sa &&& sc) = m2 at *
   generalize (sb &&& sc) = m4 at *
   generalize turnedN 64 se (14, 18, 41) = s1 at *
   generalize turnedN 64 sa (28, 34, 39) = s2 at *
   generalize greatS.keys.getD t 0 = kt at *
   generalize X t = wt at *
   obtain ⟨p1, hp1⟩ : ∃ p, p = (sh + s1) % 18446744073709551616 := ⟨_, rfl⟩
   obtain ⟨p2, hp2⟩ : ∃ p, p = (p1 + n3) % 18446744073709551616 := ⟨_, rfl⟩
   obtain ⟨p3, hp3⟩ : ∃ p, p = (p2 + kt) % 18446744073709551616 := ⟨_, rfl⟩
   obtain ⟨t1, ht1⟩ : ∃ p, p = (p3 + wt) % 18446744073709551616 := ⟨_, rfl⟩
   obtain ⟨t2, ht2⟩ : ∃ p, p = (s2 + m5) % 18446744073709551616 := ⟨_, rfl⟩
   have A1 := Lib.hid (show IntKind.u64.wrap ((sh : Int) + (s1 : Int)) = (p1 : Int) by rw [IntKind.wrap_u64]; omega)
   have A2 := Lib.hid (show IntKind.u64.wrap ((p1 : Int) + (n3 : Int)) = (p2 : Int) by rw [IntKind.wrap_u64]; omega)
   have A3 := Lib.hid (show IntKind.u64.wrap ((p2 : Int) + (kt : Int)) = (p3 : Int) by rw [IntKind.wrap_u64]; omega)
   have A4 := Lib.hid (show IntKind.u64.wrap ((p3 : Int) + (wt : Int)) = (t1 : Int) by rw [IntKind.wrap_u64]; omega)
   obtain ⟨q4, hq4⟩ : ∃ p, p = (sd + t1) % 18446744073709551616 := ⟨_, rfl⟩
   obtain ⟨q5, hq5⟩ : ∃ p, p = (t1 + t2) % 18446744073709551616 := ⟨_, rfl⟩
   have B1 : IntKind.u64.wrap ((s2 : Int) + (m5 : Int)) = (t2 : Int) := by rw [IntKind.wrap_u64]; omega
   have B2 : IntKind.u64.wrap ((sd : Int) + (t1 : Int)) = (q4 : Int) := by rw [IntKind.wrap_u64]; omega
   have B3 : IntKind.u64.wrap ((t1 : Int) + (t2 : Int)) = (q5 : Int) := by rw [IntKind.wrap_u64]; omega
   have e4 : (sd + (sh + s1 + n3 + kt + wt)) % 18446744073709551616 = q4 := by omega
   have e5 : (sh + s1 + n3 + kt + wt + (s2 + m5)) % 18446744073709551616 = q5 := by omega
   rw [e4, e5] at hnext
   have HN := Lib.hid hnext
   clear hnext e4 e5 hp1 hp2 hp3 ht1 ht2 hq4 hq5 h1 h2 h3 h4 h5 h6 h7 h8 q1 q2 lne ln1 ln2 ln3 lm1 lm2 lm3 lm4 lm5 hkt hwt
   go_upto_region 6 with fail
   refine wp_region_inv 20 [41, 42, 43, 44, 45, 46, 47, 48, 49, 50, 51, 52, 53, 54, 55, 56, 57, 58, 59, 60] [.val (.int .u64 (sh : Int)), .val (.int .u64 (se : Int)), .val (.int .u64 (s1 : Int)), .val (.int .u64 (p1 : Int)), .val (.int .u64 (se : Int)), .val (.int .u64 (sf : Int)), .val (.int .u64 (n1 : Int)), .val (.int .u64 (se : Int)), .val (.int .u64 (ne : Int)), .val (.int .u64 (sg : Int)), .val (.int .u64 (n2 : Int)), .val (.int .u64 (n3 : Int)), .val (.int .u64 (p2 : Int)), .val (.int .i64 (t : Int)), .val (.int .u64 (kt : Int)), .val (.int .u64 (p3 : Int)), .val (.int .i64 (t : Int)), .val (.pointer (some ⟨g5, t, none⟩)), .val (.int .u64 (wt : Int)), .val (.int .u64 (t1 : Int))] (fun wz => Below wr.heap.size wr wz) (by kernel_rfl) (by kernel_rfl) (fun wz wz' hz hb => bnx hz hb) ((Below.refl _ _).drew) (fun u => by simp only [puts, List.foldl_cons, List.foldl_nil]; go_simp; exact rfl) ?_ ?_
   ·simp only [List.take_succ_cons, List.take_zero]
    refine .cons (fun u w hS hd => ?_) ?_
    ·exact Gv.run (.int .u64 (sh : Int)) rfl (by go_simp) rfl
    refine .cons (fun u w hS hd => ?_) ?_
    ·exact Gv.run (.int .u64 (se : Int)) rfl (by go_simp) rfl
    refine .cons (fun u w hS hd => ?_) ?_
    ·have d42 : u 42 = .int .u64 (se : Int) := dep hd 1 rfl
     rw [d42]
     refine Gv.call 148 #[.int .u64 (se : Int)] rfl (by go_simp) ((KT1.out w).mono ?_)
     rintro e w' ⟨rfl, hb⟩
     exact ⟨_, rfl, rfl, hb⟩
    refine .cons (fun u w hS hd => ?_) ?_
    ·have d41 : u 41 = .int .u64 (sh : Int) := dep hd 0 rfl
     have d43 : u 43 = .int .u64 (s1 : Int) := dep hd 2 rfl
     rw [d41, d43]
     have hq := A1.out
     exact Gv.run (.int .u64 (p1 : Int)) rfl (by go_simp) rfl
    refine .cons (fun u w hS hd => ?_) ?_
    ·exact Gv.run (.int .u64 (se : Int)) rfl (by go_simp) rfl
    refine .cons (fun u w hS hd => ?_) ?_
    ·exact Gv.run (.int .u64 (sf : Int)) rfl (by go_simp) rfl
    refine .cons (fun u w hS hd => ?_) ?_
    ·have d45 : u 45 = .int .u64 (se : Int) := dep hd 4 rfl
     have d46 : u 46 = .int .u64 (sf : Int) := dep hd 5 rfl
     rw [d45, d46]
     have hq := N1.out
     exact Gv.run (.int .u64 (n1 : Int)) rfl (by go_simp) rfl
    refine .cons (fun u w hS hd => ?_) ?_
    ·exact Gv.run (.int .u64 (se : Int)) rfl (by go_simp) rfl
    refine .cons (fun u w hS hd => ?_) ?_
    ·have d48 : u 48 = .int .u64 (se : Int) := dep hd 7 rfl
     rw [d48]
     have hq := NE.out
     exact Gv.run (.int .u64 (ne : Int)) rfl (by go_simp) rfl
    refine .cons (fun u w hS hd => ?_) ?_
    ·exact Gv.run (.int .u64 (sg : Int)) rfl (by go_simp) rfl
    refine .cons (fun u w hS hd => ?_) ?_
    ·have d49 : u 49 = .int .u64 (ne : Int) := dep hd 8 rfl
     have d50 : u 50 = .int .u64 (sg : Int) := dep hd 9 rfl
     rw [d49, d50]
     have hq := N2.out
     exact Gv.run (.int .u64 (n2 : Int)) rfl (by go_simp) rfl
    refine .cons (fun u w hS hd => ?_) ?_
    ·have d47 : u 47 = .int .u64 (n1 : Int) := dep hd 6 rfl
     have d51 : u 51 = .int .u64 (n2 : Int) := dep hd 10 rfl
     rw [d47, d51]
     have hq := N3.out
     exact Gv.run (.int .u64 (n3 : Int)) rfl (by go_simp) rfl
    refine .cons (fun u w hS hd => ?_) ?_
    ·have d44 : u 44 = .int .u64 (p1 : Int) := dep hd 3 rfl
     have d52 : u 52 = .int .u64 (n3 : Int) := dep hd 11 rfl
     rw [d44, d52]
     have hq := A2.out
     exact Gv.run (.int .u64 (p2 : Int)) rfl (by go_simp) rfl
    refine .cons (fun u w hS hd => ?_) ?_
    ·exact Gv.run (.int .i64 (t : Int)) rfl (by go_simp) rfl
    refine .cons (fun u w hS hd => ?_) ?_
    ·have d54 : u 54 = .int .i64 (t : Int) := dep hd 13 rfl
     rw [d54]
     refine Gv.call 149 #[.int .i64 (t : Int)] rfl (by go_simp) ((KN.out w hS).mono ?_)
     rintro e w' ⟨rfl, hb⟩
     exact ⟨_, rfl, rfl, hb⟩
    refine .cons (fun u w hS hd => ?_) ?_
    ·have d53 : u 53 = .int .u64 (p2 : Int) := dep hd 12 rfl
     have d55 : u 55 = .int .u64 (kt : Int) := dep hd 14 rfl
     rw [d53, d55]
     have hq := A3.out
     exact Gv.run (.int .u64 (p3 : Int)) rfl (by go_simp) rfl
    refine .cons (fun u w hS hd => ?_) ?_
    ·exact Gv.run (.int .i64 (t : Int)) rfl (by go_simp) rfl
    refine .cons (fun u w hS hd => ?_) ?_
    ·have d57 : u 57 = .int .i64 (t : Int) := dep hd 16 rfl
     rw [d57]
     exact Gv.run (.pointer (some ⟨g5, t, none⟩)) rfl (by obtain ⟨h1, h2⟩ := IT.out; go_simp) rfl
    refine .cons (fun u w hS hd => ?_) ?_
    ·have d58 : u 58 = .pointer (some ⟨g5, t, none⟩) := dep hd 17 rfl
     rw [d58]
     exact Gv.run (.int .u64 (wt : Int)) rfl (by have h1 := HWC.out w hS; go_simp) rfl
    refine .cons (fun u w hS hd => ?_) ?_
    ·have d56 : u 56 = .int .u64 (p3 : Int) := dep hd 15 rfl
     have d59 : u 59 = .int .u64 (wt : Int) := dep hd 18 rfl
     rw [d56, d59]
     have hq := A4.out
     exact Gv.run (.int .u64 (t1 : Int)) rfl (by go_simp) rfl
    exact Obs.nil
   intro u wz hS hd
   have d60 : u 60 = .int .u64 (t1 : Int) := hd 19 (by decide)
   rw [d60]
   clear hd d60 KT1 KN A1 A2 A3 A4 N1 NE N2 N3 HWC IT
   have hbz := bnx hb hS
   clear hb hS
   simp only [List.drop_succ_cons, List.drop_zero]
   go_wp2_with fail
   go_at_call 150
   refine (KT2.out _).mono ?_
   rintro en w7 ⟨rfl, h0⟩
   replace hbz := bnx hbz h0
   clear h0 KT2
   go_wp2_with fail
   exact ⟨⟨t + 1, by omega, by go_num, ⟨_, HN.out.symm, rfl, rfl, rfl, rfl, rfl, rfl, rfl, rfl⟩, hbz⟩, by simp [intOf]; omega⟩
  ·obtain rfl : t = 80 := by omega
   have hbl : ∀ i, blN greatS V (nth bs) i = (V i + s.at i) % 18446744073709551616 := fun i => by rw [hs]; exact HBL.out i
   have hat : ∀ i, s.at i < 18446744073709551616 := fun i => S8.at_lt hok i
   have hbuild : #[Value.int .u64 ((s.a : Nat) : Int), .int .u64 ((s.b : Nat) : Int), .int .u64 ((s.c : Nat) : Int), .int .u64 ((s.d : Nat) : Int), .int .u64 ((s.e : Nat) : Int), .int .u64 ((s.f : Nat) : Int), .int .u64 ((s.g : Nat) : Int), .int .u64 ((s.h : Nat) : Int)] = (rl 8 (fun i => .int .u64 ((s.at i : Nat) : Int))).toArray := by unfold rl; rfl
   have HBU := Lib.hid hbuild
   have HBL2 := Lib.hid hbl
   have HAT := Lib.hid hat
   clear hbl hat HBL hs hok hbuild HRS HRK HX5 HG5
   replace oa := OwnF.keep oa hb
   replace oz := OwnF.keep oz hb
   replace hc := bnx hc hb
   simp only [Int.cast_ofNat_Int]
   go_wp2_with fail
   rw [HBU.out]
   clear HBU
   go_loopw [97] (fun i wz => ∃ n : Nat, n ≤ 8 ∧ i = .int .i64 (n : Int) ∧ OwnF wz w.heap.size 86 (some ⟨gA, 0, none⟩) 8 8 (bz64 V (blN greatS V (nth bs)) n) ∧ OwnF wz w.heap.size 86 (some ⟨gR, 0, none⟩) 8 8 (fun _ => .int .u64 0) ∧ Below w.heap.size w wz)
    (fun i _ => 8 - (intOf i).toNat)
   case atStart => exact ⟨0, by omega, rfl, by rw [bz64_zero]; exact oa, oz, hc⟩
   case round =>
    clear oa oz hc hb
    obtain ⟨n, hn, rfl, oa, oz, hc⟩ := hrel
    by_cases hlt : n < 8
    ·have g1 : (n : Int) < 8 := by omega
     have hvi := HV.out n
     have hsi := HAT.out n
     have hri := HBL2.out n
     have cc := oa.cell (k := n) (by omega)
     rw [bz64_ge (Nat.le_refl _)] at cc
     have ff := oa.free n
     have hset := Lib.hid (OwnF.congr (OwnF.set_ oa n (.int .u64 ((blN greatS V (nth bs) n : Nat) : Int))) fun j _ => bz64_succ V (blN greatS V (nth bs)) n j)
     have hoz := Lib.hid (OwnF.other oz (p := ⟨gA, n, none⟩) (Ne.symm hne.out) (.int .u64 ((blN greatS V (nth bs) n : Nat) : Int)))
     have hbe := Lib.hid (hc.trans ((Only.setCell wr ⟨gA, n, none⟩ (.int .u64 ((blN greatS V (nth bs) n : Nat) : Int))).below (OwnF.ge oa)))
     generalize blN greatS V (nth bs) n = ri at *
     have A5 : IntKind.u64.wrap ((V n : Int) + ((s.at n : Nat) : Int)) = (ri : Int) := by rw [IntKind.wrap_u64]; omega
     clear hvi hsi hri oa oz hc
     go_wp2_with ((with_reducible refine av_index_64 (f := fun i => .int .u64 ((s.at i : Nat) : Int)) hlt ?_ ?_ ?_); rfl; rfl)
     exact ⟨⟨n + 1, by omega, by go_num, hset.out, hoz.out, hbe.out⟩, by simp [intOf]; omega⟩
    ·obtain rfl : n = 8 := by omega
     have hcl := Lib.hid (OwnF.cl (off := 0) (n := 8) (f' := iv64 (blN greatS V (nth bs))) oa (by decide) (fun k hk => by rw [Nat.zero_add]; exact bz64_all hk))
     have hcz := Lib.hid (OwnF.cl (off := 0) (n := 8) (av_all oz (iv64 (blN greatS V (nth bs)))) (by decide) (fun k hk => by rw [Nat.zero_add]))
     have hbz := hc.trans ((av_only wr gR 0 8 (iv64 (blN greatS V (nth bs)))).below (OwnF.ge oz))
     simp only [Int.cast_ofNat_Int]
     go_wp2_with (first | ((with_reducible refine av_load hcl.out ty8_64 ?_ ?_); rfl) | ((with_reducible refine av_store (off := 0) oz ty8_64 (by decide) (iv64 (blN greatS V (nth bs))) (fun k _ => rfl) ?_ ?_ ?_); rfl; rfl))
     exact bodyPost_ret (av_res Tryz.results138 _ hcz.out ty8_64 rfl) rfl ⟨rfl, hbz⟩
end
end Go.Proofs.YtkbkalhcdbklkaaGreatDoor
