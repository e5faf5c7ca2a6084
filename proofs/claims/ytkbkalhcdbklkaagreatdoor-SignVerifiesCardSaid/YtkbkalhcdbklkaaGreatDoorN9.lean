/-
  The document's block (layer 6), over letters. Written by tools/gen_n9.py. By an AI agent.
-/
import Derived.Test.YtkbkalhcdbklkaaGreatDoorN8
namespace Go.Proofs.YtkbkalhcdbklkaaGreatDoor
open Go Go.RowKit
structure S8 where
 a : Nat
 b : Nat
 c : Nat
 d : Nat
 e : Nat
 f : Nat
 g : Nat
 h : Nat
def S8.ok (n : Nat) (s : S8) : Prop := s.a < 2 ^ n ∧ s.b < 2 ^ n ∧ s.c < 2 ^ n ∧ s.d < 2 ^ n ∧ s.e < 2 ^ n ∧ s.f < 2 ^ n ∧ s.g < 2 ^ n ∧ s.h < 2 ^ n
def notN (b e : Nat) : Nat := (18446744073709551615 ^^^ e) % 2 ^ b
def chN (b e f g : Nat) : Nat := (e &&& f) ^^^ (notN b e &&& g)
def majN (a b c : Nat) : Nat := ((a &&& b) ^^^ (a &&& c)) ^^^ (b &&& c)
def T1 (S : Ks) (s : S8) (k w : Nat) : Nat := s.h + turnedN S.bits s.e S.d + chN S.bits s.e s.f s.g + k + w
def T2 (S : Ks) (s : S8) : Nat := turnedN S.bits s.a S.u + majN s.a s.b s.c
def rnd (S : Ks) (s : S8) (k w : Nat) : S8 := ⟨(T1 S s k w + T2 S s) % 2 ^ S.bits, s.a, s.b, s.c, (s.d + T1 S s k w) % 2 ^ S.bits, s.e, s.f, s.g⟩
def rnds (S : Ks) (wf : Nat → Nat) (s : S8) : Nat → S8
 | 0 => s
 | t + 1 => rnd S (rnds S wf s t) (S.keys.getD t 0) (wf t)
theorem rnds_zero (S : Ks) (wf : Nat → Nat) (s : S8) : rnds S wf s 0 = s := rfl
theorem rnds_succ (S : Ks) (wf : Nat → Nat) (s : S8) (t : Nat) : rnds S wf s (t + 1) = rnd S (rnds S wf s t) (S.keys.getD t 0) (wf t) := rfl
theorem rnd_ok {S : Ks} {s : S8} (h : s.ok S.bits) (k w : Nat) : (rnd S s k w).ok S.bits := by
 obtain ⟨h1, h2, h3, h4, h5, h6, h7, h8⟩ := h
 exact ⟨Nat.mod_lt _ (Nat.pow_pos (by decide)), h1, h2, h3, Nat.mod_lt _ (Nat.pow_pos (by decide)), h5, h6, h7⟩
theorem rnds_ok {S : Ks} {s : S8} (h : s.ok S.bits) (wf : Nat → Nat) : ∀ t, (rnds S wf s t).ok S.bits
 | 0 => h
 | t + 1 => rnd_ok (rnds_ok h wf t) _ _
def S8.of (V : Nat → Nat) : S8 := ⟨V 0, V 1, V 2, V 3, V 4, V 5, V 6, V 7⟩
def S8.at (s : S8) (i : Nat) : Nat := [s.a, s.b, s.c, s.d, s.e, s.f, s.g, s.h].getD i 0
theorem S8.at_lt {n : Nat} {s : S8} (h : s.ok n) (i : Nat) : s.at i < 2 ^ n := by
 obtain ⟨h1, h2, h3, h4, h5, h6, h7, h8⟩ := h
 unfold S8.at
 match i with
 | 0 => exact h1
 | 1 => exact h2
 | 2 => exact h3
 | 3 => exact h4
 | 4 => exact h5
 | 5 => exact h6
 | 6 => exact h7
 | 7 => exact h8
 | i + 8 => exact Nat.pow_pos (by decide)
def blN (S : Ks) (V : Nat → Nat) (y : Nat → Nat) (i : Nat) : Nat := (V i + (rnds S (wf S y) (S8.of V) S.rounds).at i) % 2 ^ S.bits
def vv (V : Nat → Nat) (k : Nat) : Value := .int .u64 ((V k : Nat) : Int)
theorem lt64 {n x : Nat} (hn : n = 32 ∨ n = 64) (h : x < 2 ^ n) : x < 18446744073709551616 := Nat.lt_of_lt_of_le h (pow64 hn)
theorem OK.ks {w : World} {B g : Nat} {K : Kd} (h : OK w B g K) : w.cell? ⟨g, 14, none⟩ = some (.slice K.ka K.keys.length K.kc) := h.cell_ (k := 14) (by decide)
theorem OK.fs {w : World} {B g : Nat} {K : Kd} (h : OK w B g K) : w.cell? ⟨g, 15, none⟩ = some (.slice K.fa K.first.length K.fc) := h.cell_ (k := 15) (by decide)
attribute [local irreducible] Kd.cells kf wf be shiftedN turnedN rnds blN
set_option maxRecDepth 20000
set_option maxHeartbeats 3200000 in
theorem block_any {K : Kd} (hK : Kok K.toKs) {Av A0 : Option Addr} {B cv c0 : Nat} {V : Nat → Nat} {bs : List UInt8} (hbs : bs.length = 16 * (K.bits / 8)) (hV : ∀ i, V i < 2 ^ K.bits) (w : World) (hk : RdF w B K.ka K.kc K.rounds (uv K.keys)) (hv : RdF w B Av cv 8 (vv V)) (hr : Rd w B A0 c0 bs) (hB : B ≤ w.heap.size) :
  Calls Tryz.prog 125 #[kv K, .slice Av 8 cv, .slice A0 bs.length c0] w fun en w' => ∃ A c, en = .returned (.slice A 8 c) ∧ OwnF w' w.heap.size 33 A c 8 (vv (blN K.toKs V (nth bs))) ∧ Below w.heap.size w w' := by
 obtain ⟨i0, hi, hz0, hz1, hz2⟩ := info_parts infoU64
 have KW := Lib.hid (fun w hr hB => kwords_any hK (A0 := A0) (B := B) (c0 := c0) hbs w hr hB)
 clear hbs
 obtain ⟨hr1, hr2⟩ := hK.rounds
 have hwl := fun t => wf_lt (S := K.toKs) hK.bits (nth_lt bs) t
 obtain ⟨W, hW⟩ : ∃ W, W = wf K.toKs (nth bs) := ⟨_, rfl⟩
 have hblN : ∀ i, blN K.toKs V (nth bs) i = (V i + (rnds K.toKs W (S8.of V) K.rounds).at i) % 2 ^ K.bits := fun i => by rw [hW]; unfold blN; rfl
 have hwfv : ∀ t, wfv K.toKs (nth bs) t = .int .u64 ((W t : Nat) : Int) := fun t => by rw [hW]; rfl
 have hwl2 : ∀ t, W t < 2 ^ K.bits := fun t => by rw [hW]; exact hwl t
 have hrs : ∀ t, rnds K.toKs W (S8.of V) (t + 1) = rnd K.toKs (rnds K.toKs W (S8.of V) t) (K.keys.getD t 0) (W t) := fun t => rnds_succ _ _ _ _
 have hr0 : rnds K.toKs W (S8.of V) 0 = S8.of V := rnds_zero _ _ _
 have hrk := fun t => rnds_ok (S := K.toKs) (s := S8.of V) ⟨hV 0, hV 1, hV 2, hV 3, hV 4, hV 5, hV 6, hV 7⟩ W t
 have hkl : K.keys.length = K.rounds := hK.keys.1
 have hkk := hK.keys.2
 have p64 := pow64 hK.bits
 have HRS := Lib.hid hrs
 have HRK := Lib.hid hrk
 have HBL := Lib.hid hblN
 have HWV := Lib.hid hwfv
 have HWL := Lib.hid hwl2
 have HKL := Lib.hid hkl
 have HKK := Lib.hid hkk
 have HP := Lib.hid p64
 have HV := Lib.hid hV
 clear hwl hW hblN hwfv hwl2 hrs hrk hkl hkk p64 hV
 obtain ⟨bv, ov, rfl, _, _⟩ := hv.at_ (k := 0) (by decide)
 obtain ⟨bk, ok_, hka, _, _⟩ := hk.at_ (k := 0) (by omega)
 have HKA := Lib.hid hka
 clear hka
 have ok := OK.new (w := w) (Nat.le_refl _) K
 have hc := (Below.refl w.heap.size w).alloc (Nat.le_refl _) (AK K)
 have hb0 := (Below.refl B w).alloc hB (AK K)
 replace hr := hr.keep hb0
 replace hk := hk.keep hb0
 replace hv := hv.keep hb0
 clear hb0
 go_enter Tryz.func125, Tryz.ntmps125
 go_upto_region 1 with fail
 obtain ⟨v0, e0⟩ : ∃ v, v = w.alloc (AK K) := ⟨_, rfl⟩
 rw [← e0] at ok hc hr hk hv ⊢
 obtain ⟨g3, eg⟩ : ∃ g, g = w.heap.size := ⟨_, rfl⟩
 replace ok : OK v0 w.heap.size g3 K := by rw [eg]; exact ok
 rw [show (Value.pointer (some ⟨w.heap.size, 0, none⟩)) = .pointer (some ⟨g3, 0, none⟩) by rw [eg]]
 clear e0 eg
 have hBv : B ≤ v0.heap.size := Nat.le_trans hB hc.size
 go_wp2_with ((with_reducible refine k_load ok ?_ ?_); rfl)
 go_at_call 142
 refine (KW.out _ hr hBv).mono ?_
 rintro en v1 ⟨Aw, cw, rfl, ow_, h0⟩
 clear KW hr
 replace hk := hk.keep (h0.mono hBv)
 replace hv := hv.keep (h0.mono hBv)
 replace ok := ok.keep h0
 replace hc := bnx hc h0
 have hBv : B ≤ v1.heap.size := Nat.le_trans hBv h0.size
 have owr := ow_.rd
 clear h0 ow_
 obtain ⟨bw, ow, rfl, _, _⟩ := owr.at_ (k := 0) (by omega)
 have hcv : ∀ k, k < 8 → v1.cell? ⟨bv, ov + k, none⟩ = some (.int .u64 ((V k : Nat) : Int)) := fun k hk => by
  obtain ⟨b2, o2, e2, _, c2⟩ := hv.at_ (k := k) hk
  simp only [Option.some.injEq, Addr.mk.injEq] at e2
  obtain ⟨rfl, rfl, _⟩ := e2
  exact c2
 have d0 : v1.cell? ⟨bv, ov, none⟩ = some (.int .u64 ((V 0 : Nat) : Int)) := hcv 0 (by decide)
 have d1 := hcv 1 (by decide)
 have d2 := hcv 2 (by decide)
 have d3 := hcv 3 (by decide)
 have d4 := hcv 4 (by decide)
 have d5 := hcv 5 (by decide)
 have d6 := hcv 6 (by decide)
 have d7 := hcv 7 (by decide)
 go_upto_region 2 with fail
 refine wp_region_still_tail 31 (by kernel_rfl) (by kernel_rfl) ?_
 simp only [List.take_succ_cons, List.take_zero, List.drop_succ_cons, List.drop_zero]
 repeat still_step
 refine wpStill_nil ?_
 change wpList _ _ _ _ _ v1.drew
 clear d0 d1 d2 d3 d4 d5 d6 d7 hcv
 replace ok := ok.drew
 replace hk : RdF v1.drew B K.ka K.kc K.rounds (uv K.keys) := hk.drew
 replace hv : RdF v1.drew B (some ⟨bv, ov, none⟩) cv 8 (vv V) := hv.drew
 replace owr : RdF v1.drew v1.drew.heap.size (some ⟨bw, ow, none⟩) cw K.rounds (wfv K.toKs (nth bs)) := owr.drew
 replace hc := hc.drew
 have hBv : B ≤ v1.drew.heap.size := hBv
 obtain ⟨v2, e2⟩ : ∃ v, v = v1.drew := ⟨_, rfl⟩
 rw [← e2] at ok hk hv owr hc hBv ⊢
 clear e2
 go_wp2_with fail
 go_loopw [8, 9, 10, 11, 12, 13, 14, 15, 16] (fun a b c d e f g h i wr => ∃ t : Nat, t ≤ K.rounds ∧ i = .int .i64 (t : Int) ∧ (∃ s : S8, s = rnds K.toKs W (S8.of V) t ∧ a = .int .u64 (s.a : Int) ∧ b = .int .u64 (s.b : Int) ∧ c = .int .u64 (s.c : Int) ∧ d = .int .u64 (s.d : Int) ∧ e = .int .u64 (s.e : Int) ∧ f = .int .u64 (s.f : Int) ∧ g = .int .u64 (s.g : Int) ∧ h = .int .u64 (s.h : Int)) ∧ Below v2.heap.size v2 wr)
  (fun _ _ _ _ _ _ _ _ i _ => K.rounds - (intOf i).toNat)
 case atStart => exact ⟨0, by omega, rfl, ⟨S8.of V, hr0.symm, rfl, rfl, rfl, rfl, rfl, rfl, rfl, rfl⟩, Below.refl _ _⟩
 case round =>
  obtain ⟨t, ht, rfl, ⟨s, hs, rfl, rfl, rfl, rfl, rfl, rfl, rfl, rfl⟩, hb⟩ := hrel
  have okr := ok.keep hb
  have crd := okr.rounds
  have hok := HRK.out t
  rw [← hs] at hok
  have p64 := HP.out
  by_cases hlt : t < K.rounds
  ·have g1 : (t : Int) < (K.rounds : Int) := by omega
   have hnext := HRS.out t
   rw [← hs] at hnext
   clear hs
   have hkt := HKK.out t
   have hwt := HWL.out t
   have hkc : ∀ wz, Below wr.heap.size wr wz → wz.cell? ⟨bk, ok_ + t, none⟩ = some (.int .u64 ((K.keys.getD t 0 : Nat) : Int)) := fun wz hz => by
    obtain ⟨b2, o2, e2, _, c2⟩ := ((hk.keep (hb.mono hBv)).keep (hz.mono (Nat.le_trans hBv hb.size))).at_ (k := t) hlt
    have e3 := HKA.out.symm.trans e2
    simp only [Option.some.injEq, Addr.mk.injEq] at e3
    obtain ⟨rfl, rfl, _⟩ := e3
    exact c2
   have hwc : ∀ wz, Below wr.heap.size wr wz → wz.cell? ⟨bw, ow + t, none⟩ = some (.int .u64 ((W t : Nat) : Int)) := fun wz hz => by
    obtain ⟨b2, o2, e2, _, c2⟩ := ((owr.keep hb).keep (hz.mono hb.size)).at_ (k := t) hlt
    simp only [Option.some.injEq, Addr.mk.injEq] at e2
    obtain ⟨rfl, rfl, _⟩ := e2
    rw [HWV.out] at c2
    exact c2
   have IT := Lib.hid (show (0 : Int) ≤ (t : Int) ∧ (t : Int) < (K.rounds : Int) by omega)
   have IK := Lib.hid (show (0 : Int) ≤ (t : Int) ∧ (t : Int) < (K.keys.length : Int) by have := HKL.out; omega)
   have HKC := Lib.hid hkc
   have HWC := Lib.hid hwc
   clear hkc hwc
   have hb0 : 0 < K.bits := by rcases hK.bits with h | h <;> omega
   have hbit := hK.bits
   obtain ⟨sa, sb, sc, sd, se, sf, sg, sh⟩ := s
   obtain ⟨h1, h2, h3, h4, h5, h6, h7, h8⟩ := hok
   simp only at h1 h2 h3 h4 h5 h6 h7 h8
   have KT1 := Lib.hid (fun w => turned_any (K := K) rfl hbit h5 hK.d.1 hK.d.2.1 hK.d.2.2 w)
   have KT2 := Lib.hid (fun w => turned_any (K := K) rfl hbit h1 hK.u.1 hK.u.2.1 hK.u.2.2 w)
   have q1 := turnedN_lt hb0 h5 K.d
   have q2 := turnedN_lt hb0 h1 K.u
   have hT1 : T1 K.toKs ⟨sa, sb, sc, sd, se, sf, sg, sh⟩ (K.keys.getD t 0) (W t) = sh + turnedN K.bits se K.d + ((se &&& sf) ^^^ (notN K.bits se &&& sg)) + K.keys.getD t 0 + W t := rfl
   have hT2 : T2 K.toKs ⟨sa, sb, sc, sd, se, sf, sg, sh⟩ = turnedN K.bits sa K.u + (((sa &&& sb) ^^^ (sa &&& sc)) ^^^ (sb &&& sc)) := rfl
   have hnx : rnd K.toKs ⟨sa, sb, sc, sd, se, sf, sg, sh⟩ (K.keys.getD t 0) (W t) = ⟨(T1 K.toKs ⟨sa, sb, sc, sd, se, sf, sg, sh⟩ (K.keys.getD t 0) (W t) + T2 K.toKs ⟨sa, sb, sc, sd, se, sf, sg, sh⟩) % 2 ^ K.bits, sa, sb, sc, (sd + T1 K.toKs ⟨sa, sb, sc, sd, se, sf, sg, sh⟩ (K.keys.getD t 0) (W t)) % 2 ^ K.bits, se, sf, sg⟩ := rfl
   rw [hnx, hT1, hT2] at hnext
   clear hT1 hT2 hnx
   have l1 := lt64 hbit h1
   have l2 := lt64 hbit h2
   have l3 := lt64 hbit h3
   have l5 := lt64 hbit h5
   have l6 := lt64 hbit h6
   have l7 := lt64 hbit h7
   have lce : notN K.bits se < 2 ^ K.bits := Nat.mod_lt _ (Nat.pow_pos (by decide))
   have N1 := Lib.hid (bits_and_u64_nat se sf l5 l6)
   have lne : 18446744073709551615 ^^^ se < 18446744073709551616 := Nat.xor_lt_two_pow (n := 64) (by decide) l5
   have NE := Lib.hid (show bits .xor .u64 (if IntKind.u64.signed = true then -1 else IntKind.u64.max) (se : Int) = ((18446744073709551615 ^^^ se : Nat) : Int) from bits_xor_u64_nat 18446744073709551615 se (by decide) l5)
   have KC1 := Lib.hid (fun w => cut_any (K := K) (x := 18446744073709551615 ^^^ se) w)
   have hcut := cut_mod hbit (18446744073709551615 ^^^ se)
   rw [Nat.mod_eq_of_lt lne, show (18446744073709551615 ^^^ se) % 2 ^ K.bits = notN K.bits se from rfl] at hcut
   rw [hcut] at KC1
   have N2 := Lib.hid (bits_and_u64_nat (notN K.bits se) sg (lt64 hbit lce) l7)
   have ln1 : se &&& sf < 18446744073709551616 := Nat.lt_of_le_of_lt Nat.and_le_left l5
   have ln2 : notN K.bits se &&& sg < 18446744073709551616 := Nat.lt_of_le_of_lt Nat.and_le_right l7
   have N3 := Lib.hid (bits_xor_u64_nat _ _ ln1 ln2)
   have ln3 : (se &&& sf) ^^^ (notN K.bits se &&& sg) < 18446744073709551616 := Nat.xor_lt_two_pow (n := 64) ln1 ln2
   have M1 := bits_and_u64_nat sa sb l1 l2
   have M2 := bits_and_u64_nat sa sc l1 l3
   have M4 := bits_and_u64_nat sb sc l2 l3
   have lm1 : sa &&& sb < 18446744073709551616 := Nat.lt_of_le_of_lt Nat.and_le_left l1
   have lm2 : sa &&& sc < 18446744073709551616 := Nat.lt_of_le_of_lt Nat.and_le_left l1
   have lm4 : sb &&& sc < 18446744073709551616 := Nat.lt_of_le_of_lt Nat.and_le_left l2
   have M3 := bits_xor_u64_nat _ _ lm1 lm2
   have lm3 : (sa &&& sb) ^^^ (sa &&& sc) < 18446744073709551616 := Nat.xor_lt_two_pow (n := 64) lm1 lm2
   have M5 := bits_xor_u64_nat _ _ lm3 lm4
   have lm5 : ((sa &&& sb) ^^^ (sa &&& sc)) ^^^ (sb &&& sc) < 18446744073709551616 := Nat.xor_lt_two_pow (n := 64) lm3 lm4
   generalize (18446744073709551615 ^^^ se) = ne at *
   generalize notN K.bits se = ce at *
   generalize (se &&& sf) = n1 at *
   generalize (ce &&& sg) = n2 at *
   generalize (n1 ^^^ n2) = n3 at *
   generalize ((sa &&& sb) ^^^ (sa &&& sc)) ^^^ (sb &&& sc) = m5 at *
   generalize (sa &&& sb) ^^^ (sa &&& sc) = m3 at *
   generalize (sa &&& sb) = m1 at *
   generalize (sa &&& sc) = m2 at *
   generalize (sb &&& sc) = m4 at *
   generalize turnedN K.bits se K.d = s1 at *
   generalize turnedN K.bits sa K.u = s2 at *
   generalize K.keys.getD t 0 = kt at *
   generalize W t = wt at *
   obtain ⟨p1, hp1⟩ : ∃ p, p = (sh + s1) % 18446744073709551616 := ⟨_, rfl⟩
   obtain ⟨p2, hp2⟩ : ∃ p, p = (p1 + n3) % 18446744073709551616 := ⟨_, rfl⟩
   obtain ⟨p3, hp3⟩ : ∃ p, p = (p2 + kt) % 18446744073709551616 := ⟨_, rfl⟩
   obtain ⟨t1, ht1⟩ : ∃ p, p = (p3 + wt) % 18446744073709551616 := ⟨_, rfl⟩
   obtain ⟨t2, ht2⟩ : ∃ p, p = (s2 + m5) % 18446744073709551616 := ⟨_, rfl⟩
   obtain ⟨q4, hq4⟩ : ∃ p, p = (sd + t1) % 18446744073709551616 := ⟨_, rfl⟩
   obtain ⟨q5, hq5⟩ : ∃ p, p = (t1 + t2) % 18446744073709551616 := ⟨_, rfl⟩
   have l8 := lt64 hbit h8
   have l4 := lt64 hbit h4
   have ls1 := lt64 hbit q1
   have ls2 := lt64 hbit q2
   have lkt := lt64 hbit hkt
   have lwt := lt64 hbit hwt
   have A1 := Lib.hid (show IntKind.u64.wrap ((sh : Int) + (s1 : Int)) = (p1 : Int) by rw [IntKind.wrap_u64]; omega)
   have A2 := Lib.hid (show IntKind.u64.wrap ((p1 : Int) + (n3 : Int)) = (p2 : Int) by rw [IntKind.wrap_u64]; omega)
   have A3 := Lib.hid (show IntKind.u64.wrap ((p2 : Int) + (kt : Int)) = (p3 : Int) by rw [IntKind.wrap_u64]; omega)
   have A4 := Lib.hid (show IntKind.u64.wrap ((p3 : Int) + (wt : Int)) = (t1 : Int) by rw [IntKind.wrap_u64]; omega)
   have B1 : IntKind.u64.wrap ((s2 : Int) + (m5 : Int)) = (t2 : Int) := by rw [IntKind.wrap_u64]; omega
   have B2 : IntKind.u64.wrap ((sd : Int) + (t1 : Int)) = (q4 : Int) := by rw [IntKind.wrap_u64]; omega
   have B3 : IntKind.u64.wrap ((t1 : Int) + (t2 : Int)) = (q5 : Int) := by rw [IntKind.wrap_u64]; omega
   have e4 : q4 = (sd + (sh + s1 + n3 + kt + wt)) % 18446744073709551616 := by omega
   have e5 : q5 = (sh + s1 + n3 + kt + wt + (s2 + m5)) % 18446744073709551616 := by omega
   have KC4 := Lib.hid (fun w => cut_any (K := K) (x := q4) w)
   have KC5 := Lib.hid (fun w => cut_any (K := K) (x := q5) w)
   rw [e4, cut_mod hbit] at KC4
   rw [e5, cut_mod hbit] at KC5
   rw [← e4] at KC4
   rw [← e5] at KC5
   generalize (sh + s1 + n3 + kt + wt + (s2 + m5)) % 2 ^ K.bits = a9 at *
   generalize (sd + (sh + s1 + n3 + kt + wt)) % 2 ^ K.bits = e9 at *
   have HN := Lib.hid hnext
   clear hnext l1 l2 l3 l4 l5 l6 l7 l8 ls1 ls2 lkt lwt h1 h2 h3 h4 h5 h6 h7 h8 q1 q2 hkt hwt lce lne hcut ln1 ln2 ln3 lm1 lm2 lm3 lm4 lm5 hp1 hp2 hp3 ht1 ht2 hq4 hq5 e4 e5 hb0 p64 hbit
   go_upto_region 6 with fail
   refine wp_region_inv 29 [55, 56, 57, 58, 59, 60, 61, 62, 63, 64, 65, 66, 67, 68, 69, 70, 71, 72, 73, 74, 75, 76, 77, 78, 79, 80, 81, 82, 83] [.val (.int .u64 (sh : Int)), .val (kv K), .val (.int .u64 (se : Int)), .val (.pointer (some ⟨g3, 5, none⟩)), .val (tv K.d.1 K.d.2.1 K.d.2.2), .val (.int .u64 (s1 : Int)), .val (.int .u64 (p1 : Int)), .val (.int .u64 (se : Int)), .val (.int .u64 (sf : Int)), .val (.int .u64 (n1 : Int)), .val (kv K), .val (.int .u64 (se : Int)), .val (.int .u64 (ne : Int)), .val (.int .u64 (ce : Int)), .val (.int .u64 (sg : Int)), .val (.int .u64 (n2 : Int)), .val (.int .u64 (n3 : Int)), .val (.int .u64 (p2 : Int)), .val (.pointer (some ⟨g3, 14, none⟩)), .val (.slice K.ka K.keys.length K.kc), .val (.int .i64 (t : Int)), .val (.pointer (some ⟨bk, ok_ + t, none⟩)), .val (.int .u64 (kt : Int)), .val (.int .u64 (p3 : Int)), .val (.slice (some ⟨bw, ow, none⟩) K.rounds cw), .val (.int .i64 (t : Int)), .val (.pointer (some ⟨bw, ow + t, none⟩)), .val (.int .u64 (wt : Int)), .val (.int .u64 (t1 : Int))] (fun wz => Below wr.heap.size wr wz) (by kernel_rfl) (by kernel_rfl) (fun wz wz' hz hb => bnx hz hb) ((Below.refl _ _).drew) (fun u => by simp only [puts, List.foldl_cons, List.foldl_nil]; go_simp; exact rfl) ?_ ?_
   ·simp only [List.take_succ_cons, List.take_zero]
    refine .cons (fun u w hS hd => ?_) ?_
    ·exact Gv.run (.int .u64 (sh : Int)) rfl (by go_simp) rfl
    refine .cons (fun u w hS hd => ?_) ?_
    ·exact Gv.run (kv K) rfl (run_kload rfl rfl (okr.keep hS)) rfl
    refine .cons (fun u w hS hd => ?_) ?_
    ·exact Gv.run (.int .u64 (se : Int)) rfl (by go_simp) rfl
    refine .cons (fun u w hS hd => ?_) ?_
    ·exact Gv.run (.pointer (some ⟨g3, 5, none⟩)) rfl (by go_simp) rfl
    refine .cons (fun u w hS hd => ?_) ?_
    ·have d58 : u 58 = .pointer (some ⟨g3, 5, none⟩) := dep hd 3 rfl
     rw [d58]
     exact Gv.run (tv K.d.1 K.d.2.1 K.d.2.2) rfl (by obtain ⟨-, ⟨h1, h2, h3⟩, -⟩ := (okr.keep hS).tri; go_simp) rfl
    refine .cons (fun u w hS hd => ?_) ?_
    ·have d56 : u 56 = kv K := dep hd 1 rfl
     have d57 : u 57 = .int .u64 (se : Int) := dep hd 2 rfl
     have d59 : u 59 = tv K.d.1 K.d.2.1 K.d.2.2 := dep hd 4 rfl
     rw [d56, d57, d59]
     refine Gv.call 143 #[kv K, .int .u64 (se : Int), tv K.d.1 K.d.2.1 K.d.2.2] rfl (by go_simp) ((KT1.out w).mono ?_)
     rintro e w' ⟨rfl, hb⟩
     exact ⟨_, rfl, rfl, hb⟩
    refine .cons (fun u w hS hd => ?_) ?_
    ·have d55 : u 55 = .int .u64 (sh : Int) := dep hd 0 rfl
     have d60 : u 60 = .int .u64 (s1 : Int) := dep hd 5 rfl
     rw [d55, d60]
     have hq := A1.out
     exact Gv.run (.int .u64 (p1 : Int)) rfl (by go_simp) rfl
    refine .cons (fun u w hS hd => ?_) ?_
    ·exact Gv.run (.int .u64 (se : Int)) rfl (by go_simp) rfl
    refine .cons (fun u w hS hd => ?_) ?_
    ·exact Gv.run (.int .u64 (sf : Int)) rfl (by go_simp) rfl
    refine .cons (fun u w hS hd => ?_) ?_
    ·have d62 : u 62 = .int .u64 (se : Int) := dep hd 7 rfl
     have d63 : u 63 = .int .u64 (sf : Int) := dep hd 8 rfl
     rw [d62, d63]
     have hq := N1.out
     exact Gv.run (.int .u64 (n1 : Int)) rfl (by go_simp) rfl
    refine .cons (fun u w hS hd => ?_) ?_
    ·exact Gv.run (kv K) rfl (run_kload rfl rfl (okr.keep hS)) rfl
    refine .cons (fun u w hS hd => ?_) ?_
    ·exact Gv.run (.int .u64 (se : Int)) rfl (by go_simp) rfl
    refine .cons (fun u w hS hd => ?_) ?_
    ·have d66 : u 66 = .int .u64 (se : Int) := dep hd 11 rfl
     rw [d66]
     have hq := NE.out
     exact Gv.run (.int .u64 (ne : Int)) rfl (by go_simp) rfl
    refine .cons (fun u w hS hd => ?_) ?_
    ·have d65 : u 65 = kv K := dep hd 10 rfl
     have d67 : u 67 = .int .u64 (ne : Int) := dep hd 12 rfl
     rw [d65, d67]
     refine Gv.call 144 #[kv K, .int .u64 (ne : Int)] rfl (by go_simp) ((KC1.out w).mono ?_)
     rintro e w' ⟨rfl, hb⟩
     exact ⟨_, rfl, rfl, hb⟩
    refine .cons (fun u w hS hd => ?_) ?_
    ·exact Gv.run (.int .u64 (sg : Int)) rfl (by go_simp) rfl
    refine .cons (fun u w hS hd => ?_) ?_
    ·have d68 : u 68 = .int .u64 (ce : Int) := dep hd 13 rfl
     have d69 : u 69 = .int .u64 (sg : Int) := dep hd 14 rfl
     rw [d68, d69]
     have hq := N2.out
     exact Gv.run (.int .u64 (n2 : Int)) rfl (by go_simp) rfl
    refine .cons (fun u w hS hd => ?_) ?_
    ·have d64 : u 64 = .int .u64 (n1 : Int) := dep hd 9 rfl
     have d70 : u 70 = .int .u64 (n2 : Int) := dep hd 15 rfl
     rw [d64, d70]
     have hq := N3.out
     exact Gv.run (.int .u64 (n3 : Int)) rfl (by go_simp) rfl
    refine .cons (fun u w hS hd => ?_) ?_
    ·have d61 : u 61 = .int .u64 (p1 : Int) := dep hd 6 rfl
     have d71 : u 71 = .int .u64 (n3 : Int) := dep hd 16 rfl
     rw [d61, d71]
     have hq := A2.out
     exact Gv.run (.int .u64 (p2 : Int)) rfl (by go_simp) rfl
    refine .cons (fun u w hS hd => ?_) ?_
    ·exact Gv.run (.pointer (some ⟨g3, 14, none⟩)) rfl (by go_simp) rfl
    refine .cons (fun u w hS hd => ?_) ?_
    ·have d73 : u 73 = .pointer (some ⟨g3, 14, none⟩) := dep hd 18 rfl
     rw [d73]
     exact Gv.run (.slice K.ka K.keys.length K.kc) rfl (by have h1 := (okr.keep hS).ks; go_simp) rfl
    refine .cons (fun u w hS hd => ?_) ?_
    ·exact Gv.run (.int .i64 (t : Int)) rfl (by go_simp) rfl
    refine .cons (fun u w hS hd => ?_) ?_
    ·have d74 : u 74 = .slice K.ka K.keys.length K.kc := dep hd 19 rfl
     have d75 : u 75 = .int .i64 (t : Int) := dep hd 20 rfl
     rw [d74, d75]
     exact Gv.run (.pointer (some ⟨bk, ok_ + t, none⟩)) rfl (by have h1 := HKA.out; have h2 := IK.out; rw [h1]; go_simp) rfl
    refine .cons (fun u w hS hd => ?_) ?_
    ·have d76 : u 76 = .pointer (some ⟨bk, ok_ + t, none⟩) := dep hd 21 rfl
     rw [d76]
     exact Gv.run (.int .u64 (kt : Int)) rfl (by have h1 := HKC.out w hS; go_simp) rfl
    refine .cons (fun u w hS hd => ?_) ?_
    ·have d72 : u 72 = .int .u64 (p2 : Int) := dep hd 17 rfl
     have d77 : u 77 = .int .u64 (kt : Int) := dep hd 22 rfl
     rw [d72, d77]
     have hq := A3.out
     exact Gv.run (.int .u64 (p3 : Int)) rfl (by go_simp) rfl
    refine .cons (fun u w hS hd => ?_) ?_
    ·exact Gv.run (.slice (some ⟨bw, ow, none⟩) K.rounds cw) rfl (by go_simp) rfl
    refine .cons (fun u w hS hd => ?_) ?_
    ·exact Gv.run (.int .i64 (t : Int)) rfl (by go_simp) rfl
    refine .cons (fun u w hS hd => ?_) ?_
    ·have d79 : u 79 = .slice (some ⟨bw, ow, none⟩) K.rounds cw := dep hd 24 rfl
     have d80 : u 80 = .int .i64 (t : Int) := dep hd 25 rfl
     rw [d79, d80]
     exact Gv.run (.pointer (some ⟨bw, ow + t, none⟩)) rfl (by have h2 := IT.out; go_simp) rfl
    refine .cons (fun u w hS hd => ?_) ?_
    ·have d81 : u 81 = .pointer (some ⟨bw, ow + t, none⟩) := dep hd 26 rfl
     rw [d81]
     exact Gv.run (.int .u64 (wt : Int)) rfl (by have h1 := HWC.out w hS; go_simp) rfl
    refine .cons (fun u w hS hd => ?_) ?_
    ·have d78 : u 78 = .int .u64 (p3 : Int) := dep hd 23 rfl
     have d82 : u 82 = .int .u64 (wt : Int) := dep hd 27 rfl
     rw [d78, d82]
     have hq := A4.out
     exact Gv.run (.int .u64 (t1 : Int)) rfl (by go_simp) rfl
    exact Obs.nil
   intro u wz hS hd
   have d83 : u 83 = .int .u64 (t1 : Int) := hd 28 (by decide)
   clear hd
   rw [d83]
   clear d83
   simp only [List.drop_succ_cons, List.drop_zero]
   have okz := okr.keep hS
   have hbz := bnx hb hS
   obtain ⟨⟨c1, c2, c3⟩, -⟩ := okz.tri
   clear hS A1 A2 A3 A4 N1 NE N2 N3 KT1 KC1 HKC HWC IT IK crd
   go_wp2_with ((with_reducible refine k_load okz ?_ ?_); rfl)
   go_at_call 143
   refine (KT2.out _).mono ?_
   rintro en w7 ⟨rfl, h0⟩
   replace okz := okz.keep h0
   replace hbz := bnx hbz h0
   clear h0 KT2 c1 c2 c3
   go_wp2_with ((with_reducible refine k_load okz ?_ ?_); rfl)
   go_at_call 144
   refine (KC4.out _).mono ?_
   rintro en w8 ⟨rfl, h0⟩
   replace okz := okz.keep h0
   replace hbz := bnx hbz h0
   clear h0 KC4
   go_wp2_with ((with_reducible refine k_load okz ?_ ?_); rfl)
   go_at_call 144
   refine (KC5.out _).mono ?_
   rintro en w9 ⟨rfl, h0⟩
   replace hbz := bnx hbz h0
   clear h0 KC5
   go_wp2_with fail
   exact ⟨⟨t + 1, by omega, by go_num, ⟨_, HN.out.symm, rfl, rfl, rfl, rfl, rfl, rfl, rfl, rfl⟩, hbz⟩, by simp [intOf]; omega⟩
  ·obtain rfl : t = K.rounds := by omega
   have g1 : ¬ (K.rounds : Int) < (K.rounds : Int) := by omega
   have hbl : ∀ i, blN K.toKs V (nth bs) i = (V i + s.at i) % 2 ^ K.bits := fun i => by rw [hs]; exact HBL.out i
   have hat := fun i => S8.at_lt hok i
   have HBL2 := Lib.hid hbl
   have HAT := Lib.hid hat
   clear hbl hat HBL hs hok
   obtain ⟨sa, sb, sc, sd, se, sf, sg, sh⟩ := s
   have os := OwnF.lit (w := wr) (B := wr.heap.size) 33 (Nat.le_refl _) #[.int .u64 (sa : Int), .int .u64 (sb : Int), .int .u64 (sc : Int), .int .u64 (sd : Int), .int .u64 (se : Int), .int .u64 (sf : Int), .int .u64 (sg : Int), .int .u64 (sh : Int)] 8 (fun k => .int .u64 ((S8.at ⟨sa, sb, sc, sd, se, sf, sg, sh⟩ k : Nat) : Int)) (by decide) rfl
   have hb3 := hb.alloc hb.size (.cells #[.int .u64 (sa : Int), .int .u64 (sb : Int), .int .u64 (sc : Int), .int .u64 (sd : Int), .int .u64 (se : Int), .int .u64 (sf : Int), .int .u64 (sg : Int), .int .u64 (sh : Int)] 33)
   have ok3 := okr.alloc (.cells #[.int .u64 (sa : Int), .int .u64 (sb : Int), .int .u64 (sc : Int), .int .u64 (sd : Int), .int .u64 (se : Int), .int .u64 (sf : Int), .int .u64 (sg : Int), .int .u64 (sh : Int)] 33)
   go_wp2_with fail
   obtain ⟨v3, e3⟩ : ∃ v, v = wr.alloc (.cells #[.int .u64 (sa : Int), .int .u64 (sb : Int), .int .u64 (sc : Int), .int .u64 (sd : Int), .int .u64 (se : Int), .int .u64 (sf : Int), .int .u64 (sg : Int), .int .u64 (sh : Int)] 33) := ⟨_, rfl⟩
   rw [← e3] at os hb3 ok3 ⊢
   obtain ⟨gs, eg⟩ : ∃ g, g = wr.heap.size := ⟨_, rfl⟩
   rw [← eg] at os ⊢
   clear e3 eg crd okr
   go_loopw [20, 21] (fun v i wz => ∃ n : Nat, n ≤ 8 ∧ i = .int .i64 (n : Int) ∧ (∃ A c, v = .slice A n c ∧ OwnF wz v3.heap.size 33 A c n (vv (blN K.toKs V (nth bs)))) ∧ Below v3.heap.size v3 wz)
    (fun _ i _ => 8 - (intOf i).toNat)
   case atStart => exact ⟨0, by omega, rfl, ⟨none, 0, rfl, OwnF.nothing _ _ _ _⟩, Below.refl _ _⟩
   case round =>
    obtain ⟨i, hi8, rfl, ⟨A8, c8, rfl, o8⟩, hb8⟩ := hrel
    by_cases hlt : i < 8
    ·have g1 : (i : Int) < 8 := by omega
     have okr := ok3.keep hb8
     have hvi := HV.out i
     have hsi := HAT.out i
     have hri := HBL2.out i
     have hvc : ∀ wz, Below wr.heap.size wr wz → wz.cell? ⟨bv, ov + i, none⟩ = some (.int .u64 ((V i : Nat) : Int)) := fun wz hz => by
      obtain ⟨b2, o2, e2, _, c2⟩ := (((hv.keep (hb3.mono hBv)).keep (hb8.mono (Nat.le_trans hBv hb3.size))).keep (hz.mono (Nat.le_trans hBv (Nat.le_trans hb3.size hb8.size)))).at_ (k := i) hlt
      simp only [Option.some.injEq, Addr.mk.injEq] at e2
      obtain ⟨rfl, rfl, _⟩ := e2
      exact c2
     have hsc : ∀ wz, Below wr.heap.size wr wz → wz.cell? ⟨gs, i, none⟩ = some (.int .u64 ((S8.at ⟨sa, sb, sc, sd, se, sf, sg, sh⟩ i : Nat) : Int)) := fun wz hz => ((OwnF.keep (OwnF.keep os hb8) hz).cell (k := i) hlt)
     have HVC := Lib.hid hvc
     have HSC := Lib.hid hsc
     have I8 := Lib.hid (show (0 : Int) ≤ (i : Int) ∧ (i : Int) < 8 by omega)
     have hv8 : ∀ k, k < i + 1 → (if k < i then vv (blN K.toKs V (nth bs)) k else .int .u64 ((blN K.toKs V (nth bs) i : Nat) : Int)) = vv (blN K.toKs V (nth bs)) k := fun k hk => by
      by_cases e : k < i
      ·rw [if_pos e]
      ·rw [if_neg e, show k = i by omega]; rfl
     have HV8 := Lib.hid hv8
     clear hvc hsc hv8
     have hbit := hK.bits
     generalize blN K.toKs V (nth bs) i = ri at *
     generalize S8.at ⟨sa, sb, sc, sd, se, sf, sg, sh⟩ i = si at *
     generalize V i = vi at *
     obtain ⟨pi, hpi⟩ : ∃ p, p = (vi + si) % 18446744073709551616 := ⟨_, rfl⟩
     have lv := lt64 hbit hvi
     have ls := lt64 hbit hsi
     have A5 := Lib.hid (show IntKind.u64.wrap ((vi : Int) + (si : Int)) = (pi : Int) by rw [IntKind.wrap_u64]; omega)
     have KC5 := Lib.hid (fun w => cut_any (K := K) (x := pi) w)
     rw [hpi, cut_mod hbit, ← hri, ← hpi] at KC5
     clear hvi hsi hri hpi lv ls hbit
     go_upto_region 21 with fail
     refine wp_region_inv 13 [130, 131, 132, 133, 134, 135, 136, 137, 138, 139, 140, 141, 142] [.val (.slice A8 i c8), .val (kv K), .val (.slice (some ⟨bv, ov, none⟩) 8 cv), .val (.int .i64 (i : Int)), .val (.pointer (some ⟨bv, ov + i, none⟩)), .val (.int .u64 (vi : Int)), .val (.slice (some ⟨gs, 0, none⟩) 8 8), .val (.int .i64 (i : Int)), .val (.pointer (some ⟨gs, i, none⟩)), .val (.int .u64 (si : Int)), .val (.int .u64 (pi : Int)), .val (.int .u64 (ri : Int)), .one (.int .u64 (ri : Int))] (fun wz => Below wr.heap.size wr wz) (by kernel_rfl) (by kernel_rfl) (fun wz wz' hz hb => bnx hz hb) ((Below.refl _ _).drew) (fun u => by simp only [puts, List.foldl_cons, List.foldl_nil]; go_simp; exact rfl) ?_ ?_
     ·simp only [List.take_succ_cons, List.take_zero]
      refine .cons (fun u w hS hd => ?_) ?_
      ·exact Gv.run (.slice A8 i c8) rfl (by go_simp) rfl
      refine .cons (fun u w hS hd => ?_) ?_
      ·exact Gv.run (kv K) rfl (run_kload rfl rfl (okr.keep hS)) rfl
      refine .cons (fun u w hS hd => ?_) ?_
      ·exact Gv.run (.slice (some ⟨bv, ov, none⟩) 8 cv) rfl (by go_simp) rfl
      refine .cons (fun u w hS hd => ?_) ?_
      ·exact Gv.run (.int .i64 (i : Int)) rfl (by go_simp) rfl
      refine .cons (fun u w hS hd => ?_) ?_
      ·have d132 : u 132 = .slice (some ⟨bv, ov, none⟩) 8 cv := dep hd 2 rfl
       have d133 : u 133 = .int .i64 (i : Int) := dep hd 3 rfl
       rw [d132, d133]
       exact Gv.run (.pointer (some ⟨bv, ov + i, none⟩)) rfl (by have h2 := I8.out; go_simp) rfl
      refine .cons (fun u w hS hd => ?_) ?_
      ·have d134 : u 134 = .pointer (some ⟨bv, ov + i, none⟩) := dep hd 4 rfl
       rw [d134]
       exact Gv.run (.int .u64 (vi : Int)) rfl (by have h1 := HVC.out w hS; go_simp) rfl
      refine .cons (fun u w hS hd => ?_) ?_
      ·exact Gv.run (.slice (some ⟨gs, 0, none⟩) 8 8) rfl (by go_simp) rfl
      refine .cons (fun u w hS hd => ?_) ?_
      ·exact Gv.run (.int .i64 (i : Int)) rfl (by go_simp) rfl
      refine .cons (fun u w hS hd => ?_) ?_
      ·have d136 : u 136 = .slice (some ⟨gs, 0, none⟩) 8 8 := dep hd 6 rfl
       have d137 : u 137 = .int .i64 (i : Int) := dep hd 7 rfl
       rw [d136, d137]
       exact Gv.run (.pointer (some ⟨gs, i, none⟩)) rfl (by have h2 := I8.out; go_simp) rfl
      refine .cons (fun u w hS hd => ?_) ?_
      ·have d138 : u 138 = .pointer (some ⟨gs, i, none⟩) := dep hd 8 rfl
       rw [d138]
       exact Gv.run (.int .u64 (si : Int)) rfl (by have h1 := HSC.out w hS; go_simp) rfl
      refine .cons (fun u w hS hd => ?_) ?_
      ·have d135 : u 135 = .int .u64 (vi : Int) := dep hd 5 rfl
       have d139 : u 139 = .int .u64 (si : Int) := dep hd 9 rfl
       rw [d135, d139]
       have hq := A5.out
       exact Gv.run (.int .u64 (pi : Int)) rfl (by go_simp) rfl
      refine .cons (fun u w hS hd => ?_) ?_
      ·have d131 : u 131 = kv K := dep hd 1 rfl
       have d140 : u 140 = .int .u64 (pi : Int) := dep hd 10 rfl
       rw [d131, d140]
       refine Gv.call 144 #[kv K, .int .u64 (pi : Int)] rfl (by go_simp) ((KC5.out w).mono ?_)
       rintro e w' ⟨rfl, hb⟩
       exact ⟨_, rfl, rfl, hb⟩
      refine .cons (fun u w hS hd => ?_) ?_
      ·have d141 : u 141 = .int .u64 (ri : Int) := dep hd 11 rfl
       rw [d141]
       refine Gv.make (.slice (some ⟨w.heap.size, 0, none⟩) 1 1) (w.alloc (.cells #[.int .u64 (ri : Int)] 33)) rfl (by go_simp) ⟨_, rfl, ?_⟩ ((Below.refl _ w).alloc (Nat.le_refl _) _)
       exact (OwnF.lit (w := w) 33 (Nat.le_refl _) #[.int .u64 (ri : Int)] 1 (fun _ => .int .u64 (ri : Int)) (by decide) rfl).rd
      exact Obs.nil
     intro u wz hS hd
     have d130 : u 130 = .slice A8 i c8 := hd 0 (by decide)
     obtain ⟨A9, d142, r142⟩ : ∃ A, u 142 = .slice A 1 1 ∧ RdF wz wz.heap.size A 1 1 (fun _ => .int .u64 (ri : Int)) := hd 12 (by decide)
     rw [d130, d142]
     clear hd d130 d142
     have os2 := OwnF.keep o8 hS
     have hbz := bnx hb8 hS
     simp only [List.drop_succ_cons, List.drop_zero]
     go_wp2_with (at_builtin; refine wpList_appG _ rfl (.tmp 130) (.tmp 142) _ rfl v3.heap.size 33 i0 _ Tryz.underlying117 hi hz0 hz1 hz2 (by decide) rfl rfl os2 rfl r142 (fun _ _ => rfl) (by omega) (by omega) hbz.size ?_; intro A' c' w' ho' hb')
     exact ⟨⟨i + 1, by omega, by go_num, ⟨A', c', rfl, OwnF.congr ho' fun k hk => HV8.out k hk⟩, hbz.trans hb'⟩, by simp [intOf]; omega⟩
    ·obtain rfl : i = 8 := by omega
     have g1 : ¬ ((8 : Nat) : Int) < 8 := by decide
     simp only [Int.cast_ofNat_Int]
     have hs3 : w.heap.size ≤ v3.heap.size := Nat.le_trans hc.size hb3.size
     go_wp2_with fail
     go_ret
     exact ⟨A8, c8, rfl, o8.mono hs3, (bnx hc hb3).trans (hb8.mono hs3)⟩
end Go.Proofs.YtkbkalhcdbklkaaGreatDoor
