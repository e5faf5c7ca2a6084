/-
  The document's Sum (layer 6), over letters. By an AI agent.
-/
import Derived.Test.YtkbkalhcdbklkaaGreatDoorJ07
namespace Go.Proofs.YtkbkalhcdbklkaaGreatDoor
open Go Go.RowKit
theorem infoB6 : (Tryz.prog.info? 5).map (fun i => (i.zero, i.size, i.bytes)) = some (some (.int .u8 0), 1, 1) := by kernel_rfl
def klenOf : Value → Nat
 | .slice _ l _ => l
 | _ => 0
theorem Own.ptr {w : World} {B : Nat} {e : TypeId} {A : Option Addr} {c : Nat} {bs : List UInt8} (h : Own w B e A c bs) (hl : 0 < bs.length) : ∃ g, A = some ⟨g, 0, none⟩ := by
 obtain ⟨_, h2⟩ := h
 rcases h2 with ⟨_, h0⟩ | ⟨g, cap, cur, hv, _⟩
 ·omega
 ·simp only [Value.slice.injEq] at hv
  exact ⟨g, hv.1⟩
theorem sums_zero (S : Ks) (P : List UInt8) : sums S P 0 = fun i => S.first.getD i 0 := rfl
theorem gen_none (f : Nat → UInt8) : gen f 0 = [] := rfl
theorem gen_add (f : Nat → UInt8) (n : Nat) (b : UInt8) (h : b = f n) : gen f n ++ [b] = gen f (n + 1) := by rw [gen_succ, h]
theorem sh2_is (x k : Nat) : sh2 x k = x / 2 ^ k := rfl
attribute [local irreducible] Kd.cells kf sh2 blN zc pz lb outB sums gen padL
set_option maxRecDepth 20000
set_option maxHeartbeats 6400000 in
theorem ksum_any {K : Kd} (hK : Kok K.toKs) {A0 : Option Addr} {B c0 : Nat} {bs : List UInt8} (hlen : bs.length ≤ 1000000) (w : World) (hk : RdF w B K.ka K.kc K.rounds (uv K.keys)) (hf : RdF w B K.fa K.fc 8 (uv K.first)) (hr : Rd w B A0 c0 bs) (hB : B ≤ w.heap.size) :
  Calls Tryz.prog 90 #[kv K, .slice A0 bs.length c0] w fun en w' => ∃ A c, en = .returned (.slice A K.bits c) ∧ Own w' w.heap.size 5 A c (sumN K.toKs bs) ∧ Below w.heap.size w w' := by
 obtain ⟨i0, hi, hz0, hz1, hz2⟩ := info_parts infoB6
 obtain ⟨ln, hln⟩ : ∃ l, l = bs.length := ⟨_, rfl⟩
 obtain ⟨bt, hbt⟩ : ∃ b, b = K.bits := ⟨_, rfl⟩
 have hb := hK.bits
 rw [← hbt] at hb
 obtain ⟨q, hq⟩ : ∃ q, q = bt / 4 := ⟨_, rfl⟩
 obtain ⟨sz, hsz⟩ : ∃ q, q = 2 * bt := ⟨_, rfl⟩
 have hz := fun n => zc_at (S := K.toKs) hK.bits ln n
 have hzl := zc_lt (S := K.toKs) hK.bits ln
 have hpz0 : ∀ n, (pz bs n).length = ln + 1 + n := fun n => by rw [pz_length, hln]
 have hpd := padL_length (S := K.toKs) hK.bits bs
 have hpd2 : padL K.toKs bs = pz bs (zc K.toKs ln + (q - 8)) ++ gen (lb ln) 8 := by unfold padL; rw [← hln, ← hbt, ← hq]
 have hpe : bs ++ [128] = pz bs 0 := by unfold pz; rfl
 have hps : ∀ n, pz bs n ++ [0] = pz bs (n + 1) := fun n => (pz_succ bs n).symm
 have hsumN : sumN K.toKs bs = gen (outB K.toKs (sums K.toKs (padL K.toKs bs) ((padL K.toKs bs).length / sz))) bt := by unfold sumN; rw [← hbt, ← hsz]
 rw [← hln, ← hbt] at hpd
 rw [hsumN, ← hbt, ← hln]
 rw [← hbt] at hzl hz
 rw [← hq, ← hsz] at hz
 rw [← hsz] at hzl
 rw [← hq, ← hsz] at hpd
 obtain ⟨P, hP⟩ : ∃ P, P = padL K.toKs bs := ⟨_, rfl⟩
 obtain ⟨Z, hZ⟩ : ∃ Z, Z = zc K.toKs ln := ⟨_, rfl⟩
 rw [← hP, ← hZ] at hpd
 rw [← hP]
 rw [← hP, ← hZ] at hpd2
 rw [← hZ] at hzl
 simp only [← hZ] at hz
 have hln6 : ln ≤ 1000000 := by omega
 have HZ := Lib.hid hz
 have HL := Lib.hid hpz0
 have HPD := Lib.hid hpd
 have HP2 := Lib.hid hpd2
 have HPE := Lib.hid hpe
 have HPS := Lib.hid hps
 have HLN := Lib.hid hln
 have HBT := Lib.hid hbt
 clear hz hpz0 hpd hpd2 hpe hps hsumN hP hZ
 have hq816 : (q = 8 ∧ bt = 32 ∧ sz = 64) ∨ (q = 16 ∧ bt = 64 ∧ sz = 128) := by omega
 have ge4 : (bt : Int).tdiv 4 = (q : Int) := by rw [Int.tdiv_eq_ediv_of_nonneg (by omega)]; omega
 have ge4' : (bt : Int) / 4 = (q : Int) := by omega
 have gq : IntKind.i64.wrap (q : Int) = (q : Int) := by rw [IntKind.wrap_i64]; omega
 have gs : IntKind.i64.wrap (2 * (bt : Int)) = (sz : Int) := by rw [IntKind.wrap_i64]; omega
 have ok := OK.new (w := w) (Nat.le_refl _) K
 have hc := (Below.refl w.heap.size w).alloc (Nat.le_refl _) (AK K)
 have hb0 := (Below.refl B w).alloc hB (AK K)
 replace hr := hr.keep hb0
 replace hk := hk.keep hb0
 replace hf := hf.keep hb0
 clear hb0 hln hbt hq hsz
 obtain ⟨v0, e0⟩ : ∃ v, v = w.alloc (AK K) := ⟨_, rfl⟩
 have cb := ok.bits
 rw [← HBT.out] at cb
 rw [← e0] at ok hc hr hk hf cb
 have hBv : B ≤ v0.heap.size := Nat.le_trans hB hc.size
 have h2 : Rd (v0.alloc (.cells #[] 5)) B A0 c0 bs := hr.keep ((Below.refl B v0).alloc hBv _)
 have h3 : Own (v0.alloc (.cells #[] 5)) v0.heap.size 5 (some ⟨v0.heap.size, 0, none⟩) 0 [] := World.ownsRow_made v0 #[] 0 (Nat.le_refl _) (by decide) (by decide)
 have h4 : Below v0.heap.size v0 (v0.alloc (.cells #[] 5)) := (Below.refl _ v0).alloc (Nat.le_refl _) _
 go_enter Tryz.func90, Tryz.ntmps90
 go_upto_region 1 with fail
 rw [← e0]
 obtain ⟨g2, eg⟩ : ∃ g, g = w.heap.size := ⟨_, rfl⟩
 have hg2 : g2 + 1 ≤ v0.heap.size := by rw [eg]; exact ok.lt
 replace ok : OK v0 w.heap.size g2 K := by rw [eg]; exact ok
 rw [← eg] at cb
 rw [show (Value.pointer (some ⟨w.heap.size, 0, none⟩)) = .pointer (some ⟨g2, 0, none⟩) by rw [eg]]
 clear e0 eg
 have hwv : w.heap.size ≤ v0.heap.size := hc.size
 go_wp2_with (first
  | (at_builtin; refine wpList_app _ rfl (.tmp 17) (.tmp 18) _ rfl v0.heap.size 5 i0 _ Tryz.underlying22 hi hz0 hz1 hz2 rfl (xs := []) rfl h3 (by rw [← HLN.out]; rfl) h2 (by simp only [List.length_nil]; omega) (by simp) ?_; intro A1 c1 v1 ho hbb; rw [show (([] : List UInt8) ++ bs).length = ln from HLN.out.symm])
  | (at_builtin; refine wpList_app1 _ rfl (.tmp 19) (.tmp 20) _ rfl v0.heap.size 5 i0 _ Tryz.underlying22 hi hz0 hz1 hz2 rfl rfl HLN.out ho rfl 128 rfl (by omega) (Nat.le_trans h4.size hbb.size) ?_; intro A2 c2 v2 ho2 hb2))
 rw [HPE.out] at ho2
 have hb := (h4.trans hbb).trans hb2
 clear h2 h3 h4 hbb hb2 ho
 go_loopw [6] (fun p wr => ∃ n L : Nat, n ≤ Z ∧ L = ln + 1 + n ∧ (∃ A c, p = .slice A L c ∧ Own wr v0.heap.size 5 A c (pz bs n)) ∧ Below v0.heap.size v0 wr)
  (fun p _ => ln + 1 + Z - klenOf p)
 case atStart => exact ⟨0, ln + 1, Nat.zero_le _, rfl, ⟨A2, c2, rfl, ho2⟩, hb⟩
 case round =>
  clear ho2 hb
  obtain ⟨n, L, hn, hL, ⟨A, c, rfl, ho⟩, hb⟩ := hrel
  have okr : OK wr w.heap.size g2 K := OwnF.keepAt ok (hb.mono hg2)
  have cbr := okr.bits
  rw [← HBT.out] at cbr
  have gL1 : IntKind.i64.wrap ((L : Int) + (q : Int)) = ((L + q : Nat) : Int) := by rw [IntKind.wrap_i64]; omega
  have gz1 : ((sz : Int) == 0) = false := by simp; omega
  have gz2 : ¬ (sz : Int) = 0 := by omega
  have gm : ((L + q : Nat) : Int).tmod (sz : Int) = (((L + q) % sz : Nat) : Int) := by rw [Int.tmod_eq_emod_of_nonneg (by omega)]; exact (Int.natCast_emod _ _).symm
  have hzn := HZ.out n hn
  rw [← hL] at hzn
  have hLn : L = (pz bs n).length := by rw [HL.out, hL]
  have HLn := Lib.hid hLn
  clear hLn
  have hLb : L ≤ 1001000 := by omega
  have HLL := Lib.hid hL
  clear hL
  generalize (L + q) % sz = mm at *
  generalize L + q = Lq at *
  by_cases hnz : n = Z
  ·have hm0 : mm = 0 := hzn.2 hnz
   have gm1 : ((mm : Int) == 0) = true := by simp; omega
   have gm2 : ((mm : Int) != 0) = false := by simp; omega
   clear hzn
   have hm0' := Lib.hid hm0
   clear hm0
   go_wp2_with fail
   obtain ⟨w1, e1⟩ : ∃ w1, w1 = wr := ⟨_, rfl⟩
   subst e1
   go_loopw [6, 7] (fun p i wr => ∃ m L : Nat, m + 8 ≤ q ∧ L = ln + 1 + (Z + m) ∧ i = .int .i64 ((8 + m : Nat) : Int) ∧ (∃ A c, p = .slice A L c ∧ Own wr v0.heap.size 5 A c (pz bs (Z + m))) ∧ Below v0.heap.size v0 wr)
    (fun _ i _ => q - (intOf i).toNat)
   case atStart => exact ⟨0, L, by omega, by have := HLL.out; omega, rfl, ⟨A, c, rfl, by rw [Nat.add_zero, ← hnz]; exact ho⟩, hb⟩
   case round =>
    clear ho hb cbr okr gL1 gm gm1 gm2 HLn hm0' HLL
    obtain ⟨m, L, hm, hL, rfl, ⟨A, c, rfl, ho⟩, hb⟩ := hrel
    have okr : OK wr w.heap.size g2 K := OwnF.keepAt ok (hb.mono hg2)
    have cbr := okr.bits
    rw [← HBT.out] at cbr
    have hLn : L = (pz bs (Z + m)).length := by rw [HL.out, hL]
    have HLn := Lib.hid hLn
    clear hLn
    have hLb : L ≤ 1001000 := by omega
    have HLL := Lib.hid hL
    clear hL
    obtain ⟨im, him⟩ : ∃ i, i = 8 + m := ⟨_, rfl⟩
    rw [← him]
    by_cases hmq : 8 + m < q
    ·have g1 : (im : Int) < (q : Int) := by omega
     go_wp2_with (at_builtin; refine wpList_app1 _ rfl (.tmp 41) (.tmp 42) _ rfl v0.heap.size 5 i0 _ Tryz.underlying22 hi hz0 hz1 hz2 rfl rfl HLn.out ho rfl 0 rfl (by omega) hb.size ?_; intro A2 c2 v2 ho2 hb2)
     rw [HPS.out] at ho2
     exact ⟨⟨m + 1, L + 1, by omega, by have := HLL.out; omega, by rw [show 8 + (m + 1) = im + 1 by omega]; go_num, ⟨A2, c2, rfl, ho2⟩, hb.trans hb2⟩, by simp [intOf]; omega⟩
    ·have g1 : ¬ (im : Int) < (q : Int) := by omega
     obtain ⟨Q, hQ⟩ : ∃ Q, Q = pz bs (Z + m) := ⟨_, rfl⟩
     rw [← hQ] at ho HLn
     have hPQ : P = Q ++ gen (lb ln) 8 := by rw [HP2.out, hQ, show q - 8 = m by omega]
     have HPQ := Lib.hid hPQ
     have hcl : IntKind.u64.wrap (ln : Int) = (ln : Int) := by rw [IntKind.wrap_u64]; omega
     have hc8 : IntKind.u64.wrap ((ln : Int) * 8) = ((ln * 8 : Nat) : Int) := by rw [IntKind.wrap_u64]; omega
     clear hPQ hQ him
     go_wp2_with fail
     obtain ⟨w1, e1⟩ : ∃ w1, w1 = wr := ⟨_, rfl⟩
     subst e1
     go_loopw [6, 8] (fun p i wr => ∃ k M : Nat, k ≤ 8 ∧ M = L + k ∧ i = .int .i64 (7 - (k : Int)) ∧ (∃ A c, p = .slice A M c ∧ Own wr v0.heap.size 5 A c (Q ++ gen (lb ln) k)) ∧ Below v0.heap.size v0 wr)
      (fun _ i _ => (intOf i + 1).toNat)
     case atStart => exact ⟨0, L, by omega, rfl, rfl, ⟨A, c, rfl, by rw [show gen (lb ln) 0 = [] from gen_none _, List.append_nil]; exact ho⟩, hb⟩
     case round =>
      obtain ⟨k, M, hk8, hM, rfl, ⟨A, c, rfl, ho⟩, hb⟩ := hrel
      have hMn : M = (Q ++ gen (lb ln) k).length := by rw [List.length_append, gen_length, ← HLn.out, hM]
      have HMn := Lib.hid hMn
      have hMb : M ≤ 1002000 := by omega
      have HM := Lib.hid hM
      clear hM hMn
      by_cases hk9 : k < 8
      ·have g1 : (0 : Int) ≤ 7 - (k : Int) := by omega
       obtain ⟨sv, hsv⟩ : ∃ s, s = 8 * (7 - k) := ⟨_, rfl⟩
       have gmul : IntKind.i64.wrap (8 * (7 - (k : Int))) = (sv : Int) := by rw [IntKind.wrap_i64]; omega
       have gdec : IntKind.i64.wrap (7 - (k : Int) - 1) = 7 - ((k + 1 : Nat) : Int) := by rw [IntKind.wrap_i64]; omega
       have KS := Lib.hid (fun w => shift_any (x := ln * 8) (n := sv) (by omega) (by omega) w)
       have hzb : sh2 (ln * 8) sv % 256 = (lb ln k).toNat := by rw [lb_nat, sh2_is, hsv]
       have hzl2 := sh2_le (ln * 8) sv
       generalize sh2 (ln * 8) sv = zz at *
       have gt1 : (zz : Int).tmod 256 = ((zz % 256 : Nat) : Int) := by rw [Int.tmod_eq_emod_of_nonneg (by omega)]; omega
       have gt2 : (zz : Int) % 256 = ((zz % 256 : Nat) : Int) := by omega
       have gt3 : IntKind.u8.wrap ((zz % 256 : Nat) : Int) = ((zz % 256 : Nat) : Int) := by rw [IntKind.wrap_u8]; omega
       have gt4 : IntKind.u64.wrap ((zz % 256 : Nat) : Int) = ((zz % 256 : Nat) : Int) := by rw [IntKind.wrap_u64]; omega
       have hzi : ((zz % 256 : Nat) : Int) = ((lb ln k).toNat : Int) := by rw [hzb]
       generalize zz % 256 = zb at *
       have HZB := Lib.hid hzi
       clear hzb hzi hsv hzl2
       go_wp2_with fail
       go_at_call 124
       refine (KS.out _).mono ?_
       rintro en w9 ⟨rfl, rfl⟩
       go_wp2_with (at_builtin; refine wpList_app1 _ rfl (.tmp 48) (.tmp 58) _ rfl v0.heap.size 5 i0 _ Tryz.underlying22 hi hz0 hz1 hz2 rfl rfl HMn.out ho rfl (lb ln k) HZB.out (by omega) hb.size ?_; intro A2 c2 v2 ho2 hb2)
       rw [List.append_assoc, gen_add _ _ _ rfl] at ho2
       exact ⟨⟨k + 1, M + 1, by omega, by have := HM.out; omega, rfl, ⟨A2, c2, rfl, ho2⟩, hb.trans hb2⟩, by simp [intOf]; omega⟩
      ·obtain rfl : k = 8 := by omega
       have g1 : ¬ (0 : Int) ≤ 7 - ((8 : Nat) : Int) := by decide
       rw [← HPQ.out] at ho HMn
       have hPl := HPD.out
       have hMP := HMn.out
       obtain ⟨nb, hnb⟩ : ∃ n, n = P.length / sz := ⟨_, rfl⟩
       have hMnb : M = nb * sz := by
        have h1 := Nat.div_add_mod P.length sz
        rw [hPl.1, ← hnb, Nat.mul_comm] at h1
        omega
       obtain ⟨bp, rfl⟩ := Own.ptr ho (by omega)
       have hcap := ho.rd.cap
       rw [← hMP] at hcap
       have hpr := ho.rd
       have okr2 : OK wr w.heap.size g2 K := OwnF.keepAt ok (hb.mono hg2)
       have cfs := okr2.fs
       rw [hK.first.1] at cfs
       have hfr : RdF wr wr.heap.size K.fa K.fc 8 (vv (sums K.toKs P 0)) := ((hf.keep (hb.mono hBv)).mono (Nat.le_trans hBv hb.size)).congr fun i _ => by unfold vv uv; rw [sums_zero]
       have hkr := hk.keep (hb.mono hBv)
       have hBr : B ≤ wr.heap.size := Nat.le_trans hBv hb.size
       have KB := Lib.hid (fun (Av A0 : Option Addr) (cv c0 : Nat) (V : Nat → Nat) (bs : List UInt8) (hbs : bs.length = 16 * (K.bits / 8)) (hV : ∀ i, V i < 2 ^ K.bits) (w : World) (hk : RdF w w.heap.size K.ka K.kc K.rounds (uv K.keys)) (hv : RdF w w.heap.size Av cv 8 (vv V)) (hr : Rd w w.heap.size A0 c0 bs) => block_any hK hbs hV w hk hv hr (Nat.le_refl _))
       have HSL := Lib.hid (fun j => sums_lt hK P j)
       have HNB := Lib.hid hnb
       have hsumsS : ∀ j, sums K.toKs P (j + 1) = blN K.toKs (sums K.toKs P j) (nth ((P.drop (j * sz)).take sz)) := fun j => by rw [sums_succ, ← HBT.out, show 2 * bt = sz by omega]
       have HSS := Lib.hid hsumsS
       have HMP := Lib.hid hMP
       have hszb : sz = 16 * (K.bits / 8) := by rw [← HBT.out]; omega
       have HSZ := Lib.hid hszb
       have HMB := Lib.hid hMnb
       clear hf hk hnb hsumsS hMP hPl hszb hMnb
       simp only [Int.cast_ofNat_Int]
       go_wp2_with fail
       obtain ⟨v3, e3⟩ : ∃ v, v = wr := ⟨_, rfl⟩
       subst e3
       go_loopw [9, 10] (fun v i wr => ∃ j I : Nat, j ≤ nb ∧ I = j * sz ∧ i = .int .i64 (I : Int) ∧ (∃ A c, v = .slice A 8 c ∧ RdF wr wr.heap.size A c 8 (vv (sums K.toKs P j))) ∧ Below v3.heap.size v3 wr)
        (fun _ i _ => M - (intOf i).toNat)
       case atStart => exact ⟨0, 0, by omega, by omega, rfl, ⟨_, _, rfl, hfr⟩, Below.refl _ _⟩
       case round =>
        obtain ⟨j, I, hj, hI, rfl, ⟨Av, cv, rfl, hv⟩, hb3⟩ := hrel
        have okr3 := okr2.keep hb3
        by_cases hjn : j < nb
        ·have hM2 := HMB.out
         have hIs : (j + 1) * sz ≤ nb * sz := Nat.mul_le_mul_right _ hjn
         rw [Nat.succ_mul, ← hI, ← hM2] at hIs
         obtain ⟨E, hE⟩ : ∃ E, E = I + sz := ⟨_, rfl⟩
         have g1 : (I : Int) < (M : Int) := by omega
         have gE : IntKind.i64.wrap ((I : Int) + (sz : Int)) = (E : Int) := by rw [IntKind.wrap_i64]; omega
         have k1 : (0 : Int) ≤ (I : Int) := by omega
         have k2 : (I : Int) ≤ (E : Int) := by omega
         have k3 : (E : Int) ≤ (c : Int) := by omega
         have k4 : ¬ c = I := by omega
         have k5 : E - I = sz := by omega
         have hbl : ((P.drop I).take sz).length = sz := by rw [List.length_take, List.length_drop]; have := HMP.out; omega
         have hkbj : ∀ w, Below wr.heap.size wr w → Calls Tryz.prog 125 #[kv K, .slice Av 8 cv, .slice (some ⟨bp, I, none⟩) sz (c - I)] w fun en w' => ∃ A c, en = .returned (.slice A 8 c) ∧ OwnF w' w.heap.size 33 A c 8 (vv (sums K.toKs P (j + 1))) ∧ Below w.heap.size w w' := fun w hS => by
          have h1 := KB.out Av (some ⟨bp, I, none⟩) cv (c - I) (sums K.toKs P j) ((P.drop I).take sz) (by rw [hbl]; exact HSZ.out) (HSL.out j) w
           (((hkr.keep (hb3.mono hBr)).keep (hS.mono (Nat.le_trans hBr hb3.size))).mono (Nat.le_trans hBr (Nat.le_trans hb3.size hS.size))) (hv.next hS)
           (by
            have h2 := Rd.sub (i := I) (n := sz) hpr (by have := HMP.out; omega)
            rw [Nat.zero_add] at h2
            exact ((h2.keep hb3).keep (hS.mono hb3.size)).mono (Nat.le_trans hb3.size hS.size))
          rw [hbl] at h1
          rw [HSS.out, ← hI]
          exact h1
         have KBJ := Lib.hid hkbj
         have hI1 : E = (j + 1) * sz := by rw [Nat.succ_mul, ← hI, hE]
         have HI1 := Lib.hid hI1
         have HEI := Lib.hid (show I < E by omega)
         have HEM := Lib.hid (show E ≤ M by omega)
         clear hkbj hM2 hIs hE hbl hI1 hI
         go_upto_region 17 with fail
         refine wp_region_inv 9 [69, 70, 71, 72, 73, 74, 75, 76, 77] [.val (kv K), .val (.slice Av 8 cv), .val (.slice (some ⟨bp, 0, none⟩) M c), .val (.int .i64 (I : Int)), .val (.int .i64 (I : Int)), .val (.int .i64 (sz : Int)), .val (.int .i64 (E : Int)), .val (.slice (some ⟨bp, I, none⟩) sz (c - I)), .row 8 (vv (sums K.toKs P (j + 1)))] (fun wz => Below wr.heap.size wr wz) (by kernel_rfl) (by kernel_rfl) (fun wz wz' hz hb => bnx hz hb) ((Below.refl _ _).drew) (fun u => by simp only [puts, List.foldl_cons, List.foldl_nil]; go_simp; exact rfl) ?_ ?_
         ·simp only [List.take_succ_cons, List.take_zero]
          refine .cons (fun u w hS hd => ?_) ?_
          ·exact Gv.run (kv K) rfl (run_kload rfl rfl (okr3.keep hS)) rfl
          refine .cons (fun u w hS hd => ?_) ?_
          ·exact Gv.run (.slice Av 8 cv) rfl (by go_simp) rfl
          refine .cons (fun u w hS hd => ?_) ?_
          ·exact Gv.run (.slice (some ⟨bp, 0, none⟩) M c) rfl (by go_simp) rfl
          refine .cons (fun u w hS hd => ?_) ?_
          ·exact Gv.run (.int .i64 (I : Int)) rfl (by go_simp) rfl
          refine .cons (fun u w hS hd => ?_) ?_
          ·exact Gv.run (.int .i64 (I : Int)) rfl (by go_simp) rfl
          refine .cons (fun u w hS hd => ?_) ?_
          ·exact Gv.run (.int .i64 (sz : Int)) rfl (by go_simp) rfl
          refine .cons (fun u w hS hd => ?_) ?_
          ·have d73 : u 73 = .int .i64 (I : Int) := dep hd 4 rfl
           have d74 : u 74 = .int .i64 (sz : Int) := dep hd 5 rfl
           rw [d73, d74]
           exact Gv.run (.int .i64 (E : Int)) rfl (by go_simp) rfl
          refine .cons (fun u w hS hd => ?_) ?_
          ·have d71 : u 71 = .slice (some ⟨bp, 0, none⟩) M c := dep hd 2 rfl
           have d72 : u 72 = .int .i64 (I : Int) := dep hd 3 rfl
           have d75 : u 75 = .int .i64 (E : Int) := dep hd 6 rfl
           rw [d71, d72, d75]
           exact Gv.run (.slice (some ⟨bp, I, none⟩) sz (c - I)) rfl (by go_simp) rfl
          refine .cons (fun u w hS hd => ?_) ?_
          ·have d69 : u 69 = kv K := dep hd 0 rfl
           have d70 : u 70 = .slice Av 8 cv := dep hd 1 rfl
           have d76 : u 76 = .slice (some ⟨bp, I, none⟩) sz (c - I) := dep hd 7 rfl
           rw [d69, d70, d76]
           refine Gv.call 125 #[kv K, .slice Av 8 cv, .slice (some ⟨bp, I, none⟩) sz (c - I)] rfl (by go_simp) ((KBJ.out w hS).mono ?_)
           rintro e w' ⟨A7, c7, rfl, ho7, hb7⟩
           exact ⟨_, rfl, ⟨A7, c7, rfl, ho7.rd⟩, hb7⟩
          exact Obs.nil
         intro u wz hS hd
         obtain ⟨A7, c7, d77, r77⟩ : ∃ A c, u 77 = .slice A 8 c ∧ RdF wz wz.heap.size A c 8 (vv (sums K.toKs P (j + 1))) := hd 8 (by decide)
         rw [d77]
         clear hd d77 KBJ
         have hbz := bnx hb3 hS
         simp only [List.drop_succ_cons, List.drop_zero]
         go_wp2_with fail
         exact ⟨⟨j + 1, E, by omega, HI1.out, rfl, ⟨A7, c7, rfl, r77⟩, hbz⟩, by have h1 := HEI.out; have h2 := HEM.out; simp [intOf]; omega⟩
        ·obtain rfl : j = nb := by omega
         have hIM : I = M := by rw [hI, HMB.out]
         have g1 : ¬ (I : Int) < (M : Int) := by omega
         clear hIM hI
         obtain ⟨V, hV⟩ : ∃ V, V = sums K.toKs P j := ⟨_, rfl⟩
         have hVl := HSL.out j
         rw [← hV] at hv hVl
         have HV := Lib.hid hV
         have HVL := Lib.hid hVl
         clear hV hVl okr2 KB HSS
         have cbr3 := okr3.bits
         rw [← HBT.out] at cbr3
         obtain ⟨bv, ov, rfl, _, _⟩ := hv.at_ (k := 0) (by decide)
         obtain ⟨s8, hs8⟩ : ∃ s, s = K.bits / 8 := ⟨_, rfl⟩
         have hbs8 : bt = 8 * s8 := by rw [hs8, ← HBT.out]; omega
         have hs8l : 0 < s8 ∧ s8 ≤ 8 := by omega
         have hout : ∀ i k, k < s8 → (outB K.toKs V (i * s8 + k)).toNat = V i / 2 ^ (bt - 8 - 8 * k) % 256 := fun i k hk => by
          rw [outB_nat, ← hs8, ← HBT.out, Nat.mul_comm i s8, Nat.mul_add_div hs8l.1, Nat.div_eq_of_lt hk, Nat.add_zero, Nat.mul_add_mod, Nat.mod_eq_of_lt hk]
         have HOUT := Lib.hid hout
         have HB8 := Lib.hid hbs8
         have hvb : ∀ i, V i < 18446744073709551616 := fun i => lt64 hK.bits (HVL.out i)
         have HVB := Lib.hid hvb
         have gb8 : IntKind.i64.wrap ((bt : Int) - 8) = (bt : Int) - 8 := by rw [IntKind.wrap_i64]; omega
         clear hout hs8 hvb hbs8
         have hwr : w.heap.size ≤ wr.heap.size := Nat.le_trans hwv (Nat.le_trans hb.size hb3.size)
         have hcw := (hc.trans (hb.mono hwv)).trans (hb3.mono (Nat.le_trans hwv hb.size))
         go_wp2_with fail
         obtain ⟨v4, e4⟩ : ∃ v, v = wr := ⟨_, rfl⟩
         subst e4
         go_loopw [11, 12] (fun p i wr => ∃ n N : Nat, n ≤ 8 ∧ N = n * s8 ∧ i = .int .i64 (n : Int) ∧ (∃ A c, p = .slice A N c ∧ Own wr v4.heap.size 5 A c (gen (outB K.toKs V) N)) ∧ Below v4.heap.size v4 wr)
          (fun _ i _ => 8 - (intOf i).toNat)
         case atStart => exact ⟨0, 0, by omega, by omega, rfl, ⟨none, 0, rfl, by rw [gen_none]; exact World.ownsRow_nil _ _ _ _⟩, Below.refl _ _⟩
         case round =>
          obtain ⟨n, N, hn8, hN, rfl, ⟨A9, c9, rfl, o9⟩, hb9⟩ := hrel
          have okr9 := okr3.keep hb9
          have cbr9 := okr9.bits
          rw [← HBT.out] at cbr9
          by_cases hn : n < 8
          ·have g1 : (n : Int) < 8 := by omega
           have HN := Lib.hid hN
           have hNb : N ≤ 64 := by have : n * s8 ≤ 7 * 8 := Nat.mul_le_mul (by omega) hs8l.2; omega
           clear hN
           go_wp2_with fail
           obtain ⟨v5, e5⟩ : ∃ v, v = wr := ⟨_, rfl⟩
           subst e5
           go_loopw [11, 13] (fun p i wr => ∃ k M9 : Nat, k ≤ s8 ∧ M9 = N + k ∧ i = .int .i64 ((bt : Int) - 8 - 8 * (k : Int)) ∧ (∃ A c, p = .slice A M9 c ∧ Own wr v4.heap.size 5 A c (gen (outB K.toKs V) M9)) ∧ Below v4.heap.size v4 wr)
            (fun _ i _ => (intOf i + 8).toNat)
           case atStart => exact ⟨0, N, by omega, by omega, by simp, ⟨A9, c9, rfl, o9⟩, hb9⟩
           case round =>
            clear o9 hb9 okr9 cbr9
            obtain ⟨k, M9, hk8, hM9, rfl, ⟨A9, c9, rfl, o9⟩, hb9⟩ := hrel
            have hB8 := HB8.out
            by_cases hks : k < s8
            ·obtain ⟨nn, hnn⟩ : ∃ x, x = bt - 8 - 8 * k := ⟨_, rfl⟩
             have gnn : (bt : Int) - 8 - 8 * (k : Int) = (nn : Int) := by omega
             have gnx : (bt : Int) - 8 - 8 * ((k + 1 : Nat) : Int) = (nn : Int) - 8 := by omega
             have hob := HOUT.out n k hks
             rw [← HN.out, ← hM9, ← hnn] at hob
             rw [gnn]
             have g2 : (0 : Int) ≤ (nn : Int) := by omega
             have gn8 : IntKind.i64.wrap ((nn : Int) - 8) = (nn : Int) - 8 := by rw [IntKind.wrap_i64]; omega
             have cv9 : wr.cell? ⟨bv, ov + n, none⟩ = some (.int .u64 ((V n : Nat) : Int)) := by
              obtain ⟨b2, o2, e2, hb2, c2⟩ := (hv.keep hb9).at_ (k := n) hn
              simp only [Option.some.injEq, Addr.mk.injEq] at e2
              obtain ⟨rfl, rfl, _⟩ := e2
              exact c2
             have KS := Lib.hid (fun w => shift_any (x := V n) (n := nn) (HVB.out n) (by omega) w)
             rw [← sh2_is] at hob
             have hvn := HVB.out n
             have hzl2 := sh2_le (V n) nn
             generalize V n = vn at *
             generalize sh2 vn nn = zz at *
             have gt1 : (zz : Int).tmod 256 = ((zz % 256 : Nat) : Int) := by rw [Int.tmod_eq_emod_of_nonneg (by omega)]; omega
             have gt2 : (zz : Int) % 256 = ((zz % 256 : Nat) : Int) := by omega
             have gt3 : IntKind.u8.wrap ((zz % 256 : Nat) : Int) = ((zz % 256 : Nat) : Int) := by rw [IntKind.wrap_u8]; omega
             have gt4 : IntKind.u64.wrap ((zz % 256 : Nat) : Int) = ((zz % 256 : Nat) : Int) := by rw [IntKind.wrap_u64]; omega
             have hzi : ((zz % 256 : Nat) : Int) = ((outB K.toKs V M9).toNat : Int) := by rw [hob]
             generalize zz % 256 = zb at *
             have HZB := Lib.hid hzi
             have HM9 := Lib.hid hM9
             have hMb9 : M9 ≤ 72 := by omega
             clear hob hzi hnn hzl2 hvn hM9 hB8 gnn
             go_wp2_with fail
             go_at_call 124
             refine (KS.out _).mono ?_
             rintro en w9 ⟨rfl, rfl⟩
             go_wp2_with (at_builtin; refine wpList_app1 _ rfl (.tmp 89) (.tmp 98) _ rfl v4.heap.size 5 i0 _ Tryz.underlying22 hi hz0 hz1 hz2 rfl rfl (gen_length _ _).symm o9 rfl (outB K.toKs V M9) HZB.out (by omega) hb9.size ?_; intro A2 c2 v2 ho2 hb2)
             rw [gen_add _ _ _ rfl] at ho2
             exact ⟨⟨k + 1, M9 + 1, by omega, by have := HM9.out; omega, by rw [gnx], ⟨A2, c2, rfl, ho2⟩, hb9.trans hb2⟩, by simp [intOf]; omega⟩
            ·obtain rfl : k = s8 := by omega
             have g2 : ¬ (0 : Int) ≤ (bt : Int) - 8 - 8 * (k : Int) := by omega
             have hM9' : M9 = (n + 1) * k := by rw [hM9, HN.out, Nat.succ_mul]
             have HM9 := Lib.hid hM9'
             clear hM9 hM9' hB8
             go_wp2_with fail
             go_roundw
             case rel => exact ⟨n + 1, M9, by omega, HM9.out, by go_num, ⟨A9, c9, rfl, o9⟩, hb9⟩
             case measure => simp [intOf]; omega
          ·obtain rfl : n = 8 := by omega
           have g1 : ¬ ((8 : Nat) : Int) < 8 := by decide
           have hNb : N = bt := by rw [hN, HB8.out]
           subst hNb
           simp only [Int.cast_ofNat_Int]
           clear hN
           go_wp2_with fail
           go_ret
           exact ⟨A9, c9, rfl, by rw [← HNB.out, ← HV.out]; exact o9.mono hwr, hcw.trans (hb9.mono hwr)⟩
  ·have hm0 : mm ≠ 0 := fun h => hnz (hzn.1 h)
   have gm1 : ((mm : Int) == 0) = false := by simp; omega
   have gm2 : ((mm : Int) != 0) = true := by simp; omega
   clear hzn
   have hm0' := Lib.hid hm0
   clear hm0
   go_wp2_with (at_builtin; refine wpList_app1 _ rfl (.tmp 31) (.tmp 32) _ rfl v0.heap.size 5 i0 _ Tryz.underlying22 hi hz0 hz1 hz2 rfl rfl HLn.out ho rfl 0 rfl (by omega) hb.size ?_; intro A2 c2 v2 ho2 hb2)
   rw [HPS.out] at ho2
   exact ⟨⟨n + 1, L + 1, by omega, by have := HLL.out; omega, ⟨A2, c2, rfl, ho2⟩, hb.trans hb2⟩, by have := HLL.out; simp [klenOf]; omega⟩
end Go.Proofs.YtkbkalhcdbklkaaGreatDoor
