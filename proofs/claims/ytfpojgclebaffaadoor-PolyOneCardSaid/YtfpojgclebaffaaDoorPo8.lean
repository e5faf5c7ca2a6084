/-
  Layer 11's code: Tag. Written by tools/gen_po8.py. By an AI agent.
-/
import Derived.Test.YtfpojgclebaffaaDoorPo3
import Derived.Test.YtfpojgclebaffaaDoorPo4
import Derived.Test.YtfpojgclebaffaaDoorPo7
namespace Go.Proofs.YtfpojgclebaffaaDoor
open Go Go.RowKit
set_option maxRecDepth 20000
theorem ctag_bad {A0 A1 : Option Addr} {n m c0 c1 : Nat} (hn : n ≠ 32) (w : World) :
    Calls Tryd.prog 11 #[.slice A0 n c0, .slice A1 m c1] w fun e w' => e = .returned (.tuple #[.slice none 0 0, .int .i64 1]) ∧ Below w.heap.size w w' := by
  have g2 : ((n : Int) != 32) = true := by simp; omega
  go_enter Tryd.func11, Tryd.ntmps11
  go_wp2_with fail
  go_returns
  exact ⟨rfl, Below.refl _ _⟩
theorem cut_r_lt (bs : List UInt8) : vb (cutL bs) < 21267647932558653966460912964485513216 := by
  have h15 : nth (cutL bs) 15 < 16 := by rw [cutL_nth bs (by decide)]; unfold cutn; rw [if_pos (by decide)]; omega
  have h : vb (cutL bs) = vk (cutL bs) 15 + 256 ^ 15 * nth (cutL bs) 15 := by
    unfold vb
    rw [cutL_len, show (16 : Nat) = 15 + 1 from rfl, vk, Nat.mul_comm]
  have h2 := vk_lt (cutL bs) 15
  rw [h]
  simp only [Nat.reducePow] at *
  omega
theorem pnum_129 (bs : List UInt8) (k : Nat) : pnum bs k < 680564733841876926926749214863536422912 := by
  have hl := blkL_le bs k
  have e : pnum bs k = vk (blkL bs k ++ [1]) (blkL bs k).length + 256 ^ (blkL bs k).length * 1 := by
    unfold pnum vb
    have hlen : (blkL bs k ++ [1]).length = (blkL bs k).length + 1 := by simp
    rw [hlen, vk, Nat.mul_comm]
    have : nth (blkL bs k ++ [1]) (blkL bs k).length = 1 := by
      unfold nth
      rw [List.getElem?_append_right (Nat.le_refl _), Nat.sub_self]
      rfl
    rw [this]
  have h1 := vk_lt (blkL bs k ++ [1]) (blkL bs k).length
  have h2 : 256 ^ (blkL bs k).length ≤ 256 ^ 16 := Nat.pow_le_pow_right (by decide) hl
  have h3 : (256 : Nat) ^ 16 = 340282366920938463463374607431768211456 := by decide +kernel
  rw [e]
  omega
theorem pa_fold {x r n a : Nat} (h : x % P130 = a) : foldN ((x + n) * r) % P130 = (a + n) * r % P130 := by
  rw [foldN_mod, ← h, Nat.mul_mod, ← Nat.mod_add_mod x, ← Nat.mul_mod]
theorem p130_two : 1701411834604692317316873037158841057280 < 2 * P130 := by decide +kernel
section
attribute [local irreducible] pa pnum cutL P130 vb blkL wd foldN rl setA
set_option maxHeartbeats 6400000 in
theorem ctag_any {key bs : List UInt8} (hk : key.length = 32) {A0 A1 : Option Addr} {k0 c1 : Nat} (w : World) (hG : GlbP w) (r0 : Rd w w.heap.size A0 k0 key) (r1 : Rd w w.heap.size A1 c1 bs) :
    Calls Tryd.prog 11 #[.slice A0 32 k0, .slice A1 bs.length c1] w fun e w' => ∃ A c, e = .returned (.tuple #[.slice A 16 c, .int .i64 0]) ∧ Own w' w.heap.size 5 A c (tagN key bs) ∧ Below w.heap.size w w' := by
  obtain ⟨R, eR⟩ : ∃ R, R = vb (cutL (key.take 16)) := ⟨_, rfl⟩
  obtain ⟨S, eS⟩ : ∃ S, S = vb (key.drop 16) := ⟨_, rfl⟩
  have hT : tagN key bs = gen (bf (pa R bs (nblk16 bs.length) + S)) 16 := by rw [eR, eS]; rfl
  rw [hT]
  have hR := cut_r_lt (key.take 16)
  rw [← eR] at hR
  have hkt : (key.take 16).length = 16 := by rw [List.length_take]; omega
  have hkd : (key.drop 16).length = 16 := by rw [List.length_drop]; omega
  obtain ⟨L, hL⟩ : ∃ L, L = bs.length := ⟨_, rfl⟩
  rw [← hL]
  obtain ⟨nb, enb⟩ : ∃ nb, nb = nblk16 L := ⟨_, rfl⟩
  rw [← enb]
  have HNB := Lib.hid (show 16 * nb < L + 16 ∧ L ≤ 16 * nb by rw [enb]; unfold nblk16; omega)
  have HL := Lib.hid hL
  have HK := Lib.hid hk
  have HR := Lib.hid eR
  have HS := Lib.hid eS
  have HKT := Lib.hid hkt
  have HKD := Lib.hid hkd
  have HRL := Lib.hid hR
  clear hL hk eR eS hT hkt hkd hR enb
  obtain ⟨b0, o0, rfl, hk0, _, rh, rt⟩ := p_half r0 HK.out
  clear r0
  have g16 : 16 ≤ k0 := by omega
  have gne : ¬ k0 = 16 := by omega
  clear hk0
  go_enter Tryd.func11, Tryd.ntmps11
  go_wp2_with fail
  go_at_call 8
  refine (ccut_any HKT.out w hG rh).mono ?_
  rintro e v1 ⟨Ac, cc, rfl, oc, hc⟩
  clear rh hG
  replace rt := rt.keep hc
  replace r1 := r1.keep hc
  go_wp2_with fail
  go_at_call 13
  refine (from_len v1 (cutL_len _) oc.rd (Nat.le_refl _) (by decide)).mono ?_
  rintro e v2 ⟨rfl, h0⟩
  rw [← HR.out]
  replace rt := rt.keep (h0.mono hc.size)
  replace r1 := r1.keep (h0.mono hc.size)
  replace hc := hc.trans (h0.mono hc.size)
  clear oc h0
  have oR := O4.new (w := v2) (B := w.heap.size) hc.size R
  have h0 := (Below.refl _ v2).alloc (Nat.le_refl _) (A4 R)
  replace rt := rt.keep (h0.mono hc.size)
  replace r1 := r1.keep (h0.mono hc.size)
  replace hc := hc.trans (h0.mono hc.size)
  clear h0
  go_upto_region 5 with fail
  obtain ⟨v3, e3⟩ : ∃ v, v = v2.alloc (A4 R) := ⟨_, rfl⟩
  obtain ⟨gR, f3⟩ : ∃ g, g = v2.heap.size := ⟨_, rfl⟩
  rw [← e3] at oR rt r1 hc ⊢
  rw [← f3] at oR ⊢
  clear e3 f3
  go_wp2_with fail
  go_at_call 13
  refine (from_len v3 HKD.out rt hc.size (by decide)).mono ?_
  rintro e v4 ⟨rfl, h0⟩
  rw [← HS.out]
  replace oR := oR.keep h0
  replace r1 := r1.keep (h0.mono hc.size)
  replace hc := hc.trans (h0.mono hc.size)
  clear rt h0 g16 gne
  have hltR := O4.lt oR
  have s1 : (v4.alloc (A4 S)).heap.size = v4.heap.size + 1 := by simp
  have oS := (O4.new (w := v4) (B := w.heap.size) hc.size S).alloc Z4
  replace oR := (oR.alloc (A4 S)).alloc Z4
  have oA : O4 ((v4.alloc (A4 S)).alloc Z4) w.heap.size (v4.alloc (A4 S)).heap.size 0 := O4.zero (own_Z4 (w := v4.alloc (A4 S)) (B := w.heap.size) (by have := hc.size; omega))
  have h0 : Below v4.heap.size v4 ((v4.alloc (A4 S)).alloc Z4) := ((Below.refl _ v4).alloc (Nat.le_refl _) _).alloc (by omega) _
  replace r1 := r1.keep (h0.mono hc.size)
  replace hc := hc.trans (h0.mono hc.size)
  rw [s1] at oA
  clear h0 s1
  go_wp2_with fail
  obtain ⟨v5, e5⟩ : ∃ v, v = (v4.alloc (A4 S)).alloc Z4 := ⟨_, rfl⟩
  obtain ⟨gS, fS⟩ : ∃ g, g = v4.heap.size := ⟨_, rfl⟩
  obtain ⟨gA, fA⟩ : ∃ g, g = v4.heap.size + 1 := ⟨_, rfl⟩
  rw [← e5] at oR oS oA r1 hc ⊢
  rw [← fA] at oA ⊢
  rw [← fS] at oS ⊢
  have nRA := Lib.hid (show gR ≠ gA by omega)
  have nSA := Lib.hid (show gS ≠ gA by omega)
  clear e5 fS fA hltR
  go_loopw [1] (fun v wr => ∃ k x : Nat, k ≤ nb ∧ (∃ A c, v = .slice A (L - 16 * k) c ∧ Rd wr w.heap.size A c (bs.drop (16 * k))) ∧ O4 wr w.heap.size gR R ∧ O4 wr w.heap.size gS S ∧ O4 wr w.heap.size gA x ∧ x % P130 = pa R bs k ∧ x < 1701411834604692317316873037158841057280 ∧ Below w.heap.size w wr)
    (fun v _ => lenOf v)
  case atStart => exact ⟨0, 0, by omega, ⟨_, _, rfl, r1⟩, oR, oS, oA, by rw [pa_zero]; exact Nat.zero_mod _, by decide, hc⟩
  case round =>
    clear oR oS oA r1 hc
    obtain ⟨k, x, hk, ⟨A, c, rfl, rb⟩, oR, oS, oA, hxm, hxl, hc⟩ := hrel
    obtain ⟨q, eq⟩ : ∃ q, q = L - 16 * k := ⟨_, rfl⟩
    rw [← eq]
    by_cases hlt : 0 < q
    · have g1 : (0 : Int) < (q : Int) := by omega
      obtain ⟨n, en⟩ : ∃ n, n = min q 16 := ⟨_, rfl⟩
      have hmin : (if (16 : Int) < (q : Int) then (16 : Int) else (q : Int)) = (n : Int) := by rw [en]; split <;> omega
      have hdl : (bs.drop (16 * k)).length = q := by rw [List.length_drop, ← HL.out]; exact eq.symm
      have hbl : (bs.drop (16 * k)).take n = blkL bs k := by
        unfold blkL
        by_cases h : 16 ≤ q
        · rw [show n = 16 by omega]
        · rw [List.take_of_length_le (by omega), List.take_of_length_le (by omega)]
      have hbll : (blkL bs k).length = n := by rw [← hbl, List.length_take]; omega
      have hb16 := blkL_le bs k
      have KN := Lib.hid (fun wz (hz : Below wr.heap.size wr wz) => show Calls Tryd.prog 15 #[.slice (subA A c 0) n c] wz fun e w' => e = .returned (nv (pnum bs k)) ∧ Below wz.heap.size wz w' by
        have h2 := (rb.keep (hz.mono hc.size)).sub_ (l := 0) (n := n) (by omega)
        rw [List.drop_zero, hbl, Nat.sub_zero] at h2
        have h3 := number_any (by omega) wz (h2.mono (Nat.le_trans hc.size hz.size))
        rw [hbll, pnum_eq] at h3
        exact h3)
      have KS := Lib.hid (fun wz => step_any hxl (pnum_129 bs k) HRL.out wz)
      have hz1 := @pa_fold x R (pnum bs k) _ hxm
      rw [pa_next] at hz1
      have hz2 := foldN_lt (stepN_W4 hxl (pnum_129 bs k) HRL.out).2
      have hcap := rb.cap
      obtain ⟨y, ey⟩ : ∃ y, y = pnum bs k := ⟨_, rfl⟩
      rw [← ey] at KN KS hz1 hz2
      obtain ⟨z, ez⟩ : ∃ z, z = foldN ((x + y) * R) := ⟨_, rfl⟩
      rw [← ez] at KS hz1 hz2
      have HZ1 := Lib.hid hz1
      have HZ2 := Lib.hid hz2
      have HA := Lib.hid (keep4 oA)
      have HB := Lib.hid (keep4 oR)
      have HC := Lib.hid (show n ≤ c by omega)
      have HQ := Lib.hid (show n ≤ q by omega)
      have HX := Lib.hid (show q - n = L - 16 * (k + 1) ∧ k + 1 ≤ nb ∧ q - n < q by have := HNB.out; omega)
      have HDR := Lib.hid (show (bs.drop (16 * k)).drop n = bs.drop (16 * (k + 1)) by
        rw [List.drop_drop]
        by_cases h : 16 ≤ q
        · rw [show 16 * k + n = 16 * (k + 1) by omega]
        · rw [List.drop_eq_nil_of_le (by have := HL.out; omega), List.drop_eq_nil_of_le (by have := HL.out; omega)])
      have HRB := Lib.hid (fun wz (hz : Below w.heap.size wr wz) => (rb.keep hz).drop_ (l := n) (by omega))
      have HO := Lib.hid (And.intro oR (And.intro oS oA))
      clear en hdl hbl hbll hb16 ey ez hz1 hz2 hcap rb oR oS oA hxm hxl eq
      go_upto_region 9 with fail
      refine wp_region_inv 7 [43, 44, 45, 46, 47, 48, 49] [.val (nv x), .val (.slice A q c), .val (.int .i64 (n : Int)), .val (.slice (subA A c 0) n c), .val (nv y), .val (nv R), .val (nv z)] (fun wz => Below wr.heap.size wr wz) (by kernel_rfl) (by kernel_rfl) (fun wz wz' hz hb => hz.trans (hb.mono hz.size)) ((Below.refl _ _).drew) (fun u => by simp only [puts, List.foldl_cons, List.foldl_nil]; go_simp; exact rfl) ?_ ?_
      · simp only [List.take_succ_cons, List.take_zero]
        refine Obs.cons (fun u w hS hd => ?_) ?_
        · exact Gv.run (nv x) rfl (by obtain ⟨k0, k1, k2, k3⟩ := HA.out w hS; go_simp) rfl
        refine Obs.cons (fun u w hS hd => ?_) ?_
        · exact Gv.run (.slice A q c) rfl (by go_simp) rfl
        refine Obs.cons (fun u w hS hd => ?_) ?_
        · exact Gv.run (.int .i64 (n : Int)) rfl (by go_simp) rfl
        refine Obs.cons (fun u w hS hd => ?_) ?_
        · have d44 : u 44 = .slice A q c := dep hd 1 rfl
          have d45 : u 45 = .int .i64 (n : Int) := dep hd 2 rfl
          rw [d44, d45]
          exact Gv.run (.slice (subA A c 0) n c) rfl (p_slice_op_hi rfl rfl rfl HC.out) rfl
        refine Obs.cons (fun u w hS hd => ?_) ?_
        · have d46 : u 46 = .slice (subA A c 0) n c := dep hd 3 rfl
          rw [d46]
          refine Gv.call 15 #[.slice (subA A c 0) n c] rfl (by go_simp) ((KN.out w hS).mono ?_)
          rintro e w' ⟨rfl, hb⟩
          exact ⟨_, rfl, rfl, hb⟩
        refine Obs.cons (fun u w hS hd => ?_) ?_
        · exact Gv.run (nv R) rfl (by obtain ⟨k0, k1, k2, k3⟩ := HB.out w hS; go_simp) rfl
        refine Obs.cons (fun u w hS hd => ?_) ?_
        · have d43 : u 43 = nv x := dep hd 0 rfl
          have d47 : u 47 = nv y := dep hd 4 rfl
          have d48 : u 48 = nv R := dep hd 5 rfl
          rw [d43, d47, d48]
          refine Gv.call 14 #[nv x, nv y, nv R] rfl (by go_simp) ((KS.out w).mono ?_)
          rintro e w' ⟨rfl, hb⟩
          exact ⟨_, rfl, rfl, hb⟩
        exact Obs.nil
      · intro u v2 hS hd
        have d49 : u 49 = nv z := hd 6 (by decide)
        rw [d49]
        obtain ⟨oR, oS, oA⟩ := HO.out
        replace oR := oR.keep hS
        replace oS := oS.keep hS
        replace oA := oA.keep hS
        obtain ⟨a0, a1, a2, a3⟩ := oA.c4
        obtain ⟨f0, f1, f2, f3⟩ := oA.f4
        obtain ⟨wz, ez, oz, hb, _, hoth⟩ := oA.in_ z
        replace oR := hoth _ _ _ nRA.out oR
        replace oS := hoth _ _ _ nSA.out oS
        have hcz := (hc.trans (hS.mono hc.size)).trans hb
        have hrz := HRB.out wz ((hS.mono hc.size).trans hb)
        rw [HDR.out] at hrz
        have HOZ := Lib.hid (And.intro oz (And.intro oR (And.intro oS (And.intro hcz hrz))))
        clear hoth oz oR oS hcz hb hc oA hrz
        simp only [List.drop_succ_cons, List.drop_zero]
        go_wp2_with ((with_reducible refine slice_arm_lo n HQ.out ?_ ?_ ?_); rfl; rfl)
        rw [← ez]
        go_roundw
        case rel => exact ⟨k + 1, z, HX.out.2.1, ⟨_, _, by rw [HX.out.1]; unfold subA; rfl, HOZ.out.2.2.2.2⟩, HOZ.out.2.1, HOZ.out.2.2.1, HOZ.out.1, HZ1.out, HZ2.out, HOZ.out.2.2.2.1⟩
        case measure => have := HX.out.2.2; simp [lenOf]; omega
    · obtain rfl : k = nb := by have := HNB.out; omega
      obtain rfl : q = 0 := by omega
      have KSE := Lib.hid (fun wz => settle_any (Nat.lt_trans hxl p130_two) wz)
      rw [hxm] at KSE
      obtain ⟨a, ea⟩ : ∃ a, a = pa R bs k := ⟨_, rfl⟩
      rw [← ea] at KSE
      have KAD := Lib.hid (fun wz => add_any a S wz)
      generalize cw a S 4 = cy at KAD
      obtain ⟨s, es⟩ : ∃ s, s = a + S := ⟨_, rfl⟩
      rw [← es] at KAD
      have HSR := Lib.hid (show gen (bf (pa R bs k + S)) 16 = gen (bf s) 16 by rw [es, ea])
      have HH := Lib.hid (keep44 oA oS)
      have hs := hc.size
      clear hxm hxl ea es rb oR oS oA eq hlt hk
      go_upto_region 11 with fail
      go_cut [14, 15] from 53 to 59 (fun p14 c15 wx => ∃ g, p14 = .pointer (some ⟨g, 0, none⟩) ∧ O4 wx w.heap.size g s ∧ Below wr.heap.size wr wx)
      case first =>
        obtain ⟨s0, s1, s2, s3, s4, s5, s6, s7⟩ := HH.out wr (Below.refl _ _)
        have hd : Below wr.heap.size wr wr.drew := (Below.refl _ wr).drew
        go_region_held3 (fun wz => wz.cell? ⟨gA, 0, none⟩ = some (.int .u64 (wd x 0 : Int)) ∧ wz.cell? ⟨gA, 1, none⟩ = some (.int .u64 (wd x 1 : Int)) ∧ wz.cell? ⟨gA, 2, none⟩ = some (.int .u64 (wd x 2 : Int)) ∧ wz.cell? ⟨gA, 3, none⟩ = some (.int .u64 (wd x 3 : Int)) ∧ wz.cell? ⟨gS, 0, none⟩ = some (.int .u64 (wd S 0 : Int)) ∧ wz.cell? ⟨gS, 1, none⟩ = some (.int .u64 (wd S 1 : Int)) ∧ wz.cell? ⟨gS, 2, none⟩ = some (.int .u64 (wd S 2 : Int)) ∧ wz.cell? ⟨gS, 3, none⟩ = some (.int .u64 (wd S 3 : Int)))
          (first | exact HH.out _ hd | exact HH.out _ (hd.alloc hd.size _) | exact HH.out _ (by repeat (first | exact hd | (refine Below.setCell ?_ (by first | omega | (simp; done) | (simp; omega)) _) | (refine Below.alloc ?_ (by first | omega | (simp; done) | (simp; omega)) _) | refine Below.drew ?_)))
          (first | (go_at_call 17; (with_reducible refine (KSE.out _).mono ?_); rintro e wp ⟨rfl, h1⟩; (first | (replace ob := ob.keep h1) | (have ob := keepZd h1; have hg := Nat.le_refl wr.heap.size) | (have ob := keepZ h1; have hg := hd.size) | skip); (first | (replace hd := (hd.alloc hd.size Z4).trans (h1.mono (Nat.le_trans hd.size (by simp)))) | (replace hd := hd.trans (h1.mono hd.size))); clear h1) | (go_at_call 16; (with_reducible refine (KAD.out _).mono ?_); rintro e wn ⟨rfl, h1⟩; (first | (replace ob := ob.keep h1) | (have ob := keepZd h1; have hg := Nat.le_refl wr.heap.size) | (have ob := keepZ h1; have hg := hd.size) | skip); (first | (replace hd := (hd.alloc hd.size Z4).trans (h1.mono (Nat.le_trans hd.size (by simp)))) | (replace hd := hd.trans (h1.mono hd.size))); clear h1; (try (obtain ⟨o0, o1, o2, o3⟩ := ob.c4; obtain ⟨q0, q1, q2, q3⟩ := ob.f4))))
        all_goals
          go_wp2_with fail
          go_meet
          first
            | exact ⟨_, rfl, O4.new (Nat.le_trans hs hd.size) s, hd.alloc hd.size _⟩
            | exact ⟨_, rfl, (ob.put s).mono (Nat.le_trans hs hg), hd.trans ((ob.below s).mono hg)⟩
      case rest =>
        obtain ⟨g, rfl, os, hd⟩ := hcut
        replace hc := hc.trans (hd.mono hs)
        obtain ⟨i0, hi, hz0, hz1, hz2⟩ := info_parts infoByte
        have hmk := run_mk (P := Tryd.prog) 22 5 i0 Tryd.underlying22 hi hz0 hz1 hz2 (l := 16) (n := 16) rfl (by decide)
        have om : OwnF (wc.alloc (.cells (madeCells #[.int .u8 0] 16) 5)) w.heap.size 5 (some ⟨wc.heap.size, 0, none⟩) 16 16 (fun _ => .int .u8 0) := OwnF.made 5 (.int .u8 0) hc.size (by decide)
        have h0 : Below wc.heap.size wc (wc.alloc (.cells (madeCells #[.int .u8 0] 16) 5)) := (Below.refl _ wc).alloc (Nat.le_refl _) _
        replace os := os.keep h0
        replace hc := hc.trans (h0.mono hc.size)
        clear h0 hd hs KSE KAD HH
        go_upto_region 13 with fail
        obtain ⟨v6, e6⟩ : ∃ v, v = wc.alloc (.cells (madeCells #[.int .u8 0] 16) 5) := ⟨_, rfl⟩
        obtain ⟨gO, fO⟩ : ∃ g, g = wc.heap.size := ⟨_, rfl⟩
        rw [← e6] at om os hc ⊢
        rw [← fO] at om ⊢
        clear e6 fO hmk
        obtain ⟨d0, d1, d2, d3⟩ := os.c4
        go_wp2_with fail
        go_at_call 18
        refine (bytes_any s v6).mono ?_
        rintro e v7 ⟨A7, c7, rfl, o7, h0⟩
        replace om := om.keep h0
        replace hc := hc.trans (h0.mono hc.size)
        clear h0 d0 d1 d2 d3 os
        have hcp := fun (ops : Array Oper) (rest2 : List Oper) (a : Act) (Q : Exit → Act → World → Prop) (d s : Operand) (dst : Option Nat) (tp : TypeId) (ps : String) (af : Array Edge) => copy_to (ops := ops) (rest := rest2) (a := a) (Q := Q) (d := d) (s := s) (dst := dst) (tp := tp) (ps := ps) (af := af) (off := 0) (dl := 16) (dc := 16) (m := 16) om o7.rd (by rw [gen_length]; rfl) (by decide)
        rw [gen_length] at hcp
        have HCP := Lib.hid hcp
        clear hcp
        have oc := av_put om 0 16 (bvf (gen (bf s) 32))
        have hcz := hc.trans ((av_only v7 gO 0 16 (bvf (gen (bf s) 32))).below (OwnF.ge om))
        have HO := Lib.hid (And.intro oc hcz)
        clear oc hcz om hc
        go_wp2_with ((refine HCP.out _ _ _ _ _ _ _ _ _ _ ?_ ?_ ?_); rfl; rfl)
        go_returns
        refine ⟨_, _, rfl, ?_, HO.out.2⟩
        rw [HSR.out]
        exact p_ofF HO.out.1 (gen_length _ _) fun k hk => by unfold fput bvf; rw [if_pos (by omega), nth_gen (by omega), nth_gen (by omega), Nat.sub_zero]
end
end Go.Proofs.YtfpojgclebaffaaDoor
