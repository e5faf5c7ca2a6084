/-
  Layer 10's code: Xor of what may be. By an AI agent.
-/
import Derived.Test.YtmhfkabpfkoocaaDoorY13
namespace Go.Proofs.YtmhfkabpfkoocaaDoor
open Go Go.RowKit
set_option maxRecDepth 20000
theorem blk_cell {key nonce : List UInt8} {ctr k : Nat} (h : k < 64) : obf (blF (up1 (stN key nonce 0) 12 ctr)) k = .int .u8 ((nth (blkB key nonce ctr) k : Nat) : Int) := by
  rw [← blkB_is, nth_gen h]; rfl
theorem xv_nat (key nonce : List UInt8) (ctr : Nat) (bs : List UInt8) (k : Nat) : ∃ z : Nat, xrv key nonce ctr bs k = .int .u8 (z : Int) ∧ z = (xrb key nonce ctr bs k).toNat := ⟨_, rfl, rfl⟩
section
attribute [local irreducible] wle stN rl setA blkB obf blF xrv xpf
set_option maxHeartbeats 6400000 in
theorem Xor_any {key nonce bs : List UInt8} {ctr : Nat} (hk : key.length = 32) (hn : nonce.length = 12) (hctr : ctr < 4294967296) (hbk : nblk bs.length ≤ 4294967296 - ctr) (hl : bs.length ≤ 1000000000) {A0 A1 A2 : Option Addr} {B k0 k1 c2 : Nat} (w : World)
    (r0 : Rd w B A0 k0 key) (r1 : Rd w B A1 k1 nonce) (r2 : Rd w B A2 c2 bs) (hB : B ≤ w.heap.size) :
    Calls Tryd.prog 16 #[.slice A0 32 k0, .slice A1 12 k1, .int .u32 (ctr : Int), .slice A2 bs.length c2] w fun e w' => ∃ A c, e = .returned (.tuple #[.slice A bs.length c, .int .i64 0]) ∧ Rd w' w'.heap.size A c (xrN key nonce ctr bs) ∧ Below w.heap.size w w' := by
  have KB := Lib.hid (begin_any hk hn w r0 r1 hB)
  obtain ⟨i1, ji, jz0, jz1, jz2⟩ := info_parts infoU8y
  have HBK := Lib.hid (fun k (h : k < bs.length) => nblk_le (n := bs.length) hbk h)
  obtain ⟨l64, l63, room, q1, q2, q3, q4, q5, q6, q7, q8⟩ := room_nums hl hctr
  generalize nblk bs.length = nb at *
  have q9 : ¬ (room : Int) < (nb : Int) := by omega
  have HBC := Lib.hid (fun c k (h : k < 64) => blk_cell (key := key) (nonce := nonce) (ctr := c) h)
  have hsl := stN_lt (key := key) (nonce := nonce) (ctr := 0) (by decide)
  have HXR := Lib.hid (show xrN key nonce ctr bs = gen (xrb key nonce ctr bs) bs.length from rfl)
  clear hk hn hbk q8 r0 r1
  obtain ⟨s, es⟩ : ∃ s, s = stN key nonce 0 := ⟨_, rfl⟩
  rw [← es] at KB HBC hsl
  have HS := Lib.hid hsl
  clear es hsl
  obtain ⟨L, hL⟩ : ∃ L, L = bs.length := ⟨_, rfl⟩
  rw [← hL] at q1 q2 HBK HXR hl ⊢
  have hmk := run_mk (P := Tryd.prog) 22 5 i1 Tryd.underlying22 ji jz0 jz1 jz2 (l := (L : Int)) (n := L) rfl (by omega)
  have HL := Lib.hid hL
  clear hL
  go_enter Tryd.func16, Tryd.ntmps16
  go_wp2_with fail
  go_at_call 26
  refine KB.out.mono ?_
  rintro e v1 ⟨rfl, hc⟩
  have o1 := OwnF.lit (w := v1) (B := w.heap.size) 43 hc.size ZC16 16 (fun _ => .int .u32 0) (by decide) (by kernel_rfl)
  have h2 := (Below.refl v1.heap.size v1).alloc (Nat.le_refl _) (.cells ZC16 43)
  have h3 := (av_only (v1.alloc (.cells ZC16 43)) v1.heap.size 0 16 (wvf s)).below (Nat.le_refl _)
  have HO := Lib.hid (And.intro (hc.trans ((h2.trans h3).mono hc.size)) (av_all o1 (wvf s)))
  clear h2 h3 hc KB
  go_upto_region 2 with ((with_reducible refine av_store (off := 0) o1 ty16s (by decide) (wvf s) (fun k _ => wvf_one _ k) ?_ ?_ ?_); rfl; rfl)
  obtain ⟨hc, os⟩ := HO.out
  obtain ⟨v2, e2⟩ : ∃ v, v = setA (v1.alloc (.cells ZC16 43)) v1.heap.size 0 16 (wvf s) := ⟨_, rfl⟩
  obtain ⟨gS, eg⟩ : ∃ g, g = v1.heap.size := ⟨_, rfl⟩
  rw [← e2] at hc os ⊢
  rw [← eg] at os
  rw [show (Value.pointer (some ⟨v1.heap.size, 0, none⟩)) = .pointer (some ⟨gS, 0, none⟩) by rw [eg]]
  clear HO e2 eg o1
  go_upto_region 7 with fail
  clear q1 q2 q3 q4 q5 q6 q7 q9
  -- the row that is to be answered
  have om := Own.made (w := v2) (B := w.heap.size) 5 (n := L) hc.size (by simp only [maxLen]; omega)
  have h2 := (Below.refl v2.heap.size v2).alloc (Nat.le_refl _) (.cells (madeCells #[.int .u8 0] L) 5)
  have oz : OwnF (v2.alloc (.cells (madeCells #[.int .u8 0] L) 5)) w.heap.size 5 (some ⟨v2.heap.size, 0, none⟩) L L (fun _ => .int .u8 0) := OwnF.made 5 (.int .u8 0) hc.size (by simp only [maxLen]; omega)
  clear om
  have hr2 := r2.keep ((hc.mono hB).trans (h2.mono (Nat.le_trans hB hc.size)))
  have hgs := Lib.hid (show v2.heap.size ≠ gS by have := OwnF.lt os; omega)
  replace os := OwnF.keep os h2
  replace hc := hc.trans (h2.mono hc.size)
  clear h2
  go_upto_region 8 with fail
  obtain ⟨v3, e3⟩ : ∃ v, v = v2.alloc (.cells (madeCells #[.int .u8 0] L) 5) := ⟨_, rfl⟩
  obtain ⟨gO, eO⟩ : ∃ g, g = v2.heap.size := ⟨_, rfl⟩
  rw [← e3] at oz hr2 os hc ⊢
  rw [← eO] at oz hgs
  rw [show (Value.slice (some ⟨v2.heap.size, 0, none⟩) L L) = .slice (some ⟨gO, 0, none⟩) L L by rw [eO]]
  clear e3 eO hmk
  have oc := av_all oz (bvf bs)
  have on := av_only v3 gO 0 L (bvf bs)
  have hcp := fun (ops : Array Oper) (rest2 : List Oper) (a : Act) (Q : Exit → Act → World → Prop) (d s : Operand) (dst : Option Nat) (tp : TypeId) (ps : String) (af : Array Edge) => copy_to (ops := ops) (rest := rest2) (a := a) (Q := Q) (d := d) (s := s) (dst := dst) (tp := tp) (ps := ps) (af := af) (off := 0) (dl := L) (dc := L) (m := L) oz hr2 (by rw [HL.out]; exact (Nat.min_self _).symm) (by omega)
  rw [← HL.out] at hcp
  have HCP := Lib.hid hcp
  clear hcp hr2 r2
  go_upto_region 9 with ((refine HCP.out _ _ _ _ _ _ _ _ _ _ ?_ ?_ ?_); rfl; rfl)
  obtain ⟨v4, e4⟩ : ∃ v, v = setA v3 gO 0 L (bvf bs) := ⟨_, rfl⟩
  rw [← e4] at oc on ⊢
  replace os := OwnF.only os on hgs.out
  have HGO := Lib.hid (OwnF.ge oz)
  replace hc := hc.trans (on.below HGO.out)
  clear e4 on HCP oz
  replace oc := OwnF.congr oc fun k _ => xpf_zero key nonce ctr bs k
  go_wp2_with fail
  go_loopw [14, 2, 15, 16, 17, 57] (fun r c _ _ _ _ wr => ∃ j P : Nat, (∃ A : Option Addr, r = .slice A (L - P) (L - P) ∧ (P < L → A = some ⟨gO, P, none⟩)) ∧ P ≤ L ∧ (P < L → P = 64 * j) ∧ c = .int .u32 ((ctr + j : Nat) % 4294967296 : Int) ∧ OSt wr w.heap.size gS s ∧ OwnF wr w.heap.size 5 (some ⟨gO, 0, none⟩) L L (xpf key nonce ctr bs P) ∧ Below w.heap.size w wr)
    (fun r _ _ _ _ _ _ => match r with | .slice _ n _ => n | _ => 0)
  case atStart => exact ⟨0, 0, ⟨_, rfl, fun _ => rfl⟩, by omega, by omega, by simp only [Value.int.injEq, true_and]; omega, os, oc, hc⟩
  case round =>
    clear os oc hc
    obtain ⟨j, P, ⟨A, rfl, hA⟩, hP, hPj, rfl, os, oc, hc⟩ := hrel
    by_cases hlt : P < L
    · obtain rfl := hA hlt
      have hPj2 := hPj hlt
      clear hA hPj
      have hj := HBK.out P hlt
      rw [show P / 64 = j by omega] at hj
      obtain ⟨cj, ecj⟩ : ∃ c, c = ctr + j := ⟨_, rfl⟩
      have e0 : ((ctr + j : Nat) : Int) % 4294967296 = (cj : Int) := by omega
      rw [e0]
      obtain ⟨R, eR⟩ : ∃ R, R = L - P := ⟨_, rfl⟩
      rw [← eR]
      obtain ⟨n, en⟩ : ∃ n, n = min R 64 := ⟨_, rfl⟩
      have g1 : (0 : Int) < (R : Int) := by omega
      have g2 : (if (64 : Int) < (R : Int) then (64 : Int) else (R : Int)) = (n : Int) := by split <;> omega
      have hcl := Lib.hid (OwnF.cl os (off := 0) (n := 16) (f' := wvf s) (by decide) fun k _ => by rw [Nat.zero_add])
      have HK := Lib.hid (And.intro en (And.intro eR (And.intro ecj hPj2)))
      have HC := Lib.hid (And.intro hlt hP)
      rw [← ecj] at hj
      clear en eR ecj hPj2 e0 hlt hP
      go_upto_region 13 with fail
      clear g1 g2
      go_wp2_with ((with_reducible refine av_load hcl.out ty16s ?_ ?_); rfl)
      go_at_call 27
      refine (cblock_any HS.out hj _).mono ?_
      rintro e v5 ⟨rfl, h0⟩
      clear hcl
      replace os := OwnF.keep os h0
      replace oc := OwnF.keep oc h0
      replace hc := hc.trans (h0.mono hc.size)
      clear h0
      have hbc : ∀ k, k < 64 → obf (blF (up1 s 12 cj)) k = .int .u8 ((nth (blkB key nonce cj) k : Nat) : Int) := fun k h => HBC.out cj k h
      obtain ⟨F, eF⟩ : ∃ F, F = obf (blF (up1 s 12 cj)) := ⟨_, rfl⟩
      rw [← eF] at hbc ⊢
      have hF1 : ∀ k, (F k).oneCell' = true := fun k => by rw [eF]; exact obf_one _ k
      clear eF
      have o1 := OwnF.lit (w := v5) (B := w.heap.size) 46 hc.size ZC64 64 (fun _ => .int .u8 0) (by decide) (by kernel_rfl)
      have h2 := (Below.refl v5.heap.size v5).alloc (Nat.le_refl _) (.cells ZC64 46)
      have h3 := (av_only (v5.alloc (.cells ZC64 46)) v5.heap.size 0 64 F).below (Nat.le_refl _)
      have HO := Lib.hid (And.intro (h2.trans h3) (av_all o1 F))
      clear h2 h3
      go_upto_region 14 with ((with_reducible refine av_store (off := 0) o1 ty64b (by decide) F (fun k _ => hF1 k) ?_ ?_ ?_); rfl; rfl)
      obtain ⟨h2, ob⟩ := HO.out
      obtain ⟨v6, e6⟩ : ∃ v, v = setA (v5.alloc (.cells ZC64 46)) v5.heap.size 0 64 F := ⟨_, rfl⟩
      obtain ⟨gX, eX⟩ : ∃ g, g = v5.heap.size := ⟨_, rfl⟩
      have hgx := Lib.hid (show gO ≠ gX by have := OwnF.blk oc _ rfl; simp only at this; omega)
      rw [← e6] at h2 ob ⊢
      rw [← eX] at ob
      rw [show (Value.pointer (some ⟨v5.heap.size, 0, none⟩)) = .pointer (some ⟨gX, 0, none⟩) by rw [eX]]
      replace os := OwnF.keep os h2
      replace oc := OwnF.keep oc h2
      replace hc := hc.trans (h2.mono hc.size)
      clear HO e6 eX o1 h2 hF1
      have HBB := Lib.hid hbc
      clear hbc
      go_wp2_with fail
      go_loopw [57, 17] (fun i _ wi => ∃ t : Nat, t ≤ n ∧ i = .int .i64 (t : Int) ∧ OSt wi w.heap.size gS s ∧ OwnF wi w.heap.size 5 (some ⟨gO, 0, none⟩) L L (xpf key nonce ctr bs (P + t)) ∧ OwnF wi w.heap.size 46 (some ⟨gX, 0, none⟩) 64 64 F ∧ Below w.heap.size w wi)
        (fun i _ _ => n - (intOf i).toNat)
      case atStart => exact ⟨0, Nat.zero_le _, rfl, os, oc, ob, hc⟩
      case round =>
        clear os oc ob hc
        obtain ⟨t, ht, rfl, os, oc, ob, hc⟩ := hrel
        obtain ⟨en, eR, ecj, hPj2⟩ := HK.out
        obtain ⟨hlt, hP⟩ := HC.out
        by_cases hlt2 : t < n
        · have g1 : (t : Int) < (n : Int) := by omega
          have g2 : (0 : Int) ≤ (t : Int) := by omega
          have g3 : (t : Int) < (R : Int) := by omega
          have g4 : (t : Int) < 64 := by omega
          have cO : wr.cell? ⟨gO, P + t, none⟩ = some (.int .u8 ((nth bs (P + t) : Nat) : Int)) := by rw [OwnF.cell oc (k := P + t) (by omega), xpf_at]
          have fO := OwnF.free oc (P + t)
          have cX : wr.cell? ⟨gX, t, none⟩ = some (.int .u8 ((nth (blkB key nonce cj) t : Nat) : Int)) := by rw [OwnF.cell ob (k := t) (by omega), HBB.out t (by omega)]
          obtain ⟨z, hz, hz2⟩ := xv_nat key nonce ctr bs (P + t)
          have hx := xrb_val (key := key) (nonce := nonce) (bs := bs) (ctr := ctr) (i := P + t) (x := nth bs (P + t)) (y := nth (blkB key nonce cj) t) rfl (by
            unfold ksN
            rw [show ctr + (P + t) / 64 = cj by omega, show (P + t) % 64 = t by omega])
          rw [← hz2] at hx
          generalize nth bs (P + t) = x at *
          generalize nth (blkB key nonce cj) t = y at *
          have hset := OwnF.congr (g := xpf key nonce ctr bs (P + t + 1)) (OwnF.set_ oc (P + t) (.int .u8 (z : Int))) fun k _ => by rw [← hz]; exact xpf_step key nonce ctr bs (P + t) k
          have on := Only.setCell wr ⟨gO, P + t, none⟩ (.int .u8 (z : Int))
          have HH := Lib.hid (And.intro (OwnF.only os on hgs.out) (And.intro hset (And.intro (OwnF.only ob on hgx.out) (hc.trans (on.below HGO.out)))))
          have ht4 : (t : Int) ≤ 64 := by omega
          clear os oc ob hc hset on hz hz2 en eR ecj hPj2 hlt hP
          go_upto_region 17 with fail
          refine wp_region_still_tail 9 (by kernel_rfl) (by kernel_rfl) ?_
          simp only [List.take_succ_cons, List.take_zero, List.drop_succ_cons, List.drop_zero]
          repeat still_step
          refine wpStill_nil ?_
          change wpList _ _ _ _ _ wr.drew
          go_wp2_with fail
          obtain ⟨os, oc, ob, hc⟩ := HH.out
          exact ⟨⟨t + 1, hlt2, by go_num, OwnF.drew os, OwnF.drew oc, OwnF.drew ob, hc.drew⟩, by simp [intOf]; omega⟩
        · obtain rfl : t = n := by omega
          have g1 : ¬ (t : Int) < (t : Int) := by omega
          have HH := Lib.hid (And.intro os (And.intro oc hc))
          have htR := Lib.hid (show t ≤ R by omega)
          clear os oc ob hc en eR ecj hPj2 hlt hP
          go_wp2_with ((with_reducible refine slice_arm_lo (l := t) ?_ ?_ ?_ ?_); rfl; rfl; exact htR.out)
          obtain ⟨os, oc, hc⟩ := HH.out
          obtain ⟨en, eR, ecj, hPj2⟩ := HK.out
          obtain ⟨hlt, hP⟩ := HC.out
          have hle := htR.out
          refine ⟨⟨j + 1, P + t, ⟨_, by rw [show R - t = L - (P + t) by omega], fun h => ?_⟩, by omega, fun h => by omega, ?_, os, oc, hc⟩, ?_⟩
          · rw [if_neg (by omega)]
          · simp only [Value.int.injEq, true_and]; omega
          · show R - t < R
            omega
    · obtain rfl : P = L := by omega
      have g1 : ¬ (0 : Int) < ((P - P : Nat) : Int) := by omega
      have hX := OwnF.congr (g := xrv key nonce ctr bs) oc fun k hk => xpf_full key nonce ctr bs hk
      have HH := Lib.hid (And.intro (own_genX hX).rd hc)
      clear os oc hc hX
      go_wp2_with fail
      go_returns
      refine ⟨_, _, rfl, ?_, HH.out.2⟩
      rw [HXR.out]
      exact HH.out.1
end
end Go.Proofs.YtmhfkabpfkoocaaDoor
