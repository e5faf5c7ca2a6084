/-
  Layer 10's code: Block. By an AI agent.
-/
import Derived.Test.YthbogplajbldaaaY11
namespace Go.Proofs.Ythbogplajbldaaa
open Go Go.RowKit
set_option maxRecDepth 20000
theorem up1_st (key nonce : List UInt8) (ctr : Nat) : up1 (stN key nonce 0) 12 ctr = stN key nonce ctr := by
  funext k
  unfold up1 stN
  by_cases h : k = 12
  · subst h; rfl
  · rw [if_neg h]
    by_cases h4 : k < 4
    · rw [if_pos h4, if_pos h4]
    · rw [if_neg h4, if_neg h4]
      by_cases h12 : k < 12
      · rw [if_pos h12, if_pos h12]
      · rw [if_neg h12, if_neg h12, if_neg h, if_neg h]
theorem blkB_is (key nonce : List UInt8) (ctr : Nat) : gen (wby (blF (up1 (stN key nonce 0) 12 ctr))) 64 = blkB key nonce ctr := by
  rw [up1_st]; rfl
section
attribute [local irreducible] wle stN rl setA blkB obf blF
set_option maxHeartbeats 3200000 in
theorem Block_bad {kl nl k0 k1 ctr : Nat} (h : kl ≠ 32 ∨ nl ≠ 12) {A0 A1 : Option Addr} (w : World) :
    Calls Try.prog 12 #[.slice A0 kl k0, .slice A1 nl k1, .int .u32 (ctr : Int)] w fun e w' => e = .returned (.tuple #[.slice none 0 0, .int .i64 1]) ∧ Below w.heap.size w w' := by
  have KB := Lib.hid (begin_bad (k0 := k0) (k1 := k1) h (A0 := A0) (A1 := A1) w)
  clear h
  go_enter Try.func12, Try.ntmps12
  go_wp2_with fail
  go_at_call 18
  refine KB.out.mono ?_
  rintro e v1 ⟨rfl, hc⟩
  have o1 := OwnF.lit (w := v1) (B := w.heap.size) 46 hc.size ZC16 16 (fun _ => .int .u32 0) (by decide) (by kernel_rfl)
  have h2 := (Below.refl v1.heap.size v1).alloc (Nat.le_refl _) (.cells ZC16 46)
  have h3 := (av_only (v1.alloc (.cells ZC16 46)) v1.heap.size 0 16 (fun _ => .int .u32 0)).below (Nat.le_refl _)
  have HB := Lib.hid (hc.trans ((h2.trans h3).mono hc.size))
  clear h2 h3 hc KB
  go_wp2_with ((with_reducible refine av_store (off := 0) o1 ty16s (by decide) (fun _ => .int .u32 0) (fun k _ => rfl) ?_ ?_ ?_); rfl; rfl)
  go_returns
  exact ⟨rfl, HB.out⟩
set_option maxHeartbeats 3200000 in
theorem Block_any {key nonce : List UInt8} {ctr : Nat} (hk : key.length = 32) (hn : nonce.length = 12) (hctr : ctr < 4294967296) {A0 A1 : Option Addr} {B k0 k1 : Nat} (w : World) (r0 : Rd w B A0 k0 key) (r1 : Rd w B A1 k1 nonce) (hB : B ≤ w.heap.size) :
    Calls Try.prog 12 #[.slice A0 32 k0, .slice A1 12 k1, .int .u32 (ctr : Int)] w fun e w' => ∃ A c, e = .returned (.tuple #[.slice A 64 c, .int .i64 0]) ∧ Rd w' w'.heap.size A c (blkB key nonce ctr) ∧ Below w.heap.size w w' := by
  have KB := Lib.hid (begin_any hk hn w r0 r1 hB)
  have hbk := Lib.hid (blkB_is key nonce ctr)
  have hsl := stN_lt (key := key) (nonce := nonce) (ctr := 0) (by decide)
  clear hk hn r0 r1 hB
  obtain ⟨s, es⟩ : ∃ s, s = stN key nonce 0 := ⟨_, rfl⟩
  rw [← es] at KB hbk hsl
  have HS := Lib.hid hsl
  clear es hsl
  go_enter Try.func12, Try.ntmps12
  go_wp2_with fail
  go_at_call 18
  refine KB.out.mono ?_
  rintro e v1 ⟨rfl, hc⟩
  have o1 := OwnF.lit (w := v1) (B := w.heap.size) 46 hc.size ZC16 16 (fun _ => .int .u32 0) (by decide) (by kernel_rfl)
  have h2 := (Below.refl v1.heap.size v1).alloc (Nat.le_refl _) (.cells ZC16 46)
  have h3 := (av_only (v1.alloc (.cells ZC16 46)) v1.heap.size 0 16 (wvf s)).below (Nat.le_refl _)
  have HO := Lib.hid (And.intro (hc.trans ((h2.trans h3).mono hc.size)) (av_all o1 (wvf s)))
  clear h2 h3 hc KB
  go_upto_region 2 with ((with_reducible refine av_store (off := 0) o1 ty16s (by decide) (wvf s) (fun k _ => wvf_one _ k) ?_ ?_ ?_); rfl; rfl)
  obtain ⟨hc, os⟩ := HO.out
  obtain ⟨v2, e2⟩ : ∃ v, v = setA (v1.alloc (.cells ZC16 46)) v1.heap.size 0 16 (wvf s) := ⟨_, rfl⟩
  obtain ⟨g, eg⟩ : ∃ g, g = v1.heap.size := ⟨_, rfl⟩
  rw [← e2] at hc os ⊢
  rw [← eg] at os
  rw [show (Value.pointer (some ⟨v1.heap.size, 0, none⟩)) = .pointer (some ⟨g, 0, none⟩) by rw [eg]]
  have hcl := Lib.hid (OwnF.cl os (off := 0) (n := 16) (f' := wvf s) (by decide) fun k _ => by rw [Nat.zero_add])
  clear HO e2 eg o1
  go_wp2_with ((with_reducible refine av_load hcl.out ty16s ?_ ?_); rfl)
  go_at_call 19
  refine (cblock_any HS.out hctr _).mono ?_
  rintro e v3 ⟨rfl, h0⟩
  replace hc := hc.trans (h0.mono hc.size)
  clear h0 hcl os
  obtain ⟨F, eF⟩ : ∃ F, F = blF (up1 s 12 ctr) := ⟨_, rfl⟩
  rw [← eF] at hbk ⊢
  clear eF
  have o1 := OwnF.lit (w := v3) (B := w.heap.size) 49 hc.size ZC64 64 (fun _ => .int .u8 0) (by decide) (by kernel_rfl)
  have h2 := (Below.refl v3.heap.size v3).alloc (Nat.le_refl _) (.cells ZC64 49)
  have h3 := (av_only (v3.alloc (.cells ZC64 49)) v3.heap.size 0 64 (obf F)).below (Nat.le_refl _)
  have HO := Lib.hid (And.intro (hc.trans ((h2.trans h3).mono hc.size)) (av_all o1 (obf F)))
  clear h2 h3 hc
  go_wp2_with ((with_reducible refine av_store (off := 0) o1 ty64b (by decide) (obf F) (fun k _ => obf_one _ k) ?_ ?_ ?_); rfl; rfl)
  go_returns
  refine ⟨some ⟨v3.heap.size, 0, none⟩, 64, rfl, ?_, HO.out.1⟩
  have := own_gen HO.out.2
  rw [hbk.out] at this
  exact this.rd
end
end Go.Proofs.Ythbogplajbldaaa
